/- Part of the proof. -/
import Derived.Test.YtgdpbnfgcabneaaGreatDoorQJoin
import Derived.Test.YtgdpbnfgcabneaaGreatDoorShelf
set_option maxRecDepth 100000
set_option maxHeartbeats 40000000
namespace Go.Proofs.YtgdpbnfgcabneaaGreatDoor
section
open Go.RowKit
def strC (ss:List ByteArray):List Value:=ss.map Value.string
theorem zdx (ss:List ByteArray):(strC ss).length=ss.length:=by simp[strC]
theorem zdr:∀ (l:List UInt8) (D:List (List UInt8)) (p:List UInt8) (c:UInt8),Pt.pieces l=D++[p]→Pt.pieces (l++[c])=if c=47 then D++[p,[]] else D++[p++[c]]
 | [],D,p,c,h=>by
  have hD:D=[]∧p=[]:=by
   cases D with
   | nil=>simpa[Pt.pieces,eq_comm] using h
   | cons d D=>simp[Pt.pieces] at h
  obtain⟨rfl,rfl⟩:=hD
  simp[Pt.pieces]
 | b :: r,D,p,c,h=>by
  obtain⟨D',p',hr⟩:∃ D' p',Pt.pieces r=D'++[p']:=by
   rcases List.eq_nil_or_concat (Pt.pieces r) with e | ⟨D',p',e⟩
   ·exact absurd e (Pt.zfz r)
   ·exact⟨D',p',by rw[e,List.concat_eq_append]⟩
  have ih:=zdr r D' p' c hr
  rw[List.cons_append]
  rw[Pt.pieces] at h ⊢
  by_cases hb:b=47
  ·rw[if_pos hb] at h ⊢
   rw[hr] at h
   have h':([] :: D')++[p']=D++[p]:=h
   obtain⟨rfl,e⟩:=List.append_inj' h' rfl
   cases e
   rw[ih]
   split<;>rfl
  ·rw[if_neg hb] at h ⊢
   rw[ih]
   rw[hr] at h
   cases D' with
   | nil =>
    simp only [List.nil_append] at h ⊢
    have h':[]++[b :: p']=D++[p]:=h
    obtain⟨rfl,e⟩:=List.append_inj' h' rfl
    cases e
    by_cases hc:c=47
    ·simp only [if_pos hc];rfl
    ·simp only [if_neg hc];rfl
   | cons d D' =>
    simp only [List.cons_append] at h ⊢
    have h':((b :: d) :: D')++[p']=D++[p]:=h
    obtain⟨rfl,e⟩:=List.append_inj' h' rfl
    cases e
    by_cases hc:c=47
    ·simp only [if_pos hc];rfl
    ·simp only [if_neg hc];rfl
def Cut (s:ByteArray) (k:Nat) (out:List ByteArray) (part:ByteArray):Prop:=∃ D,Pt.pieces ((bs s).take k)=D++[bs part]∧out.map bs=D.filter Pt.says
theorem Cut.zero (s:ByteArray):Cut s 0 [] ByteArray.empty:=⟨[],rfl,rfl⟩
theorem take_snoc' {l:List UInt8} {k:Nat} (h:k<l.length):l.take (k+1)=l.take k++[l[k]]:=by
 rw[List.take_succ_eq_append_getElem h]
theorem zsr {s:ByteArray} {k:Nat} (h:k<s.size):(bs s)[k]'(by rw[zax];exact h)=s[k]:=rfl
theorem bs_one {s:ByteArray} {k:Nat} (h:k<s.size):bs (s.extract k (k+1))=[s[k]]:=by
 have h':k<(bs s).length:=by rw[zax];exact h
 rw[show bs (s.extract k (k+1))=((bs s).drop k).take (k+1 - k) from Lib.extract_data s k (k+1),List.drop_eq_getElem_cons h',show k+1 - k=1 by omega,List.take_succ_cons,List.take_zero]
 rfl
theorem zpx (a b:ByteArray):bs (a++b)=bs a++bs b:=by simp[bs]
theorem Cut.byte {s:ByteArray} {k:Nat} {out:List ByteArray} {part:ByteArray} (h:Cut s k out part) (hk:k<s.size) (hc:s[k]≠47):Cut s (k+1) out (part++s.extract k (k+1)):=by
 obtain⟨D,h1,h2⟩:=h
 refine⟨D,?_,h2⟩
 rw[take_snoc' (by rw[zax];exact hk),zdr _ D _ _ h1,zsr hk,if_neg hc,zpx,bs_one hk]
theorem Cut.says {s:ByteArray} {k:Nat} {out:List ByteArray} {part:ByteArray} (h:Cut s k out part) (hk:k<s.size) (hc:s[k]=47) (hs:Pt.says (bs part)=true):Cut s (k+1) (out++[part]) ByteArray.empty:=by
 obtain⟨D,h1,h2⟩:=h
 refine⟨D++[bs part],?_,?_⟩
 ·rw[take_snoc' (by rw[zax];exact hk),zdr _ D _ _ h1,zsr hk,if_pos hc]
  simp[bs]
 ·rw[List.map_append,h2,List.filter_append,List.filter_cons_of_pos hs];rfl
theorem Cut.mute {s:ByteArray} {k:Nat} {out:List ByteArray} {part:ByteArray} (h:Cut s k out part) (hk:k<s.size) (hc:s[k]=47) (hs:Pt.says (bs part)=false):Cut s (k+1) out ByteArray.empty:=by
 obtain⟨D,h1,h2⟩:=h
 refine⟨D++[bs part],?_,?_⟩
 ·rw[take_snoc' (by rw[zax];exact hk),zdr _ D _ _ h1,zsr hk,if_pos hc]
  simp[bs]
 ·rw[h2,List.filter_append,List.filter_cons_of_neg (by rw[hs];simp)];simp
theorem Cut.endSays {s:ByteArray} {out:List ByteArray} {part:ByteArray} (h:Cut s s.size out part) (hs:Pt.says (bs part)=true):(out++[part]).map bs=Pt.parts (bs s):=by
 obtain⟨D,h1,h2⟩:=h
 rw[List.take_of_length_le (by rw[zax];exact Nat.le_refl _)] at h1
 unfold Pt.parts
 rw[h1,List.filter_append,List.filter_cons_of_pos hs,List.map_append,h2];rfl
theorem Cut.endMute {s:ByteArray} {out:List ByteArray} {part:ByteArray} (h:Cut s s.size out part) (hs:Pt.says (bs part)=false):out.map bs=Pt.parts (bs s):=by
 obtain⟨D,h1,h2⟩:=h
 rw[List.take_of_length_le (by rw[zax];exact Nat.le_refl _)] at h1
 unfold Pt.parts
 rw[h1,List.filter_append,List.filter_cons_of_neg (by rw[hs];simp),h2];simp
theorem zhw:∀ (D:List (List UInt8)),D.length≤cost D
 | []=>Nat.zero_le _
 | x :: D=>by
  have:=zhw D
  have h3:cost (x :: D)=(x.length+1)+cost D:=by simp[cost]
  rw[List.length_cons,h3];omega
theorem Cut.part_le {s:ByteArray} {k:Nat} {out:List ByteArray} {part:ByteArray} (h:Cut s k out part) (hk:k≤s.size):part.size+out.length≤k:=by
 obtain⟨D,h1,h2⟩:=h
 have h3:=zbu ((bs s).take k)
 rw[h1,zji,List.length_take,zax,zax] at h3
 have h4:(D.filter Pt.says).length≤D.length:=List.length_filter_le _ _
 have h5:D.length≤cost D:=zhw D
 have h6:out.length=(D.filter Pt.says).length:=by rw[←h2,List.length_map]
 omega
theorem zjk:(Tryz.prog.info? 9).map (fun i=>(i.zero,i.size,i.bytes))=some (some (.string ByteArray.empty),1,16):=by kernel_rfl
theorem says_of {p:ByteArray} (h1:p.toList.isEmpty=false) (h2:(p.toList == [46])=false):Pt.says (bs p)=true:=by
 unfold Pt.says
 have a:=bs_ne h1
 have b:=zls h2
 simp[a,b]
theorem zfv (w:World) (s:ByteArray) (hs:s.size≤1000000) :
  Calls Tryz.prog 41 #[.string s] w fun e w'=>∃ (out:List ByteArray) (a:Option Addr) (c:Nat),e=.returned (.slice a out.length c)∧out.map bs=Pt.parts (bs s)∧w'.ownsRow w.heap.size 9 1 (.slice a out.length c) out.length (strC out)∧Below w.heap.size w w':=by
 obtain⟨i0,hi,hz0,hz1,hz2⟩:=info_parts zjk
 go_enter Tryz.func41,Tryz.ntmps41
 go_wp2
 go_loopw [3,4,5] (fun v p i wr=>∃ (k:Nat) (out:List ByteArray) (part:ByteArray) (a:Option Addr) (c:Nat),i=.int .i64 k∧p=.string part∧v=.slice a out.length c∧wr.ownsRow w.heap.size 9 1 (.slice a out.length c) out.length (strC out)∧Below w.heap.size w wr ∧
   ((k≤s.size∧Cut s k out part)∨(k=s.size+1∧out.map bs=Pt.parts (bs s))))
  (fun _ _ i _=>s.size+1 - (intOf i).toNat)
 case atStart=>exact⟨0,[],ByteArray.empty,none,0,rfl,rfl,rfl,World.ownsRow_nil _ _ _ _,Below.refl _ _,.inl ⟨Nat.zero_le _,Cut.zero s⟩⟩
 case round =>
  obtain⟨k,out,part,a,c,rfl,rfl,rfl,hr,hB,hcase⟩:=hrel
  rcases hcase with ⟨hk,hcut⟩ | ⟨hk,hout⟩
  ·have hle:=hcut.part_le hk
   by_cases hlt:k<s.size
   ·by_cases hc:s[k]=47
    ·have hcb:((s[k].toNat:Int) != 47)=false:=by rw[hc];rfl
     by_cases h1:part.toList.isEmpty=true
     ·have HC:=Lib.hid (hcut.mute hlt hc (by rw[zjw h1];rfl))
      clear hc hcut
      go_wp2
      go_roundw
      case rel=>exact⟨k+1,out,ByteArray.empty,a,c,by go_num,rfl,rfl,hr,hB,.inl ⟨hlt,HC.out⟩⟩
      case measure=>simp[intOf]<;>omega
     ·have h1':part.toList.isEmpty=false:=by simpa using h1
      clear h1
      by_cases h2:(part.toList == [46])=true
      ·have HC:=Lib.hid (hcut.mute hlt hc (by rw[znj h2];rfl))
       clear hc hcut
       go_wp2
       go_roundw
       case rel=>exact⟨k+1,out,ByteArray.empty,a,c,by go_num,rfl,rfl,hr,hB,.inl ⟨hlt,HC.out⟩⟩
       case measure=>simp[intOf]<;>omega
      ·have h2':(part.toList == [46])=false:=by simpa using h2
       clear h2
       have HC:=Lib.hid (hcut.says hlt hc (says_of h1' h2'))
       clear hc hcut
       go_wp2_with (at_builtin;refine wpList_append_own _ rfl _ _ 27 rfl w.heap.size 9 i0 (.string ByteArray.empty) 1 16 Tryz.underlying27 hi hz0 hz1 hz2 rfl (by decide) _ _ _ rfl (hr.alloc _) ⟨wr.heap.size,0,none⟩ 1 1 [.string part] rfl rfl (cell_one_new _ _ _) (by simp[Value.oneCell']) (by unfold maxLen;omega) (by omega) (by have:=hB.size;simp;omega) ?_;intro v' w1 hown' hgrow _;obtain⟨a2,c2,rfl⟩:=zac hown')
       go_roundw
       case rel=>exact⟨k+1,out++[part],ByteArray.empty,a2,c2,by go_num,rfl,by rw[List.length_append];rfl,by rw[List.length_append,show strC (out++[part])=strC out++[.string part] by simp[strC]];exact hown',(hB.alloc hB.size _).grown hgrow (by have:=hB.size;simp;omega) fun j ej=>(hr.lt j ej).1,.inl ⟨hlt,HC.out⟩⟩
       case measure=>simp[intOf]<;>omega
    ·have hcb:((s[k].toNat:Int) != 47)=true:=by
      rw[bne_iff_ne];intro e;exact hc (UInt8.toNat_inj.1 (by simpa using (by omega:s[k].toNat=47)))
     have HC:=Lib.hid (hcut.byte hlt hc)
     clear hc hcut
     go_wp2
     go_roundw
     case rel=>exact⟨k+1,out,part++s.extract k (k+1),a,c,by go_num,rfl,rfl,hr,hB,.inl ⟨hlt,HC.out⟩⟩
     case measure=>simp[intOf]<;>omega
   ·obtain rfl:k=s.size:=by omega
    by_cases h1:part.toList.isEmpty=true
    ·have HC:=Lib.hid (hcut.endMute (by rw[zjw h1];rfl))
     clear hcut
     go_wp2
     go_roundw
     case rel=>exact⟨s.size+1,out,ByteArray.empty,a,c,by go_num,rfl,rfl,hr,hB,.inr ⟨rfl,HC.out⟩⟩
     case measure=>simp[intOf]<;>omega
    ·have h1':part.toList.isEmpty=false:=by simpa using h1
     clear h1
     by_cases h2:(part.toList == [46])=true
     ·have HC:=Lib.hid (hcut.endMute (by rw[znj h2];rfl))
      clear hcut
      go_wp2
      go_roundw
      case rel=>exact⟨s.size+1,out,ByteArray.empty,a,c,by go_num,rfl,rfl,hr,hB,.inr ⟨rfl,HC.out⟩⟩
      case measure=>simp[intOf]<;>omega
     ·have h2':(part.toList == [46])=false:=by simpa using h2
      clear h2
      have HC:=Lib.hid (hcut.endSays (says_of h1' h2'))
      clear hcut
      go_wp2_with (at_builtin;refine wpList_append_own _ rfl _ _ 27 rfl w.heap.size 9 i0 (.string ByteArray.empty) 1 16 Tryz.underlying27 hi hz0 hz1 hz2 rfl (by decide) _ _ _ rfl (hr.alloc _) ⟨wr.heap.size,0,none⟩ 1 1 [.string part] rfl rfl (cell_one_new _ _ _) (by simp[Value.oneCell']) (by unfold maxLen;omega) (by omega) (by have:=hB.size;simp;omega) ?_;intro v' w1 hown' hgrow _;obtain⟨a2,c2,rfl⟩:=zac hown')
      go_roundw
      case rel=>exact⟨s.size+1,out++[part],ByteArray.empty,a2,c2,by go_num,rfl,by rw[List.length_append];rfl,by rw[List.length_append,show strC (out++[part])=strC out++[.string part] by simp[strC]];exact hown',(hB.alloc hB.size _).grown hgrow (by have:=hB.size;simp;omega) fun j ej=>(hr.lt j ej).1,.inr ⟨rfl,HC.out⟩⟩
      case measure=>simp[intOf]<;>omega
  ·have HO:=Lib.hid hout
   have h1:¬ (k:Int)≤s.size:=by omega
   clear hout
   go_wp2
   go_ret
   exact⟨out,a,c,rfl,HO.out,hr,hB⟩
theorem take_one {ss:List ByteArray} {k:Nat} (h:k<ss.length):ss.take (k+1)=ss.take k++[ss[k]?.getD ByteArray.empty]:=by
 rw[List.take_succ_eq_append_getElem h,List.getElem?_eq_getElem h];rfl
theorem text_ne (l:List (List UInt8)) (h:Pt.inter l≠[]):Pt.text l=Pt.inter l:=by unfold Pt.text;rw[if_neg h]
theorem zmg (l:List (List UInt8)) (h:Pt.inter l=[]):Pt.text l=[46]:=by unfold Pt.text;rw[if_pos h]
theorem TextB_any (w:World) (b o c:Nat) (ss:List ByteArray) (hc:∀ j,j<ss.length→w.cell? ⟨b,o+j,none⟩=some (.string (ss[j]?.getD ByteArray.empty))) (hn:ss.length≤1000000) (hs:tot ss≤140737488355327) :
  Calls Tryz.prog 42 #[.slice (some ⟨b,o,none⟩) ss.length c] w fun e w'=>e=.returned (.string (str (Pt.text (ss.map bs))))∧w=w':=by
 have HC:=Lib.hid hc
 clear hc
 go_enter Tryz.func42,Tryz.ntmps42
 go_wp2
 go_loop [3,4] (fun p i=>∃ (k:Nat) (t:ByteArray),k≤ss.length∧i=.int .i64 k∧p=.string t∧bs t=Pt.inter ((ss.take k).map bs)∧t.size+tot (ss.drop k)≤tot ss) (fun _ i=>ss.length - (intOf i).toNat)
 case atStart=>exact⟨0,ByteArray.empty,Nat.zero_le _,rfl,rfl,rfl,by simp⟩
 case round =>
  obtain⟨k,t,hk,rfl,rfl,ht,hz⟩:=hrel
  by_cases hlt:k<ss.length
  ·have hcell:=HC.out k hlt
   have h1:=take_one hlt
   rw[zcf hlt] at hz
   generalize ss[k]?.getD ByteArray.empty=x at *
   have hz2:t.size+(x.size+1)+tot (ss.drop (k+1))≤tot ss:=by simp[tot] at hz ⊢;omega
   clear hz
   by_cases h0:k=0
   ·subst h0
    rw[Nat.add_zero] at hcell
    have HT:Hid (bs (t++x)=Pt.inter ((ss.take (0+1)).map bs)):=Lib.hid (by rw[zpx,ht,h1];rfl)
    clear ht h1
    go_wp2
    go_round
    case rel=>exact⟨1,t++x,hlt,rfl,rfl,HT.out,by rw[ByteArray.size_append];simp at hz2 ⊢;omega⟩
    case measure=>simp[intOf]<;>omega
   ·have hpos:0<k:=by omega
    have HT:Hid (bs (t++⟨#[47]⟩++x)=Pt.inter ((ss.take (k+1)).map bs)):=Lib.hid (by
     rw[zpx,zpx,ht,h1,List.map_append,List.map_singleton,Pt.inter_snoc]
     ·simp[bs]
     ·intro e
      have:=congrArg List.length e
      rw[List.length_map,List.length_take,List.length_nil] at this;omega)
    clear ht h1 h0
    go_wp2
    go_round
    case rel=>exact⟨k+1,t++⟨#[47]⟩++x,hlt,by go_num,rfl,HT.out,by rw[ByteArray.size_append,ByteArray.size_append,show (⟨#[47]⟩:ByteArray).size=1 from rfl];omega⟩
    case measure=>simp[intOf]<;>omega
  ·obtain rfl:k=ss.length:=by omega
   rw[List.take_length] at ht
   by_cases h0:t.toList.isEmpty=true
   ·have HT:=Lib.hid (zmg (ss.map bs) (by rw[←ht];exact zjw h0))
    clear ht
    go_wp2
    go_ret
    exact⟨by rw[HT.out];rfl,rfl⟩
   ·have h0':t.toList.isEmpty=false:=by simpa using h0
    clear h0
    have HT:Hid (str (Pt.text (ss.map bs))=t):=Lib.hid (by rw[text_ne _ (by rw[←ht];exact bs_ne h0'),←ht];exact zfh t)
    clear ht
    go_wp2
    go_ret
    exact⟨by rw[HT.out];rfl,rfl⟩
theorem Text0_any (w:World) (a:Option Addr) (c:Nat) :
  Calls Tryz.prog 42 #[.slice a 0 c] w fun e w'=>e=.returned (.string (str [46]))∧w=w':=by
 go_enter Tryz.func42,Tryz.ntmps42
 go_wp2
 go_loop [3,4] (fun p i=>i=.int .i64 0∧p=.string ⟨#[]⟩) (fun _ _=>0)
 case atStart=>exact⟨rfl,rfl⟩
 case round =>
  obtain⟨rfl,rfl⟩:=hrel
  go_wp2
  go_ret
  exact⟨rfl,rfl⟩
theorem zsa (w:World) (v:Value) (ss:List ByteArray) (hv:Strs w v ss) (hn:ss.length≤1000000) (hs:tot ss≤140737488355327) :
  Calls Tryz.prog 42 #[v] w fun e w'=>e=.returned (.string (str (Pt.text (ss.map bs))))∧w=w':=by
 rcases hv with ⟨rfl,a,c,rfl⟩ | ⟨b,o,c,rfl,hb,hc⟩
 ·exact Text0_any w a c
 ·exact TextB_any w b o c ss hc hn hs
theorem zqu {w:World} {base:Nat} {v:Value} {ss:List ByteArray} (h:w.ownsRow base 9 1 v ss.length (strC ss)):Strs w v ss:=by
 rcases h.2 with ⟨rfl,h0⟩ | ⟨g,cap,cur,rfl,hb,hg,_⟩
 ·exact .inl ⟨List.eq_nil_of_length_eq_zero h0,none,0,rfl⟩
 ·refine .inr ⟨g,0,cap,rfl,(Array.getElem?_eq_some_iff.1 hg).1,fun j hj=>?_⟩
  have:=h.cells (g:=g) rfl j (.string (ss[j]?.getD ByteArray.empty)) (by rw[strC,List.getElem?_map,List.getElem?_eq_getElem hj];rfl)
  rw[Addr.add_lit] at this
  exact this
end
section
open Go.RowKit
theorem zlz (ss:List ByteArray):tot ss=cost (ss.map bs):=by
 unfold tot cost
 rw[List.map_map]
 rfl
theorem zgx:∀ (l:List (List UInt8)) (f:List UInt8→Bool),cost (l.filter f)≤cost l
 | [],_=>Nat.le_refl _
 | x :: l,f=>by
  have:=zgx l f
  have h3:cost (x :: l)=(x.length+1)+cost l:=by simp[cost]
  by_cases h:f x=true
  ·rw[List.filter_cons_of_pos h]
   have h4:cost (x :: l.filter f)=(x.length+1)+cost (l.filter f):=by simp[cost]
   omega
  ·rw[List.filter_cons_of_neg h];omega
theorem zke {ps:List ByteArray} {s:ByteArray} (h:ps.map bs=Pt.parts (bs s)):tot ps≤s.size+1:=by
 rw[zlz,h]
 have:=zgx (Pt.pieces (bs s)) Pt.says
 rw[zbu,zax] at this
 exact this
theorem zmf (x:ByteArray) (l:List ByteArray):tot (x :: l)=x.size+1+tot l:=by simp[tot]
theorem zsg (l:List ByteArray) (x:ByteArray):tot (l++[x])=tot l+(x.size+1):=by simp[tot]
theorem zev (l:List ByteArray):l.length≤tot l:=by
 have:=zhw (l.map bs)
 rw[←zlz,List.length_map] at this
 exact this
theorem walk_cons (o:List (List UInt8)) (p:List UInt8) (ps:List (List UInt8)):Pt.walk o (p :: ps)=(Pt.step o p).bind fun o'=>Pt.walk o' ps:=by
 show (match Pt.step o p with
  | none=>none
  | some o'=>Pt.walk o' ps)=_
 cases Pt.step o p<;>rfl
theorem go_cons (o:List (List UInt8)) (s:List UInt8) (r:List (List UInt8)):Pt.go o (s :: r)=(Pt.walk o (Pt.parts s)).bind fun o'=>Pt.go o' r:=by
 show (match Pt.walk o (Pt.parts s) with
  | none=>none
  | some o'=>Pt.go o' r)=_
 cases Pt.walk o (Pt.parts s)<;>rfl
def RJoinPost (w:World) (r:Option (List UInt8)) (e:Ending) (w':World):Prop :=
 Below w.heap.size w w'∧match r with
  | some q=>e=.returned (.tuple #[.string (str q),.bool true])
  | none=>e=.returned (.tuple #[.string (str []),.bool false])
theorem ztd {w:World} {base:Nat} {a:Option Addr} {c:Nat} {out:List ByteArray} {x:ByteArray} (h:w.ownsRow base 9 1 (.slice a (out++[x]).length c) (out++[x]).length (strC (out++[x]))) :
  w.ownsRow base 9 1 (.slice a out.length c) out.length (strC out):=by
 rw[List.length_append,List.length_singleton] at h
 obtain⟨g,cap,e⟩:=ownsRow_succ h
 cases e
 exact ownsRow_pop (last:=[.string x]) (by rw[zdx,Nat.mul_one]) (by rw[show strC out++[.string x]=strC (out++[x]) by simp[strC]];exact h)
theorem zae {w w':World} {base e size n:Nat} {v:Value} {xs:List Value} (h:w.ownsRow base e size v n xs) (hB:Below w.heap.size w w'):w'.ownsRow base e size v n xs:=by
 refine⟨h.1,?_⟩
 rcases h.2 with h0 | ⟨g,cap,cur,hv,hb,hg,r⟩
 ·exact .inl h0
 ·exact .inr ⟨g,cap,cur,hv,hb,(hB.block g (Array.getElem?_eq_some_iff.1 hg).1).trans hg,r⟩
def Apart (v u:Value):Prop:=∀ g,v.ownBlock=some g→u.ownBlock≠some g
theorem Apart.kept {v u:Value} (h:Apart v u):v.ownBlock=none∨v.ownBlock≠u.ownBlock:=by
 cases hv:v.ownBlock with
 | none=>exact .inl rfl
 | some g=>exact .inr (fun e=>h g hv e.symm)
theorem step_add {o:List (List UInt8)} {p:List UInt8} (h:p≠[46,46]):Pt.step o p=some (o++[p]):=by unfold Pt.step;rw[if_neg h]
theorem step_up {o:List (List UInt8)} {p x:List UInt8} (h:p=[46,46]):Pt.step (o++[x]) p=some o:=by
 unfold Pt.step;rw[if_pos h,if_neg (by simp),List.dropLast_concat]
theorem step_out {p:List UInt8} (h:p=[46,46]):Pt.step [] p=none:=by unfold Pt.step;rw[if_pos h];rfl
theorem zdp (w:World) (b o c:Nat) (ss:List ByteArray) (hlt:b<w.heap.size) (hc:∀ j,j<ss.length→w.cell? ⟨b,o+j,none⟩=some (.string (ss[j]?.getD ByteArray.empty))) (hs:tot ss≤1000000) :
  Calls Tryz.prog 9 #[.slice (some ⟨b,o,none⟩) ss.length c] w (RJoinPost w (Pt.join (ss.map bs))):=by
 have HC:=Lib.hid hc
 have hn:=zev ss
 clear hc
 obtain⟨i0,hi,hz0,hz1,hz2⟩:=info_parts zjk
 go_enter Tryz.func9,Tryz.ntmps9
 go_wp2
 go_loopw [4,5] (fun v i wr=>∃ (k:Nat) (out:List ByteArray) (a:Option Addr) (cp:Nat),k≤ss.length∧i=.int .i64 k∧v=.slice a out.length cp∧wr.ownsRow w.heap.size 9 1 (.slice a out.length cp) out.length (strC out) ∧
   Pt.go (out.map bs) ((ss.drop k).map bs)=Pt.go [] (ss.map bs)∧tot out+tot (ss.drop k)≤tot ss∧Below w.heap.size w wr)
  (fun _ i _=>ss.length - (intOf i).toNat)
 case atStart=>exact⟨0,[],none,0,Nat.zero_le _,rfl,rfl,World.ownsRow_nil _ _ _ _,rfl,by simp[tot],Below.refl _ _⟩
 case round =>
  obtain⟨k,out,a,cp,hk,rfl,rfl,hr,hg,hq,hB⟩:=hrel
  have HG:=Lib.hid hg
  clear hg
  by_cases hlk:k<ss.length
  ·have hcell:=(hB.cell (p:=⟨b,o+k,none⟩) hlt).trans (HC.out k hlk)
   rw[zcf hlk,zmf] at hq
   have hG2:=HG.out
   rw[zcf hlk] at hG2
   clear HG
   generalize ss[k]?.getD ByteArray.empty=x at *
   rw[List.map_cons,go_cons] at hG2
   have HG:=Lib.hid hG2
   clear hG2
   obtain⟨wo,rfl⟩:∃ wo:World,wo=wr:=⟨_,rfl⟩
   go_wp2_with (go_at_call 41;refine(zfv _ x (by omega)).mono ?_;rintro e w' ⟨ps,ap,cps,rfl,hps,hpr,hB2⟩)
   have hap:Apart (.slice ap ps.length cps) (.slice a out.length cp):=fun g h1 h2=>by
    have:=(hpr.lt g h1).1
    have:=(hr.lt g h2).2
    omega
   have hr2:=zae hr hB2
   have htp:=zke hps
   have hpl:ps.length≤1000001:=by have:=zev ps;omega
   have HG2:Hid ((Pt.walk (out.map bs) (ps.map bs)).bind (fun o'=>Pt.go o' ((ss.drop (k+1)).map bs))=Pt.go [] (ss.map bs)):=Lib.hid (by rw[hps];exact HG.out)
   have hB3:Below w.heap.size w w':=hB.trans (hB2.mono hB.size)
   clear HG hps hcell hr
   go_loopw [4,7] (fun v i wq=>∃ (j:Nat) (o2:List ByteArray) (a2:Option Addr) (c2:Nat),j≤ps.length∧i=.int .i64 j∧v=.slice a2 o2.length c2∧wq.ownsRow w.heap.size 9 1 (.slice a2 o2.length c2) o2.length (strC o2) ∧
     wq.ownsRow wo.heap.size 9 1 (.slice ap ps.length cps) ps.length (strC ps)∧Apart (.slice ap ps.length cps) (.slice a2 o2.length c2) ∧
     (Pt.walk (o2.map bs) ((ps.drop j).map bs)).bind (fun o'=>Pt.go o' ((ss.drop (k+1)).map bs))=Pt.go [] (ss.map bs)∧tot o2+tot (ps.drop j)+tot (ss.drop (k+1))≤tot ss∧Below w.heap.size w wq)
    (fun _ i _=>ps.length - (intOf i).toNat)
   case atStart=>exact⟨0,out,a,cp,Nat.zero_le _,rfl,rfl,hr2,hpr,hap,HG2.out,by rw[List.drop_zero];omega,hB3⟩
   case round =>
    clear hr2 hpr hap HG2 hB3 htp hB2 hq hB
    obtain⟨j,o2,a2,c2,hj,rfl,rfl,hr,hpr,hap,hg,hq,hB⟩:=hrel
    have hlo:=zev o2
    by_cases hlj:j<ps.length
    ·obtain⟨g,cc,e,hcc,hcm⟩:=zcl hpr (by omega)
     cases e
     have hcell:wr.cell? ⟨g,j,none⟩=some (.string (ps[j]?.getD ByteArray.empty)):=by
      have:=hpr.cells (g:=g) rfl j (.string (ps[j]?.getD ByteArray.empty)) (by rw[strC,List.getElem?_map,List.getElem?_eq_getElem hlj];rfl)
      rw[Addr.add_lit,Nat.zero_add] at this
      exact this
     rw[zcf hlj] at hg hq
     generalize ps[j]?.getD ByteArray.empty=y at *
     rw[List.map_cons,walk_cons] at hg
     rw[zmf] at hq
     by_cases h2:(y.toList == [46,46])=true
     ·rcases List.eq_nil_or_concat o2 with ho | ⟨o3,z,ho⟩
      ·have hz:((o2.length:Int) == 0)=true:=by rw[ho];rfl
       rw[ho] at hg
       have HN:Hid (Pt.join (ss.map bs)=none):=Lib.hid (by
        unfold Pt.join
        rw[←hg,show ([]:List ByteArray).map bs=[] from rfl,step_out (znj h2)]
        rfl)
       clear hg ho
       go_wp2
       go_ret2
       refine⟨hB,?_⟩
       rw[HN.out]
       rfl
      ·rw[List.concat_eq_append] at ho
       subst ho
       have hz:(((o3++[z]).length:Int) == 0)=false:=by rw[beq_eq_false_iff_ne,List.length_append,List.length_singleton];omega
       have hr3:=ztd hr
       obtain⟨g2,c3,e2,hc3,hm3⟩:=zcl hr (by simp)
       cases e2
       rw[List.map_append,List.map_singleton,step_up (znj h2),Option.bind_some] at hg
       have HG:=Lib.hid hg
       have hlen:(o3++[z]).length=o3.length+1:=by simp
       rw[zsg] at hq
       rw[hlen] at hc3 hlo
       rw[hlen]
       have hz2:(((o3.length:Int)+1) == 0)=false:=by rw[beq_eq_false_iff_ne];omega
       unfold maxLen at hm3
       clear hg hz hlen hr
       go_wp2
       go_roundw
       case rel=>exact⟨j+1,o3,some ⟨g2,0,none⟩,c2,hlj,by go_num,rfl,hr3,hpr,hap,HG.out,by omega,hB⟩
       case measure=>simp[intOf]<;>omega
     ·have h2':(y.toList == [46,46])=false:=by simpa using h2
      clear h2
      rw[step_add (zls h2'),Option.bind_some] at hg
      have HG:=Lib.hid hg
      clear hg
      go_wp2_with (at_builtin;refine wpList_append_own_at _ rfl _ _ 27 rfl w.heap.size 9 i0 (.string ByteArray.empty) 1 16 Tryz.underlying27 hi hz0 hz1 hz2 rfl (by decide) _ _ _ rfl (hr.alloc _) ⟨wr.heap.size,0,none⟩ 1 1 [.string y] rfl rfl (cell_one_new _ _ _) (by simp[Value.oneCell']) (by unfold maxLen;omega) (by omega) (by have:=hB.size;simp;omega) ?_;intro v' w1 hown' hgrow _ hat;obtain⟨a3,c3,rfl⟩:=zac hown')
      have hap3:Apart (.slice (some ⟨g,0,none⟩) ps.length cps) (.slice a3 (o2.length+1) c3):=fun g' h1 h2=>by
       rcases hat with e | e
       ·rw[e] at h2;exact hap g' h1 h2
       ·rw[e] at h2
        cases h2
        have:=((hpr.alloc (.cells #[.string y] 9)).lt _ h1).2
        omega
      go_roundw
      case rel=>exact⟨j+1,o2++[y],a3,c3,hlj,by go_num,by rw[List.length_append];rfl,by rw[List.length_append,show strC (o2++[y])=strC o2++[.string y] by simp[strC]];exact hown',(hpr.alloc _).kept hgrow hap.kept,by rw[List.length_append];exact hap3,by rw[List.map_append];exact HG.out,by rw[zsg];omega,
       (hB.alloc hB.size _).grown hgrow (by have:=hB.size;simp;omega) fun j ej=>(hr.lt j ej).1⟩
      case measure=>simp[intOf]<;>omega
    ·obtain rfl:j=ps.length:=by omega
     rw[List.drop_length] at hg hq
     have HG:Hid (Pt.go (o2.map bs) ((ss.drop (k+1)).map bs)=Pt.go [] (ss.map bs)):=Lib.hid hg
     have hq2:tot o2+tot (ss.drop (k+1))≤tot ss:=by simpa[tot] using hq
     clear hg hq
     go_wp2
     go_roundw
     case rel=>exact⟨k+1,o2,a2,c2,hlk,by go_num,rfl,hr,HG.out,hq2,hB⟩
     case measure=>simp[intOf]<;>omega
  ·obtain rfl:k=ss.length:=by omega
   have hG2:=HG.out
   rw[List.drop_length] at hG2
   have HE:Hid (Pt.join (ss.map bs)=some (Pt.text (out.map bs))):=Lib.hid (by unfold Pt.join;rw[←hG2];rfl)
   have hlo:=zev out
   clear HG hG2
   go_wp2_with (go_at_call 42;refine(zsa _ _ out (zqu hr) (by omega) (by omega)).mono ?_;rintro e w' ⟨rfl,rfl⟩)
   go_ret2
   refine⟨hB,?_⟩
   rw[HE.out]
   rfl
end
section
open Go.RowKit
theorem last_same (s:ByteArray):Lib.lastIndexByte s 47=Lib.Pa.lastIndexByte (bs s) 47:=by
 have key:∀ k,k≤s.size→Lib.lastIdx s 47 k=Lib.Pa.lastIdx (bs s) 47 k:=by
  intro k
  induction k with
  | zero=>intro _;rfl
  | succ k ih =>
   intro hk
   have hb:s.data[k]! = s[k]:=by
    show s.data[k]! = s.data[k]
    rw[getElem!_pos s.data k hk]
   have hl:(bs s)[k]?=some s[k]:=Lib.Pa.at_eq s k hk
   unfold Lib.lastIdx Lib.Pa.lastIdx
   rw[hb,hl,ih (by omega)]
   by_cases h:s[k]=47
   ·rw[if_pos (by rw[h];rfl),if_pos (by rw[h])]
   ·rw[if_neg (fun e=>h (UInt8.toNat_inj.1 (by simpa using (by omega:s[k].toNat=47)))),if_neg (fun e=>h (Option.some.inj e))]
 unfold Lib.lastIndexByte Lib.Pa.lastIndexByte
 rw[key s.size (Nat.le_refl _),zax]
open Pt in
theorem zfe {P:List Bs} (hP:∀ x∈P,Pt.Good x) (h:P≠[]):pieces (text P)=P∧text P=inter P∧text P≠[46]:=by
 have e:text P=inter P:=text_ne _ (fun e=>h ((zcq hP).1 e))
 have e2:pieces (inter P)=P:=zec P (fun x hx=>(hP x hx).2.2.2) h
 refine⟨by rw[e];exact e2,e,fun e3=>?_⟩
 rw[e] at e3
 rw[e3] at e2
 exact(hP [46] (by rw[←e2];simp[pieces])).2.1 rfl
def dirL (s:List UInt8):List UInt8:=if 0≤Lib.Pa.lastIndexByte s 47 then s.take (Lib.Pa.lastIndexByte s 47).toNat else [46]
open Pt in
theorem ztc {P:List Bs} (hP:∀ x∈P,Pt.Good x):dirL (text P)=text P.dropLast:=by
 rcases List.eq_nil_or_concat P with rfl | ⟨L,x,rfl⟩
 ·rfl
 ·rw[List.concat_eq_append] at hP ⊢
  obtain⟨_,h2,_⟩:=zfe hP (by simp)
  have hx:47∉x:=(hP x (by simp)).2.2.2
  rw[List.dropLast_concat,h2]
  by_cases hL:L=[]
  ·subst hL
   have e0:inter ([]++[x])=x:=rfl
   rw[e0]
   unfold dirL
   rw[ztu x hx]
   rfl
  ·rw[inter_snoc L x hL]
   unfold dirL
   rw[last_at _ _ hx,if_pos (by omega),Int.toNat_natCast,List.take_left,text_ne]
   intro e
   exact hL ((zcq (fun y hy=>hP y (by simp[hy]))).1 e)
def inL (p d:List UInt8):Bool:=(d == [46]) || (d.isPrefixOf p && ((p.drop d.length).isEmpty || (p.drop d.length).head? == some 47))
open Pt in
theorem zeb:∀ (Q R:List Bs),Q≠[]→R≠[]→inter (Q++R)=inter Q++47 :: inter R
 | [],_,h,_=>absurd rfl h
 | [a],b :: r,_,_=>by simp[inter]
 | [_],[],_,h=>absurd rfl h
 | a :: b :: l,R,_,hR=>by
  have:=zeb (b :: l) R (by simp) hR
  simp only [List.cons_append] at this ⊢
  rw[inter,this,inter]
  simp
open Pt in
theorem zgz:∀ (Q:List Bs) (r:Bs),(∀ x∈Q,47∉x)→Q≠[]→pieces (inter Q++47 :: r)=Q++pieces r
 | [],_,_,h=>absurd rfl h
 | [a],r,h,_=>by rw[inter,zer _ _ (h a (by simp))];rfl
 | a :: b :: l,r,h,_=>by
  rw[inter,List.append_assoc,List.cons_append,zer _ _ (h a (by simp)),zgz (b :: l) r (fun x hx=>h x (List.mem_cons_of_mem _ hx)) (by simp)]
  rfl
open Pt in
theorem inL_text {P Q:List Bs} (hP:∀ x∈P,Pt.Good x) (hQ:∀ x∈Q,Pt.Good x):inL (text P) (text Q)=Q.isPrefixOf P:=by
 rw[Bool.eq_iff_iff,List.isPrefixOf_iff_prefix]
 by_cases q0:Q=[]
 ·subst q0
  exact⟨fun _=>List.nil_prefix,fun _=>rfl⟩
 ·obtain⟨hq1,hq2,hq3⟩:=zfe hQ q0
  have hq47:∀ x∈Q,47∉x:=fun x hx=>(hQ x hx).2.2.2
  have hd:(text Q == [46])=false:=by rw[beq_eq_false_iff_ne];exact hq3
  unfold inL
  rw[hd,Bool.false_or,Bool.and_eq_true,List.isPrefixOf_iff_prefix]
  constructor
  ·rintro ⟨⟨r,hr⟩,hh⟩
   rw[←hr,List.drop_left] at hh
   by_cases p0:P=[]
   ·subst p0
    exfalso
    have hlen:=congrArg List.length hr
    rw[List.length_append,show (text ([]:List Bs)).length=1 from rfl] at hlen
    have hne:inter Q≠[]:=fun e=>q0 ((zcq hQ).1 e)
    have h1:(text Q).length=1:=by
     rw[hq2] at hlen ⊢
     have:0<(inter Q).length:=List.length_pos_iff.2 hne
     omega
    have:r=[]:=List.eq_nil_of_length_eq_zero (by omega)
    subst this
    rw[List.append_nil] at hr
    exact hq3 hr
   ·obtain⟨hp1,hp2,_⟩:=zfe hP p0
    cases r with
    | nil =>
     rw[List.append_nil] at hr
     rw[←hp1,←hr,hq1]
     exact List.prefix_refl _
    | cons c r =>
     have hc:c=47:=by simpa using hh
     subst hc
     have:=zgz Q r hq47 q0
     rw[←hq2,hr,hp1] at this
     exact⟨pieces r,this.symm⟩
  ·rintro ⟨R,rfl⟩
   have hR:∀ x∈R,Pt.Good x:=fun x hx=>hP x (by simp[hx])
   obtain⟨_,hp2,_⟩:=zfe hP (by simp[q0])
   by_cases r0:R=[]
   ·subst r0
    rw[List.append_nil]
    exact⟨List.prefix_refl _,by simp⟩
   ·rw[hp2,hq2,zeb Q R q0 r0]
    exact⟨List.prefix_append _ _,by rw[List.drop_left];simp⟩
theorem zea {w w':World} {base e size n:Nat} {v:Value} {xs:List Value} (hh:w'.heap=w.heap) (h:w.ownsRow base e size v n xs):w'.ownsRow base e size v n xs:=by
 unfold World.ownsRow at *
 rw[hh];exact h
theorem zgt {w:World} {base g c:Nat} {ps:List ByteArray} (h:w.ownsRow base 9 1 (.slice (some ⟨g,0,none⟩) ps.length c) ps.length (strC ps)) {j:Nat} (hj:j<ps.length) :
  w.cell? ⟨g,j,none⟩=some (.string (ps[j]?.getD ByteArray.empty)):=by
 have:=h.cells (g:=g) rfl j (.string (ps[j]?.getD ByteArray.empty)) (by rw[strC,List.getElem?_map,List.getElem?_eq_getElem hj];rfl)
 rw[Addr.add_lit,Nat.zero_add] at this
 exact this
theorem zjn {ss:List ByteArray} {k:Nat} (h:k<ss.length):(ss.map bs).drop k=bs (ss[k]?.getD ByteArray.empty) :: (ss.map bs).drop (k+1):=by
 rw[←List.map_drop,zcf h,List.map_cons,List.map_drop]
end
section
open Go.RowKit
theorem ztm (w:World) (s:ByteArray) (i:Int) (hi:Hid (Lib.Pa.lastIndexByte (bs s) 47=i)) (hs:s.size≤1000000) :
  Calls Tryz.prog 213 #[.string s,.int .u8 47] w fun e w'=>e=.returned (.int .i64 i)∧w=w':=by
 refine(Tryz.strings_LastIndexByte s 47 (by omega) w).mono ?_
 rw[last_same,hi.out]
 exact fun e w' ⟨a,b⟩=>⟨a,b.symm⟩
theorem bs_inj {a b:ByteArray} (h:bs a=bs b):a=b:=by
 rw[←zfh a,←zfh b,h]
theorem Dir_any (w:World) (s:ByteArray) (hs:s.size≤1000000) :
  Calls Tryz.prog 166 #[.string s] w fun e w'=>e=.returned (.string (str (dirL (bs s))))∧w=w':=by
 have hb:=Lib.Pa.lastIndexByte_bounds (bs s) 47
 rw[zax] at hb
 obtain⟨i,hi⟩:∃ i,Hid (Lib.Pa.lastIndexByte (bs s) 47=i):=⟨_,Lib.hid rfl⟩
 rw[hi.out] at hb
 obtain⟨hb1,hb2⟩:=hb
 by_cases h0:0≤i
 ·obtain⟨n,rfl⟩:=Int.eq_ofNat_of_zero_le h0
  have HD:Hid (str (dirL (bs s))=s.extract 0 n):=Lib.hid (by
   unfold dirL
   rw[hi.out,if_pos h0,Int.toNat_natCast]
   exact bs_inj (by rw[zas];exact(Lib.extract_from_zero s n).symm))
  go_enter Tryz.func166,Tryz.ntmps166
  go_wp2_with (go_at_call 213;go_must (refine(ztm _ s _ hi hs).mono ?_);rintro e w' ⟨rfl,rfl⟩)
  go_ret
  exact⟨by rw[HD.out];rfl,rfl⟩
 ·have HD:Hid (dirL (bs s)=[46]):=Lib.hid (by unfold dirL;rw[hi.out,if_neg h0])
  go_enter Tryz.func166,Tryz.ntmps166
  go_wp2_with (go_at_call 213;go_must (refine(ztm _ s _ hi hs).mono ?_);rintro e w' ⟨rfl,rfl⟩)
  go_ret
  exact⟨by rw[HD.out];rfl,rfl⟩
end
section
open Go.RowKit
theorem tot_small {ps:List ByteArray} {s:ByteArray} (h:ps.map bs=Pt.parts (bs s)) (hs:s.size≤900000):tot ps≤1000000∧ps.length≤1000000:=by
 have h1:=zke h
 have h2:=zev ps
 omega
theorem RDir_any (w:World) (s:ByteArray) (hs:s.size≤900000) :
  Calls Tryz.prog 94 #[.string s] w fun e w'=>e=.returned (.string (str (Pt.text (Pt.parts (bs s)).dropLast)))∧Below w.heap.size w w':=by
 go_enter Tryz.func94,Tryz.ntmps94
 go_wp2_with fail
 refine(zfv _ s (by omega)).mono ?_
 rintro e w1 ⟨ps,a,c,rfl,hps,hr,B1⟩
 obtain⟨ht,hl⟩:=tot_small hps hs
 rcases List.eq_nil_or_concat ps with rfl | ⟨L,x,hL⟩
 ·have HD:Hid (Pt.text (Pt.parts (bs s)).dropLast=[46]):=Lib.hid (by rw[←hps];rfl)
  clear hps
  go_wp2
  go_ret
  exact⟨by rw[HD.out];rfl,B1⟩
 ·rw[List.concat_eq_append] at hL
  subst hL
  have HD:Hid (Pt.text (Pt.parts (bs s)).dropLast=Pt.text (L.map bs)):=Lib.hid (by rw[←hps];simp)
  have hr2:=ztd hr
  obtain⟨g,c2,e2,hc,hm⟩:=zcl hr (by simp)
  cases e2
  have hlen:(L++[x]).length=L.length+1:=by simp
  rw[hlen] at hc hl
  rw[hlen]
  have hz:(((L.length:Int)+1) == 0)=false:=by rw[beq_eq_false_iff_ne];omega
  unfold maxLen at hm
  rw[zsg] at ht
  clear hps hlen hr
  go_wp2_with (go_at_call 42;go_must (refine(zsa _ _ L (zqu hr2) (by omega) (by omega)).mono ?_);rintro e w' ⟨rfl,rfl⟩)
  go_ret
  exact⟨by rw[HD.out];rfl,B1⟩
end
end Go.Proofs.YtgdpbnfgcabneaaGreatDoor
