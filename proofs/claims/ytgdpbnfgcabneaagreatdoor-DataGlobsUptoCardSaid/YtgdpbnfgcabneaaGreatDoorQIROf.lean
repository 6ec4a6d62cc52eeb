/- Part of the proof. -/
import Derived.Test.YtgdpbnfgcabneaaGreatDoorQIEach
import Derived.Deep.RegionHeld3
import Derived.Deep.DeepCutAuto
set_option maxRecDepth 100000
set_option maxHeartbeats 40000000
namespace Go.Proofs.YtgdpbnfgcabneaaGreatDoor
namespace Iw
open Go.RowKit Ww
theorem zcs (w:World) (c:UInt8) (b:Bool) (hb:Hid (Wp.zaw c=b)):Calls Tryz.prog 63 #[.int .u8 (c.toNat:Int)] w fun e w'=>e=.returned (.bool b)∧w=w':=by
 by_cases h1:c=32
 ·subst h1
  obtain rfl:true=b:=hb.out
  go_enter Tryz.func63,Tryz.ntmps63
  go_wp2_with fail
  go_ret
  exact⟨rfl,rfl⟩
 ·by_cases h2:c=9
  ·subst h2
   obtain rfl:true=b:=hb.out
   go_enter Tryz.func63,Tryz.ntmps63
   go_wp2_with fail
   go_ret
   exact⟨rfl,rfl⟩
  ·by_cases h3:c=10
   ·subst h3
    obtain rfl:true=b:=hb.out
    go_enter Tryz.func63,Tryz.ntmps63
    go_wp2_with fail
    go_ret
    exact⟨rfl,rfl⟩
   ·have hb1:((c.toNat:Int) == 32)=false:=eq_false (b:=32) h1
    have hb2:((c.toNat:Int) == 9)=false:=eq_false (b:=9) h2
    have hb3:((c.toNat:Int) == 10)=false:=eq_false (b:=10) h3
    obtain rfl:false=b:=by rw[←hb.out];simp[Wp.zaw,h1,h2,h3]
    clear h1 h2 h3 hb
    go_enter Tryz.func63,Tryz.ntmps63
    go_wp2_with fail
    go_ret
    exact⟨rfl,rfl⟩
theorem trim_is {s:ByteArray} {a b:Nat} (hab:a≤b) (hb:b≤s.size) (hA:∀ j (h:j<s.size),j<a→Wp.zaw s[j]=true) (hB:∀ j (h:j<s.size),b≤j→Wp.zaw s[j]=true)
  (eA:∀ h:a<s.size,Wp.zaw s[a]=false) (eB:∀ h:b - 1<s.size,a<b→Wp.zaw s[b - 1]=false):s.extract a b=zfj s:=by
 refine zar ?_
 show (s.extract a b).data.toList=Lib.trimS (by8 s) [32,9,10]
 rw[ByteArray.data_extract,Array.toList_extract,List.extract_eq_take_drop]
 show ((by8 s).drop a).take (b - a)=_
 have len:=zab s
 have get:∀ j c,(by8 s)[j]?=some c→∃ h:j<s.size,c=s[j]:=fun j c hc=>by
  have hj:j<s.size:=by rw[←len];exact(List.getElem?_eq_some_iff.1 hc).1
  exact⟨hj,zjo hj hc⟩
 unfold Lib.trimS
 by_cases h:a<b
 ·rw[Lib.trimRightS_take (by8 s) _ b (by rw[len];exact hb) (fun j c hj hc=>by
    obtain⟨h1,rfl⟩:=get j c hc
    rw[zcy];exact hB j h1 hj) (fun c _ hc=>by
    obtain⟨h1,rfl⟩:=get _ c hc
    rw[zcy];exact eB h1 h)]
  rw[Lib.trimLeftS_drop _ _ a (by rw[List.length_take,len];omega) (fun j c hj hc=>by
    rw[List.getElem?_take_of_lt (by omega)] at hc
    obtain⟨h1,rfl⟩:=get j c hc
    rw[zcy];exact hA j h1 hj) (fun c hc=>by
    rw[List.getElem?_take_of_lt h] at hc
    obtain⟨h1,rfl⟩:=get _ c hc
    rw[zcy];exact eA h1)]
  rw[List.drop_take]
 ·obtain rfl:a=b:=by omega
  have hs:a=s.size:=by
   rcases Nat.lt_or_ge a s.size with h1 | h1
   ·have:=eA h1;rw[hB a h1 (Nat.le_refl _)] at this;cases this
   ·omega
  subst hs
  rw[Nat.sub_self,List.take_zero,Lib.trimRightS_take (by8 s) _ 0 (Nat.zero_le _) (fun j c _ hc=>by
    obtain⟨h1,rfl⟩:=get j c hc
    rw[zcy];exact hA j h1 h1) (fun c h0 _=>absurd h0 (Nat.lt_irrefl 0))]
  rfl
theorem zhe (w:World) (s:ByteArray) (hs:s.size≤1000000) :
  Calls Tryz.prog 87 #[.string s] w fun e w'=>e=.returned (.string (zfj s))∧w=w':=by
 go_enter Tryz.func87,Tryz.ntmps87
 go_wp2_with fail
 go_loop [3] (fun va=>∃ a:Nat,va=.int .i64 a∧a≤s.size∧∀ j (h:j<s.size),j<a→Wp.zaw s[j]=true) (fun va=>s.size - (intOf va).toNat)
 case atStart=>exact⟨0,rfl,Nat.zero_le _,fun j _ h=>absurd h (Nat.not_lt_zero _)⟩
 case round =>
  obtain⟨a,rfl,ha,hA⟩:=hrel
  have HA:=Lib.hid hA
  clear hA
  by_cases hgo:∃ h:a<s.size,Wp.zaw s[a]=true
  ·obtain⟨hlt,hb⟩:=hgo
   have HB:=Lib.hid hb
   clear hb
   go_wp2_with fail
   refine(zcs _ s[a] _ HB).mono ?_
   rintro e w' ⟨rfl,rfl⟩
   go_wp2_with fail
   go_round
   case rel=>exact⟨a+1,by go_num,hlt,fun j h hj=>by
    rcases Nat.lt_or_ge j a with h' | h'
    ·exact HA.out j h h'
    ·obtain rfl:j=a:=by omega
     exact HB.out⟩
   case measure=>simp[intOf];omega
  ·have EA:Hid (∀ h:a<s.size,Wp.zaw s[a]=false):=Lib.hid fun h=>by
    cases hb:Wp.zaw s[a] with
    | false=>rfl
    | true=>exact absurd ⟨h,hb⟩ hgo
   clear hgo
   by_cases hlt:a<s.size
   ·have HB:=Lib.hid (EA.out hlt)
    go_wp2_with fail
    refine(zcs _ s[a] _ HB).mono ?_
    rintro e w' ⟨rfl,rfl⟩
    go_wp2_with fail
    go_loop [4] (fun vb=>∃ b:Nat,vb=.int .i64 b∧a≤b∧b≤s.size∧∀ j (h:j<s.size),b≤j→Wp.zaw s[j]=true) (fun vb=>(intOf vb).toNat)
    case atStart=>exact⟨s.size,rfl,ha,Nat.le_refl _,fun j h1 h2=>by omega⟩
    case round =>
     obtain⟨b,rfl,hab,hb,hBB⟩:=hrel
     have HBB:=Lib.hid hBB
     clear hBB HB
     by_cases hgo:∃ h:b - 1<s.size,a<b∧Wp.zaw s[b - 1]=true
     ·obtain⟨h1,h2,h3⟩:=hgo
      obtain⟨c,rfl⟩:∃ c,b=c+1:=⟨b - 1,by omega⟩
      have hc:c<s.size:=h1
      have HB:Hid (Wp.zaw s[c]=true):=Lib.hid h3
      clear h3 h1
      go_wp2_with fail
      refine(zcs _ s[c] _ HB).mono ?_
      rintro e w' ⟨rfl,rfl⟩
      go_wp2_with fail
      go_round
      case rel=>exact⟨c,by go_num,by omega,by omega,fun j h hj=>by
       rcases Nat.lt_or_ge c j with h' | h'
       ·exact HBB.out j h h'
       ·obtain rfl:j=c:=by omega
        exact HB.out⟩
      case measure=>simp[intOf]
     ·have EB:Hid (∀ h:b - 1<s.size,a<b→Wp.zaw s[b - 1]=false):=Lib.hid fun h h'=>by
       cases hb:Wp.zaw s[b - 1] with
       | false=>rfl
       | true=>exact absurd ⟨h,h',hb⟩ hgo
      have HT:=Lib.hid (trim_is hab hb HA.out HBB.out EA.out EB.out)
      clear hgo
      by_cases h2:a<b
      ·obtain⟨c,rfl⟩:∃ c,b=c+1:=⟨b - 1,by omega⟩
       have hc:c<s.size:=by omega
       have HB:Hid (Wp.zaw s[c]=false):=Lib.hid (EB.out hc h2)
       go_wp2_with fail
       refine(zcs _ s[c] _ HB).mono ?_
       rintro e w' ⟨rfl,rfl⟩
       go_wp2_with fail
       go_ret
       exact⟨by rw[←HT.out];rfl,rfl⟩
      ·go_wp2_with fail
       go_ret
       exact⟨by rw[←HT.out];rfl,rfl⟩
   ·obtain rfl:a=s.size:=by omega
    have HT:=Lib.hid (trim_is (Nat.le_refl _) (Nat.le_refl _) HA.out (fun j h h'=>by omega) EA.out (fun _ h=>absurd h (Nat.lt_irrefl _)))
    go_wp2_with fail
    go_loop [4] (fun vb=>vb=.int .i64 s.size) (fun vb=>0)
    case atStart=>exact rfl
    case round =>
     obtain rfl:=hrel
     go_wp2_with fail
     go_ret
     exact⟨by rw[←HT.out];simp,rfl⟩
theorem ContainsAny_any (w:World) (s:ByteArray) (h:10∉by8 s) :
  Calls Tryz.prog 300 #[.string s,.string ⟨#[10]⟩] w fun e w'=>e=.returned (.bool false)∧w=w':=by
 have HI:Lib.indexAny s.data.toList (⟨#[10]⟩:ByteArray).data.toList=-1:=by
  show Lib.indexAny (by8 s) [10]=-1
  rw[Lib.indexAny_one];exact zmd h
 have HC:=Lib.hid (Tryz.strings_IndexAny_one s ⟨#[10]⟩ w rfl (fun j b h=>by
  match j,h with
  | 0,h=>obtain rfl:=Option.some.inj h;decide))
 rw[HI] at HC
 clear h HI
 go_enter Tryz.func300,Tryz.ntmps300
 go_wp2_with fail
 refine HC.out.mono ?_
 rintro e w' ⟨rfl,rfl⟩
 go_wp2_with fail
 go_ret
 exact⟨rfl,rfl⟩
theorem RBare_any (w:World) (s:ByteArray) (hs:s.size≤1000000) :
  Calls Tryz.prog 178 #[.string s] w fun e w'=>e=.returned (.string (str (Ip.zay [] (by8 s))))∧w=w':=by
 go_enter Tryz.func178,Tryz.ntmps178
 go_wp2_with fail
 go_loop [3,4] (fun vo vi=>∃ (o:ByteArray) (i:Nat),vo=.string o∧vi=.int .i64 i∧i≤s.size∧o.size≤i∧Ip.zay (by8 o) ((by8 s).drop i)=Ip.zay [] (by8 s)∧(i=0→by8 o=[])∧(∀ h:i - 1<s.size,0<i→(by8 o).getLast?=some s[i - 1])) (fun _ vi=>s.size - (intOf vi).toNat)
 case atStart=>exact⟨⟨#[]⟩,0,rfl,rfl,Nat.zero_le _,Nat.le_refl _,rfl,fun _=>rfl,fun _ h=>absurd h (Nat.lt_irrefl _)⟩
 case round =>
  obtain⟨o,i,rfl,rfl,hi,ho,hE,h0,h1⟩:=hrel
  by_cases hlt:i<s.size
  ·have hat:=zbi hlt
   by_cases hc:s[i]=35
   ·have hcb:((s[i].toNat:Int) == 35)=true:=eq_true (b:=35) hc
    rcases Nat.eq_zero_or_pos i with hz | hz
    ·subst hz
     have HE:Hid (str (Ip.zay [] (by8 s))=o):=Lib.hid (by
      rw[←hE,hat,h0 rfl];unfold Ip.zay
      rw[if_pos hc,if_neg (by simp)]
      exact zar (by rw[h0 rfl];rfl))
     clear hE h0 h1 hat hc
     go_wp2_with fail
     go_ret
     exact⟨by rw[HE.out];rfl,rfl⟩
    ·obtain⟨j,rfl⟩:∃ j,i=j+1:=⟨i - 1,by omega⟩
     have hj:j<s.size:=by omega
     have hl:(by8 o).getLast?=some s[j]:=h1 hj (Nat.succ_pos _)
     by_cases hd:s[j]=92
     ·have hdb:((s[j].toNat:Int) != 92)=false:=by rw[bne,show ((s[j].toNat:Int) == 92)=true from eq_true (b:=92) hd];rfl
      obtain⟨a,ha⟩:∃ a,by8 o=a++[92]:=by
       have:=List.getLast?_eq_some_iff.1 hl
       rwa[hd] at this
      obtain⟨n,hn⟩:∃ n,o.size=n+1:=⟨a.length,by rw[←zab,ha];simp⟩
      have hcut:=zwu ha hn
      have q1:(1:Int)≤(o.size:Int):=by omega
      have q2:(o.size:Int) - 1≤(o.size:Int):=by omega
      have q3:((o.size:Int) - 1).toNat=n:=by omega
      have HN:=Lib.hid hn
      have HE:Hid (Ip.zay (a++[35]) ((by8 s).drop (j+1+1))=Ip.zay [] (by8 s)):=Lib.hid (by
       rw[←hE,hat,ha];conv=>rhs;unfold Ip.zay
       rw[if_pos hc,if_pos (by simp)];simp)
      have HC:=Lib.hid hcut
      have HS:Hid (s[j+1]=35):=Lib.hid hc
      clear hE h0 h1 hat hc hl hd ha hcut hn
      go_wp2_with fail
      go_round
      case rel=>exact⟨o.extract 0 n++s.extract (j+1) (j+1+1),j+1+1,rfl,by go_num,hlt,by have:=HN.out;rw[ByteArray.size_append,ByteArray.size_extract,ByteArray.size_extract];omega,by rw[zbc,zmy hlt,HC.out,HS.out];exact HE.out,fun h=>by omega,fun h _=>by rw[zbc,zmy hlt];simp⟩
      case measure=>simp[intOf];omega
     ·have hdb:((s[j].toNat:Int) != 92)=true:=by rw[bne,show ((s[j].toNat:Int) == 92)=false from eq_false (b:=92) hd];rfl
      have HE:Hid (str (Ip.zay [] (by8 s))=o):=Lib.hid (by
       rw[←hE,hat];unfold Ip.zay
       rw[if_pos hc,if_neg (by rw[hl];simpa using hd)];rfl)
      clear hE h0 h1 hat hc hl hd
      go_wp2_with fail
      go_ret
      exact⟨by rw[HE.out];rfl,rfl⟩
   ·have hcb:((s[i].toNat:Int) == 35)=false:=eq_false (b:=35) hc
    have HE:Hid (Ip.zay (by8 o++[s[i]]) ((by8 s).drop (i+1))=Ip.zay [] (by8 s)):=Lib.hid (by
     rw[←hE,hat];conv=>rhs;unfold Ip.zay
     rw[if_neg hc])
    clear hE h0 h1 hat hc
    go_wp2_with fail
    go_round
    case rel=>exact⟨o++s.extract i (i+1),i+1,rfl,by go_num,hlt,by rw[ByteArray.size_append,ByteArray.size_extract];omega,by rw[zbc,zmy hlt];exact HE.out,fun h=>by omega,fun h _=>by rw[zbc,zmy hlt];simp⟩
    case measure=>simp[intOf];omega
  ·obtain rfl:i=s.size:=by omega
   have HE:Hid (str (Ip.zay [] (by8 s))=o):=Lib.hid (by
    rw[←hE,List.drop_of_length_le (by rw[zab];exact Nat.le_refl _)];rfl)
   clear hE h0 h1
   go_wp2_with fail
   go_ret
   exact⟨by rw[HE.out];rfl,rfl⟩
theorem zll {c:UInt8} (hc:¬ c=10):∀ (u:Ip.Bs),Ip.rows (u++[c])=(Ip.rows u).dropLast++[(Ip.rows u).getLastD []++[c]]
 | []=>by rw[List.nil_append,Ip.zkj (by simpa using Ne.symm hc)];rfl
 | d :: r=>by
  have ih:=zll hc r
  have hne:=Ip.zck r
  by_cases hd:d=10
  ·subst hd
   rw[List.cons_append,Ip.zgv,Ip.zgv,ih]
   cases hr:Ip.rows r with
   | nil=>exact absurd hr hne
   | cons y l=>rfl
  ·cases hr:Ip.rows r with
   | nil=>exact absurd hr hne
   | cons y l =>
    rw[hr] at ih
    cases l with
    | nil=>rw[Ip.zey hd hr,List.cons_append,Ip.zey hd ih];rfl
    | cons z l=>rw[Ip.zey hd hr,List.cons_append,Ip.zey hd ih];rfl
theorem zug {u x:Ip.Bs} {A:List Ip.Bs} (c:UInt8) (h:Ip.rows u=A++[x]):Ip.rows (u++[c])=if c=10 then A++[x]++[[]] else A++[x++[c]]:=by
 by_cases hc:c=10
 ·rw[if_pos hc,hc,Ip.znl,h];rfl
 ·rw[if_neg hc,zll hc,h];simp
def RwRel (B:Nat) (w:World) (s:ByteArray) (v i:Value) (wr:World):Prop :=
 ∃ (k g c:Nat) (out:List ByteArray) (x:ByteArray),i=.int .i64 k∧v=.slice (some ⟨g,0,none⟩) (out.length+1) c∧k≤s.size∧x.size+out.length≤k ∧
  wr.ownsRow B ST 1 (.slice (some ⟨g,0,none⟩) (out.length+1) c) (out.length+1) (zbb (out++[x]))∧Below B w wr∧Ip.rows ((by8 s).take k)=out.map by8++[by8 x]
theorem rw_nl {B:Nat} {w wr:World} {s x:ByteArray} {k g c:Nat} {out:List ByteArray} {a:Option Addr} (hlt:k<s.size) (h10:s[k]=10) (hx:x.size+out.length≤k) (hp:Ip.rows ((by8 s).take k)=out.map by8++[by8 x])
  (ho:wr.ownsRow B ST 1 (.slice a (out.length+1+1) c) (out.length+1+1) (zbb (out++[x])++[.string ⟨#[]⟩])) (ha:a=some ⟨g,0,none⟩) (hB:Below B w wr) :
  RwRel B w s (.slice a (out.length+1+1) c) (.int .i64 ((k:Int)+1)) wr:=by
 subst ha
 refine⟨k+1,g,c,out++[x],⟨#[]⟩,by go_num,by rw[List.length_append,List.length_singleton],hlt,?_,?_,hB,?_⟩
 ·rw[List.length_append,List.length_singleton]
  show 0+(out.length+1)≤k+1
  omega
 ·rw[List.length_append,List.length_singleton,show zbb (out++[x]++[⟨#[]⟩])=zbb (out++[x])++[.string ⟨#[]⟩] by simp[zbb]]
  exact ho
 ·rw[zrp hlt,zug _ hp,if_pos h10,List.map_append]
  rfl
theorem rw_byte {B:Nat} {w wr:World} {s x:ByteArray} {k g c:Nat} {out:List ByteArray} (hlt:k<s.size) (h10:¬ s[k]=10) (hx:x.size+out.length≤k) (hp:Ip.rows ((by8 s).take k)=out.map by8++[by8 x])
  (ho:wr.ownsRow B ST 1 (.slice (some ⟨g,0,none⟩) (out.length+1) c) (out.length+1) (zbb (out++[x]))) (hB:Below B w wr) (hBg:B≤g) :
  RwRel B w s (.slice (some ⟨g,0,none⟩) (out.length+1) c) (.int .i64 ((k:Int)+1)) (wr.setCell ⟨g,out.length,none⟩ (.string (x++s.extract k (k+1)))):=by
 have h1:=(ho.stored out.length (.string (x++s.extract k (k+1)))).1
 refine⟨k+1,g,c,out,x++s.extract k (k+1),by go_num,rfl,hlt,?_,?_,hB.setCell (p:=⟨g,out.length,none⟩) hBg _,?_⟩
 ·rw[ByteArray.size_append,ByteArray.size_extract];omega
 ·have e:(zbb (out++[x])).set out.length (.string (x++s.extract k (k+1)))=zbb (out++[x++s.extract k (k+1)]):=by
   simp[zbb]
  rw[e] at h1
  exact h1
 ·rw[zrp hlt,zug _ hp,if_neg h10,zbc,zmy hlt]
theorem RwRel.drew {B:Nat} {w wr:World} {s:ByteArray} {v i:Value} (h:RwRel B w s v i wr):RwRel B w s v i wr.drew:=by
 obtain⟨k,g,c,out,x,a1,a2,a3,a4,a5,a6,a7⟩:=h
 exact⟨k,g,c,out,x,a1,a2,a3,a4,a5,a6.drew,a7⟩
theorem RRows_any (w:World) (s:ByteArray) (hs:s.size≤1000000) :
  Calls Tryz.prog 177 #[.string s] w fun e w'=>∃ (out:List ByteArray) (g c:Nat),e=.returned (.slice (some ⟨g,0,none⟩) out.length c)∧out.map by8=Ip.rows (by8 s)∧w'.ownsRow w.heap.size ST 1 (.slice (some ⟨g,0,none⟩) out.length c) out.length (zbb out)∧Below w.heap.size w w':=by
 obtain⟨i0,hi,hz0,hz1,hz2⟩:=info_parts zjk
 go_enter Tryz.func177,Tryz.ntmps177
 go_wp2
 go_loopw [3,4] (fun v i wr=>RwRel w.heap.size w s v i wr) (fun _ i _=>s.size - (intOf i).toNat)
 case atStart=>exact⟨0,w.heap.size,1,[],⟨#[]⟩,rfl,rfl,Nat.zero_le _,Nat.le_refl _,World.ownsRow_lit w #[.string ⟨#[]⟩] 1 (Nat.le_refl _) (by decide) rfl,(Below.refl _ _).alloc (Nat.le_refl _) _,rfl⟩
 case round =>
  obtain⟨k,g,c,out,x,rfl,rfl,hk,hx,ho,hB,hp⟩:=hrel
  have hgl:=(ho.lt g rfl)
  by_cases hlt:k<s.size
  ·by_cases h47:s[k]=10
   ·have hb:((s[k].toNat:Int) == 10)=true:=by rw[h47];rfl
    have H47:=Lib.hid h47
    have HP:=Lib.hid hp
    clear h47 hp
    go_wp2_with (at_builtin;refine wpList_append_own _ rfl _ _ 27 rfl w.heap.size ST i0 (.string ByteArray.empty) 1 16 Tryz.underlying27 hi hz0 hz1 hz2 rfl (by decide) _ _ _ rfl (ho.alloc _) ⟨wr.heap.size,0,none⟩ 1 1 [.string ⟨#[]⟩] rfl rfl (cell_one_new _ _ _) (by simp[Value.oneCell']) (by unfold maxLen;omega) (by omega) (by have:=hB.size;simp;omega) ?_;intro v' w1 hown' hgrow _;obtain⟨a2,c2,rfl⟩:=zac hown')
    go_roundw
    case rel =>
     obtain⟨g2,e2,_⟩:=zny hown' (by omega)
     exact rw_nl hlt H47.out hx HP.out hown' e2 ((hB.alloc hB.size _).grown hgrow (by have:=hB.size;simp;omega) fun j ej=>(ho.lt j ej).1)
    case measure=>simp[intOf]<;>omega
   ·have hb:((s[k].toNat:Int) == 10)=false:=eq_false (b:=10) h47
    have H47:=Lib.hid h47
    have HP:=Lib.hid hp
    clear h47 hp
    have hcell:wr.cell? ⟨g,out.length,none⟩=some (.string x):=by
     rw[ho.cellAt out.length (by omega)];simp[zbb]
    have hfz:=ho.frozenAt out.length
    have hwr:IntKind.i64.wrap (((out.length+1:Nat):Int) - 1)=(out.length:Int):=by rw[IntWalk.i64_in _ (by omega)];omega
    have hwr2:IntKind.i64.wrap ((out.length:Int))=(out.length:Int):=by rw[IntWalk.i64_in _ (by omega)]
    have hwr3:IntKind.i64.wrap ((k:Int)+1)=(k:Int)+1:=by rw[IntWalk.i64_in _ (by omega)]
    have hk0:(0:Int)≤(k:Int):=Int.natCast_nonneg _
    have hk1:(0:Int)≤(k:Int)+1:=by omega
    have hk2:(k:Int)+1≤(s.size:Int):=by omega
    have hk3:(k:Int)≤(k:Int)+1:=by omega
    have ho0:(0:Int)≤(out.length:Int):=Int.natCast_nonneg _
    have ho1:(out.length:Int)<(out.length:Int)+1:=by omega
    go_wp2
    go_region
    go_wp2
    go_roundw
    case rel=>exact(rw_byte hlt H47.out hx HP.out ho hB hgl.1).drew
    case measure=>simp[intOf]<;>omega
  ·obtain rfl:k=s.size:=by omega
   rw[List.take_of_length_le (by rw[zab];exact Nat.le_refl _)] at hp
   have HP:=Lib.hid hp
   clear hp
   go_wp2
   go_ret
   exact⟨out++[x],g,c,by rw[List.length_append];rfl,by rw[HP.out,List.map_append];rfl,by rw[List.length_append];exact ho,hB⟩
abbrev RL:TypeId:=196
theorem infoRL:(Tryz.prog.info? RL).map (fun i=>(i.zero,i.size,i.bytes))=some (some (.agg #[.int .i64 0,.string ByteArray.empty,.bool false]),3,32):=by kernel_rfl
theorem zor {wr:World} {B:Nat} {a c:Value} {x:Value} (h:wr.heap[B]?=some (.cells #[a,x,c] RL (0,0))) (y:Value):(wr.setCell ⟨B,1,none⟩ y).heap[B]?=some (.cells #[a,y,c] RL (0,0)):=zai h y
def InRel (W:World) (B i:Nat) (q:Bool) (S:Nat) (out:List ByteArray) (P T:List Ip.L) (v5 v7:Value) (wr:World):Prop :=
 ∃ (j:Nat) (acc:Bs) (m:Bool),v5=.int .i64 j∧v7=.bool m∧i≤j∧j≤out.length∧Below B W wr∧wr.heap[B]?=some (.cells #[.int .i64 (i+1:Nat),.string (str acc),.bool q] RL (0,0)) ∧
  acc.length+Ip.tot ((out.map by8).drop j)≤S+1∧(m=true→j<out.length∧P++Ip.goA (j+1) (i+1) q acc ((out.map by8).drop j)=T) ∧
  (m=false→i<j∧P++(Ip.emit (i+1) q acc++Ip.goA (j+1) (j+1) (Ip.tab (((out.map by8).drop j).headD [])) [] ((out.map by8).drop j))=T)
def OfRel (w:World) (g c:Nat) (out:List ByteArray) (T:List Ip.L) (v3 v5:Value) (wr:World):Prop :=
 ∃ (i:Nat) (P:List Ip.L),v5=.int .i64 i∧i≤out.length∧wr.ownsRow w.heap.size RL 3 v3 P.length (zcp P)∧wr.ownsRow w.heap.size ST 1 (.slice (some ⟨g,0,none⟩) out.length c) out.length (zbb out)∧Below w.heap.size w wr∧P.length≤i ∧
  P++Ip.goA (i+1) (i+1) (Ip.tab (((out.map by8).drop i).headD [])) [] ((out.map by8).drop i)=T
theorem ROf_any (w:World) (s:ByteArray) (hs:s.size≤100000) :
  Calls Tryz.prog 104 #[.string s] w fun e w'=>∃ v,e=.returned v∧w'.ownsRow w.heap.size RL 3 v (Ip.zci (by8 s)).length (zcp (Ip.zci (by8 s)))∧Below w.heap.size w w':=by
 have HR:=Lib.hid (RRows_any w s (by omega))
 go_enter Tryz.func104,Tryz.ntmps104
 go_wp2_with fail
 refine HR.out.mono ?_
 rintro e w1 ⟨out,g,c,rfl,hout,ho,hB1⟩
 have hlen:out.length≤s.size+1:=by
  have:=Ip.zrf (by8 s)
  rw[←hout,List.length_map] at this
  have:=List.count_le_length (a:=(10:UInt8)) (l:=by8 s)
  rw[zab] at this;omega
 have HTOT:Hid (Ip.tot (out.map by8)=s.size+1):=Lib.hid (by rw[hout,Ip.zqo,zab])
 have HT:Hid (Ip.zci (by8 s)=Ip.goA 1 1 (Ip.tab ((out.map by8).headD [])) [] (out.map by8)):=Lib.hid (by rw[hout];rfl)
 clear hout
 go_wp2_with fail
 go_loopw [3,5] (fun v3 v5 wr=>OfRel w g c out (Ip.zci (by8 s)) v3 v5 wr) (fun _ v5 _=>out.length - (intOf v5).toNat)
 case atStart=>exact⟨0,[],rfl,Nat.zero_le _,World.ownsRow_nil _ _ _ _,ho,hB1,Nat.le_refl _,HT.out.symm⟩
 case round =>
  rename World=>W0
  obtain⟨i,P,rfl,hi,hp,ho,hB,hPi,hT⟩:=hrel
  obtain⟨va,vc,rfl⟩:=zac hp
  by_cases hlt:i<out.length
  ·have hgl:=(ho.lt g rfl).2
   have hcell:W0.cell? ⟨g,i,none⟩=some (.string out[i]):=by
    rw[ho.cellAt i (by omega)];simp[zbb,hlt]
   have hdrop:(out.map by8).drop i=by8 out[i] :: (out.map by8).drop (i+1):=by
    rw[List.drop_eq_getElem_cons (by simpa using hlt)];simp
   have HT:Hid (P++Ip.goA (i+1) (i+1) (Ip.tab (by8 out[i])) [] ((out.map by8).drop i)=Ip.zci (by8 s)):=Lib.hid (by rw[←hT,hdrop];rfl)
   have HP:=Lib.hid hp
   have HO:=Lib.hid ho
   have HB:=Lib.hid hB
   obtain⟨q,HQ⟩:∃ q,Hid (Ip.tab (by8 out[i])=q):=⟨_,Lib.hid rfl⟩
   rw[HQ.out] at HT
   generalize out[i]=x at *
   clear hT hdrop hp ho hB
   have hi0:(0:Int)≤(i:Int):=Int.natCast_nonneg _
   have hi1:(i:Int)<(out.length:Int):=by omega
   go_upto_region 5 with (fail)
   go_cut [6] (fun v wx=>v=.pointer (some ⟨W0.heap.size,0,none⟩)∧wx=W0.alloc (.cells #[.int .i64 (i+1:Nat),.string ByteArray.empty,.bool q] RL))
   case first =>
    by_cases h0:0<x.size
    ·by_cases h9:x[0]=9
     ·have hb:((x[0].toNat:Int) == 9)=true:=eq_true (b:=9) h9
      have HF:Hid (q=true):=Lib.hid (by rw[←HQ.out,tab_is h0,decide_eq_true h9])
      clear h9
      go_wp2_with fail
      go_meet
      exact⟨rfl,by rw[HF.out];rfl⟩
     ·have hb:((x[0].toNat:Int) == 9)=false:=eq_false (b:=9) h9
      have HF:Hid (q=false):=Lib.hid (by rw[←HQ.out,tab_is h0,decide_eq_false h9])
      clear h9
      go_wp2_with fail
      go_meet
      exact⟨rfl,by rw[HF.out];rfl⟩
    ·have HF:Hid (q=false):=Lib.hid (by rw[←HQ.out,tab_no h0])
     go_wp2_with fail
     go_meet
     exact⟨rfl,by rw[HF.out];rfl⟩
   case rest =>
    obtain⟨rfl,rfl⟩:=hcut
    go_wp2_with fail
    go_loopw [5,7] (fun v5 v7 wq=>InRel W0 W0.heap.size i q s.size out P (Ip.zci (by8 s)) v5 v7 wq) (fun v5 v7 _=>out.length - (intOf v5).toNat)
    case atStart =>
     refine⟨i,[],true,rfl,rfl,Nat.le_refl _,hi,(Below.refl _ _).alloc (Nat.le_refl _) _,World.alloc_heap_new _ _,?_,fun _=>⟨hlt,HT.out⟩,fun h=>by cases h⟩
     have:=Ip.tot_drop i (out.map by8)
     rw[HTOT.out] at this
     simpa using this
    case round =>
     obtain⟨j,acc,m,rfl,rfl,hij,hj,hBW,hbox,htot,hm1,hm0⟩:=hrel
     have hbl:W0.heap.size<wr.heap.size:=(Array.getElem?_eq_some_iff.1 hbox).1
     have d1:wr.cell? ⟨W0.heap.size,1,none⟩=some (.string (str acc)):=zaa hbox rfl
     have f1:wr.frozen? ⟨W0.heap.size,1,none⟩=false:=zad hbox _
     cases m with
     | true =>
      obtain⟨hjl,hT⟩:=hm1 rfl
      clear hm1 hm0
      have hgq:g<W0.heap.size:=hgl
      have hcq:wr.cell? ⟨g,j,none⟩=some (.string out[j]):=by
       rw[hBW.cell (p:=⟨g,j,none⟩) hgq,HO.out.cellAt j (by omega)];simp[zbb,hjl]
      have hdrop:(out.map by8).drop j=by8 out[j] :: (out.map by8).drop (j+1):=by
       rw[List.drop_eq_getElem_cons (by simpa using hjl)];simp
      rw[hdrop] at hT htot
      obtain⟨M,HM⟩:∃ M,Hid (Ip.more (by8 out[j]) ((out.map by8).drop (j+1))=M):=⟨_,Lib.hid rfl⟩
      have HT2:=Lib.hid hT
      have HTt:Hid (acc.length+(out[j].size+1+Ip.tot ((out.map by8).drop (j+1)))≤s.size+1):=Lib.hid (by simpa[Ip.tot,zab] using htot)
      have HBX:=Lib.hid hbox
      have HBW:=Lib.hid hBW
      have hj0:(0:Int)≤(j:Int):=Int.natCast_nonneg _
      have hj1:(j:Int)<(out.length:Int):=by omega
      have hR:(out.map by8).drop (j+1)=[]↔¬ j+1<out.length:=by
       rw[List.drop_eq_nil_iff,List.length_map];omega
      generalize out[j]=x at *
      have hxs:x.size≤100000:=by have:=HTt.out;omega
      clear hT htot hbox hBW hdrop
      go_upto_region 9 with (fail)
      go_cut [7] (fun v wx=>v=.bool M∧wx=wr)
      case first =>
       by_cases h0:0<x.size
       ·obtain⟨n,hn⟩:∃ n,x.size=n+1:=⟨x.size - 1,by omega⟩
        have hxn:n<x.size:=by omega
        have hw1:IntKind.i64.wrap ((x.size:Int) - 1)=(n:Int):=by rw[IntWalk.i64_in _ (by omega)];omega
        have hw2:(0:Int)≤(n:Int):=by omega
        have hw3:(n:Int)<(x.size:Int):=by omega
        have hw4:IntKind.i64.wrap ((j:Int)+1)=(j:Int)+1:=by rw[IntWalk.i64_in _ (by omega)]
        by_cases h9:x[n]=92
        ·have hb:((x[n].toNat:Int) == 92)=true:=eq_true (b:=92) h9
         by_cases hl:j+1<out.length
         ·have HF:Hid (M=true):=Lib.hid (by rw[←HM.out,more_is hn (fun e=>hR.1 e hl),decide_eq_true h9])
          have hl2:(j:Int)+1<(out.length:Int):=by omega
          clear hR h9 hn
          go_wp2_with fail
          go_meet
          exact⟨by rw[HF.out],rfl⟩
         ·have HF:Hid (M=false):=Lib.hid (by rw[←HM.out,zqp x (hR.2 hl)])
          have hl2:¬ (j:Int)+1<(out.length:Int):=by omega
          clear hR h9 hn
          go_wp2_with fail
          go_meet
          exact⟨by rw[HF.out],rfl⟩
        ·have hb:((x[n].toNat:Int) == 92)=false:=eq_false (b:=92) h9
         have HF:Hid (M=false):=Lib.hid (by
          rw[←HM.out]
          by_cases hl:j+1<out.length
          ·rw[more_is hn (fun e=>hR.1 e hl),decide_eq_false h9]
          ·rw[zqp x (hR.2 hl)])
         clear hR h9 hn
         go_wp2_with fail
         go_meet
         exact⟨by rw[HF.out],rfl⟩
       ·have HF:Hid (M=false):=Lib.hid (by rw[←HM.out,more_no h0])
        clear hR
        go_wp2_with fail
        go_meet
        exact⟨by rw[HF.out],rfl⟩
      case rest =>
       obtain⟨rfl,rfl⟩:=hcut
       rename World=>W1
       cases M with
       | true =>
        obtain⟨a,ha⟩:=more_last HM.out
        have hMr:¬ j+1=out.length:=fun e=>by
         have:=HM.out
         rw[zqp x (hR.2 (by omega))] at this
         cases this
        obtain⟨n,hn⟩:∃ n,x.size=n+1:=⟨a.length,by rw[←zab,ha];simp⟩
        have q1:(1:Int)≤(x.size:Int):=by omega
        have q2:(x.size:Int) - 1≤(x.size:Int):=by omega
        have q3:((x.size:Int) - 1).toNat=n:=by omega
        have hy:by8 (x.extract 0 n)=a:=zwu ha hn
        have HTr:Hid (∀ W,Calls Tryz.prog 87 #[.string (x.extract 0 n)] W fun e w'=>e=.returned (.string (zfj (x.extract 0 n)))∧W=w'):=Lib.hid fun W=>zhe W _ (by rw[ByteArray.size_extract];omega)
        have ht:by8 (zfj (x.extract 0 n))=Ip.trim a:=by show Lib.trimS (by8 (x.extract 0 n)) [32,9,10]=_;rw[hy];rfl
        have hta:a.length+1=x.size:=by rw[←zab,ha];simp
        have hsmall:=Ip.zcz a
        have hT4:=HT2.out
        rw[Ip.zhy HM.out,ha,List.dropLast_concat,←ht] at hT4
        have HT4:=Lib.hid hT4
        generalize zfj (x.extract 0 n)=t at *
        rw[←ht] at hsmall
        have HS:Hid ((by8 t).length+1≤x.size):=Lib.hid (by omega)
        clear hT4 hsmall ha hy ht hta hn hR
        go_wp2_with fail
        refine(HTr.out _).mono ?_
        rintro e w' ⟨rfl,rfl⟩
        go_upto_region 13 with (fail)
        go_cut [70] (fun v wx=>v=.bool (decide (by8 t≠[]∧acc≠[]))∧wx=W1)
        case first =>
         cases ht0:by8 t with
         | nil =>
          have he:t.toList=[]:=by rw[Lib.toList_data];exact ht0
          have ht1:¬ by8 t≠[]:=by rw[ht0];simp
          have HD:=Lib.hid (decide_eq_false (fun h:by8 t≠[]∧acc≠[]=>ht1 h.1))
          go_wp2_with fail
          go_meet
          exact⟨by rw[HD.out],rfl⟩
         | cons b0 t0 =>
          have he:¬ t.toList=[]:=by rw[Lib.toList_data];exact fun e=>by rw[show t.data.toList=by8 t from rfl,ht0] at e;cases e
          have ht1:by8 t≠[]:=by rw[ht0];simp
          by_cases ha0:acc=[]
          ·have he1:(str acc).toList=[]:=by rw[Lib.toList_data];exact ha0
           have HD:=Lib.hid (decide_eq_false (fun h:by8 t≠[]∧acc≠[]=>h.2 ha0))
           clear ha0
           go_wp2_with fail
           go_meet
           exact⟨by rw[HD.out],rfl⟩
          ·have he1:¬ (str acc).toList=[]:=by rw[Lib.toList_data];exact ha0
           have HD:=Lib.hid (decide_eq_true (⟨ht1,ha0⟩:by8 t≠[]∧acc≠[]))
           have e1:t.toList.isEmpty=false:=by cases h:t.toList with | nil=>exact absurd h he | cons=>rfl
           have e2:(str acc).toList.isEmpty=false:=by cases h:(str acc).toList with | nil=>exact absurd h he1 | cons=>rfl
           clear ha0
           go_wp2_with fail
           go_meet
           exact⟨by rw[HD.out],rfl⟩
        case rest =>
         obtain⟨rfl,rfl⟩:=hcut
         have hs1:(str acc++(⟨#[32]⟩:ByteArray)).size≤200001:=by have:=HTt.out;rw[ByteArray.size_append,zan];show acc.length+1≤_;omega
         have hs3:(str acc).size≤200000:=by have:=HTt.out;rw[zan];omega
         have hs2:t.size≤100000:=by have:=HS.out;rw[zab] at this;omega
         by_cases hc:by8 t≠[]∧acc≠[]
         ·rw[decide_eq_true hc]
          have HE:=Lib.hid (add_two hc)
          clear hc
          go_wp2_with fail
          go_roundw
          case rel =>
           rw[HE.out]
           refine⟨j+1,Ip.addA acc (by8 t),true,by go_num,rfl,by omega,hjl,(HBW.out.setCell (Nat.le_refl _) _).setCell (Nat.le_refl _) _,zor (zor HBX.out _) _,?_,fun _=>⟨?_,HT4.out⟩,fun h=>by cases h⟩
           ·have:=HTt.out;have:=HS.out;have:=Ip.zdj acc (by8 t);omega
           ·exact Nat.lt_of_le_of_ne hjl fun e=>hMr e
          case measure=>simp[intOf];omega
         ·rw[decide_eq_false hc]
          have HE:=Lib.hid (add_one hc)
          clear hc
          go_wp2_with fail
          go_roundw
          case rel =>
           rw[HE.out]
           refine⟨j+1,Ip.addA acc (by8 t),true,by go_num,rfl,by omega,hjl,HBW.out.setCell (Nat.le_refl _) _,zor HBX.out _,?_,fun _=>⟨?_,HT4.out⟩,fun h=>by cases h⟩
           ·have:=HTt.out;have:=HS.out;have:=Ip.zdj acc (by8 t);omega
           ·exact Nat.lt_of_le_of_ne hjl fun e=>hMr e
          case measure=>simp[intOf];omega
       | false =>
        have HTr:Hid (∀ W,Calls Tryz.prog 87 #[.string x] W fun e w'=>e=.returned (.string (zfj x))∧W=w'):=Lib.hid fun W=>zhe W _ (by omega)
        have ht:by8 (zfj x)=Ip.trim (by8 x):=rfl
        have hsmall:=Ip.zcz (by8 x)
        have hT4:=HT2.out
        rw[Ip.zem HM.out,←ht] at hT4
        have HT4:=Lib.hid hT4
        generalize zfj x=t at *
        rw[←ht,zab x] at hsmall
        have HS:Hid ((by8 t).length+1≤x.size+1):=Lib.hid (by omega)
        clear hT4 hsmall ht hR
        go_wp2_with fail
        refine(HTr.out _).mono ?_
        rintro e w' ⟨rfl,rfl⟩
        go_upto_region 13 with (fail)
        go_cut [70] (fun v wx=>v=.bool (decide (by8 t≠[]∧acc≠[]))∧wx=W1)
        case first =>
         cases ht0:by8 t with
         | nil =>
          have he:t.toList=[]:=by rw[Lib.toList_data];exact ht0
          have ht1:¬ by8 t≠[]:=by rw[ht0];simp
          have HD:=Lib.hid (decide_eq_false (fun h:by8 t≠[]∧acc≠[]=>ht1 h.1))
          go_wp2_with fail
          go_meet
          exact⟨by rw[HD.out],rfl⟩
         | cons b0 t0 =>
          have he:¬ t.toList=[]:=by rw[Lib.toList_data];exact fun e=>by rw[show t.data.toList=by8 t from rfl,ht0] at e;cases e
          have ht1:by8 t≠[]:=by rw[ht0];simp
          by_cases ha0:acc=[]
          ·have he1:(str acc).toList=[]:=by rw[Lib.toList_data];exact ha0
           have HD:=Lib.hid (decide_eq_false (fun h:by8 t≠[]∧acc≠[]=>h.2 ha0))
           clear ha0
           go_wp2_with fail
           go_meet
           exact⟨by rw[HD.out],rfl⟩
          ·have he1:¬ (str acc).toList=[]:=by rw[Lib.toList_data];exact ha0
           have HD:=Lib.hid (decide_eq_true (⟨ht1,ha0⟩:by8 t≠[]∧acc≠[]))
           have e1:t.toList.isEmpty=false:=by cases h:t.toList with | nil=>exact absurd h he | cons=>rfl
           have e2:(str acc).toList.isEmpty=false:=by cases h:(str acc).toList with | nil=>exact absurd h he1 | cons=>rfl
           clear ha0
           go_wp2_with fail
           go_meet
           exact⟨by rw[HD.out],rfl⟩
        case rest =>
         obtain⟨rfl,rfl⟩:=hcut
         have hs1:(str acc++(⟨#[32]⟩:ByteArray)).size≤200001:=by have:=HTt.out;rw[ByteArray.size_append,zan];show acc.length+1≤_;omega
         have hs3:(str acc).size≤200000:=by have:=HTt.out;rw[zan];omega
         have hs2:t.size≤100000:=by have:=HS.out;rw[zab] at this;omega
         by_cases hc:by8 t≠[]∧acc≠[]
         ·rw[decide_eq_true hc]
          have HE:=Lib.hid (add_two hc)
          clear hc
          go_wp2_with fail
          go_roundw
          case rel =>
           rw[HE.out]
           refine⟨j+1,Ip.addA acc (by8 t),false,by go_num,rfl,by omega,hjl,(HBW.out.setCell (Nat.le_refl _) _).setCell (Nat.le_refl _) _,zor (zor HBX.out _) _,?_,(fun h=>by cases h),fun _=>⟨by omega,HT4.out⟩⟩
           have:=HTt.out;have:=HS.out;have:=Ip.zdj acc (by8 t);omega
          case measure=>simp[intOf];omega
         ·rw[decide_eq_false hc]
          have HE:=Lib.hid (add_one hc)
          clear hc
          go_wp2_with fail
          go_roundw
          case rel =>
           rw[HE.out]
           refine⟨j+1,Ip.addA acc (by8 t),false,by go_num,rfl,by omega,hjl,HBW.out.setCell (Nat.le_refl _) _,zor HBX.out _,?_,(fun h=>by cases h),fun _=>⟨by omega,HT4.out⟩⟩
           have:=HTt.out;have:=HS.out;have:=Ip.zdj acc (by8 t);omega
          case measure=>simp[intOf];omega
     | false =>
      obtain⟨hij2,hT⟩:=hm0 rfl
      have HT3:=Lib.hid hT
      have hPl:P.length≤100001:=by omega
      have hal:acc.length≤100001:=by omega
      have d2:wr.cell? ⟨W0.heap.size,2,none⟩=some (.bool q):=zaa hbox rfl
      have d0:wr.cell? ⟨W0.heap.size,0,none⟩=some (.int .i64 (i+1:Nat)):=zaa hbox rfl
      have HBX:=Lib.hid hbox
      have HBW:=Lib.hid hBW
      clear hm1 hm0 hT hbox hBW htot
      obtain⟨i0,hi1,hz0,hz1,hz2⟩:=info_parts infoRL
      have hWs:=HB.out.size
      cases q with
      | true =>
      have HE0:Hid (Ip.zkb true acc=acc):=Lib.hid rfl
      have HBW2:=HBW
      have HBX2:=HBX
      have hsz:=HBW2.out.size
      by_cases hU:acc=[]
      ·have hUe:(str (acc)).toList=[]:=by rw[Lib.toList_data];exact hU
       have HEm:Hid (Ip.emit (i+1) true acc=[]):=Lib.hid (by unfold Ip.emit;rw[HE0.out,if_pos hU])
       clear hU
       go_wp2_with fail
       go_roundw
       case rel=>exact⟨j,P,rfl,hj,zae HP.out HBW2.out,zae HO.out HBW2.out,HB.out.trans (HBW2.out.mono hWs),by omega,by have:=HT3.out;rw[HEm.out] at this;exact this⟩
       case measure=>simp[intOf];omega
      ·have hUe:¬ (str (acc)).toList=[]:=by rw[Lib.toList_data];exact hU
       have hUf:(str (acc)).toList.isEmpty=false:=by cases h:(str (acc)).toList with | nil=>exact absurd h hUe | cons=>rfl
       have HEm:Hid (Ip.emit (i+1) true acc=[⟨i+1,acc,true⟩]):=Lib.hid (by unfold Ip.emit;rw[HE0.out,if_neg hU])
       have HP2:=Lib.hid (zae HP.out HBW2.out)
       have HO2:=Lib.hid (zae HO.out HBW2.out)
       have HB2:=Lib.hid (HB.out.trans (HBW2.out.mono hWs))
       clear hU
       go_wp2_with (at_builtin;refine wpList_append_own _ rfl _ _ 94 rfl w.heap.size RL i0 (.agg #[.int .i64 0,.string ByteArray.empty,.bool false]) 3 32 Tryz.underlying94 hi1 hz0 hz1 hz2 rfl (by decide) _ _ _ rfl (HP2.out.alloc _) ⟨wr.heap.size,0,none⟩ 1 1 [.int .i64 (i+1:Nat),.string (str (acc)),.bool true] rfl rfl (zmi (by simp) _ _ _ _) (by simp[Value.oneCell']) (by unfold maxLen;omega) (by omega) (by simp;omega) ?_;intro v' w1 hown' hgrow _;obtain⟨a2,c2,rfl⟩:=zac hown')
       go_roundw
       case rel =>
        refine⟨j,P++[⟨i+1,acc,true⟩],rfl,hj,?_,((HO2.out.alloc _).kept hgrow (zck HO2.out HP2.out (by decide))),(HB2.out.alloc HB2.out.size _).grown hgrow (by rw[World.size_alloc];have:=HB2.out.size;omega) (fun k hk=>(HP2.out.lt k hk).1),by rw[List.length_append];simp;omega,?_⟩
        ·rw[List.length_append,zge];exact hown'
        ·have:=HT3.out;rw[HEm.out] at this;rw[List.append_assoc];exact this
       case measure=>simp[intOf];omega
      | false =>
      have HE0:Hid (Ip.zkb false acc=Ip.trim (Ip.zay [] acc)):=Lib.hid rfl
      have HBr:Hid (∀ W,Calls Tryz.prog 178 #[.string (str acc)] W fun e w'=>e=.returned (.string (str (Ip.zay [] acc)))∧W=w'):=Lib.hid fun W=>RBare_any W (str acc) (by rw[zan];omega)
      have hbl2:(Ip.zay [] acc).length≤0+acc.length:=Ip.zhk acc []
      have HTr:Hid (∀ W,Calls Tryz.prog 87 #[.string (str (Ip.zay [] acc))] W fun e w'=>e=.returned (.string (str (Ip.trim (Ip.zay [] acc))))∧W=w'):=Lib.hid fun W=>zhe W _ (by rw[zan];omega)
      clear hbl2
      have HBW2:Hid (Below W0.heap.size W0 (wr.setCell ⟨W0.heap.size,1,none⟩ (.string (str (Ip.trim (Ip.zay [] acc)))))):=Lib.hid (HBW.out.setCell (Nat.le_refl _) _)
      have HBX2:Hid ((wr.setCell ⟨W0.heap.size,1,none⟩ (.string (str (Ip.trim (Ip.zay [] acc))))).heap[W0.heap.size]?=some (.cells #[.int .i64 (i+1:Nat),.string (str (Ip.trim (Ip.zay [] acc))),.bool false] RL (0,0))):=Lib.hid (zor HBX.out _)
      have g0:(wr.setCell ⟨W0.heap.size,1,none⟩ (.string (str (Ip.trim (Ip.zay [] acc))))).cell? ⟨W0.heap.size,0,none⟩=some (.int .i64 (i+1:Nat)):=zaa HBX2.out rfl
      have g1:(wr.setCell ⟨W0.heap.size,1,none⟩ (.string (str (Ip.trim (Ip.zay [] acc))))).cell? ⟨W0.heap.size,1,none⟩=some (.string (str (Ip.trim (Ip.zay [] acc)))):=zaa HBX2.out rfl
      have g2:(wr.setCell ⟨W0.heap.size,1,none⟩ (.string (str (Ip.trim (Ip.zay [] acc))))).cell? ⟨W0.heap.size,2,none⟩=some (.bool false):=zaa HBX2.out rfl
      have hsz:=HBW2.out.size
      by_cases hU:Ip.trim (Ip.zay [] acc)=[]
      ·have hUe:(str (Ip.trim (Ip.zay [] acc))).toList=[]:=by rw[Lib.toList_data];exact hU
       have HEm:Hid (Ip.emit (i+1) false acc=[]):=Lib.hid (by unfold Ip.emit;rw[HE0.out,if_pos hU])
       clear hU
       go_wp2_with fail
       refine(HBr.out _).mono ?_
       rintro e w' ⟨rfl,rfl⟩
       go_wp2_with fail
       refine(HTr.out _).mono ?_
       rintro e w' ⟨rfl,rfl⟩
       go_wp2_with fail
       go_roundw
       case rel=>exact⟨j,P,rfl,hj,zae HP.out HBW2.out,zae HO.out HBW2.out,HB.out.trans (HBW2.out.mono hWs),by omega,by have:=HT3.out;rw[HEm.out] at this;exact this⟩
       case measure=>simp[intOf];omega
      ·have hUe:¬ (str (Ip.trim (Ip.zay [] acc))).toList=[]:=by rw[Lib.toList_data];exact hU
       have hUf:(str (Ip.trim (Ip.zay [] acc))).toList.isEmpty=false:=by cases h:(str (Ip.trim (Ip.zay [] acc))).toList with | nil=>exact absurd h hUe | cons=>rfl
       have HEm:Hid (Ip.emit (i+1) false acc=[⟨i+1,Ip.trim (Ip.zay [] acc),false⟩]):=Lib.hid (by unfold Ip.emit;rw[HE0.out,if_neg hU])
       have HP2:=Lib.hid (zae HP.out HBW2.out)
       have HO2:=Lib.hid (zae HO.out HBW2.out)
       have HB2:=Lib.hid (HB.out.trans (HBW2.out.mono hWs))
       clear hU
       go_wp2_with fail
       refine(HBr.out _).mono ?_
       rintro e w' ⟨rfl,rfl⟩
       go_wp2_with fail
       refine(HTr.out _).mono ?_
       rintro e w' ⟨rfl,rfl⟩
       go_wp2_with (at_builtin;refine wpList_append_own _ rfl _ _ 94 rfl w.heap.size RL i0 (.agg #[.int .i64 0,.string ByteArray.empty,.bool false]) 3 32 Tryz.underlying94 hi1 hz0 hz1 hz2 rfl (by decide) _ _ _ rfl (HP2.out.alloc _) ⟨wr.heap.size,0,none⟩ 1 1 [.int .i64 (i+1:Nat),.string (str (Ip.trim (Ip.zay [] acc))),.bool false] rfl rfl (zmi (by simp) _ _ _ _) (by simp[Value.oneCell']) (by unfold maxLen;omega) (by omega) (by simp;omega) ?_;intro v' w1 hown' hgrow _;obtain⟨a2,c2,rfl⟩:=zac hown')
       go_roundw
       case rel =>
        refine⟨j,P++[⟨i+1,Ip.trim (Ip.zay [] acc),false⟩],rfl,hj,?_,((HO2.out.alloc _).kept hgrow (zck HO2.out HP2.out (by decide))),(HB2.out.alloc HB2.out.size _).grown hgrow (by rw[World.size_alloc];have:=HB2.out.size;omega) (fun k hk=>(HP2.out.lt k hk).1),by rw[List.length_append];simp;omega,?_⟩
        ·rw[List.length_append,zge];exact hown'
        ·have:=HT3.out;rw[HEm.out] at this;rw[List.append_assoc];exact this
       case measure=>simp[intOf];omega
  ·obtain rfl:i=out.length:=by omega
   rw[show (out.map by8).drop out.length=[] from List.drop_of_length_le (by simp)] at hT
   have HL:Hid (P=Ip.zci (by8 s)):=Lib.hid (by rw[←hT];simp[Ip.goA])
   clear hT
   go_wp2_with fail
   go_ret
   exact⟨_,rfl,by rw[←HL.out];exact hp,hB⟩
end Iw
end Go.Proofs.YtgdpbnfgcabneaaGreatDoor
