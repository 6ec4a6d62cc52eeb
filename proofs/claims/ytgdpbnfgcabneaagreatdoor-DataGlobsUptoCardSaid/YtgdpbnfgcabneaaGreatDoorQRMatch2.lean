/- Part of the proof. -/
import Derived.Test.YtgdpbnfgcabneaaGreatDoorQRefDirs
import Derived.Test.YtgdpbnfgcabneaaGreatDoorQPath
import Derived.Deep.RegionHeld3
set_option maxRecDepth 100000
set_option maxHeartbeats 40000000
namespace Go.Proofs.YtgdpbnfgcabneaaGreatDoor
namespace Gm
open Go.RowKit
def PtsRel (B:Nat) (w:World) (s:ByteArray) (v i:Value) (wr:World):Prop :=
 ∃ (k g c:Nat) (out:List ByteArray) (x:ByteArray),i=.int .i64 k∧v=.slice (some ⟨g,0,none⟩) (out.length+1) c∧k≤s.size∧x.size+out.length≤k ∧
  wr.ownsRow B 9 1 (.slice (some ⟨g,0,none⟩) (out.length+1) c) (out.length+1) (strC (out++[x]))∧Below B w wr∧Pt.pieces ((bs s).take k)=out.map bs++[bs x]
theorem pts_slash {B:Nat} {w wr:World} {s x:ByteArray} {k g c:Nat} {out:List ByteArray} {a:Option Addr} (hlt:k<s.size) (h47:s[k]=47) (hx:x.size+out.length≤k) (hp:Pt.pieces ((bs s).take k)=out.map bs++[bs x])
  (ho:wr.ownsRow B 9 1 (.slice a (out.length+1+1) c) (out.length+1+1) (strC (out++[x])++[.string ⟨#[]⟩])) (ha:a=some ⟨g,0,none⟩) (hB:Below B w wr) :
  PtsRel B w s (.slice a (out.length+1+1) c) (.int .i64 ((k:Int)+1)) wr:=by
 subst ha
 refine⟨k+1,g,c,out++[x],⟨#[]⟩,by go_num,by rw[List.length_append,List.length_singleton],hlt,?_,?_,hB,?_⟩
 ·rw[List.length_append,List.length_singleton]
  show 0+(out.length+1)≤k+1
  omega
 ·rw[List.length_append,List.length_singleton,show strC (out++[x]++[⟨#[]⟩])=strC (out++[x])++[.string ⟨#[]⟩] by simp[strC]]
  exact ho
 ·rw[take_snoc' (by rw[zax];exact hlt),zdr _ _ _ _ hp,zsr hlt,if_pos h47,List.map_append,List.append_assoc]
  rfl
theorem pts_byte {B:Nat} {w wr:World} {s x:ByteArray} {k g c:Nat} {out:List ByteArray} (hlt:k<s.size) (h47:¬ s[k]=47) (hx:x.size+out.length≤k) (hp:Pt.pieces ((bs s).take k)=out.map bs++[bs x])
  (ho:wr.ownsRow B 9 1 (.slice (some ⟨g,0,none⟩) (out.length+1) c) (out.length+1) (strC (out++[x]))) (hB:Below B w wr) (hBg:B≤g) :
  PtsRel B w s (.slice (some ⟨g,0,none⟩) (out.length+1) c) (.int .i64 ((k:Int)+1)) (wr.setCell ⟨g,out.length,none⟩ (.string (x++s.extract k (k+1)))):=by
 have h1:=(ho.stored out.length (.string (x++s.extract k (k+1)))).1
 refine⟨k+1,g,c,out,x++s.extract k (k+1),by go_num,rfl,hlt,?_,?_,hB.setCell (p:=⟨g,out.length,none⟩) hBg _,?_⟩
 ·rw[ByteArray.size_append,ByteArray.size_extract];omega
 ·have e:(strC (out++[x])).set out.length (.string (x++s.extract k (k+1)))=strC (out++[x++s.extract k (k+1)]):=by
   simp[strC]
  rw[e] at h1
  exact h1
 ·rw[take_snoc' (by rw[zax];exact hlt),zdr _ _ _ _ hp,zsr hlt,if_neg h47,zpx,bs_one hlt]
theorem PtsRel.drew {B:Nat} {w wr:World} {s:ByteArray} {v i:Value} (h:PtsRel B w s v i wr):PtsRel B w s v i wr.drew:=by
 obtain⟨k,g,c,out,x,a1,a2,a3,a4,a5,a6,a7⟩:=h
 exact⟨k,g,c,out,x,a1,a2,a3,a4,a5,a6.drew,a7⟩
theorem piece_le:∀ (s:Bs),∀ x∈Pt.pieces s,x.length≤s.length
 | [],x,hx=>by
  have:x=[]:=by simpa[Pt.pieces] using hx
  subst this;exact Nat.le_refl _
 | c :: r,x,hx=>by
  have ih:=piece_le r
  rw[Pt.pieces] at hx
  split at hx
  ·rcases List.mem_cons.1 hx with rfl | h
   ·exact Nat.zero_le _
   ·exact Nat.le_succ_of_le (ih x h)
  ·split at hx
   ·rename_i he;exact absurd he (Pt.zfz r)
   ·rename_i y ys he
    rcases List.mem_cons.1 hx with rfl | h
    ·have:=ih y (by rw[he];simp)
     simp;omega
    ·exact Nat.le_succ_of_le (ih x (by rw[he];simp[h]))
theorem pts_le {s:ByteArray} {out:List ByteArray} {x:ByteArray} (h:Pt.pieces (bs s)=out.map bs++[bs x]):∀ y∈out++[x],y.size≤s.size:=by
 intro y hy
 have h1:bs y∈Pt.pieces (bs s):=by
  rw[h,←List.map_singleton,←List.map_append]
  exact List.mem_map_of_mem hy
 have:=piece_le _ _ h1
 rw[zax,zax] at this
 exact this
theorem zfs (w:World) (s:ByteArray) (hs:s.size≤1000000) :
  Calls Tryz.prog 111 #[.string s] w fun e w'=>∃ (out:List ByteArray) (g c:Nat),e=.returned (.slice (some ⟨g,0,none⟩) out.length c)∧out.map bs=Pt.pieces (bs s)∧w'.ownsRow w.heap.size 9 1 (.slice (some ⟨g,0,none⟩) out.length c) out.length (strC out)∧Below w.heap.size w w'∧(∀ x∈out,x.size≤s.size):=by
 obtain⟨i0,hi,hz0,hz1,hz2⟩:=info_parts zjk
 go_enter Tryz.func111,Tryz.ntmps111
 go_wp2
 go_loopw [3,4] (fun v i wr=>PtsRel w.heap.size w s v i wr) (fun _ i _=>s.size - (intOf i).toNat)
 case atStart=>exact⟨0,w.heap.size,1,[],⟨#[]⟩,rfl,rfl,Nat.zero_le _,Nat.le_refl _,World.ownsRow_lit w #[.string ⟨#[]⟩] 1 (Nat.le_refl _) (by decide) rfl,(Below.refl _ _).alloc (Nat.le_refl _) _,rfl⟩
 case round =>
  obtain⟨k,g,c,out,x,rfl,rfl,hk,hx,ho,hB,hp⟩:=hrel
  have hgl:=(ho.lt g rfl)
  by_cases hlt:k<s.size
  ·by_cases h47:s[k]=47
   ·have hb:((s[k].toNat:Int) == 47)=true:=by rw[h47];rfl
    have H47:=Lib.hid h47
    have HP:=Lib.hid hp
    clear h47 hp
    go_wp2_with (at_builtin;refine wpList_append_own _ rfl _ _ 27 rfl w.heap.size 9 i0 (.string ByteArray.empty) 1 16 Tryz.underlying27 hi hz0 hz1 hz2 rfl (by decide) _ _ _ rfl (ho.alloc _) ⟨wr.heap.size,0,none⟩ 1 1 [.string ⟨#[]⟩] rfl rfl (cell_one_new _ _ _) (by simp[Value.oneCell']) (by unfold maxLen;omega) (by omega) (by have:=hB.size;simp;omega) ?_;intro v' w1 hown' hgrow _;obtain⟨a2,c2,rfl⟩:=zac hown')
    go_roundw
    case rel =>
     obtain⟨g2,c3,e2,_,_⟩:=zcl hown' (by omega)
     cases e2
     exact pts_slash hlt H47.out hx HP.out hown' rfl ((hB.alloc hB.size _).grown hgrow (by have:=hB.size;simp;omega) fun j ej=>(ho.lt j ej).1)
    case measure=>simp[intOf]<;>omega
   ·have hb:((s[k].toNat:Int) == 47)=false:=eq_false (b:=47) h47
    have H47:=Lib.hid h47
    have HP:=Lib.hid hp
    clear h47 hp
    have hcell:wr.cell? ⟨g,out.length,none⟩=some (.string x):=by
     rw[ho.cellAt out.length (by omega)];simp[strC]
    have hfz:=ho.frozenAt out.length
    have hwr:IntKind.i64.wrap (((out.length+1:Nat):Int) - 1)=(out.length:Int):=by rw[IntWalk.i64_in _ (by omega)];omega
    have hwr2:IntKind.i64.wrap ((out.length:Int))=(out.length:Int):=by rw[IntWalk.i64_in _ (by omega)]
    have hwr3:IntKind.i64.wrap ((k:Int)+1)=(k:Int)+1:=by rw[IntWalk.i64_in _ (by omega)]
    have hk0:(0:Int)≤(k:Int):=Int.natCast_nonneg _
    have hk1:(0:Int)≤(k:Int)+1:=by omega
    have hk2:(k:Int)+1≤(s.size:Int):=by omega
    have hk3:(k:Int)≤(k:Int)+1:=by omega
    have ho0:(0:Int)≤(out.length:Int):=Int.natCast_nonneg _
    have ho1:(out.length:Int)<(out.length:Int)+1:=by omega
    go_wp2
    go_region
    go_wp2
    go_roundw
    case rel=>exact(pts_byte hlt H47.out hx HP.out ho hB hgl.1).drew
    case measure=>simp[intOf]<;>omega
  ·obtain rfl:k=s.size:=by omega
   rw[List.take_of_length_le (by rw[zax];exact Nat.le_refl _)] at hp
   have HP:=Lib.hid hp
   clear hp
   go_wp2
   go_ret
   exact⟨out++[x],g,c,by rw[List.length_append];rfl,by rw[HP.out,List.map_append];rfl,by rw[List.length_append];exact ho,hB,fun y hy=>pts_le HP.out y hy⟩
def zpd:Gl.Pl→Int
 | .star=>0
 | .any=>1
 | .br _=>2
 | .lit _=>3
def zko:Gl.Pl→Bs
 | .star=>[]
 | .any=>[]
 | .br t=>t
 | .lit c=>[c]
def plC (x:Gl.Pl):List Value:=[.int .i64 (zpd x),.string ⟨(zko x).toArray⟩]
def plsC (l:List Gl.Pl):List Value:=l.flatMap plC
theorem infoP:(Tryz.prog.info? 296).map (fun i=>(i.zero,i.size,i.bytes))=some (some (.agg #[.int .i64 0,.string ByteArray.empty]),2,24):=by kernel_rfl
theorem zac {w:World} {base:Nat} {e:TypeId} {size:Nat} {v:Value} {n:Nat} {xs:List Value} (h:w.ownsRow base e size v n xs):∃ a c,v=.slice a n c:=by
 rcases h.2 with ⟨rfl,rfl⟩ | ⟨g,cap,cur,rfl,_⟩
 ·exact⟨_,_,rfl⟩
 ·exact⟨_,_,rfl⟩
theorem zjc (wr:World) (o:Obj) (x y:Value) (T:TypeId):∀ (j:Nat) (u:Value),[x,y][j]?=some u→((wr.alloc o).alloc (.cells #[x,y] T)).cell? ((⟨wr.heap.size+1,0,none⟩:Addr).add j)=some u:=by
 intro j u hj
 rw[Addr.add_lit,World.cell?_alloc_at _ _ _ _ (by simp)]
 match j,hj with
 | 0,hj=>simpa using hj
 | 1,hj=>simpa using hj
theorem plsC_snoc (l:List Gl.Pl) (x:Gl.Pl):plsC (l++[x])=plsC l++plC x:=by simp[plsC]
theorem zqf {p:ByteArray} {k:Nat} (h:k<p.size):p.extract k (k+1)=⟨[p[k]].toArray⟩:=by
 refine zar ?_
 show (p.extract k (k+1)).data.toList=_
 rw[ByteArray.data_extract,Array.toList_extract,List.extract_eq_take_drop,Nat.add_sub_cancel_left]
 show ((by8 p).drop k).take 1=_
 rw[zbi h];rfl
theorem zvu (p:ByteArray) (k n m:Nat) (hm:m=k+n):p.extract k m=⟨(((by8 p).drop k).take n).toArray⟩:=by
 subst hm
 refine zar ?_
 show (p.extract k (k+n)).data.toList=_
 rw[ByteArray.data_extract,Array.toList_extract,List.extract_eq_take_drop,Nat.add_sub_cancel_left]
 rfl
theorem zdc {p:ByteArray} {k n:Nat} {X:Gl.Pl} (h:k<p.size) (hX:Gl.place ((by8 p).drop k)=X) (hn:Gl.pc ((by8 p).drop k)=n) :
  Gl.places ((by8 p).drop k)=X :: Gl.places ((by8 p).drop (k+n))∧k+n≤p.size∧1≤n:=by
 have hne:(by8 p).drop k≠[]:=by rw[zbi h];simp
 have h1:=Gl.pc_le ((by8 p).drop k)
 have h2:=Gl.zvb hne
 rw[List.length_drop,zab,hn] at h1
 rw[hn] at h2
 exact⟨by rw[Gl.places_cons hne,hX,hn,List.drop_drop],by omega,h2⟩
def PlRel (B:Nat) (w:World) (p:ByteArray) (v i:Value) (wr:World):Prop :=
 ∃ (k:Nat) (out:List Gl.Pl) (a:Option Addr) (c:Nat),i=.int .i64 k∧v=.slice a out.length c∧wr.ownsRow B 296 2 (.slice a out.length c) out.length (plsC out)∧Below B w wr ∧
   k≤p.size∧out++Gl.places ((by8 p).drop k)=Gl.places (by8 p)∧out.length≤k
theorem PlRel.next {B:Nat} {w w1:World} {p:ByteArray} {k n:Nat} {out:List Gl.Pl} {X:Gl.Pl} {K:Int} {T:ByteArray} {a2:Option Addr} {c2:Nat}
  (hcut:out++Gl.places ((by8 p).drop k)=Gl.places (by8 p)) (hlen:out.length≤k)
  (hX:Gl.places ((by8 p).drop k)=X :: Gl.places ((by8 p).drop (k+n))∧k+n≤p.size∧1≤n) (hT:plC X=[.int .i64 K,.string T])
  (ho:w1.ownsRow B 296 2 (.slice a2 (out.length+1) c2) (out.length+1) (plsC out++[.int .i64 K,.string T])) (hB:Below B w w1) :
  PlRel B w p (.slice a2 (out.length+1) c2) (.int .i64 ((k:Int)+(n:Int))) w1 :=
 ⟨k+n,out++[X],a2,c2,by go_num,by rw[List.length_append];rfl,by rw[plsC_snoc,hT,List.length_append];exact ho,hB,hX.2.1,by rw[List.append_assoc,List.singleton_append,←hX.1];exact hcut,by rw[List.length_append];have:=hX.2.2;simp;omega⟩
theorem places_any (w:World) (p:ByteArray) (hs:p.size≤1000000) :
  Calls Tryz.prog 188 #[.string p] w fun e w'=>∃ (a:Option Addr) (c:Nat),e=.returned (.slice a (Gl.places (by8 p)).length c)∧w'.ownsRow w.heap.size 296 2 (.slice a (Gl.places (by8 p)).length c) (Gl.places (by8 p)).length (plsC (Gl.places (by8 p)))∧Below w.heap.size w w'∧(Gl.places (by8 p)).length≤p.size:=by
 obtain⟨i0,hi,hz0,hz1,hz2⟩:=info_parts infoP
 go_enter Tryz.func188,Tryz.ntmps188
 go_wp2
 go_loopw [3,4] (fun v i wr=>PlRel w.heap.size w p v i wr)
  (fun _ i _=>p.size - (intOf i).toNat)
 case atStart=>exact⟨0,[],none,0,rfl,rfl,World.ownsRow_nil _ _ _ _,Below.refl _ _,Nat.zero_le _,rfl,Nat.le_refl _⟩
 case round =>
  obtain⟨k,out,a,c,rfl,rfl,hr,hB,hk,hcut,hlen⟩:=hrel
  by_cases hlt:k<p.size
  ·have HC:=Lib.hid hcut
   have hcons:=zbi hlt
   clear hcut
   by_cases h42:p[k]=42
   ·have hb:((p[k].toNat:Int) == 42)=true:=by rw[h42];rfl
    have HX:=Lib.hid (zdc (X:=.star) (n:=1) hlt (by rw[hcons,h42];rfl) (by rw[hcons,h42];rfl))
    have HP:Hid (plC .star=[.int .i64 0,.string ⟨#[]⟩]):=Lib.hid rfl
    clear h42 hcons
    go_wp2_with (at_builtin;refine wpList_append_own _ rfl _ _ 293 rfl w.heap.size 296 i0 (.agg #[.int .i64 0,.string ByteArray.empty]) 2 24 Tryz.underlying293 hi hz0 hz1 hz2 rfl (by decide) _ _ _ rfl ((hr.alloc _).alloc _) ⟨wr.heap.size+1,0,none⟩ 1 1 [.int .i64 0,.string ⟨#[]⟩] rfl rfl (zjc _ _ _ _ _) (by simp[Value.oneCell']) (by unfold maxLen;omega) (by omega) (by have:=hB.size;simp;omega) ?_;intro v' w1 hown' hgrow _;obtain⟨a2,c2,rfl⟩:=zac hown')
    go_roundw
    case rel=>exact PlRel.next HC.out hlen HX.out HP.out hown' (((hB.alloc hB.size _).alloc (by have:=hB.size;simp;omega) _).grown hgrow (by have:=hB.size;simp;omega) fun j ej=>(hr.lt j ej).1)
    case measure=>have:=HX.out.2;simp[intOf]<;>omega
   ·have hb:((p[k].toNat:Int) == 42)=false:=eq_false (b:=42) h42
    by_cases h63:p[k]=63
    ·have hb2:((p[k].toNat:Int) == 63)=true:=by rw[h63];rfl
     have HX:=Lib.hid (zdc (X:=.any) (n:=1) hlt (by rw[hcons,h63];rfl) (by rw[hcons,h63];rfl))
     have HP:Hid (plC .any=[.int .i64 1,.string ⟨#[]⟩]):=Lib.hid rfl
     clear h42 h63 hcons
     go_wp2_with (at_builtin;refine wpList_append_own _ rfl _ _ 293 rfl w.heap.size 296 i0 (.agg #[.int .i64 0,.string ByteArray.empty]) 2 24 Tryz.underlying293 hi hz0 hz1 hz2 rfl (by decide) _ _ _ rfl ((hr.alloc _).alloc _) ⟨wr.heap.size+1,0,none⟩ 1 1 [.int .i64 1,.string ⟨#[]⟩] rfl rfl (zjc _ _ _ _ _) (by simp[Value.oneCell']) (by unfold maxLen;omega) (by omega) (by have:=hB.size;simp;omega) ?_;intro v' w1 hown' hgrow _;obtain⟨a2,c2,rfl⟩:=zac hown')
     go_roundw
     case rel=>exact PlRel.next HC.out hlen HX.out HP.out hown' (((hB.alloc hB.size _).alloc (by have:=hB.size;simp;omega) _).grown hgrow (by have:=hB.size;simp;omega) fun j ej=>(hr.lt j ej).1)
     case measure=>have:=HX.out.2;simp[intOf]<;>omega
    ·have hb2:((p[k].toNat:Int) == 63)=false:=eq_false (b:=63) h63
     by_cases h91:p[k]=91
     ·have hb3:((p[k].toNat:Int) == 91)=true:=by rw[h91];rfl
      have hend:=Lib.hid (zxb wr (p.extract (k+1) p.size) (by rw[ByteArray.size_extract];omega))
      cases he:Gl.zdg ((by8 p).drop (k+1)) with
      | none =>
       have HV:Hid (endI (by8 (p.extract (k+1) p.size))=-1):=Lib.hid (by rw[zbs];unfold endI;rw[he])
       have HX:=Lib.hid (zdc (X:=.lit 91) (n:=1) hlt (by rw[hcons,h91,Gl.zdv,he];rfl) (by rw[hcons,h91,Gl.zex,he];rfl))
       have HP:Hid (plC (.lit 91)=[.int .i64 3,.string (p.extract k (k+1))]):=Lib.hid (by rw[zqf hlt,h91];rfl)
       clear h42 h63 h91 hcons he
       go_wp2_with (first
        | (go_at_call 257;go_must (refine(zxb _ (p.extract (k+1) p.size) (by rw[ByteArray.size_extract];omega)).mono ?_);rw[HV.out];rintro e w' ⟨rfl,rfl⟩)
        | (at_builtin;refine wpList_append_own _ rfl _ _ 293 rfl w.heap.size 296 i0 (.agg #[.int .i64 0,.string ByteArray.empty]) 2 24 Tryz.underlying293 hi hz0 hz1 hz2 rfl (by decide) _ _ _ rfl ((hr.alloc _).alloc _) ⟨wr.heap.size+1,0,none⟩ 1 1 [.int .i64 3,.string (p.extract k (k+1))] rfl rfl (zjc _ _ _ _ _) (by simp[Value.oneCell']) (by unfold maxLen;omega) (by omega) (by have:=hB.size;simp;omega) ?_;intro v' w1 hown' hgrow _;obtain⟨a2,c2,rfl⟩:=zac hown'))
       go_roundw
       case rel=>exact PlRel.next HC.out hlen HX.out HP.out hown' (((hB.alloc hB.size _).alloc (by have:=hB.size;simp;omega) _).grown hgrow (by have:=hB.size;simp;omega) fun j ej=>(hr.lt j ej).1)
       case measure=>have:=HX.out.2;simp[intOf]<;>omega
      | some j =>
       have HV:Hid (endI (by8 (p.extract (k+1) p.size))=(j:Int)):=Lib.hid (by rw[zbs];unfold endI;rw[he])
       have HX:=Lib.hid (zdc (X:=.br (((by8 p).drop (k+1)).take j)) (n:=j+2) hlt (by rw[hcons,h91,Gl.zdv,he];rfl) (by rw[hcons,h91,Gl.zex,he];rfl))
       have HP:Hid (plC (.br (((by8 p).drop (k+1)).take j))=[.int .i64 2,.string (p.extract (k+1) (k+1+j))]):=Lib.hid (by rw[zvu p (k+1) j _ rfl];rfl)
       have hjk:=HX.out.2.1
       clear h42 h63 h91 hcons he
       go_wp2_with (first
        | (go_at_call 257;go_must (refine(zxb _ (p.extract (k+1) p.size) (by rw[ByteArray.size_extract];omega)).mono ?_);rw[HV.out];rintro e w' ⟨rfl,rfl⟩)
        | (at_builtin;refine wpList_append_own _ rfl _ _ 293 rfl w.heap.size 296 i0 (.agg #[.int .i64 0,.string ByteArray.empty]) 2 24 Tryz.underlying293 hi hz0 hz1 hz2 rfl (by decide) _ _ _ rfl ((hr.alloc _).alloc _) ⟨wr.heap.size+1,0,none⟩ 1 1 [.int .i64 2,.string (p.extract (k+1) (k+1+j))] rfl rfl (zjc _ _ _ _ _) (by simp[Value.oneCell']) (by unfold maxLen;omega) (by omega) (by have:=hB.size;simp;omega) ?_;intro v' w1 hown' hgrow _;obtain⟨a2,c2,rfl⟩:=zac hown'))
       go_roundw
       case rel=>exact PlRel.next HC.out hlen HX.out HP.out hown' (((hB.alloc hB.size _).alloc (by have:=hB.size;simp;omega) _).grown hgrow (by have:=hB.size;simp;omega) fun j ej=>(hr.lt j ej).1)
       case measure=>have:=HX.out.2;simp[intOf]<;>omega
     ·have hb3:((p[k].toNat:Int) == 91)=false:=eq_false (b:=91) h91
      by_cases h92:p[k]=92
      ·have hb4:((p[k].toNat:Int) == 92)=true:=by rw[h92];rfl
       by_cases h1:k+1<p.size
       ·have HX:=Lib.hid (zdc (X:=.lit p[k+1]) (n:=2) hlt (by rw[hcons,h92,Gl.zdv,zbi h1];rfl) (by rw[hcons,h92,Gl.zex,zbi h1];rfl))
        have HP:Hid (plC (.lit p[k+1])=[.int .i64 3,.string (p.extract (k+1) (k+2))]):=Lib.hid (by rw[zqf h1];rfl)
        clear h42 h63 h91 h92 hcons
        go_wp2_with (at_builtin;refine wpList_append_own _ rfl _ _ 293 rfl w.heap.size 296 i0 (.agg #[.int .i64 0,.string ByteArray.empty]) 2 24 Tryz.underlying293 hi hz0 hz1 hz2 rfl (by decide) _ _ _ rfl ((hr.alloc _).alloc _) ⟨wr.heap.size+1,0,none⟩ 1 1 [.int .i64 3,.string (p.extract (k+1) (k+2))] rfl rfl (zjc _ _ _ _ _) (by simp[Value.oneCell']) (by unfold maxLen;omega) (by omega) (by have:=hB.size;simp;omega) ?_;intro v' w1 hown' hgrow _;obtain⟨a2,c2,rfl⟩:=zac hown')
        go_roundw
        case rel=>exact PlRel.next HC.out hlen HX.out HP.out hown' (((hB.alloc hB.size _).alloc (by have:=hB.size;simp;omega) _).grown hgrow (by have:=hB.size;simp;omega) fun j ej=>(hr.lt j ej).1)
        case measure=>have:=HX.out.2;simp[intOf]<;>omega
       ·have HX:=Lib.hid (zdc (X:=.lit 92) (n:=1) hlt (by rw[hcons,h92,Gl.zdv,List.drop_of_length_le (by rw[zab];omega)];rfl) (by rw[hcons,h92,Gl.zex,List.drop_of_length_le (by rw[zab];omega)];rfl))
        have HP:Hid (plC (.lit 92)=[.int .i64 3,.string (p.extract k (k+1))]):=Lib.hid (by rw[zqf hlt,h92];rfl)
        clear h42 h63 h91 h92 hcons
        go_wp2_with (at_builtin;refine wpList_append_own _ rfl _ _ 293 rfl w.heap.size 296 i0 (.agg #[.int .i64 0,.string ByteArray.empty]) 2 24 Tryz.underlying293 hi hz0 hz1 hz2 rfl (by decide) _ _ _ rfl ((hr.alloc _).alloc _) ⟨wr.heap.size+1,0,none⟩ 1 1 [.int .i64 3,.string (p.extract k (k+1))] rfl rfl (zjc _ _ _ _ _) (by simp[Value.oneCell']) (by unfold maxLen;omega) (by omega) (by have:=hB.size;simp;omega) ?_;intro v' w1 hown' hgrow _;obtain⟨a2,c2,rfl⟩:=zac hown')
        go_roundw
        case rel=>exact PlRel.next HC.out hlen HX.out HP.out hown' (((hB.alloc hB.size _).alloc (by have:=hB.size;simp;omega) _).grown hgrow (by have:=hB.size;simp;omega) fun j ej=>(hr.lt j ej).1)
        case measure=>have:=HX.out.2;simp[intOf]<;>omega
      ·have hb4:((p[k].toNat:Int) == 92)=false:=eq_false (b:=92) h92
       have HX:=Lib.hid (zdc (X:=.lit p[k]) (n:=1) hlt (by rw[hcons,Gl.zdv,if_neg h42,if_neg h63,if_neg h91,if_neg h92]) (by rw[hcons,Gl.zex,if_neg h91,if_neg h92]))
       have HP:Hid (plC (.lit p[k])=[.int .i64 3,.string (p.extract k (k+1))]):=Lib.hid (by rw[zqf hlt];rfl)
       clear h42 h63 h91 h92 hcons
       go_wp2_with (at_builtin;refine wpList_append_own _ rfl _ _ 293 rfl w.heap.size 296 i0 (.agg #[.int .i64 0,.string ByteArray.empty]) 2 24 Tryz.underlying293 hi hz0 hz1 hz2 rfl (by decide) _ _ _ rfl ((hr.alloc _).alloc _) ⟨wr.heap.size+1,0,none⟩ 1 1 [.int .i64 3,.string (p.extract k (k+1))] rfl rfl (zjc _ _ _ _ _) (by simp[Value.oneCell']) (by unfold maxLen;omega) (by omega) (by have:=hB.size;simp;omega) ?_;intro v' w1 hown' hgrow _;obtain⟨a2,c2,rfl⟩:=zac hown')
       go_roundw
       case rel=>exact PlRel.next HC.out hlen HX.out HP.out hown' (((hB.alloc hB.size _).alloc (by have:=hB.size;simp;omega) _).grown hgrow (by have:=hB.size;simp;omega) fun j ej=>(hr.lt j ej).1)
       case measure=>have:=HX.out.2;simp[intOf]<;>omega
  ·obtain rfl:k=p.size:=by omega
   rw[List.drop_of_length_le (by rw[zab];exact Nat.le_refl _),Gl.zgb,List.append_nil] at hcut
   subst hcut
   go_wp2
   go_ret
   exact⟨a,c,rfl,hr,hB,hlen⟩
theorem stands_any (w:World) (x:Gl.Pl) (K:Int) (T:ByteArray) (c:UInt8) (hK:Hid (K=zpd x)) (hT:Hid (by8 T=zko x)) (hs:T.size≤1000000) (hst:Gl.zcb x=false) :
  Calls Tryz.prog 189 #[.agg #[.int .i64 K,.string T],.int .u8 (c.toNat:Int)] w fun e w'=>e=.returned (.bool (Gl.stands x c))∧w'=w.alloc (.cells #[.int .i64 K,.string T] 296):=by
 cases x with
 | star=>cases hst
 | any =>
  obtain rfl:K=1:=hK.out
  go_enter Tryz.func189,Tryz.ntmps189
  go_wp2
  go_ret
  exact⟨rfl,rfl⟩
 | br t =>
  obtain rfl:K=2:=hK.out
  have HW:Hid (Gl.within (by8 T) c=Gl.stands (.br t) c):=Lib.hid (by rw[hT.out];rfl)
  go_enter Tryz.func189,Tryz.ntmps189
  go_wp2_with (go_at_call 258;go_must (refine(within_any _ T c hs).mono ?_);rw[HW.out];rintro e w' ⟨rfl,rfl⟩)
  go_ret
  exact⟨rfl,rfl⟩
 | lit d =>
  obtain rfl:K=3:=hK.out
  have h0:0<T.size:=by rw[←zab,hT.out];exact Nat.zero_lt_one
  have hd:T[0]=d:=by
   have:=zcc h0
   rw[hT.out] at this
   exact(Option.some.inj this).symm
  by_cases hc:d=c
  ·have hb:=eq_true (hd.trans hc)
   have HS:Hid (Gl.stands (.lit d) c=true):=Lib.hid (by show (d == c)=true;rw[hc];exact beq_self_eq_true _)
   clear hd hc
   go_enter Tryz.func189,Tryz.ntmps189
   go_wp2
   go_ret
   exact⟨zao HS.out.symm,rfl⟩
  ·have hb:=eq_false (fun e=>hc (hd.symm.trans e))
   have HS:Hid (Gl.stands (.lit d) c=false):=Lib.hid (beq_eq_false_iff_ne.2 hc)
   clear hd hc
   go_enter Tryz.func189,Tryz.ntmps189
   go_wp2
   go_ret
   exact⟨zao HS.out.symm,rfl⟩
def bl (f:Nat→Bool) (m:Nat):List Value:=(List.range m).map fun k=>.bool (f k)
theorem bl_len (f:Nat→Bool) (m:Nat):(bl f m).length=m:=by simp[bl]
theorem zjq {f:Nat→Bool} {m k:Nat} (h:k<m):(bl f m)[k]?=some (.bool (f k)):=by
 rw[bl,List.getElem?_map,List.getElem?_range h];rfl
theorem bl_set (f:Nat→Bool) (m k:Nat) (b:Bool):(bl f m).set k (.bool b)=bl (fun j=>if j=k then b else f j) m:=by
 apply List.ext_getElem?
 intro j
 by_cases hj:j<m
 ·rw[List.getElem?_set,zjq hj,zjq hj,bl_len]
  by_cases e:k=j
  ·subst e;simp[hj]
  ·rw[if_neg e,if_neg (fun h=>e h.symm)]
 ·rw[List.getElem?_eq_none_iff.2 (by simp[bl];omega),List.getElem?_eq_none_iff.2 (by simp[bl];omega)]
theorem zme {f g:Nat→Bool} {m:Nat} (h:∀ j,j<m→f j=g j):bl f m=bl g m:=by
 apply List.map_congr_left
 intro j hj
 rw[h j (List.mem_range.1 hj)]
theorem bl_made (n:Nat):(madeCells (Value.bool false).cells (n * 1)).toList=bl (fun _=>false) n:=by
 show (madeCells #[Value.bool false] (n * 1)).toList=_
 rw[toList_madeCells_one,Nat.mul_one]
 apply List.ext_getElem?
 intro j
 by_cases hj:j<n
 ·rw[zjq hj,List.getElem?_replicate,if_pos hj]
 ·rw[List.getElem?_eq_none_iff.2 (by simp;omega),List.getElem?_eq_none_iff.2 (by simp[bl];omega)]
def upTo (k:Nat) (f:Nat→Bool):Nat→Bool:=fun j=>decide (j<k) && f j
theorem upTo_set (f:Nat→Bool) (m k:Nat):(bl (upTo k f) m).set k (.bool (f k))=bl (upTo (k+1) f) m:=by
 rw[bl_set]
 apply zme
 intro j _
 unfold upTo
 by_cases e:j=k
 ·subst e;simp
 ·rw[if_neg e]
  congr 1
  rw[Bool.eq_iff_iff,decide_eq_true_iff,decide_eq_true_iff];omega
theorem upTo_skip (f:Nat→Bool) (m k:Nat) (h:f k=false):bl (upTo k f) m=bl (upTo (k+1) f) m:=by
 apply zme
 intro j _
 unfold upTo
 by_cases e:j=k
 ·subst e;rw[h,Bool.and_false,Bool.and_false]
 ·congr 1
  rw[Bool.eq_iff_iff,decide_eq_true_iff,decide_eq_true_iff];omega
theorem upTo_all (f:Nat→Bool) (m:Nat):bl (upTo m f) m=bl f m:=by
 apply zme
 intro j hj
 unfold upTo
 rw[decide_eq_true hj];rfl
theorem infoB:(Tryz.prog.info? 4).map (fun i=>(i.zero,i.size,i.bytes))=some (some (.bool false),1,1):=by kernel_rfl
abbrev start:Nat→Bool:=fun k=>k == 0
theorem rows_take (s:Bs) (L:List Gl.Pl) (k:Nat) (h:k<L.length):Gl.rows s (L.take (k+1)) start=Gl.nxt L[k] s (Gl.rows s (L.take k) start):=by
 unfold Gl.rows
 rw[List.take_succ_eq_append_getElem h,List.foldl_append];rfl
theorem plsC_at:∀ (L:List Gl.Pl) (k:Nat) (h:k<L.length),(plsC L)[k * 2]?=some (.int .i64 (zpd L[k]))∧(plsC L)[k * 2+1]?=some (.string ⟨(zko L[k]).toArray⟩)
 | x :: L,0,_=>⟨rfl,rfl⟩
 | x :: L,k+1,h=>by
  have ih:=plsC_at L k (by simpa using h)
  have e:plsC (x :: L)=.int .i64 (zpd x) :: .string ⟨(zko x).toArray⟩ :: plsC L:=rfl
  rw[e,show (k+1) * 2=k * 2+1+1 by omega,List.getElem?_cons_succ,List.getElem?_cons_succ,List.getElem?_cons_succ,List.getElem?_cons_succ]
  exact ih
theorem zcl {w:World} {base:Nat} {e:TypeId} {size:Nat} {v:Value} {n:Nat} {xs:List Value} (h:w.ownsRow base e size v n xs) (hn:0<n):∃ g c,v=.slice (some ⟨g,0,none⟩) n c∧n≤c∧c≤maxLen:=by
 rcases h.2 with ⟨_,h0⟩ | ⟨g,cap,cur,rfl,_,_,h1,h2,_⟩
 ·omega
 ·exact⟨g,cap,rfl,h1,h2⟩
theorem zhz {w w':World} {base:Nat} {e:TypeId} {size:Nat} {v:Value} {n:Nat} {xs:List Value} {row:Option Nat} (h:w.ownsRow base e size v n xs) (hg:w.grownBy w' row) (hne:∀ g,v.ownBlock=some g→row≠some g):w'.ownsRow base e size v n xs:=by
 refine h.kept hg ?_
 cases hv:v.ownBlock with
 | none=>exact .inl rfl
 | some g=>exact .inr (fun e=>hne g hv e.symm)
theorem bl_start (n:Nat):(bl (fun _=>false) n).set 0 (.bool true)=bl start n:=by
 rw[bl_set]
 apply zme
 intro j _
 cases j<;>rfl
theorem text_le:∀ (n:Nat) (t:Bs),t.length≤n→∀ x∈Gl.places t,(zko x).length≤n
 | 0,t,h,x,hx=>by
  have:t=[]:=List.length_eq_zero_iff.1 (by omega)
  subst this
  rw[Gl.zgb] at hx;cases hx
 | n+1,t,h,x,hx=>by
  by_cases ht:t=[]
  ·subst ht;rw[Gl.zgb] at hx;cases hx
  ·rw[Gl.places_cons ht] at hx
   rcases List.mem_cons.1 hx with rfl | hx
   ·cases t with
    | nil=>exact absurd rfl ht
    | cons c u =>
     rw[List.length_cons] at h
     rw[Gl.zdv]
     split
     ·exact Nat.zero_le _
     ·split
      ·exact Nat.zero_le _
      ·split
       ·cases Gl.zdg u with
        | none=>show 1≤n+1;omega
        | some k=>show (u.take k).length≤n+1;rw[List.length_take];omega
       ·split
        ·show 1≤n+1;omega
        ·show 1≤n+1;omega
   ·have hp:=Gl.zvb ht
    have:=text_le n (t.drop (Gl.pc t)) (by rw[List.length_drop];omega) x hx
    omega
def MRel (B n:Nat) (w:World) (s:Bs) (L:List Gl.Pl) (lv:Value) (ok i:Value) (wr:World):Prop :=
 ∃ k g:Nat,i=.int .i64 k∧ok=.slice (some ⟨g,0,none⟩) (n+1) (n+1)∧k≤L.length ∧
  wr.ownsRow B 4 1 (.slice (some ⟨g,0,none⟩) (n+1) (n+1)) (n+1) (bl (Gl.rows s (L.take k) start) (n+1))∧wr.ownsRow B 296 2 lv L.length (plsC L)∧Below B w wr
def IRel (B n:Nat) (w:World) (h g:Nat) (f nx:Nat→Bool) (L:List Gl.Pl) (lv:Value) (kk:Value) (wx:World):Prop :=
 ∃ m:Nat,kk=.int .i64 m∧m≤n+1∧wx.ownsRow B 4 1 (.slice (some ⟨h,0,none⟩) (n+1) (n+1)) (n+1) (bl (upTo m nx) (n+1)) ∧
  wx.ownsRow B 4 1 (.slice (some ⟨g,0,none⟩) (n+1) (n+1)) (n+1) (bl f (n+1))∧wx.ownsRow B 296 2 lv L.length (plsC L)∧Below B w wx
theorem IRel.store {B n:Nat} {w wx:World} {h g gl m c:Nat} {f nx:Nat→Bool} {L:List Gl.Pl} {b:Bool} (hgh:g<h) (hlh:gl<h) (hBh:B≤h) (hm:m≤n)
  (hn1:wx.ownsRow B 4 1 (.slice (some ⟨h,0,none⟩) (n+1) (n+1)) (n+1) (bl (upTo m nx) (n+1)))
  (ho1:wx.ownsRow B 4 1 (.slice (some ⟨g,0,none⟩) (n+1) (n+1)) (n+1) (bl f (n+1))) (hl1:wx.ownsRow B 296 2 (.slice (some ⟨gl,0,none⟩) L.length c) L.length (plsC L)) (hB:Below B w wx) (hb:nx m=b) :
  IRel B n w h g f nx L (.slice (some ⟨gl,0,none⟩) L.length c) (.int .i64 ((m:Int)+1)) (wx.setCell ⟨h,m,none⟩ (.bool b)):=by
 obtain⟨s1,s2⟩:=hn1.stored m (.bool b)
 rw[←hb,upTo_set] at s1
 rw[←hb] at s2 ⊢
 refine⟨m+1,by go_num,by omega,s1,zhz ho1 s2 ?_,zhz hl1 s2 ?_,hB.setCell (p:=⟨h,m,none⟩) hBh _⟩
 ·intro j hj e
  have:g=j:=Option.some.inj hj
  have:h=j:=Option.some.inj e
  omega
 ·intro j hj e
  have:gl=j:=Option.some.inj hj
  have:h=j:=Option.some.inj e
  omega
theorem IRel.alloc {B n:Nat} {w wx:World} {h g:Nat} {f nx:Nat→Bool} {L:List Gl.Pl} {lv kk:Value} (hr:IRel B n w h g f nx L lv kk wx) (hB:B≤wx.heap.size) (o:Obj):IRel B n w h g f nx L lv kk (wx.alloc o):=by
 obtain⟨m,a,b,c,d,e,f⟩:=hr
 exact⟨m,a,b,c.alloc o,d.alloc o,e.alloc o,f.alloc hB o⟩
theorem IRel.drew {B n:Nat} {w wx:World} {h g:Nat} {f nx:Nat→Bool} {L:List Gl.Pl} {lv kk:Value} (hr:IRel B n w h g f nx L lv kk wx):IRel B n w h g f nx L lv kk wx.drew:=by
 obtain⟨m,a,b,c,d,e,f⟩:=hr
 exact⟨m,a,b,c,d,e,f.drew⟩
theorem IRel.skip {B n:Nat} {w wx:World} {h g m:Nat} {f nx:Nat→Bool} {L:List Gl.Pl} {lv:Value} (hm:m≤n)
  (hn1:wx.ownsRow B 4 1 (.slice (some ⟨h,0,none⟩) (n+1) (n+1)) (n+1) (bl (upTo m nx) (n+1)))
  (ho1:wx.ownsRow B 4 1 (.slice (some ⟨g,0,none⟩) (n+1) (n+1)) (n+1) (bl f (n+1))) (hl1:wx.ownsRow B 296 2 lv L.length (plsC L)) (hB:Below B w wx) (hb:nx m=false) :
  IRel B n w h g f nx L lv (.int .i64 ((m:Int)+1)) wx :=
 ⟨m+1,by go_num,by omega,by rw[←upTo_skip _ _ _ hb];exact hn1,ho1,hl1,hB⟩
theorem kind_no {X:Gl.Pl} (h:Gl.zcb X=false):((zpd X:Int) == 0)=false:=by
 cases X with
 | star=>cases h
 | any=>rfl
 | br t=>rfl
 | lit c=>rfl
theorem kind_star {X:Gl.Pl} (h:Gl.zcb X=true):zpd X=0:=by
 cases X with
 | star=>rfl
 | any=>cases h
 | br t=>cases h
 | lit c=>cases h
theorem RMatch_any (w:World) (p s:ByteArray) (hp:p.size≤1000000) (hs:s.size≤1000000) :
  Calls Tryz.prog 112 #[.string p,.string s] w fun e w'=>e=.returned (.bool (Gl.zei (by8 p) (by8 s)))∧Below w.heap.size w w':=by
 obtain⟨i0,hi,hz0,hz1,hz2⟩:=info_parts infoB
 go_enter Tryz.func112,Tryz.ntmps112
 go_wp2_with fail
 refine(places_any w p hp).mono ?_
 rintro e w1 ⟨la,lc,rfl,hL,hB1,hLn⟩
 have HM:Hid (Gl.rows (by8 s) (Gl.places (by8 p)) start (by8 s).length=Gl.zei (by8 p) (by8 s)):=Lib.hid (Gl.rows_match _ _)
 have HTX:Hid (∀ x∈Gl.places (by8 p),(zko x).length≤p.size):=Lib.hid (text_le _ _ (by rw[zab];exact Nat.le_refl _))
 generalize Gl.places (by8 p)=L at *
 go_wp2_with (at_make;refine wpList_make_full _ rfl _ _ 262 rfl w.heap.size 4 i0 (.bool false) 1 Tryz.underlying262 hi hz0 hz1 _ _ _ _ (s.size+1) rfl rfl (by push_cast;rfl) (by push_cast;rfl) (by rw[hz2];omega) (by unfold maxLen;omega) hB1.size ?_;intro w2 ho hg2;rw[bl_made] at ho;have hc0:w2.cell? ⟨w1.heap.size,0,none⟩=some (.bool false):=(by rw[ho.cellAt 0 (by omega),zjq (by omega)]);have hf0:=ho.frozenAt 0)
 have hL2:=zhz hL hg2 (fun g _=>by simp)
 have hst:=ho.stored 0 (.bool true)
 have hrow:=hst.1
 rw[bl_start] at hrow
 have hL3:=zhz hL2 hst.2 (fun g hg=>by have:=(hL.lt g hg).2;simp;omega)
 have hB2:Below w.heap.size w (w2.setCell ⟨w1.heap.size,0,none⟩ (.bool true)):=((hB1.grown hg2 hB1.size (fun j e=>by cases e)).setCell (p:=⟨w1.heap.size,0,none⟩) hB1.size _)
 have HC0:=Lib.hid hc0
 have HF0:=Lib.hid hf0
 clear hL hL2 hst ho hg2 hc0 hf0
 go_loopw [6,7] (fun ok i wr=>MRel w.heap.size s.size w (by8 s) L (.slice la L.length lc) ok i wr) (fun _ i _=>L.length - (intOf i).toNat)
 case atStart=>exact⟨0,w1.heap.size,rfl,rfl,Nat.zero_le _,hrow,hL3,hB2⟩
 case round =>
  obtain⟨k,g,rfl,rfl,hk,ho,hl,hB⟩:=hrel
  by_cases hlt:k<L.length
  ·obtain⟨gl,c2,e2,_,_⟩:=zcl hl (by omega)
   cases e2
   have hlg:=(hl.lt gl rfl).2
   have hgg:=(ho.lt g rfl).2
   obtain⟨wo,rfl⟩:∃ wo:World,wo=wr:=⟨_,rfl⟩
   have hX:=plsC_at L k hlt
   have HR:=Lib.hid (rows_take (by8 s) L k hlt)
   have htx:=HTX.out L[k] (List.getElem_mem hlt)
   generalize hx:L[k]=X at hX HR htx
   generalize hf:Gl.rows (by8 s) (L.take k) start=f at ho HR
   have hKs:zko X=[]∨True:=.inr trivial
   clear hx hf hKs
   have HX:=Lib.hid hX
   clear hX
   go_wp2_with (at_make;refine wpList_make_full _ rfl _ _ 262 rfl w.heap.size 4 i0 (.bool false) 1 Tryz.underlying262 hi hz0 hz1 _ _ _ _ (s.size+1) rfl rfl (by push_cast;rfl) (by push_cast;rfl) (by rw[hz2];omega) (by unfold maxLen;omega) hB.size ?_;intro w3 hn hg3;rw[bl_made] at hn)
   go_loopw [9] (fun kk wx=>IRel w.heap.size s.size w wo.heap.size g f (Gl.nxt X (by8 s) f) L (.slice (some ⟨gl,0,none⟩) L.length lc) kk wx) (fun kk _=>s.size+1 - (intOf kk).toNat)
   case atStart=>exact⟨0,rfl,Nat.zero_le _,hn,zhz ho hg3 (fun _ _=>by simp),zhz hl hg3 (fun _ _=>by simp),hB.grown hg3 hB.size (fun j e=>by cases e)⟩
   case round =>
    obtain⟨m,rfl,hm,hn1,ho1,hl1,hBx⟩:=hrel
    by_cases hlm:m≤s.size
    ·have k0:wr.cell? ⟨gl,k * 2,none⟩=some (.int .i64 (zpd X)):=by rw[hl1.cellAt (k * 2) (by omega)];exact HX.out.1
     have k1:wr.cell? ⟨gl,k * 2+1,none⟩=some (.string ⟨(zko X).toArray⟩):=by rw[hl1.cellAt (k * 2+1) (by omega)];exact HX.out.2
     have c0:wr.cell? ⟨g,m,none⟩=some (.bool (f m)):=by rw[ho1.cellAt m (by omega),zjq (by omega)]
     have n0:wr.cell? ⟨wo.heap.size,m,none⟩=some (.bool (upTo m (Gl.nxt X (by8 s) f) m)):=by rw[hn1.cellAt m (by omega),zjq (by omega)]
     have nf:=hn1.frozenAt m
     cases hst:Gl.zcb X with
     | true =>
      rw[kind_star hst] at k0
      have HO:=Lib.hid ho1
      have HL:=Lib.hid hl1
      have HN:=Lib.hid hn1
      cases m with
      | zero =>
       have hnx:Hid (Gl.nxt X (by8 s) f 0=f 0):=Lib.hid (by simp[Gl.nxt,hst])
       have HST:=Lib.hid hst
       clear hst hn1 ho1 hl1 k1
       cases hf0:f 0 with
       | true =>
        rw[hf0] at c0
        have HB:=Lib.hid (hnx.out.trans hf0)
        clear hf0
        go_wp2
        go_roundw
        case rel=>exact IRel.store hgg hlg hB.size hlm HN.out HO.out HL.out hBx HB.out
        case measure=>simp[intOf]<;>omega
       | false =>
        rw[hf0] at c0
        have HB:=Lib.hid (hnx.out.trans hf0)
        clear hf0
        go_wp2
        go_roundw
        case rel=>exact IRel.store hgg hlg hB.size hlm HN.out HO.out HL.out hBx HB.out
        case measure=>simp[intOf]<;>omega
      | succ j =>
       have p0:wr.cell? ⟨wo.heap.size,j,none⟩=some (.bool (Gl.nxt X (by8 s) f j)):=by
        rw[hn1.cellAt j (by omega),zjq (by omega)]
        simp[upTo]
       have hnx:Hid (Gl.nxt X (by8 s) f (j+1)=(f (j+1) || Gl.nxt X (by8 s) f j)):=Lib.hid (by simp[Gl.nxt,hst])
       have HST:=Lib.hid hst
       clear hst hn1 ho1 hl1 k1
       cases hf0:f (j+1) with
       | true =>
        rw[hf0] at c0
        have HB:Hid (Gl.nxt X (by8 s) f (j+1)=true):=Lib.hid (by rw[hnx.out,hf0];rfl)
        clear hf0
        go_wp2
        go_roundw
        case rel=>exact IRel.store hgg hlg hB.size hlm HN.out HO.out HL.out hBx HB.out
        case measure=>simp[intOf]<;>omega
       | false =>
        rw[hf0] at c0
        obtain⟨b,hb⟩:∃ b,Hid (Gl.nxt X (by8 s) f j=b):=⟨_,Lib.hid rfl⟩
        rw[hb.out] at p0
        have HB:Hid (Gl.nxt X (by8 s) f (j+1)=b):=Lib.hid (by rw[hnx.out,hf0,hb.out];rfl)
        clear hf0
        go_wp2
        go_roundw
        case rel=>exact IRel.store hgg hlg hB.size hlm HN.out HO.out HL.out hBx HB.out
        case measure=>simp[intOf]<;>omega
     | false =>
      have hk:=kind_no hst
      have HO:=Lib.hid ho1
      have HL:=Lib.hid hl1
      have HN:=Lib.hid hn1
      cases m with
      | zero =>
       have HB:Hid (Gl.nxt X (by8 s) f 0=false):=Lib.hid (by simp[Gl.nxt,hst])
       clear hst hn1 ho1 hl1 k1
       go_wp2
       go_roundw
       case rel=>exact IRel.skip hlm HN.out HO.out HL.out hBx HB.out
       case measure=>simp[intOf]<;>omega
      | succ j =>
       have hnlt:=(hn1.lt wo.heap.size rfl).2
       have hj:j<s.size:=by omega
       have q0:wr.cell? ⟨g,j,none⟩=some (.bool (f j)):=by rw[ho1.cellAt j (by omega),zjq (by omega)]
       have hnx:Hid (Gl.nxt X (by8 s) f (j+1)=(f j && Gl.stands X s[j])):=Lib.hid (by
        simp only [Gl.nxt,hst,Bool.false_eq_true,if_false,zcc hj,Option.getD_some])
       have HST:=Lib.hid hst
       clear hst hn1 ho1 hl1 c0
       cases hf0:f j with
       | false =>
        rw[hf0] at q0
        have HB:Hid (Gl.nxt X (by8 s) f (j+1)=false):=Lib.hid (by rw[hnx.out,hf0];rfl)
        clear hf0
        go_wp2
        go_roundw
        case rel=>exact IRel.skip hlm HN.out HO.out HL.out hBx HB.out
        case measure=>simp[intOf]<;>omega
       | true =>
        rw[hf0] at q0
        have HB:Hid (Gl.nxt X (by8 s) f (j+1)=Gl.stands X s[j]):=Lib.hid (by rw[hnx.out,hf0];rfl)
        clear hf0
        have hts:(⟨(zko X).toArray⟩:ByteArray).size≤1000000:=by
         show (zko X).toArray.size≤1000000
         rw[List.size_toArray];omega
        have hk0:(0:Int)≤(k:Int):=Int.natCast_nonneg _
        have hk1:(k:Int)<(L.length:Int):=by omega
        have hj0:(0:Int)≤(j:Int):=Int.natCast_nonneg _
        have hj1:(j:Int)<(s.size:Int):=by omega
        have hj2:(j:Int)+1<(s.size:Int)+1:=by omega
        go_wp2
        have hwr:IntKind.i64.wrap ((((j+1:Nat):Int)) - 1)=(j:Int):=by rw[IntWalk.i64_in _ (by omega)];omega
        have hwr2:IntKind.i64.wrap ((j:Int)+1 - 1)=(j:Int):=by rw[IntWalk.i64_in _ (by omega)];omega
        have hwr3:IntKind.i64.wrap (j:Int)=(j:Int):=by rw[IntWalk.i64_in _ (by omega)]
        have hfz:∀ o:Obj,(wr.alloc o).frozen? ⟨wo.heap.size,j+1,none⟩=false:=fun o=>(((Below.refl wr.heap.size wr).alloc (Nat.le_refl _) o).frozen (p:=⟨wo.heap.size,j+1,none⟩) hnlt).trans nf
        have hcz:∀ o:Obj,(wr.alloc o).cell? ⟨wo.heap.size,j+1,none⟩=some (.bool (upTo (j+1) (Gl.nxt X (by8 s) f) (j+1))):=fun o=>(((Below.refl wr.heap.size wr).alloc (Nat.le_refl _) o).cell (p:=⟨wo.heap.size,j+1,none⟩) hnlt).trans n0
        have hs0:∀ (v:Value) (o:Obj),((wr.setCell ⟨wo.heap.size,j+1,none⟩ v).alloc o).cell? ⟨gl,k * 2,none⟩=some (.int .i64 (zpd X)):=fun v o =>
         ((((Below.refl wo.heap.size wr).setCell (p:=⟨wo.heap.size,j+1,none⟩) (Nat.le_refl _) v).alloc (by simp;omega) o).cell (p:=⟨gl,k * 2,none⟩) hlg).trans k0
        have hs1:∀ (v:Value) (o:Obj),((wr.setCell ⟨wo.heap.size,j+1,none⟩ v).alloc o).cell? ⟨gl,k * 2+1,none⟩=some (.string ⟨(zko X).toArray⟩):=fun v o =>
         ((((Below.refl wo.heap.size wr).setCell (p:=⟨wo.heap.size,j+1,none⟩) (Nat.le_refl _) v).alloc (by simp;omega) o).cell (p:=⟨gl,k * 2+1,none⟩) hlg).trans k1
        have hj3:(0:Int)≤(j:Int)+1:=by omega
        have hj4:((j+1:Nat):Int)<((s.size+1:Nat):Int):=by omega
        have hj5:(0:Int)≤((j+1:Nat):Int):=by omega
        go_region_held3 (fun w'=>w'.cell? ⟨gl,k * 2,none⟩=some (.int .i64 (zpd X))∧w'.cell? ⟨gl,k * 2+1,none⟩=some (.string ⟨(zko X).toArray⟩)) (first | go_keep | exact⟨hs0 _ _,hs1 _ _⟩)
         (first | (go_at_call 189;refine(stands_any _ X (zpd X) ⟨(zko X).toArray⟩ s[j] (Lib.hid rfl) (Lib.hid rfl) hts HST.out).mono ?_;rintro e w' ⟨rfl,rfl⟩))
        go_wp2
        go_roundw
        case rel=>exact((IRel.store hgg hlg hB.size hlm HN.out HO.out HL.out hBx HB.out).alloc (Nat.le_trans hB.size (Nat.le_of_lt (by simp;omega))) _).drew
        case measure=>simp[intOf]<;>omega
    ·obtain rfl:m=s.size+1:=by omega
     rw[upTo_all] at hn1
     go_wp2
     go_roundw
     case rel=>exact⟨k+1,wo.heap.size,by go_num,rfl,hlt,by rw[HR.out];exact hn1,hl1,hBx⟩
     case measure=>simp[intOf]<;>omega
  ·obtain rfl:k=L.length:=by omega
   have hcell:wr.cell? ⟨g,s.size,none⟩=some (.bool (Gl.rows (by8 s) (L.take L.length) start s.size)):=by rw[ho.cellAt s.size (by omega),zjq (by omega)]
   have HE:Hid (Gl.rows (by8 s) (L.take L.length) start s.size=Gl.zei (by8 p) (by8 s)):=Lib.hid (by rw[List.take_length,←zab,HM.out])
   rw[HE.out] at hcell
   go_wp2
   go_ret
   exact⟨rfl,hB⟩
end Gm
end Go.Proofs.YtgdpbnfgcabneaaGreatDoor
