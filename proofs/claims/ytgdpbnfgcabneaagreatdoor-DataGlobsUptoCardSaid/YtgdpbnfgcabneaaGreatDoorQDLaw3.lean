/- Part of the proof. -/
import Derived.Test.YtgdpbnfgcabneaaGreatDoorQDNil
import Derived.Test.YtgdpbnfgcabneaaGreatDoorQDSum
import Derived.Test.YtgdpbnfgcabneaaGreatDoorQDRead
set_option maxRecDepth 100000
set_option maxHeartbeats 40000000
namespace Go.Proofs.YtgdpbnfgcabneaaGreatDoor
namespace Dq
open Go.RowKit Go.Maps Sw
theorem zpa (w:World) (v:Value) (d p:ByteArray) (hd:d.size≤1048576) (hp:p.size≤1048576) (h:100<d.size∨40<p.size∨zaq (bs d)=false) :
  Calls Tryz.prog 3 #[v,.string d,.string p] w fun e w'=>e=.returned (.bool true)∧Below w.heap.size w w':=by
 have HC:Hid (d.size≤100→∀ W,Calls Tryz.prog 8 #[.string d] W fun e w'=>e=.returned (.bool (zaq (bs d)))∧Below W.heap.size W w'):=Lib.hid fun h W=>zhv W d (by omega)
 have HL:Hid (∀ W,Calls Tryz.prog 7 #[] W fun e w'=>e=.returned (.bool true)∧Below W.heap.size W w'):=Lib.hid ztb
 by_cases h1:(100:Int)<(d.size:Int)
 ·go_enter Tryz.func3,Tryz.ntmps3
  go_wp2_with fail
  refine(HL.out _).mono ?_
  rintro e w1 ⟨rfl,B1⟩
  go_wp2_with fail
  refine(HL.out _).mono ?_
  rintro e w2 ⟨rfl,B2⟩
  go_wp2_with fail
  go_ret
  exact⟨rfl,B1.trans (B2.mono B1.size)⟩
 ·by_cases h2:(40:Int)<(p.size:Int)
  ·go_enter Tryz.func3,Tryz.ntmps3
   go_wp2_with fail
   refine(HL.out _).mono ?_
   rintro e w1 ⟨rfl,B1⟩
   go_wp2_with fail
   refine(HL.out _).mono ?_
   rintro e w2 ⟨rfl,B2⟩
   go_wp2_with fail
   go_ret
   exact⟨rfl,B1.trans (B2.mono B1.size)⟩
  ·have h3:zaq (bs d)=false:=by
    rcases h with h | h | h
    ·omega
    ·omega
    ·exact h
   have HC2:=Lib.hid (HC.out (by omega))
   rw[h3] at HC2
   go_enter Tryz.func3,Tryz.ntmps3
   go_wp2_with fail
   refine(HL.out _).mono ?_
   rintro e w1 ⟨rfl,B1⟩
   go_wp2_with fail
   refine(HC2.out _).mono ?_
   rintro e w2 ⟨rfl,B2⟩
   go_wp2_with fail
   refine(HL.out _).mono ?_
   rintro e w3 ⟨rfl,B3⟩
   go_wp2_with fail
   go_ret
   exact⟨rfl,B1.trans ((B2.mono B1.size).trans (B3.mono (Nat.le_trans B1.size B2.size)))⟩
end Dq
namespace Dq
open Go.RowKit Go.Maps Ww Tw Kw Jw Xb Xw Dz
theorem zwi {p:Bs} (h10:(10:UInt8)∉p) (h35:(35:UInt8)∉p):Mp.zkg (Mp.zdy (zdf p))=.ok [⟨0,1,[88],[58,61],zdf p,false,false,[],[],[],[]⟩]:=by
 refine Mp.wild_parts rfl ?_ ?_ ?_
 ·show ([36,40]++zeh p++[41]).getLast?=some 41
  rw[List.getLast?_append];rfl
 ·simp[zdf,zeh,Yw.kn,h10]
 ·simp[zdf,zeh,Yw.kn,h35]
theorem Read_wild (w:World) {sb bm:Nat} {L:List Sw.F} {c:Int} {cs0:Array Value} {T0:TypeId} {fz0:Nat×Nat} (hst:Sw.StoreAt w sb bm L c) (hz:w.heap[0]?=some (.cells cs0 T0 fz0)) {m0:Int} (hm:cs0[0]?=some (.int .i64 m0)) (hT0:T0≠DT∧Else T0)
  {tb:Nat} (hT:NewT w tb) (dir:ByteArray) (hq:dir.size≤1000) (hcl:zaq (bs dir)=true) (wh:Bs) (hwl:wh.length≤100000) (hj0:Hid (Pt.join [bs dir,[77,97,107,101,102,105,108,101]]=some wh))
  {p:Bs} {x:Nat×Nat} (hp:Pw p x) (h10:(10:UInt8)∉p) (h35:(35:UInt8)∉p) (hget:Sw.zsl (Sw.getR L wh)=(Mp.zdy (zdf p),0)) (hb:Bd dir (str p) L) (j:Option Bs) (hj:Hid (Pt.join [bs dir,bs (str p)]=j)) (hl:∀ q,j=some q→q.length≤3000000)
  (hG:(jnA (Dg.zbm (str p) (bs dir) L)).length≤1048000) (hGn:(Dg.zbm (str p) (bs dir) L).length≤1000000) :
  Calls Tryz.prog 11 #[.pointer (some ⟨sb,0,none⟩),.string dir,.pointer (some ⟨tb,0,none⟩)] w fun e w'=>∃ db,e=.returned (.tuple #[.pointer (some ⟨db,0,none⟩),.agg #[.int .i64 0,.string ⟨#[]⟩,.int .i64 0]])∧Below w.heap.size w w'∧w.heap.size≤db∧GlobP dir (zlw p dir L) j.toList db w':=by
 have hlen:(Mp.zdy (zdf p)).length≤99990:=by
  have:=hp.len
  simp[Mp.zdy,zdf,zeh,Yw.kn];omega
 exact Read_ok w (some ⟨sb,0,none⟩) hT dir wh (Mp.zdy (zdf p)) hq hcl hj0 (fun W hW=>by
  have h:=Sw.Read_any W (str wh) (Sw.getR L wh) (hst.below hW) (by show wh.toArray.size≤_;rw[List.size_toArray];unfold maxLen;omega) (Lib.hid rfl)
  rw[hget] at h
  exact h) hlen 0 1 [88] [58,61] (zdf p) [] [] [] false false (zwi h10 h35) (GlobP dir (zlw p dir L) j.toList) (fun db W b i v hb h=>GlobP.set ⟨by decide,by decide,by decide,by decide,by decide⟩ hb h)
  (all_wild w hst hz hm hT0 hp hb j hj hl hG hGn)
structure Ei (sx dx sb bm:Nat) (dir:ByteArray) (L:List Sw.F) (c:Int) (cs0:Array Value) (T0:TypeId) (fz0:Nat×Nat) (W:World):Prop where
 csx:W.heap[sx]?=some (.cells #[.pointer (some ⟨sb,0,none⟩)] StP (0,0))
 cdx:W.heap[dx]?=some (.cells #[.string dir] ST (0,0))
 st:Sw.StoreAt W sb bm L c
 z:W.heap[0]?=some (.cells cs0 T0 fz0)
section
variable {sx dx sb bm:Nat} {dir:ByteArray} {L:List Sw.F} {c:Int} {cs0:Array Value} {T0:TypeId} {fz0:Nat×Nat} {W W':World}
theorem ei_abide (h0:Else T0):Dz.Abides (Ei sx dx sb bm dir L c cs0 T0 fz0):=fun W W' Z hk hz h =>
 have E:∀ {b:Nat} {cs:Array Value} {T:TypeId} {fz:Nat×Nat},Else T→W.heap[b]?=some (.cells cs T fz)→W'.heap[b]?=some (.cells cs T fz):=fun hT e=>zis hT W W' Z hk hz e
 ⟨E ⟨by decide,by decide,by decide,by decide⟩ h.csx,E ⟨by decide,by decide,by decide,by decide⟩ h.cdx,zng W W' Z hk hz h.st,E h0 h.z⟩
theorem ei_holds {n:Nat} (hb:bm<n):Holds n (Ei sx dx sb bm dir L c cs0 T0 fz0):=fun s W W' row h hg hr =>
 have E:∀ {b:Nat} {cs:Array Value} {T:TypeId} {fz:Nat×Nat},W.heap[b]?=some (.cells cs T fz)→W'.heap[b]?=some (.cells cs T fz):=fun e=>zje s W W' row e hg hr
 ⟨E h.csx,E h.cdx,zoo hb s W W' row h.st hg hr,E h.z⟩
theorem words_env (h:Ei sx dx sb bm dir L c cs0 T0 fz0 W) {m0:Int} (hm:cs0[0]?=some (.int .i64 m0)) (hT0:Else T0) {p:Bs} {x:Nat×Nat} (hp:Pw p x) (hb:Bd dir (str p) L)
  (hG:(jnA (Dg.zbm (str p) (bs dir) L)).length≤1048000) (hGn:(Dg.zbm (str p) (bs dir) L).length≤1000000) (v0:Value) :
  Calls Tryz.prog 16 #[.agg #[v0,.map none,gV sx dx],.string (str (zdf p))] W fun e w'=>∃ v,e=.returned (.tuple #[v,.int .i64 0])∧Below W.heap.size W w'∧w'.ownsRow W.heap.size Ww.ST 1 v (zbg (str (jnA (Dg.zbm (str p) (bs dir) L)))).length (zbb (zbg (str (jnA (Dg.zbm (str p) (bs dir) L))))):=by
 have hB:=beg_wild (v0:=v0) (v1:=.map none) (Y:=[]) (I:=Ei sx dx sb bm dir L c cs0 T0 fz0) (P:=fun _=>True) W 59 #[.pointer (some ⟨sx,0,none⟩),.pointer (some ⟨dx,0,none⟩)] p x (Dg.zbm (str p) (bs dir) L) hp.no hp.bl hp.fl hp.len hp.it hp.pt hG hGn (ei_abide hT0) (zwc True) (ei_holds h.st.map.lt) (fun _ _ _ _ _ _ _=>trivial) (by simp) h
  (fun xb v3 v4 v5 W' hC hi _=>by
   refine(find_z 59 #[.pointer (some ⟨sx,0,none⟩),.pointer (some ⟨dx,0,none⟩)] (str p) (by kernel_rfl) enter44 hC (fun v w'=>Below W'.heap.size W' w'∧w'.ownsRow W'.heap.size Ww.ST 1 v (Dg.zbm (str p) (bs dir) L).length (zbb (Dg.zbm (str p) (bs dir) L))) ?_).mono ?_
   ·refine(env1_any (m0:=m0) W' ⟨hi.csx,hi.cdx,hi.st,by simp[World.cell?,hi.z,hm],(Array.getElem?_eq_some_iff.1 hi.z).1⟩ hb).mono ?_
    rintro e w' ⟨v,rfl,ho,hB⟩
    exact⟨v,rfl,hB,ho⟩
   ·rintro e w' ⟨v,rfl,hB,ho⟩
    exact⟨v,rfl,Kept.of_below hB,trivial,_,ho⟩)
 refine(Words_z W v0 (.map none) (gV sx dx) (zdf p) [] (fun r _=>r=str (jnA (Dg.zbm (str p) (bs dir) L))) (fun xb kb lb yb W' h1 h2 h3 h4=>(hB xb kb lb yb W' h1 h2 h3 h4).mono fun e w' hh=>by
  obtain⟨r,h5,h6,h7,_⟩:=hh
  exact⟨r,h5,h6,h7⟩) (by simp) (fun r _ hr=>by
  rw[hr];show (jnA _).toArray.size≤_;rw[List.size_toArray];omega)).mono ?_
 rintro e w' ⟨r,W1,v,rfl,hk,rfl,_,ho⟩
 exact⟨v,rfl,hk.to_below (Nat.le_refl _) (by simp),ho⟩
end
end Dq
namespace Dq
open Go.RowKit Go.Maps Sw
abbrev mkB:List UInt8:=[77,97,107,101,102,105,108,101]
theorem mk_join {q:List UInt8} (h:zaq q=true):∃ wh,Pt.join [q,mkB]=some wh∧wh.length≤q.length+9:=by
 obtain⟨P,hP,rfl⟩:=zce.1 h
 have hm:AllGood [mkB]:=fun x hx=>by rw[List.mem_singleton.1 hx];exact⟨by decide,by decide,by decide,by decide⟩
 refine⟨Pt.text (P++[mkB]),?_,?_⟩
 ·unfold Pt.join Pt.go
  rw[Pt.zbt hP,Pt.zjl P [] hP]
  show (Pt.go P [mkB]).map Pt.text=_
  unfold Pt.go
  have e:Pt.parts mkB=[mkB]:=Pt.zbt (l:=[mkB]) hm
  rw[e,Pt.zjl [mkB] P hm]
  rfl
 ·have hPm:AllGood (P++[mkB]):=fun x hx=>by
   rcases List.mem_append.1 hx with h | h
   ·exact hP x h
   ·exact hm x h
  have tx:∀ {S:List (List UInt8)},AllGood S→S≠[]→Pt.text S=Pt.inter S:=fun hS hn=>by
   unfold Pt.text;rw[if_neg fun e=>hn ((Pt.zcq hS).1 e)]
  rw[tx hPm (by simp)]
  rcases Classical.em (P=[]) with rfl | hne
  ·decide
  ·rw[tx hP hne,Pt.inter_snoc P mkB hne,List.length_append]
   simp
def Bad (c:UInt8):Prop:=c=36∨c=35∨c=40∨c=41∨c=123∨c=125∨c=92∨c=32∨c=9∨c=10
instance (c:UInt8):Decidable (Bad c):=by unfold Bad;infer_instance
theorem zim {c d:UInt8} (h:c≠d):((c.toNat:Int) == (d.toNat:Int))=false:=by
 rw[beq_eq_false_iff_ne]
 intro e
 exact h (UInt8.toNat.inj (by omega))
def zos (wh:List UInt8) (l:List F):List F:=l.filter fun f=>decide (f.p≠wh)
theorem keep_take {wh:List UInt8} {l:List F} {k:Nat} (h:k<l.length):zos wh (l.take (k+1))=zos wh (l.take k)++if l[k].p=wh then [] else [l[k]]:=by
 unfold zos
 rw[List.take_succ_eq_append_getElem h,List.filter_append]
 congr 1
 by_cases e:l[k].p=wh
 ·rw[if_pos e,List.filter_cons,List.filter_nil];simp[e]
 ·rw[if_neg e,List.filter_cons,List.filter_nil];simp[e]
theorem keep_len (wh:List UInt8) (l:List F):(zos wh l).length≤l.length:=List.length_filter_le _ _
theorem infoAF:(Tryz.prog.info? AFT).map (fun i=>(i.zero,i.size,i.bytes))=some (some (.agg #[.string ⟨#[]⟩,.string ⟨#[]⟩,.int .i64 0,.bool false]),4,48):=by kernel_rfl
theorem znx {ops:Array Oper} {rest:List Oper} {o:Oper} {a:Act} {Q:Exit→Act→World→Prop} {w:World} (hg:o.guard=none) (s x:Operand)
  (ho:o.op=.call { callee:=.builtin .append,args:=#[s,x],argTypes:=#[22,22] }) (base:Nat) (v:Value) (l:List F) (hs:a.eval s=v) (hv:w.ownsRow base AFT 4 v l.length (fCs l)) (g:Nat) (f:F) (hx:a.eval x=.slice (some ⟨g,0,none⟩) 1 1)
  (hc:w.heap[g]?=some (.cells #[.string (str f.p),.string (str f.t),.int .i64 f.c,.bool f.d] AFT (0,0))) (hb:base≤w.heap.size) (hl:l.length≤2000000)
  (hK:∀ a' c' w',w'.ownsRow base AFT 4 (.slice a' (l++[f]).length c') (l++[f]).length (fCs (l++[f]))→w.grownBy w' v.ownBlock→wpList Tryz.prog ops Q rest (a.put o.dst (.slice a' (l++[f]).length c')) w'):wpList Tryz.prog ops Q (o :: rest) a w:=by
 obtain⟨i0,hi,hz0,hz1,hz2⟩:=info_parts infoAF
 refine wpList_append_own _ hg s x 22 ho base AFT i0 _ 4 48 Tryz.underlying22 hi hz0 hz1 hz2 rfl (by decide) v l.length (fCs l) hs hv ⟨g,0,none⟩ 1 1 (fC f) hx rfl (fun j u hu=>?_) (by simp[fC,Value.oneCell']) (by unfold maxLen;omega) (by omega) hb ?_
 ·rw[Addr.add_lit,Nat.zero_add]
  refine zaa hc ?_
  have:(fC f)[j]?=some u:=hu
  simpa[fC] using this
 ·intro v' w' ho' hg' _
  have e:l.length+1=(l++[f]).length:=by simp
  rw[←fCs_snoc,e] at ho'
  obtain⟨a',c',rfl⟩:∃ a' c',v'=.slice a' (l++[f]).length c':=by
   rcases ho'.2 with ⟨h,h0⟩ | ⟨g',cap,_,h,_⟩
   ·rw[←e] at h0;cases h0
   ·exact⟨_,_,h⟩
  exact hK a' c' w' ho' hg'
theorem EqStr_any (w:World) (B:Nat) (v u:Value) (xs:List ByteArray) (hv:w.ownsRow B ST 1 v xs.length (Ww.zbb xs)) (hu:w.ownsRow B ST 1 u xs.length (Ww.zbb xs)) (hl:xs.length≤1000000) :
  Calls Tryz.prog 21 #[v,u] w fun e w'=>e=.returned (.bool true)∧Below w.heap.size w w':=by
 rcases hv.2 with ⟨rfl,h0⟩ | ⟨g,cap,cur,rfl,_,hg,h1,_⟩
 ·rcases hu.2 with ⟨rfl,_⟩ | ⟨k,cap',cur',rfl,_,hk,h1',_⟩
  ·refine(Tryz.slices_Equal_string_empty none none 0 0 0 w (by decide)).mono ?_
   rintro e w' ⟨rfl,rfl⟩
   exact⟨rfl,Below.refl _ _⟩
  ·rw[h0]
   refine(Tryz.slices_Equal_string_empty none _ 0 0 _ w (by decide)).mono ?_
   rintro e w' ⟨rfl,rfl⟩
   exact⟨rfl,Below.refl _ _⟩
 ·rcases hu.2 with ⟨rfl,h0⟩ | ⟨k,cap',cur',rfl,_,hk,h1',_⟩
  ·rw[h0]
   refine(Tryz.slices_Equal_string_empty _ none _ 0 0 w (by decide)).mono ?_
   rintro e w' ⟨rfl,rfl⟩
   exact⟨rfl,Below.refl _ _⟩
  ·have c1:∀ j,j<xs.length→w.cell? ⟨g,0+j,none⟩=some (.string (xs.getD j ByteArray.empty)):=fun j hj=>by
    have:=hv.cells (g:=g) rfl j (.string xs[j]) (by rw[Ww.zbb,List.getElem?_map,List.getElem?_eq_getElem hj];rfl)
    rw[Addr.add_lit] at this
    rw[this,List.getD_eq_getElem?_getD,List.getElem?_eq_getElem hj];rfl
   have c2:∀ j,j<xs.length→w.cell? ⟨k,0+j,none⟩=some (.string (xs.getD j ByteArray.empty)):=fun j hj=>by
    have:=hu.cells (g:=k) rfl j (.string xs[j]) (by rw[Ww.zbb,List.getElem?_map,List.getElem?_eq_getElem hj];rfl)
    rw[Addr.add_lit] at this
    rw[this,List.getD_eq_getElem?_getD,List.getElem?_eq_getElem hj];rfl
   refine(Tryz.slices_Equal_string g 0 xs.length cap k 0 xs.length cap' xs xs w (Nat.le_refl _) (Nat.le_refl _) (by omega) (by omega) c1 c2).mono ?_
   rintro e w' ⟨rfl,q,rfl⟩
   exact⟨by simp,((Kw.Kept.refl [] w).drewN q).to_below (Nat.le_refl _) (by simp)⟩
abbrev mkF (wh:List UInt8) (p:ByteArray):F:=⟨wh,Mp.zdy (zdf (Ww.by8 p)),0,false⟩
theorem zqv (a b:List (List UInt8)):cost (a++b)=cost a+cost b:=by unfold cost;rw[List.map_append,List.sum_append]
theorem znt {P:List (List UInt8)} (h:AllGood P):cost P≤(Pt.text P).length+1:=by
 have h1:=zbu (Pt.text P)
 have h2:cost (Pt.parts (Pt.text P))≤cost (Pt.pieces (Pt.text P)):=zgx _ _
 rw[Pt.zbt h] at h2
 omega
theorem cost_up:∀ n:Nat,cost (List.replicate n [46,46])=3 * n
 | 0=>rfl
 | n+1=>by
  have:=cost_up n
  show (2+1)+cost (List.replicate n [46,46])=_
  omega
theorem cost_len (l:List (List UInt8)):l.length≤cost l:=by
 induction l with
 | nil=>exact Nat.zero_le _
 | cons x r ih=>show r.length+1≤(x.length+1)+cost r;omega
theorem way_size {p q:List UInt8} (hp:zaq p=true) (hq:zaq q=true):(way p q).length≤p.length+3 * q.length+10:=by
 obtain⟨P,hP,rfl⟩:=zce.1 hp
 obtain⟨D,hD,rfl⟩:=zce.1 hq
 rw[zqw hP hD]
 have h1:=znt hP
 have h2:=znt hD
 have h3:=cost_len D
 have h4:(Pt.text (zaz P D)).length≤cost (zaz P D)+1:=by
  have:=zhl (zaz P D)
  unfold Pt.text
  split
  ·show 1≤_;omega
  ·omega
 have h5:cost (P.drop (common P D))≤cost P:=by
  have:=zqv (P.take (common P D)) (P.drop (common P D))
  rw[List.take_append_drop] at this
  omega
 have h6:cost (zaz P D)=3 * (D.length - common P D)+cost (P.drop (common P D)):=by
  unfold zaz
  rw[zqv,cost_up]
 omega
theorem pat_of {p:ByteArray} (h0:p.size≠0) (h1:p.size≤40) (hG:∀ c∈Ww.by8 p,¬ Bad c):Dw.Pat p :=
 ⟨h0,fun c hc=>by
  have h:=hG c hc
  unfold Bad at h
  unfold Wp.zaw
  simp only [Bool.or_eq_false_iff,beq_eq_false_iff_ne]
  simp only [not_or] at h
  simp[h],fun c hc=>by
  have h:=hG c hc
  unfold Bad at h
  simp only [not_or] at h
  exact⟨h.1,h.2.1,h.2.2.1,h.2.2.2.1,h.2.2.2.2.1,h.2.2.2.2.2.1,h.2.2.2.2.2.2.1⟩,h1⟩
theorem zoe:∀ (ps out:List (List UInt8)) {o:List (List UInt8)},Pt.walk out ps=some o→cost o≤cost out+cost ps
 | [],out,o,h=>by
  obtain rfl:out=o:=by simpa[Pt.walk] using h
  exact Nat.le_add_right _ _
 | p :: ps,out,o,h=>by
  unfold Pt.walk at h
  cases hs:Pt.step out p with
  | none=>rw[hs] at h;cases h
  | some q =>
   rw[hs] at h
   have h1:=zoe ps q h
   have h2:cost q≤cost out+(p.length+1):=by
    unfold Pt.step at hs
    split at hs
    ·split at hs
     ·cases hs
     ·obtain rfl:=Option.some.inj hs
      have:=zon (List.dropLast_prefix out)
      omega
    ·obtain rfl:=Option.some.inj hs
     rw[zji]
     omega
   show _≤cost out+((p.length+1)+cost ps)
   omega
theorem zpz (s:List UInt8):cost (Pt.parts s)≤s.length+1:=by
 have h1:=zbu s
 have h2:cost (Pt.parts s)≤cost (Pt.pieces s):=zgx _ _
 omega
theorem join_size {p q j:List UInt8} (h:Pt.join [p,q]=some j):j.length≤p.length+q.length+4:=by
 unfold Pt.join Pt.go at h
 cases h1:Pt.walk [] (Pt.parts p) with
 | none=>rw[h1] at h;cases h
 | some o =>
  rw[h1] at h
  change (Pt.go o [q]).map Pt.text=some j at h
  unfold Pt.go at h
  cases h2:Pt.walk o (Pt.parts q) with
  | none=>rw[h2] at h;cases h
  | some o2 =>
   rw[h2] at h
   change some (Pt.text o2)=some j at h
   obtain rfl:=Option.some.inj h
   have e1:=zoe _ _ h1
   have e2:=zoe _ _ h2
   have e3:=zpz p
   have e4:=zpz q
   have e5:cost ([]:List (List UInt8))=0:=rfl
   have:(Pt.text o2).length≤cost o2+1:=by
    have:=zhl o2
    unfold Pt.text
    split
    ·show 1≤_;omega
    ·omega
   omega
structure GF (l:List F) (wh:List UInt8) (d p:ByteArray):Prop where
 fine:Fine (newA l).1
 pat:Dw.Pat p
 n10:(10:UInt8)∉Ww.by8 p
 n35:(35:UInt8)∉Ww.by8 p
 get:getR (newA l).1.L wh=some (mkF wh p)
 paths:∀ f∈(newA l).1.L,zaq f.p=true
 ways:∀ f∈(newA l).1.L,(way f.p (bs d)).length≤100000
 plen:∀ f∈(newA l).1.L,f.p.length≤50000
 jn:(Dz.jnA (Dg.zbm p (bs d) (newA l).1.L)).length≤10000
 gn:(Dg.zbm p (bs d) (newA l).1.L).length≤4096
theorem gf_of {l:List F} {wh:List UInt8} {d p:ByteArray} (hnew:(newA l).2=0) (hsum:sumS l≤4000) (hm:mkF wh p∈l) (hq:zaq (bs d)=true) (hd:d.size≤100) (h0:p.size≠0) (h1:p.size≤40) (hG:∀ c∈Ww.by8 p,¬ Bad c):GF l wh d p:=by
 have hfl:∀ f∈l,f.p.length≤4000∧f.t.length≤4000:=fun f hf=>by have:=sumS_mem hf;omega
 have hfine:=new_fine l (fun f hf=>by have:=hfl f hf;omega) hnew
 have hds:(bs d).length=d.size:=zax d
 have hpl:∀ f∈(newA l).1.L,f.p.length≤50000:=fun g hg=>by
  obtain⟨f,hf,P,Q,h1,h2,h3⟩:=zly hnew hg
  have h4:=(hfl f hf).1
  have h5:=znt h1
  have h6:=zqv P Q
  have h7:(Pt.text P).length≤cost P+1:=by
   have:=zhl P
   unfold Pt.text
   split
   ·show 1≤_;omega
   ·omega
  rw[h3]
  rw[h2] at h4
  omega
 have hps:=new_paths hnew
 refine⟨hfine,pat_of h0 h1 hG,fun h=>hG _ h (by simp[Bad]),fun h=>hG _ h (by simp[Bad]),new_get hnew hfine.sorted hm,hps,fun f hf=>?_,hpl,?_,?_⟩
 ·have:=way_size (hps f hf) hq
  have:=hpl f hf
  omega
 ·have h2:=found_len hnew hfine.sorted p hq
  have h3:(l.map fun f=>f.p.length+1).sum≤sumS l:=sum_le _ _ l fun f _=>by omega
  omega
 ·have h2:=hfine.len
  unfold Dg.zbm
  refine Nat.le_trans (List.length_filter_le _ _) ?_
  rw[List.length_map]
  exact h2
abbrev VrT:TypeId:=64
theorem words_few {s:List UInt8} (h:s.length≤10000):(Ew.zbg (str s)).length≤1000000:=by
 rw[Ew.zla]
 have h1:=Ew.zhx (str s)
 have h2:(str s).size=s.length:=by rw[←zax,zas]
 omega
theorem own_one {W:World} {b:Nat} {s:ByteArray} (h:W.heap[b]?=some (.cells #[.string s] ST (0,0))):W.ownsRow 0 ST 1 (.slice (some ⟨b,0,none⟩) 1 1) [s].length (Ww.zbb [s]) :=
 ⟨rfl,.inr ⟨b,1,#[.string s],rfl,Nat.zero_le _,h,Nat.le_refl _,by unfold maxLen;omega,by simp,by simp[Ww.zbb]⟩⟩
theorem zrn (w:World) (a:Option Addr) (cp:Nat) (l:List F) (d p:ByteArray) (hF:Files w (.slice a l.length cp) l) (hl:∀ f∈l,f.p.length≤1048576∧f.t.length≤1048576) (hn:l.length≤1048576) (hd:d.size≤100) (hp:p.size≤40) (hq:zaq (bs d)=true) {cs0:Array Value} {T0:TypeId} {fz0:Nat×Nat} (hz:w.heap[0]?=some (.cells cs0 T0 fz0)) {m0:Int} (hm:cs0[0]?=some (.int .i64 m0)) (hT0:T0≠DT∧Else T0) :
  Calls Tryz.prog 3 #[.slice a l.length cp,.string d,.string p] w fun e w'=>e=.returned (.bool true)∧Below w.heap.size w w':=by
 obtain⟨wh,hj0,hwl⟩:=mk_join hq
 have HC:Hid (∀ W,Calls Tryz.prog 8 #[.string d] W fun e w'=>e=.returned (.bool true)∧Below W.heap.size W w'):=Lib.hid fun W=>by
  have:=zhv W d (by omega)
  rwa[hq] at this
 have HL:Hid (∀ W,Calls Tryz.prog 7 #[] W fun e w'=>e=.returned (.bool true)∧Below W.heap.size W w'):=Lib.hid ztb
 have HJ:Hid (∀ W,Calls Tryz.prog 9 #[.slice (some ⟨W.heap.size,0,none⟩) 2 2] (W.alloc (.cells #[.string d,.string ⟨#[77,97,107,101,102,105,108,101]⟩] ST)) fun e w'=>e=.returned (.tuple #[.string (str wh),.bool true])∧Below W.heap.size W w'):=Lib.hid fun W=>by
  have hc:∀ j,j<[d,(⟨#[77,97,107,101,102,105,108,101]⟩:ByteArray)].length→(W.alloc (.cells #[.string d,.string ⟨#[77,97,107,101,102,105,108,101]⟩] ST)).cell? ⟨W.heap.size,0+j,none⟩=some (.string ([d,(⟨#[77,97,107,101,102,105,108,101]⟩:ByteArray)][j]?.getD ByteArray.empty)):=fun j hj=>by
   rw[World.cell?_alloc_at _ _ _ _ (by simp)]
   match j,hj with
   | 0,_=>rfl
   | 1,_=>rfl
  have hj:=zdp (W.alloc (.cells #[.string d,.string ⟨#[77,97,107,101,102,105,108,101]⟩] ST)) W.heap.size 0 2 [d,(⟨#[77,97,107,101,102,105,108,101]⟩:ByteArray)] (by simp) hc (by show d.size+1+(8+1+0)≤_;omega)
  rw[show [d,(⟨#[77,97,107,101,102,105,108,101]⟩:ByteArray)].map bs=[bs d,mkB] from rfl,hj0] at hj
  refine hj.mono ?_
  rintro e w' ⟨hB,he⟩
  exact⟨by rw[he],((Below.refl _ W).alloc (Nat.le_refl _) _).trans (hB.mono (by simp))⟩
 have q1:¬ (100:Int)<(d.size:Int):=by omega
 have q2:¬ (40:Int)<(p.size:Int):=by omega
 have HZ:=Lib.hid hz
 have HF:=Lib.hid hF
 have HLn:=Lib.hid hl
 have HWH:=Lib.hid hj0
 clear hF hl hj0 hz
 go_enter Tryz.func3,Tryz.ntmps3
 go_wp2_with fail
 refine(HL.out _).mono ?_
 rintro e w1 ⟨rfl,B1⟩
 go_wp2_with fail
 refine(HC.out _).mono ?_
 rintro e w2 ⟨rfl,B2⟩
 have HB2:=Lib.hid (B1.trans (B2.mono B1.size))
 clear B1 B2 HL HC
 go_wp2_with fail
 go_loopw [55] (fun v55 wr=>∃ k:Nat,v55=.int .i64 k∧k≤p.size∧wr=w2∧∀ c∈(Ww.by8 p).take k,¬ Bad c) (fun v55 _=>p.size - (intOf v55).toNat)
 case atStart=>exact⟨0,rfl,Nat.zero_le _,rfl,by simp⟩
 case round =>
  obtain⟨k,rfl,hk,rfl,hb⟩:=hrel
  have hk0:(0:Int)≤(k:Int):=Int.natCast_nonneg _
  by_cases hlt:k<p.size
  ·have hki:(k:Int)<(p.size:Int):=by omega
   have htk:∀ c∈(Ww.by8 p).take (k+1),c∈(Ww.by8 p).take k∨c=p[k]:=fun c hc=>by
    rw[List.take_succ_eq_append_getElem (by rw[Ww.zab];exact hlt)] at hc
    rcases List.mem_append.1 hc with h | h
    ·exact .inl h
    ·exact .inr (by rw[List.mem_singleton.1 h];rfl)
   by_cases hbad:Bad p[k]
   ·have HE:=Lib.hid HB2.out
    rcases hbad with h | h | h | h | h | h | h | h | h | h
    all_goals (
     have g1:p[k].toNat=(_:UInt8).toNat:=congrArg UInt8.toNat h
     clear htk hb
     go_wp2_with fail
     go_ret
     exact⟨rfl,HE.out⟩)
   ·have n0:((p[k].toNat:Int) == 36)=false:=zim (d:=36) fun e=>hbad (.inl e)
    have n1:((p[k].toNat:Int) == 35)=false:=zim (d:=35) fun e=>hbad (.inr (.inl e))
    have n2:((p[k].toNat:Int) == 40)=false:=zim (d:=40) fun e=>hbad (.inr (.inr (.inl e)))
    have n3:((p[k].toNat:Int) == 41)=false:=zim (d:=41) fun e=>hbad (.inr (.inr (.inr (.inl e))))
    have n4:((p[k].toNat:Int) == 123)=false:=zim (d:=123) fun e=>hbad (.inr (.inr (.inr (.inr (.inl e)))))
    have n5:((p[k].toNat:Int) == 125)=false:=zim (d:=125) fun e=>hbad (.inr (.inr (.inr (.inr (.inr (.inl e))))))
    have n6:((p[k].toNat:Int) == 92)=false:=zim (d:=92) fun e=>hbad (.inr (.inr (.inr (.inr (.inr (.inr (.inl e)))))))
    have n7:((p[k].toNat:Int) == 32)=false:=zim (d:=32) fun e=>hbad (.inr (.inr (.inr (.inr (.inr (.inr (.inr (.inl e))))))))
    have n8:((p[k].toNat:Int) == 9)=false:=zim (d:=9) fun e=>hbad (.inr (.inr (.inr (.inr (.inr (.inr (.inr (.inr (.inl e)))))))))
    have n9:((p[k].toNat:Int) == 10)=false:=zim (d:=10) fun e=>hbad (.inr (.inr (.inr (.inr (.inr (.inr (.inr (.inr (.inr e)))))))))
    have HT:=Lib.hid (show ∀ c∈(Ww.by8 p).take (k+1),¬ Bad c from fun c hc=>by
     rcases htk c hc with h | h
     ·exact hb c h
     ·rw[h];exact hbad)
    clear htk hb hbad
    go_wp2_with fail
    go_roundw
    case rel=>exact⟨k+1,by go_num,hlt,trivial,HT.out⟩
    case measure=>simp[intOf];omega
  ·obtain rfl:k=p.size:=by omega
   rw[show (Ww.by8 p).take p.size=Ww.by8 p from List.take_of_length_le (by rw[Ww.zab];exact Nat.le_refl _)] at hb
   have HG:=Lib.hid hb
   clear hb
   go_wp2_with fail
   refine(HJ.out _).mono ?_
   rintro e w3 ⟨rfl,B3⟩
   have HB3:=Lib.hid (HB2.out.trans (B3.mono HB2.out.size))
   have HF3:=Lib.hid (zbq HF.out HB3.out)
   clear B3 HJ
   go_wp2_with fail
   go_loopw [11,108] (fun v11 v108 wr=>∃ (i:Nat) (a':Option Addr) (c':Nat),v108=.int .i64 i∧i≤l.length∧v11=.slice a' (zos wh (l.take i)).length c'∧wr.ownsRow w3.heap.size AFT 4 (.slice a' (zos wh (l.take i)).length c') (zos wh (l.take i)).length (fCs (zos wh (l.take i)))∧Below w3.heap.size w3 wr) (fun _ v108 _=>l.length - (intOf v108).toNat)
   case atStart=>exact⟨0,none,0,rfl,Nat.zero_le _,rfl,World.ownsRow_nil _ _ _ _,Below.refl _ _⟩
   case round =>
    obtain⟨i,a',c',rfl,hi,rfl,hO,hB⟩:=hrel
    have hi0:(0:Int)≤(i:Int):=Int.natCast_nonneg _
    by_cases hlt:i<l.length
    ·obtain⟨b,o,rfl,hb,c0,c1,c2,c3⟩:=zqg HF3.out hlt
     have hli:(i:Int)<(l.length:Int):=by omega
     have e:=fun i=>hB.cell (p:=⟨b,i,none⟩) hb
     have p0:=(e _).trans c0
     have p1:=(e _).trans c1
     have p2:=(e _).trans c2
     have p3:=(e _).trans c3
     have HK:=Lib.hid (keep_take (wh:=wh) hlt)
     have hkl:=Nat.le_trans (keep_len wh (l.take i)) (by rw[List.length_take];exact Nat.min_le_right _ _)
     generalize l[i]=f at *
     obtain⟨fp,ft,fc,fd⟩:=f
     have HO:=Lib.hid hO
     have HB:=Lib.hid hB
     have hws:=hB.size
     clear c0 c1 c2 c3 e hO hB
     by_cases hp':fp=wh
     ·have hx:((str fp).toList != (str wh).toList)=false:=Tw.bne_no (by rw[hp'])
      have hx1:((str fp).toList == (str wh).toList)=true:=Tw.zeg (by rw[hp'])
      have hx2:(str fp).toList=(str wh).toList:=by rw[hp']
      rw[if_pos hp',List.append_nil] at HK
      clear hp'
      go_wp2_with fail
      go_roundw
      case rel=>exact⟨i+1,a',c',by go_num,hlt,by rw[HK.out],by rw[HK.out];exact HO.out.alloc _,HB.out.alloc HB.out.size _⟩
      case measure=>simp[intOf];omega
     ·have hx:((str fp).toList != (str wh).toList)=true:=Tw.bne_yes hp'
      have hx1:((str fp).toList == (str wh).toList)=false:=Tw.zhq hp'
      have hx2:¬ (str fp).toList=(str wh).toList:=fun e=>hp' (by rw[Tw.zau,Tw.zau] at e;exact e)
      rw[if_neg hp'] at HK
      clear hp'
      have hN:=Jw.zah (wr.alloc (.cells #[.string (str fp),.string (str ft),.int .i64 fc,.bool fd] AFT)) (.cells #[.string (str fp),.string (str ft),.int .i64 fc,.bool fd] AFT)
      rw[World.size_alloc] at hN
      have HN:=Lib.hid hN
      clear hN
      have hO2:=(HO.out.alloc (.cells #[.string (str fp),.string (str ft),.int .i64 fc,.bool fd] AFT)).alloc (.cells #[.string (str fp),.string (str ft),.int .i64 fc,.bool fd] AFT)
      have HO2:=Lib.hid hO2
      clear hO2
      go_wp2_with (at_builtin;refine znx rfl _ _ rfl w3.heap.size _ (zos wh (l.take i)) rfl HO2.out (wr.heap.size+1) ⟨fp,ft,fc,fd⟩ rfl HN.out (by simp;omega) (by omega) ?_;intro a7 c7 w7 hO7 hg7)
      have HO7:=Lib.hid hO7
      have hB7:Below w3.heap.size w3 w7:=((HB.out.alloc HB.out.size (.cells #[.string (str fp),.string (str ft),.int .i64 fc,.bool fd] AFT)).alloc (by simp;omega) (.cells #[.string (str fp),.string (str ft),.int .i64 fc,.bool fd] AFT)).grown hg7 (by simp;omega) (fun j e=>(HO2.out.lt j e).1)
      have HB7:=Lib.hid hB7
      clear hO7 hg7 hB7
      go_roundw
      case rel=>exact⟨i+1,a7,c7,by go_num,hlt,by rw[HK.out,List.length_append];rfl,by rw[HK.out];exact HO7.out,HB7.out⟩
      case measure=>simp[intOf];omega
    ·obtain rfl:i=l.length:=by omega
     rw[List.take_length] at hO ⊢
     have hkl:=keep_len wh l
     have HK:Hid (∀ f∈zos wh l,f.p.length≤1048576∧f.t.length≤1048576):=Lib.hid fun f hf=>HLn.out f (List.mem_filter.1 hf).1
     obtain⟨K,hK⟩:∃ K,zos wh l=K:=⟨_,rfl⟩
     rw[hK] at hO hkl HK ⊢
     have HKK:=Lib.hid hK
     have HO:=Lib.hid hO
     have HB:=Lib.hid hB
     have hws:=hB.size
     have hsp:p.size≤40:=hp
     clear hO hB hK
     have hN:=Jw.zah wr (.cells #[.string (str wh),.string (⟨#[88,32,58,61,32,36,40,119,105,108,100,99,97,114,100,32]⟩++p++⟨#[41]⟩),.int .i64 0,.bool false] AFT)
     have hS:(⟨#[88,32,58,61,32,36,40,119,105,108,100,99,97,114,100,32]⟩++p++⟨#[41]⟩:ByteArray)=str (Mp.zdy (zdf (Ww.by8 p))):=Ww.zar (by
      rw[Tw.zbc,Tw.zbc]
      simp[Mp.zdy,zdf,Dz.zeh,Yw.kn,Ww.by8,str])
     have HN:=Lib.hid (hN.trans (show _=some (.cells #[.string (str wh),.string (str (Mp.zdy (zdf (Ww.by8 p)))),.int .i64 0,.bool false] AFT (0,0)) by rw[hS]))
     have hO2:=HO.out.alloc (.cells #[.string (str wh),.string (⟨#[88,32,58,61,32,36,40,119,105,108,100,99,97,114,100,32]⟩++p++⟨#[41]⟩),.int .i64 0,.bool false] AFT)
     have HO2:=Lib.hid hO2
     have HS:=Lib.hid hS
     clear hN hO2 hS
     have HM:=Lib.hid (show ∀ (W:World) (a7:Option Addr) (c7:Nat),Files W (.slice a7 (K++[mkF wh p]).length c7) (K++[mkF wh p])→Calls Tryz.prog 10 #[.slice a7 (K.length+1) c7,.slice none 0 0] W (MadePost W (K++[mkF wh p])) from fun W a7 c7 h=>by
      have hh:=Made_any W a7 c7 (K++[mkF wh p]) h (fun f hf=>by
       rcases List.mem_append.1 hf with hf | hf
       ·exact HK.out f hf
       ·rw[List.mem_singleton.1 hf]
        have h1:(bs d).length=d.size:=zax d
        refine⟨by show wh.length≤_;omega,?_⟩
        have h2:=Ww.zab p
        show (Mp.zdy (zdf (Ww.by8 p))).length≤_
        simp[Mp.zdy,zdf,Dz.zeh,Yw.kn];omega) (by rw[List.length_append];simp;omega)
      rwa[show (K++[mkF wh p]).length=K.length+1 by simp] at hh)
     go_wp2_with (at_builtin;refine znx rfl _ _ rfl w3.heap.size _ K rfl HO2.out wr.heap.size (mkF wh p) rfl HN.out (by simp;omega) (by omega) ?_;intro a7 c7 w7 hO7 hg7)
     have hB7:Below w3.heap.size w3 w7:=(HB.out.alloc HB.out.size (.cells #[.string (str wh),.string (⟨#[88,32,58,61,32,36,40,119,105,108,100,99,97,114,100,32]⟩++p++⟨#[41]⟩),.int .i64 0,.bool false] AFT)).grown hg7 (by simp;omega) (fun j e=>(HO2.out.lt j e).1)
     have HB7:=Lib.hid (HB3.out.trans (hB7.mono HB3.out.size))
     have hF7:=(RFiles.of_own hO7 (fun h=>by simp at h)).files
     clear hg7 hB7 hO7
     refine(HM.out w7 a7 c7 hF7).mono ?_
     rintro e w8 ⟨B8,hpost⟩
     have HB8:=Lib.hid (HB7.out.trans (B8.mono HB7.out.size))
     clear B8 hF7 HN HO2 HS HM HO HB
     rcases hpost with ⟨sb,bm,tb,u,hsum,hnew,rfl,hS,hU,⟨ua,un,uc,rfl⟩,hT⟩ | ⟨v0,u,c,v2,rfl,⟨ua,un,uc,rfl⟩⟩
     ·have HST:=Lib.hid hS
      have HU:=Lib.hid hU
      have HT:=Lib.hid hT
      clear hS hU hT
      by_cases h0:p.size=0
      ·obtain rfl:p=⟨#[]⟩:=Ww.zar (List.length_eq_zero_iff.1 (by rw[Ww.zab];exact h0))
       unfold zoz
       go_wp2_with fail
       go_ret
       exact⟨rfl,(HB8.out.alloc HB8.out.size _).alloc (by have:=HB8.out.size;rw[World.size_alloc];omega) _⟩
      ·have hgf:=gf_of (l:=K++[mkF wh p]) (wh:=wh) hnew hsum (by simp) hq hd h0 hp HG.out
       have HZ8:=Lib.hid ((HB8.out.block 0 (Array.getElem?_eq_some_iff.1 HZ.out).1).trans HZ.out)
       obtain⟨x,hpw⟩:=pat_pw hgf.pat
       obtain⟨L,hL⟩:∃ L,(newA (K++[mkF wh p])).1.L=L:=⟨_,rfl⟩
       obtain⟨c,hc⟩:∃ c,(newA (K++[mkF wh p])).1.c=c:=⟨_,rfl⟩
       have gfine:=hgf.fine
       have gget:=hgf.get
       have gpaths:=hgf.paths
       have gways:=hgf.ways
       have gplen:=hgf.plen
       have gjn:=hgf.jn
       have ggn:=hgf.gn
       have gsorted:=gfine.sorted
       have glen:=gfine.len
       rw[hL] at gget gpaths gways gplen gjn ggn gsorted glen HST HU
       rw[hc] at HST ⊢
       have gpat:=hgf.pat
       have gn10:=hgf.n10
       have gn35:=hgf.n35
       clear hgf gfine hL hc hnew hsum
       have hBd:Bd d p L:=⟨by omega,fun f hf=>by have:=gplen f hf;omega,by omega,by omega,fun f hf=>by have:=gways f hf;omega⟩
       have hps:str (Ww.by8 p)=p:=rfl
       obtain⟨j,hj⟩:∃ j,Pt.join [bs d,bs p]=j:=⟨_,rfl⟩
       have hjl:∀ q,j=some q→q.length≤3000000:=fun q e=>by
        rw[e] at hj
        have h1:=join_size hj
        have h2:(bs d).length=d.size:=zax d
        have h3:(bs p).length=p.size:=zax p
        omega
       have hds:(bs d).length=d.size:=zax d
       have HJJ:=Lib.hid hj
       have HRd:=Lib.hid fun (W:World) (h1:StoreAt W sb bm L c) (h2:Jw.NewT W tb) (h3:W.heap[0]?=some (.cells cs0 T0 fz0)) =>
        Read_wild W h1 h3 hm hT0 h2 d (by omega) hq wh (by omega) HWH hpw gn10 gn35 (by rw[gget];rfl) hBd j (Lib.hid hj) hjl (Nat.le_trans gjn (by decide)) (Nat.le_trans ggn (by decide))
       have hnm:Dw.zbw p (Dw.zbh L (bs d))=Dg.zbm p (bs d) L:=(glob_is hq gpaths).symm
       have hjs:Ew.zbp (Dg.zbm p (bs d) L)=str (Dz.jnA (Dg.zbm p (bs d) L)):=(jnA_is _).symm
       have hns:∀ s∈Dw.zbh L (bs d),s.size≤100000:=fun s hs=>by
        obtain⟨f,hf,rfl⟩:=List.mem_map.1 hs
        have h1:=gways f hf
        rw[way_is (gpaths f hf) hq] at h1
        show (Dw.toA f.p (bs d)).toArray.size≤_
        rw[List.size_toArray];exact h1
       have HRR:=Lib.hid fun (W:World) (h1:Files W (.slice ua un uc) L)=>Dw.zwf W (.slice ua un uc) c d p (str wh) (mkF wh p) h1 (by omega) (fun f hf=>by have:=gplen f hf;omega) gsorted hns (by omega) gpat (by rw[hnm,hjs];show (Dz.jnA _).toArray.size≤_;rw[List.size_toArray];omega) (pat_vl gpat gn10) hq (by rw[zas];exact HWH.out) (by rw[zas];exact gget) rfl (lineS_is p).symm
       rw[hnm,hjs] at HRR
       have hqF:∀ w:World,(binOp .neq FaT (.agg #[.int .i64 0,.string ⟨#[]⟩,.int .i64 0]) (.agg #[.int .i64 0,.string ⟨#[]⟩,.int .i64 0])).run Tryz.prog w=.ok (.bool false) w:=fun w=>by kernel_rfl
       have he1:p.toList.isEmpty=false:=by
        cases h':p.toList with
        | nil=>rw[Tw.zau] at h';exact absurd (List.length_eq_zero_iff.2 h') (by rw[Ww.zab];exact h0)
        | cons _ _=>rfl
       have he2:¬ p.toList=[]:=fun h'=>by rw[Tw.zau] at h';exact absurd (List.length_eq_zero_iff.2 h') (by rw[Ww.zab];exact h0)
       have HFD:=Lib.hid (And.intro gpaths (And.intro gplen (And.intro hns (And.intro gsorted (And.intro glen (And.intro gjn ggn))))))
       have HBD:=Lib.hid hBd
       have HPW:=Lib.hid hpw
       have HNM:=Lib.hid (And.intro hnm hjs)
       have HWY:=Lib.hid gways
       clear hj hnm hjs hns gpaths gplen gsorted glen gjn ggn gget gpat gn10 gn35 hBd hpw gways hjl
       unfold zoz
       go_wp2_with fail
       have hA8:=((Below.refl w8.heap.size w8).alloc (Nat.le_refl _) (.cells #[.slice ua un uc,.int .i64 c] RST)).alloc (by rw[World.size_alloc];omega) (.cells #[.slice none 0 0,.slice none 0 0,.slice none 0 0,.bool false] Jw.TT)
       have hm8:=Jw.zah w8 (.cells #[.slice ua un uc,.int .i64 c] RST)
       have hu8:=Jw.zah (w8.alloc (.cells #[.slice ua un uc,.int .i64 c] RST)) (.cells #[.slice none 0 0,.slice none 0 0,.slice none 0 0,.bool false] Jw.TT)
       rw[World.size_alloc] at hu8
       have hm8':=Dz.zaf hm8 (.cells #[.slice none 0 0,.slice none 0 0,.slice none 0 0,.bool false] Jw.TT)
       have HM9:=Lib.hid (And.intro hm8' hu8)
       have HB9:=Lib.hid (HB8.out.trans (hA8.mono HB8.out.size))
       have HA8:=Lib.hid hA8
       have hz9:((w8.alloc (.cells #[.slice ua un uc,.int .i64 c] RST)).alloc (.cells #[.slice none 0 0,.slice none 0 0,.slice none 0 0,.bool false] Jw.TT)).heap.size=w8.heap.size+2:=by simp
       clear hm8 hu8 hm8' hA8
       generalize (w8.alloc (.cells #[.slice ua un uc,.int .i64 c] RST)).alloc (.cells #[.slice none 0 0,.slice none 0 0,.slice none 0 0,.bool false] Jw.TT)=w9 at *
       refine(HRd.out w9 (HST.out.below HA8.out) (HT.out.below HA8.out) ((HA8.out.block 0 (Array.getElem?_eq_some_iff.1 HZ8.out).1).trans HZ8.out)).mono ?_
       rintro e w10 ⟨db,rfl,B10,hdb,hgp⟩
       have HGP:=Lib.hid hgp
       have HB10:=Lib.hid (HB9.out.trans (B10.mono HB9.out.size))
       have HB810:=Lib.hid (HA8.out.trans (B10.mono HA8.out.size))
       have HM10:=Lib.hid (And.intro ((B10.block _ (Array.getElem?_eq_some_iff.1 HM9.out.1).1).trans HM9.out.1) ((B10.block _ (Array.getElem?_eq_some_iff.1 HM9.out.2).1).trans HM9.out.2))
       clear B10 hgp HRd
       have HA10:=Lib.hid ((Below.refl w10.heap.size w10).alloc (Nat.le_refl _) (.cells #[.int .i64 0,.string ⟨#[]⟩,.int .i64 0] FaT))
       have hm0:=(HA10.out.block _ (Array.getElem?_eq_some_iff.1 HM10.out.1).1).trans HM10.out.1
       have hm1:=(HA10.out.block _ (Array.getElem?_eq_some_iff.1 HM10.out.2).1).trans HM10.out.2
       have hf0:=Jw.zah w10 (.cells #[.int .i64 0,.string ⟨#[]⟩,.int .i64 0] FaT)
       have HM11:=Lib.hid (And.intro hm0 (And.intro hm1 hf0))
       have HB11:=Lib.hid (HB10.out.alloc HB10.out.size (.cells #[.int .i64 0,.string ⟨#[]⟩,.int .i64 0] FaT))
       have y0:(w10.alloc (.cells #[.int .i64 0,.string ⟨#[]⟩,.int .i64 0] FaT)).cell? ⟨w8.heap.size,0,none⟩=some (.slice ua un uc):=zaa hm0 rfl
       have y1:(w10.alloc (.cells #[.int .i64 0,.string ⟨#[]⟩,.int .i64 0] FaT)).cell? ⟨w8.heap.size,1,none⟩=some (.int .i64 c):=zaa hm0 rfl
       have t0:(w10.alloc (.cells #[.int .i64 0,.string ⟨#[]⟩,.int .i64 0] FaT)).cell? ⟨w8.heap.size+1,0,none⟩=some (.slice none 0 0):=zaa hm1 rfl
       have t1:(w10.alloc (.cells #[.int .i64 0,.string ⟨#[]⟩,.int .i64 0] FaT)).cell? ⟨w8.heap.size+1,1,none⟩=some (.slice none 0 0):=zaa hm1 rfl
       have t2:(w10.alloc (.cells #[.int .i64 0,.string ⟨#[]⟩,.int .i64 0] FaT)).cell? ⟨w8.heap.size+1,2,none⟩=some (.slice none 0 0):=zaa hm1 rfl
       have t3:(w10.alloc (.cells #[.int .i64 0,.string ⟨#[]⟩,.int .i64 0] FaT)).cell? ⟨w8.heap.size+1,3,none⟩=some (.bool false):=zaa hm1 rfl
       clear hm0 hm1 hf0
       go_wp2_with fail
       refine(HRR.out _ (zbq (zbq HU.out HB810.out) HA10.out)).mono ?_
       rintro e w12 ⟨a12,c12,rfl,hO12,B12⟩
       have HO12:=Lib.hid hO12.out
       have HB12:=Lib.hid (HB11.out.trans (B12.mono HB11.out.size))
       have HA12:=Lib.hid (HA10.out.trans (B12.mono HA10.out.size))
       have HM12:=Lib.hid (And.intro ((B12.block _ (Array.getElem?_eq_some_iff.1 HM11.out.1).1).trans HM11.out.1) (And.intro ((B12.block _ (Array.getElem?_eq_some_iff.1 HM11.out.2.1).1).trans HM11.out.2.1) ((B12.block _ (Array.getElem?_eq_some_iff.1 HM11.out.2.2).1).trans HM11.out.2.2)))
       clear hO12 B12 HRR y0 y1 t0 t1 t2 t3
       unfold Dw.dC Dw.zF
       go_upto_region 24 with (fail)
       have hA13:=((Below.refl w12.heap.size w12).alloc (Nat.le_refl _) (.cells #[.string d,.slice a12 1 c12,.slice none 0 0,.slice none 0 0,.bool false,.slice none 0 0,.slice none 0 0,.slice none 0 0,.slice none 0 0] Dw.DT)).alloc (by rw[World.size_alloc];omega) (.cells #[.int .i64 0,.string ⟨#[]⟩,.int .i64 0] FaT)
       have hd13:=Dz.zaf (Jw.zah w12 (.cells #[.string d,.slice a12 1 c12,.slice none 0 0,.slice none 0 0,.bool false,.slice none 0 0,.slice none 0 0,.slice none 0 0,.slice none 0 0] Dw.DT)) (.cells #[.int .i64 0,.string ⟨#[]⟩,.int .i64 0] FaT)
       have hf13:=Jw.zah (w12.alloc (.cells #[.string d,.slice a12 1 c12,.slice none 0 0,.slice none 0 0,.bool false,.slice none 0 0,.slice none 0 0,.slice none 0 0,.slice none 0 0] Dw.DT)) (.cells #[.int .i64 0,.string ⟨#[]⟩,.int .i64 0] FaT)
       rw[World.size_alloc] at hf13
       have hm13:=(hA13.block _ (Array.getElem?_eq_some_iff.1 HM12.out.1).1).trans HM12.out.1
       have hg13:=(hA13.block _ (Array.getElem?_eq_some_iff.1 HM12.out.2.2).1).trans HM12.out.2.2
       have HB13:=Lib.hid (HB12.out.trans (hA13.mono HB12.out.size))
       have HA13:=Lib.hid (HA12.out.trans (hA13.mono HA12.out.size))
       have HO13:=Lib.hid (zae HO12.out hA13)
       have HX13:=Lib.hid (And.intro hm13 (And.intro hg13 (And.intro hd13 hf13)))
       clear hA13 HM12
       generalize (w12.alloc (.cells #[.string d,.slice a12 1 c12,.slice none 0 0,.slice none 0 0,.bool false,.slice none 0 0,.slice none 0 0,.slice none 0 0,.slice none 0 0] Dw.DT)).alloc (.cells #[.int .i64 0,.string ⟨#[]⟩,.int .i64 0] FaT)=w13 at *
       have f0:w13.cell? ⟨w10.heap.size,0,none⟩=some (.int .i64 0):=zaa hg13 rfl
       have f1:w13.cell? ⟨w10.heap.size,1,none⟩=some (.string ⟨#[]⟩):=zaa hg13 rfl
       have f2:w13.cell? ⟨w10.heap.size,2,none⟩=some (.int .i64 0):=zaa hg13 rfl
       have g0:w13.cell? ⟨w12.heap.size+1,0,none⟩=some (.int .i64 0):=zaa hf13 rfl
       have g1:w13.cell? ⟨w12.heap.size+1,1,none⟩=some (.string ⟨#[]⟩):=zaa hf13 rfl
       have g2:w13.cell? ⟨w12.heap.size+1,2,none⟩=some (.int .i64 0):=zaa hf13 rfl
       have y0:w13.cell? ⟨w8.heap.size,0,none⟩=some (.slice ua un uc):=zaa hm13 rfl
       have y1:w13.cell? ⟨w8.heap.size,1,none⟩=some (.int .i64 c):=zaa hm13 rfl
       have e0:w13.cell? ⟨w12.heap.size,0,none⟩=some (.string d):=zaa hd13 rfl
       have e1:w13.cell? ⟨w12.heap.size,1,none⟩=some (.slice a12 1 c12):=zaa hd13 rfl
       have e2:w13.cell? ⟨w12.heap.size,2,none⟩=some (.slice none 0 0):=zaa hd13 rfl
       have e3:w13.cell? ⟨w12.heap.size,3,none⟩=some (.slice none 0 0):=zaa hd13 rfl
       have e4:w13.cell? ⟨w12.heap.size,4,none⟩=some (.bool false):=zaa hd13 rfl
       have e5:w13.cell? ⟨w12.heap.size,5,none⟩=some (.slice none 0 0):=zaa hd13 rfl
       have e6:w13.cell? ⟨w12.heap.size,6,none⟩=some (.slice none 0 0):=zaa hd13 rfl
       have e7:w13.cell? ⟨w12.heap.size,7,none⟩=some (.slice none 0 0):=zaa hd13 rfl
       have e8:w13.cell? ⟨w12.heap.size,8,none⟩=some (.slice none 0 0):=zaa hd13 rfl
       clear hm13 hg13 hd13 hf13
       have HEn:=Lib.hid fun (h1:Files w13 (.slice ua un uc) L)=>Dw.REnv_any w13 (.slice ua un uc) c d a12 none none 1 c12 0 0 0 0 false (.slice none 0 0) (.slice none 0 0) (.slice none 0 0) (.slice none 0 0) none 0 0 h1 (by have:=HFD.out.2.2.2.2.1;omega) (fun f hf=>by have:=HFD.out.2.1 f hf;omega) (by omega)
       go_wp2_with fail
       refine(HEn.out (zbq (zbq HU.out HB810.out) HA13.out)).mono ?_
       rintro e w14 ⟨a14,c14,rfl,hT14,B14⟩
       have HB14:=Lib.hid (HB13.out.trans (B14.mono HB13.out.size))
       have HA14:=Lib.hid B14
       have HFi:=Lib.hid (Dw.zuh w14 (.slice a12 1 c12) (.slice none 0 0) (.slice none 0 0) (.bool false) (.slice none 0 0) (.slice a14 L.length c14) (Dw.zbh L (bs d)) p hT14 (by rw[Dw.zen];have:=HFD.out.2.2.2.2.1;omega) (fun s hs=>by have:=HFD.out.2.2.1 s hs;omega) (by omega))
       rw[HNM.out.1] at HFi
       clear f0 f1 f2 g0 g1 g2 y0 y1 e0 e1 e2 e3 e4 e5 e6 e7 e8 hT14 B14 HEn
       go_wp2_with fail
       refine HFi.out.mono ?_
       rintro e w15 ⟨a15,c15,rfl,hO15,B15⟩
       have HO15:=Lib.hid hO15.out
       have HB15:=Lib.hid (HB14.out.trans (B15.mono HB14.out.size))
       have HA15:=Lib.hid (HA14.out.trans (B15.mono HA14.out.size))
       clear hO15 B15 HFi
       obtain⟨tb',X,⟨gv,hdat,hgv⟩,hTb⟩:=HGP.out
       obtain⟨ga,gn,gc,rfl⟩:=zel hgv
       have HA1013:=Lib.hid HA13.out
       have HP:=Lib.hid (show ∀ W,Below w13.heap.size w13 W→W.heap[db]?=some (.cells (dC d tb' (.slice none 0 0) (.slice none 0 0) (.slice none 0 0) (.slice ga gn gc)) DT (0,0))∧W.ownsRow 0 ST 1 (.slice ga gn gc) j.toList.length (j.toList.map fun x=>.string (str x))∧Jw.Tab W tb' X [zlw (Ww.by8 p) d L] [] false ∧
         W.heap[w12.heap.size]?=some (.cells #[.string d,.slice a12 1 c12,.slice none 0 0,.slice none 0 0,.bool false,.slice none 0 0,.slice none 0 0,.slice none 0 0,.slice none 0 0] Dw.DT (0,0))∧StoreAt W sb bm L c∧W.heap[0]?=some (.cells cs0 T0 fz0)∧W.ownsRow 0 Jw.VT 4 (.slice a12 1 c12) 1 (Jw.vC ⟨[88],Dz.jnA (Dg.zbm p (bs d) L),true,2⟩) from fun W hW=>by
        have hB:=HA1013.out.trans (hW.mono HA1013.out.size)
        have hB8:=HB810.out.trans (hB.mono HB810.out.size)
        exact⟨(hB.block _ (Array.getElem?_eq_some_iff.1 hdat).1).trans hdat,zae hgv hB,hTb.below hB,(hW.block _ (Array.getElem?_eq_some_iff.1 HX13.out.2.2.1).1).trans HX13.out.2.2.1,HST.out.below hB8,(hB8.block 0 (Array.getElem?_eq_some_iff.1 HZ8.out).1).trans HZ8.out,Ww.zbn (zae HO13.out hW) (Nat.zero_le _)⟩)
       have HJ2:Hid (∀ W,Calls Tryz.prog 9 #[.slice (some ⟨W.heap.size,0,none⟩) 2 2] (W.alloc (.cells #[.string d,.string p] ST)) fun e w'=>e=(match j with | some q=>.returned (.tuple #[.string (str q),.bool true]) | none=>.returned (.tuple #[.string (str []),.bool false]))∧Below W.heap.size W w'):=Lib.hid fun W=>by
        have hc:∀ j,j<[d,p].length→(W.alloc (.cells #[.string d,.string p] ST)).cell? ⟨W.heap.size,0+j,none⟩=some (.string ([d,p][j]?.getD ByteArray.empty)):=fun j hj=>by
         rw[World.cell?_alloc_at _ _ _ _ (by simp)]
         match j,hj with
         | 0,_=>rfl
         | 1,_=>rfl
        have hj:=zdp (W.alloc (.cells #[.string d,.string p] ST)) W.heap.size 0 2 [d,p] (by simp) hc (by show d.size+1+(p.size+1+0)≤_;omega)
        rw[show [d,p].map bs=[bs d,bs p] from rfl,HJJ.out] at hj
        refine hj.mono ?_
        rintro e w' ⟨hB,he⟩
        refine⟨?_,((Below.refl _ W).alloc (Nat.le_refl _) _).trans (hB.mono (by simp))⟩
        cases j<;>exact he
       have hS2:(⟨#[36,40,119,105,108,100,99,97,114,100,32]⟩++p++⟨#[41]⟩:ByteArray)=str (zdf (Ww.by8 p)):=Ww.zar (by
        rw[Tw.zbc,Tw.zbc]
        simp[zdf,Dz.zeh,Yw.kn,Ww.by8,str])
       have HWd:=Lib.hid (show ∀ (W:World) (sx dx:Nat) (v0:Value),Ei sx dx sb bm d L c cs0 T0 fz0 W→Calls Tryz.prog 16 #[.agg #[v0,.map none,gV sx dx],.string (⟨#[36,40,119,105,108,100,99,97,114,100,32]⟩++p++⟨#[41]⟩)] W fun e w'=>∃ v,e=.returned (.tuple #[v,.int .i64 0])∧Below W.heap.size W w'∧w'.ownsRow W.heap.size Ww.ST 1 v (Ew.zbg (str (Dz.jnA (Dg.zbm p (bs d) L)))).length (Ww.zbb (Ew.zbg (str (Dz.jnA (Dg.zbm p (bs d) L))))) from fun W sx dx v0 h=>by
        rw[hS2]
        exact words_env h hm hT0.2 HPW.out HBD.out (Nat.le_trans HFD.out.2.2.2.2.2.1 (by decide)) (Nat.le_trans HFD.out.2.2.2.2.2.2 (by decide)) v0)
       have HGl:=Lib.hid fun (W:World) (hW:Below w13.heap.size w13 W)=>Dg.Glob_any W m0 (by have h:=(HP.out W hW).2.2.2.2.2.1;simp[World.cell?,h,hm]) (Array.getElem?_eq_some_iff.1 (HP.out W hW).2.2.2.2.2.1).1 (HP.out W hW).2.2.2.2.1 (by have:=HFD.out.2.2.2.2.1;omega) (fun f hf=>by have:=HFD.out.2.1 f hf;omega) d p (by omega) (by omega) (fun f hf=>by have:=HWY.out f hf;omega)
       have HEq:=Lib.hid fun (W:World) (v u:Value) (xs:List ByteArray) (h1:W.ownsRow 0 ST 1 v xs.length (Ww.zbb xs)) (h2:W.ownsRow 0 ST 1 u xs.length (Ww.zbb xs)) (h3:xs.length≤1000000)=>EqStr_any W 0 v u xs h1 h2 h3
       have hxx:((str (Dz.jnA (Dg.zbm p (bs d) L))).toList == (str (Dz.jnA (Dg.zbm p (bs d) L))).toList)=true:=Tw.zeg rfl
       have hgsz:∀ x∈Dg.zbm p (bs d) L,x.size≤100000:=fun x hx=>by
        rw[←HNM.out.1] at hx
        exact HFD.out.2.2.1 x (List.mem_filter.1 hx).1
       have HGS:=Lib.hid hgsz
       have hgl:(Dg.zbm p (bs d) L).length≤4096:=HFD.out.2.2.2.2.2.2
       have hjl2:(Dz.jnA (Dg.zbm p (bs d) L)).length≤10000:=HFD.out.2.2.2.2.2.1
       have hwv:zlw (Ww.by8 p) d L=⟨[88],Dz.jnA (Dg.zbm p (bs d) L),true,2⟩:=rfl
       clear hdat hgv hTb hS2 hgsz
       generalize Dg.zbm p (bs d) L=gl at *
       have HGT:=Lib.hid (show ∀ (W:World),Jw.Tab W tb' X [zlw (Ww.by8 p) d L] [] false→Calls Tryz.prog 17 #[.pointer (some ⟨tb',0,none⟩),.string ⟨#[88]⟩] W fun e w'=>e=.returned (.tuple #[.agg #[.string (str [88]),.string (str (Dz.jnA gl)),.bool true,.int .i64 2],.bool true])∧Below W.heap.size W w' from fun W h=>by
        have:=Jw.PGet_any W h ⟨#[88]⟩ (by decide)
        rw[show zlw (Ww.by8 p) d L=⟨[88],Dz.jnA gl,true,2⟩ from hwv] at this
        exact this)
       have HRG:=Lib.hid (show ∀ (W:World),W.ownsRow 0 Jw.VT 4 (.slice a12 1 c12) 1 (Jw.vC ⟨[88],Dz.jnA gl,true,2⟩)→Calls Tryz.prog 18 #[.agg #[.slice a12 1 c12,.slice none 0 0,.slice none 0 0,.bool false],.string ⟨#[88]⟩] W fun e w'=>e=.returned (.tuple #[.agg #[.string (str [88]),.string (str (Dz.jnA gl)),.bool true,.int .i64 2],.bool true])∧Below W.heap.size W w' from fun W h=>by
        exact Jw.Get_any W 0 (.slice a12 1 c12) (.slice none 0 0) (.slice none 0 0) false [⟨[88],Dz.jnA gl,true,2⟩] [88] (by simpa[Jw.vsC] using h) (by simp))
       have HWL:Hid ((Ew.zbg (str (Dz.jnA gl))).length≤1000000):=Lib.hid (words_few hjl2)
       clear hwv
       go_upto_region 27 with (fail)
       cases j with
       | none =>
        go_wp2_with fail
        refine(HJ2.out _).mono ?_
        rintro e w16 ⟨rfl,B16⟩
        have HB17:=Lib.hid (HA15.out.trans (B16.mono HA15.out.size))
        have HA17:=Lib.hid B16
        clear B16
        have HP17:=Lib.hid (HP.out _ HB17.out)
        have HEv:=Lib.hid (env_any HP17.out.1 (some ⟨sb,0,none⟩))
        go_upto_region 31 with (fail)
        go_wp2_with fail
        refine HEv.out.mono ?_
        rintro e w18 ⟨sx,dx,rfl,hsx,hdx,_,_,B18⟩
        have HB18:=Lib.hid (HB17.out.trans (B18.mono HB17.out.size))
        have HP18:=HP.out _ HB18.out
        have HEi:=Lib.hid (show Ei sx dx sb bm d L c cs0 T0 fz0 w18 from ⟨hsx,hdx,HP18.2.2.2.2.1,HP18.2.2.2.2.2.1⟩)
        have HA18:=Lib.hid (HA17.out.trans (B18.mono HA17.out.size))
        clear hsx hdx B18 HP18 HEv
        go_wp2_with fail
        refine(HWd.out w18 sx dx _ HEi.out).mono ?_
        rintro e w19 ⟨v19,rfl,B19,hO19⟩
        obtain⟨a19,n19,c19,rfl⟩:=zel hO19
        have HO19:=Lib.hid (Ww.zbn hO19 (Nat.zero_le _))
        have HB19:=Lib.hid (HB18.out.trans (B19.mono HB18.out.size))
        have HA19:=Lib.hid (HA18.out.trans (B19.mono HA18.out.size))
        have HP19:=HP.out _ HB19.out
        clear B19 hO19 HEi
        have d1:w19.cell? ⟨db,1,none⟩=some (.pointer (some ⟨tb',0,none⟩)):=zaa HP19.1 rfl
        have ld:=(Array.getElem?_eq_some_iff.1 HP19.1).1
        have HGt:=Lib.hid (show Calls Tryz.prog 17 #[.pointer (some ⟨tb',0,none⟩),.string ⟨#[88]⟩] w19 fun e w'=>e=.returned (.tuple #[.agg #[.string (str [88]),.string (str (Dz.jnA gl)),.bool true,.int .i64 2],.bool true])∧Below w19.heap.size w19 w' from HGT.out w19 HP19.2.2.1)
        clear HP19
        go_wp2_with fail
        refine HGt.out.mono ?_
        rintro e w20 ⟨rfl,B20⟩
        have hB20:=HB19.out.trans (B20.mono HB19.out.size)
        have HB21:=Lib.hid (hB20.alloc hB20.size (.cells #[.string (str [88]),.string (str (Dz.jnA gl)),.bool true,.int .i64 2] VrT))
        have HA21:=Lib.hid ((HA19.out.trans (B20.mono HA19.out.size)).alloc (HA19.out.trans (B20.mono HA19.out.size)).size (.cells #[.string (str [88]),.string (str (Dz.jnA gl)),.bool true,.int .i64 2] VrT))
        have HV21:=Lib.hid (Jw.zah w20 (.cells #[.string (str [88]),.string (str (Dz.jnA gl)),.bool true,.int .i64 2] VrT))
        have HO21:=Lib.hid (zae HO19.out (B20.alloc B20.size (.cells #[.string (str [88]),.string (str (Dz.jnA gl)),.bool true,.int .i64 2] VrT)))
        have HP21:=HP.out _ HB21.out
        have hs21:(w20.alloc (.cells #[.string (str [88]),.string (str (Dz.jnA gl)),.bool true,.int .i64 2] VrT)).heap.size=w20.heap.size+1:=by simp
        clear B20 hB20 d1 ld HGt
        go_upto_region 33 with (fail)
        generalize w20.alloc (.cells #[.string (str [88]),.string (str (Dz.jnA gl)),.bool true,.int .i64 2] VrT)=w21 at *
        have e1:w21.cell? ⟨w12.heap.size,1,none⟩=some (.slice a12 1 c12):=zaa HP21.2.2.2.1 rfl
        have e2:w21.cell? ⟨w12.heap.size,2,none⟩=some (.slice none 0 0):=zaa HP21.2.2.2.1 rfl
        have e3:w21.cell? ⟨w12.heap.size,3,none⟩=some (.slice none 0 0):=zaa HP21.2.2.2.1 rfl
        have e4:w21.cell? ⟨w12.heap.size,4,none⟩=some (.bool false):=zaa HP21.2.2.2.1 rfl
        have HRg:=Lib.hid (HRG.out w21 HP21.2.2.2.2.2.2)
        clear HP21
        go_wp2_with fail
        refine HRg.out.mono ?_
        rintro e w22 ⟨rfl,B22⟩
        have hB22:=HB21.out.trans (B22.mono HB21.out.size)
        have HB23:=Lib.hid (hB22.alloc hB22.size (.cells #[.string (str [88]),.string (str (Dz.jnA gl)),.bool true,.int .i64 2] Jw.VT))
        have hA23:=(HA21.out.trans (B22.mono HA21.out.size)).alloc (HA21.out.trans (B22.mono HA21.out.size)).size (.cells #[.string (str [88]),.string (str (Dz.jnA gl)),.bool true,.int .i64 2] Jw.VT)
        have HA23:=Lib.hid hA23
        have hA2123:=B22.alloc B22.size (.cells #[.string (str [88]),.string (str (Dz.jnA gl)),.bool true,.int .i64 2] Jw.VT)
        have HV23:=Lib.hid (And.intro ((hA2123.block _ (Array.getElem?_eq_some_iff.1 HV21.out).1).trans HV21.out) (Jw.zah w22 (.cells #[.string (str [88]),.string (str (Dz.jnA gl)),.bool true,.int .i64 2] Jw.VT)))
        have HO23:=Lib.hid (zae HO21.out hA2123)
        have HF23:=Lib.hid (zae HO15.out hA23)
        clear B22 hB22 hA2123 hA23 e1 e2 e3 e4 HRg HV21 HO21
        go_upto_region 34 with (fail)
        generalize w22.alloc (.cells #[.string (str [88]),.string (str (Dz.jnA gl)),.bool true,.int .i64 2] Jw.VT)=w23 at *
        have HJn:=Lib.hid (Ew.zmv w23 (.slice a15 gl.length c15) gl (Ww.Rd.of_own HF23.out) (by omega) (fun x hx=>HGS.out x hx))
        rw[HNM.out.2] at HJn
        go_wp2_with fail
        refine HJn.out.mono ?_
        rintro e w24 ⟨rfl,B24⟩
        have HSp:=Lib.hid (Ew.zgn w24 (str (Dz.jnA gl)) (by show (Dz.jnA gl).toArray.size≤_;rw[List.size_toArray];omega))
        go_wp2_with fail
        refine HSp.out.mono ?_
        rintro e w25 ⟨v25,u25,rfl,hO25,_,B25⟩
        obtain⟨a25,n25,c25,rfl⟩:=zel hO25
        have hB2325:=B24.trans (B25.mono B24.size)
        have HB25:=Lib.hid (HB23.out.trans (hB2325.mono HB23.out.size))
        have HO25:=Lib.hid (Ww.zbn hO25 (Nat.zero_le _))
        have HV25:=Lib.hid (And.intro ((hB2325.block _ (Array.getElem?_eq_some_iff.1 HV23.out.1).1).trans HV23.out.1) ((hB2325.block _ (Array.getElem?_eq_some_iff.1 HV23.out.2).1).trans HV23.out.2))
        have HN25:=Lib.hid (zae HO23.out hB2325)
        have HF25:=Lib.hid (zae HF23.out hB2325)
        clear B24 B25 hO25 hB2325 HJn HSp HV23 HO23 HF23
        go_wp2_with fail
        refine(HGl.out w25 HB25.out).mono ?_
        rintro e w26 ⟨v26,rfl,hO26,B26⟩
        obtain⟨a26,n26,c26,rfl⟩:=zel hO26
        have HO26:=Lib.hid (Ww.zbn hO26 (Nat.zero_le _))
        have HB26:=Lib.hid (HB25.out.trans (B26.mono HB25.out.size))
        have HB2526:=Lib.hid B26
        clear B26 hO26
        go_wp2_with fail
        refine(HEq.out w26 _ _ gl HO26.out (Ww.zbn (zae HF25.out HB2526.out) (Nat.zero_le _)) (by omega)).mono ?_
        rintro e w27 ⟨rfl,B27⟩
        have HB27:=Lib.hid (HB26.out.trans (B27.mono HB26.out.size))
        have HB2527:=Lib.hid (HB2526.out.trans (B27.mono HB2526.out.size))
        have HP27:=HP.out _ HB27.out
        have d5:w27.cell? ⟨db,5,none⟩=some (.slice ga gn gc):=zaa HP27.1 rfl
        have ld:=(Array.getElem?_eq_some_iff.1 HP27.1).1
        have HG27:=Lib.hid HP27.2.1
        clear B27 HP27
        go_wp2_with fail
        refine(HEq.out w27 _ _ [] HG27.out (World.ownsRow_nil _ _ _ _) (by decide)).mono ?_
        rintro e w28 ⟨rfl,B28⟩
        have HB28:=Lib.hid (HB27.out.trans (B28.mono HB27.out.size))
        have hB2528:=HB2527.out.trans (B28.mono HB2527.out.size)
        have HB2528:=Lib.hid hB2528
        have v1:w28.cell? ⟨w20.heap.size,1,none⟩=some (.string (str (Dz.jnA gl))):=zaa ((hB2528.block _ (Array.getElem?_eq_some_iff.1 HV25.out.1).1).trans HV25.out.1) rfl
        have v2:w28.cell? ⟨w22.heap.size,1,none⟩=some (.string (str (Dz.jnA gl))):=zaa ((hB2528.block _ (Array.getElem?_eq_some_iff.1 HV25.out.2).1).trans HV25.out.2) rfl
        clear B28 hB2528 d5 ld
        go_wp2_with fail
        refine(HEq.out w28 _ _ (Ew.zbg (str (Dz.jnA gl))) (zae HN25.out HB2528.out) (zae HO25.out HB2528.out) HWL.out).mono ?_
        rintro e w29 ⟨rfl,B29⟩
        have HB29:=Lib.hid (HB28.out.trans (B29.mono HB28.out.size))
        clear B29 v1 v2
        go_wp2_with fail
        go_ret
        exact⟨rfl,HB13.out.trans (HB29.out.mono HB13.out.size)⟩
       | some q =>
        go_wp2_with fail
        refine(HJ2.out _).mono ?_
        rintro e w16 ⟨rfl,B16⟩
        have hB16:=HA15.out.trans (B16.mono HA15.out.size)
        have HB17:=Lib.hid (hB16.alloc hB16.size (.cells #[.string (str q)] ST))
        have HA17:=Lib.hid ((B16).alloc B16.size (.cells #[.string (str q)] ST))
        have HQ17:=Lib.hid (Jw.zah w16 (.cells #[.string (str q)] ST))
        clear B16 hB16
        have HP17:=Lib.hid (HP.out _ HB17.out)
        have HEv:=Lib.hid (env_any HP17.out.1 (some ⟨sb,0,none⟩))
        go_upto_region 31 with (fail)
        generalize w16.alloc (.cells #[.string (str q)] ST)=w17 at *
        go_wp2_with fail
        refine HEv.out.mono ?_
        rintro e w18 ⟨sx,dx,rfl,hsx,hdx,_,_,B18⟩
        have HB18:=Lib.hid (HB17.out.trans (B18.mono HB17.out.size))
        have HP18:=HP.out _ HB18.out
        have HEi:=Lib.hid (show Ei sx dx sb bm d L c cs0 T0 fz0 w18 from ⟨hsx,hdx,HP18.2.2.2.2.1,HP18.2.2.2.2.2.1⟩)
        have HA18:=Lib.hid (HA17.out.trans (B18.mono HA17.out.size))
        have HQ18:=Lib.hid ((B18.block _ (Array.getElem?_eq_some_iff.1 HQ17.out).1).trans HQ17.out)
        clear hsx hdx B18 HP18 HEv
        go_wp2_with fail
        refine(HWd.out w18 sx dx _ HEi.out).mono ?_
        rintro e w19 ⟨v19,rfl,B19,hO19⟩
        obtain⟨a19,n19,c19,rfl⟩:=zel hO19
        have HO19:=Lib.hid (Ww.zbn hO19 (Nat.zero_le _))
        have HB19:=Lib.hid (HB18.out.trans (B19.mono HB18.out.size))
        have HA19:=Lib.hid (HA18.out.trans (B19.mono HA18.out.size))
        have HP19:=HP.out _ HB19.out
        have HQ19:=Lib.hid ((B19.block _ (Array.getElem?_eq_some_iff.1 HQ18.out).1).trans HQ18.out)
        clear B19 hO19 HEi
        have d1:w19.cell? ⟨db,1,none⟩=some (.pointer (some ⟨tb',0,none⟩)):=zaa HP19.1 rfl
        have ld:=(Array.getElem?_eq_some_iff.1 HP19.1).1
        have HGt:=Lib.hid (show Calls Tryz.prog 17 #[.pointer (some ⟨tb',0,none⟩),.string ⟨#[88]⟩] w19 fun e w'=>e=.returned (.tuple #[.agg #[.string (str [88]),.string (str (Dz.jnA gl)),.bool true,.int .i64 2],.bool true])∧Below w19.heap.size w19 w' from HGT.out w19 HP19.2.2.1)
        clear HP19
        go_wp2_with fail
        refine HGt.out.mono ?_
        rintro e w20 ⟨rfl,B20⟩
        have hB20:=HB19.out.trans (B20.mono HB19.out.size)
        have HB21:=Lib.hid (hB20.alloc hB20.size (.cells #[.string (str [88]),.string (str (Dz.jnA gl)),.bool true,.int .i64 2] VrT))
        have HA21:=Lib.hid ((HA19.out.trans (B20.mono HA19.out.size)).alloc (HA19.out.trans (B20.mono HA19.out.size)).size (.cells #[.string (str [88]),.string (str (Dz.jnA gl)),.bool true,.int .i64 2] VrT))
        have HV21:=Lib.hid (Jw.zah w20 (.cells #[.string (str [88]),.string (str (Dz.jnA gl)),.bool true,.int .i64 2] VrT))
        have HO21:=Lib.hid (zae HO19.out (B20.alloc B20.size (.cells #[.string (str [88]),.string (str (Dz.jnA gl)),.bool true,.int .i64 2] VrT)))
        have HP21:=HP.out _ HB21.out
        have HQ21:=Lib.hid (((B20.alloc B20.size (.cells #[.string (str [88]),.string (str (Dz.jnA gl)),.bool true,.int .i64 2] VrT)).block _ (Array.getElem?_eq_some_iff.1 HQ19.out).1).trans HQ19.out)
        have hs21:(w20.alloc (.cells #[.string (str [88]),.string (str (Dz.jnA gl)),.bool true,.int .i64 2] VrT)).heap.size=w20.heap.size+1:=by simp
        clear B20 hB20 d1 ld HGt
        go_upto_region 33 with (fail)
        generalize w20.alloc (.cells #[.string (str [88]),.string (str (Dz.jnA gl)),.bool true,.int .i64 2] VrT)=w21 at *
        have e1:w21.cell? ⟨w12.heap.size,1,none⟩=some (.slice a12 1 c12):=zaa HP21.2.2.2.1 rfl
        have e2:w21.cell? ⟨w12.heap.size,2,none⟩=some (.slice none 0 0):=zaa HP21.2.2.2.1 rfl
        have e3:w21.cell? ⟨w12.heap.size,3,none⟩=some (.slice none 0 0):=zaa HP21.2.2.2.1 rfl
        have e4:w21.cell? ⟨w12.heap.size,4,none⟩=some (.bool false):=zaa HP21.2.2.2.1 rfl
        have HRg:=Lib.hid (HRG.out w21 HP21.2.2.2.2.2.2)
        clear HP21
        go_wp2_with fail
        refine HRg.out.mono ?_
        rintro e w22 ⟨rfl,B22⟩
        have hB22:=HB21.out.trans (B22.mono HB21.out.size)
        have HB23:=Lib.hid (hB22.alloc hB22.size (.cells #[.string (str [88]),.string (str (Dz.jnA gl)),.bool true,.int .i64 2] Jw.VT))
        have hA23:=(HA21.out.trans (B22.mono HA21.out.size)).alloc (HA21.out.trans (B22.mono HA21.out.size)).size (.cells #[.string (str [88]),.string (str (Dz.jnA gl)),.bool true,.int .i64 2] Jw.VT)
        have HA23:=Lib.hid hA23
        have hA2123:=B22.alloc B22.size (.cells #[.string (str [88]),.string (str (Dz.jnA gl)),.bool true,.int .i64 2] Jw.VT)
        have HV23:=Lib.hid (And.intro ((hA2123.block _ (Array.getElem?_eq_some_iff.1 HV21.out).1).trans HV21.out) (Jw.zah w22 (.cells #[.string (str [88]),.string (str (Dz.jnA gl)),.bool true,.int .i64 2] Jw.VT)))
        have HO23:=Lib.hid (zae HO21.out hA2123)
        have HF23:=Lib.hid (zae HO15.out hA23)
        have HQ23:=Lib.hid ((hA2123.block _ (Array.getElem?_eq_some_iff.1 HQ21.out).1).trans HQ21.out)
        clear B22 hB22 hA2123 hA23 e1 e2 e3 e4 HRg HV21 HO21
        go_upto_region 34 with (fail)
        generalize w22.alloc (.cells #[.string (str [88]),.string (str (Dz.jnA gl)),.bool true,.int .i64 2] Jw.VT)=w23 at *
        have HJn:=Lib.hid (Ew.zmv w23 (.slice a15 gl.length c15) gl (Ww.Rd.of_own HF23.out) (by omega) (fun x hx=>HGS.out x hx))
        rw[HNM.out.2] at HJn
        go_wp2_with fail
        refine HJn.out.mono ?_
        rintro e w24 ⟨rfl,B24⟩
        have HSp:=Lib.hid (Ew.zgn w24 (str (Dz.jnA gl)) (by show (Dz.jnA gl).toArray.size≤_;rw[List.size_toArray];omega))
        go_wp2_with fail
        refine HSp.out.mono ?_
        rintro e w25 ⟨v25,u25,rfl,hO25,_,B25⟩
        obtain⟨a25,n25,c25,rfl⟩:=zel hO25
        have hB2325:=B24.trans (B25.mono B24.size)
        have HB25:=Lib.hid (HB23.out.trans (hB2325.mono HB23.out.size))
        have HO25:=Lib.hid (Ww.zbn hO25 (Nat.zero_le _))
        have HV25:=Lib.hid (And.intro ((hB2325.block _ (Array.getElem?_eq_some_iff.1 HV23.out.1).1).trans HV23.out.1) ((hB2325.block _ (Array.getElem?_eq_some_iff.1 HV23.out.2).1).trans HV23.out.2))
        have HN25:=Lib.hid (zae HO23.out hB2325)
        have HF25:=Lib.hid (zae HF23.out hB2325)
        have HQ25:=Lib.hid ((hB2325.block _ (Array.getElem?_eq_some_iff.1 HQ23.out).1).trans HQ23.out)
        clear B24 B25 hO25 hB2325 HJn HSp HV23 HO23 HF23
        go_wp2_with fail
        refine(HGl.out w25 HB25.out).mono ?_
        rintro e w26 ⟨v26,rfl,hO26,B26⟩
        obtain⟨a26,n26,c26,rfl⟩:=zel hO26
        have HO26:=Lib.hid (Ww.zbn hO26 (Nat.zero_le _))
        have HB26:=Lib.hid (HB25.out.trans (B26.mono HB25.out.size))
        have HB2526:=Lib.hid B26
        clear B26 hO26
        go_wp2_with fail
        refine(HEq.out w26 _ _ gl HO26.out (Ww.zbn (zae HF25.out HB2526.out) (Nat.zero_le _)) (by omega)).mono ?_
        rintro e w27 ⟨rfl,B27⟩
        have HB27:=Lib.hid (HB26.out.trans (B27.mono HB26.out.size))
        have HB2527:=Lib.hid (HB2526.out.trans (B27.mono HB2526.out.size))
        have HP27:=HP.out _ HB27.out
        have d5:w27.cell? ⟨db,5,none⟩=some (.slice ga gn gc):=zaa HP27.1 rfl
        have ld:=(Array.getElem?_eq_some_iff.1 HP27.1).1
        have HG27:=Lib.hid HP27.2.1
        have HQ27:=Lib.hid ((HB2527.out.block _ (Array.getElem?_eq_some_iff.1 HQ25.out).1).trans HQ25.out)
        clear B27 HP27
        go_wp2_with fail
        refine(HEq.out w27 _ _ [str q] HG27.out (own_one HQ27.out) (by simp)).mono ?_
        rintro e w28 ⟨rfl,B28⟩
        have HB28:=Lib.hid (HB27.out.trans (B28.mono HB27.out.size))
        have hB2528:=HB2527.out.trans (B28.mono HB2527.out.size)
        have HB2528:=Lib.hid hB2528
        have v1:w28.cell? ⟨w20.heap.size,1,none⟩=some (.string (str (Dz.jnA gl))):=zaa ((hB2528.block _ (Array.getElem?_eq_some_iff.1 HV25.out.1).1).trans HV25.out.1) rfl
        have v2:w28.cell? ⟨w22.heap.size,1,none⟩=some (.string (str (Dz.jnA gl))):=zaa ((hB2528.block _ (Array.getElem?_eq_some_iff.1 HV25.out.2).1).trans HV25.out.2) rfl
        clear B28 hB2528 d5 ld
        go_wp2_with fail
        refine(HEq.out w28 _ _ (Ew.zbg (str (Dz.jnA gl))) (zae HN25.out HB2528.out) (zae HO25.out HB2528.out) HWL.out).mono ?_
        rintro e w29 ⟨rfl,B29⟩
        have HB29:=Lib.hid (HB28.out.trans (B29.mono HB28.out.size))
        clear B29 v1 v2
        go_wp2_with fail
        go_ret
        exact⟨rfl,HB13.out.trans (HB29.out.mono HB13.out.size)⟩
     ·unfold zoz
      go_wp2_with fail
      go_ret
      exact⟨rfl,(HB8.out.alloc HB8.out.size _).alloc (by have:=HB8.out.size;rw[World.size_alloc];omega) _⟩
end Dq
end Go.Proofs.YtgdpbnfgcabneaaGreatDoor
