/- Part of the proof. -/
import Derived.Test.YtgdpbnfgcabneaaGreatDoorQDQRead
import Derived.Test.YtgdpbnfgcabneaaGreatDoorQDQFind
set_option maxRecDepth 100000
set_option maxHeartbeats 40000000
namespace Go.Proofs.YtgdpbnfgcabneaaGreatDoor
namespace Dq
open Go.RowKit Go.Maps Ww Tw Kw Jw Xb Xw Dz
section
variable {rb db tb ib kb:Nat} {au gv:Value} {w:World}
theorem text_q (hr:w.heap[rb]?=some (.cells (rC db tb au gv ib kb) RT (0,0))) (s:Bs) (Y:List Nat) (P:ByteArray→World→Prop) (HE:BegC w (.pointer (some ⟨tb,0,none⟩)) au gv s Y P) (hY:∀ i∈Y,i<w.heap.size) :
  Calls Tryz.prog 247 #[.pointer (some ⟨rb,0,none⟩),.string (str s)] w fun e w'=>∃ r W,e=.returned (.string r)∧Kept Y w w'∧P r W∧Kept [w.heap.size+1] W w'∧∃ cs,W.heap[w.heap.size+1]?=some (.cells cs ErrT (0,0)):=by
 have HT:=Lib.hid (Text_z w (.pointer (some ⟨tb,0,none⟩)) au gv s Y P HE hY)
 have c1:w.cell? ⟨rb,1,none⟩=some (.pointer (some ⟨tb,0,none⟩)):=zaa hr rfl
 have c2:w.cell? ⟨rb,2,none⟩=some au:=zaa hr rfl
 have c3:w.cell? ⟨rb,3,none⟩=some gv:=zaa hr rfl
 have hlt:=(Array.getElem?_eq_some_iff.1 hr).1
 clear HE hY
 go_enter Tryz.func247,Tryz.ntmps247
 go_wp2_with fail
 refine HT.out.mono ?_
 rintro e w1 ⟨r,W,rfl,hk1,hP,hk2,cs,hcs⟩
 have H1:=Lib.hid (And.intro hk1 (And.intro hP (And.intro hk2 hcs)))
 clear hk1 hk2 hP HT hcs
 go_wp2_with fail
 refine(zml w1).mono ?_
 rintro e w2 ⟨rfl,rfl⟩
 go_wp2_with fail
 go_ret
 exact⟨r,W,rfl,H1.out.1,H1.out.2.1,H1.out.2.2.1,cs,H1.out.2.2.2⟩
abbrev VaT:TypeId:=64
abbrev PT0:TypeId:=219
theorem zsi (hr:w.heap[rb]?=some (.cells (rC db tb au gv ib kb) RT (0,0))) {dir:ByteArray} (ln:Int) (n x:Bs) (t nd o:ByteArray) (ra:Option Addr) (rn rc:Nat) (r0:Bs)
  (P:World→Prop) (R:World→Prop)
  (HT:∀ W,Below w.heap.size w W→w.heap.size+2≤W.heap.size→Calls Tryz.prog 247 #[.pointer (some ⟨rb,0,none⟩),.string (str x)] W fun e w'=>e=.returned (.string (str r0))∧(∀ i,w.heap.size≤i→i<W.heap.size→w'.heap[i]?=W.heap[i]?)∧w'.heap[rb]?=some (.cells (rC db tb au gv ib kb) RT (0,0))∧(∃ tv pv cv gl,w'.heap[db]?=some (.cells (dC dir tb tv pv cv gl) DT (0,0)))∧P w')
  (HS:∀ W W',P W→Kept [w.heap.size+1] W W'→(∃ cs,W.heap[w.heap.size+1]?=some (.cells cs VaT (0,0)))→Calls Tryz.prog 43 #[.pointer (some ⟨tb,0,none⟩),.agg #[.string (str n),.string (str r0),.bool true,.int .i64 2]] W' fun e w'=>e=.returned (.int .i64 0)∧(∀ i,w.heap.size≤i→i<W'.heap.size→w'.heap[i]?=W'.heap[i]?)∧R w') :
  Calls Tryz.prog 173 #[.pointer (some ⟨rb,0,none⟩),.agg #[.int .i64 0,.int .i64 ln,.string (str n),.string (str [58,61]),.string (str x),.bool false,.bool false,.string t,.string nd,.string o,.slice ra rn rc]] w fun e w'=>e=.returned (.tuple #[])∧R w':=by
 have hlt:=(Array.getElem?_eq_some_iff.1 hr).1
 have HTT:=Lib.hid HT
 have HSS:=Lib.hid HS
 have y0:=zah w (.cells #[.int .i64 0,.int .i64 ln,.string (str n),.string (str [58,61]),.string (str x),.bool false,.bool false,.string t,.string nd,.string o,.slice ra rn rc] PT0)
 have q61:((str [58,61]).toList == [61])=false:=by kernel_rfl
 have q58:((str [58,61]).toList == [58,61])=true:=by kernel_rfl
 clear HT HS hr
 go_enter Tryz.func173,Tryz.ntmps173
 go_wp2_with fail
 have hA:=((Below.refl _ w).alloc (Nat.le_refl _) (.cells #[.int .i64 0,.int .i64 ln,.string (str n),.string (str [58,61]),.string (str x),.bool false,.bool false,.string t,.string nd,.string o,.slice ra rn rc] PT0)).alloc (by simp) (.cells #[.string (str n),.string (str x),.bool false,.int .i64 2] VaT)
 have h0:=zaf y0 (.cells #[.string (str n),.string (str x),.bool false,.int .i64 2] VaT)
 have h1:=zah (w.alloc (.cells #[.int .i64 0,.int .i64 ln,.string (str n),.string (str [58,61]),.string (str x),.bool false,.bool false,.string t,.string nd,.string o,.slice ra rn rc] PT0)) (.cells #[.string (str n),.string (str x),.bool false,.int .i64 2] VaT)
 rw[World.size_alloc] at h1
 have hsz:((w.alloc (.cells #[.int .i64 0,.int .i64 ln,.string (str n),.string (str [58,61]),.string (str x),.bool false,.bool false,.string t,.string nd,.string o,.slice ra rn rc] PT0)).alloc (.cells #[.string (str n),.string (str x),.bool false,.int .i64 2] VaT)).heap.size=w.heap.size+2:=by simp
 refine(HTT.out _ hA (by omega)).mono ?_
 rintro e w1 ⟨rfl,hk1,hr1,⟨tv,pv,cv,gl,hd1⟩,hp1⟩
 have h10:=(hk1 w.heap.size (Nat.le_refl _) (by omega)).trans h0
 have h11:=(hk1 (w.heap.size+1) (by omega) (by omega)).trans h1
 have l11:=(Array.getElem?_eq_some_iff.1 h11).1
 have l10:=(Array.getElem?_eq_some_iff.1 h10).1
 have c1:=zaa (i:=1) h11 rfl
 have c2:=zaa (i:=2) h11 rfl
 have f1:=zad h11 1
 have f2:=zad h11 2
 have H10:=Lib.hid h10
 have H11:=Lib.hid h11
 have HR1:=Lib.hid hr1
 have HD1:=Lib.hid hd1
 have HP1:=Lib.hid hp1
 clear h10 h11 hr1 hd1 hp1 hk1 h0 h1 hA hsz y0 HTT
 go_wp2_with fail
 have hv2:=heap_set (i:=2) (heap_set (i:=1) H11.out (.string (str r0))) (.bool true)
 have HK2:=Lib.hid (((Kept.refl [w.heap.size+1] w1).setCell (p:=⟨w.heap.size+1,1,none⟩) (.inl (by simp)) (.string (str r0))).setCell (p:=⟨w.heap.size+1,2,none⟩) (.inl (by simp)) (.bool true))
 have hnd:db≠w.heap.size+1:=fun e=>by
  have h1:=HD1.out;have h2:=H11.out
  rw[e,h2] at h1;injection h1 with h1;injection h1 with _ h3;revert h3;decide
 have hr2:=zde (zde HR1.out (show rb≠w.heap.size+1 by omega) (i:=1) (.string (str r0))) (show rb≠w.heap.size+1 by omega) (i:=2) (.bool true)
 have hd2:=zde (zde HD1.out hnd (i:=1) (.string (str r0))) hnd (i:=2) (.bool true)
 have hx2:=zde (zde H10.out (show w.heap.size≠w.heap.size+1 by omega) (i:=1) (.string (str r0))) (show w.heap.size≠w.heap.size+1 by omega) (i:=2) (.bool true)
 have HVT:=Lib.hid H11.out
 generalize (w1.setCell ⟨w.heap.size+1,1,none⟩ (.string (str r0))).setCell ⟨w.heap.size+1,2,none⟩ (.bool true)=w2 at *
 have HX2:=Lib.hid hx2
 have HS2:=Lib.hid fun W (hB:Below w2.heap.size w2 W)=>HSS.out w1 W HP1.out (HK2.out.below hB) ⟨_,HVT.out⟩
 have z0:w2.cell? ⟨rb,0,none⟩=some (.pointer (some ⟨db,0,none⟩)):=zaa hr2 rfl
 have z1:w2.cell? ⟨db,1,none⟩=some (.pointer (some ⟨tb,0,none⟩)):=zaa hd2 rfl
 have y0:w2.cell? ⟨w.heap.size+1,0,none⟩=some (.string (str n)):=zaa hv2 rfl
 have y1:w2.cell? ⟨w.heap.size+1,1,none⟩=some (.string (str r0)):=zaa hv2 rfl
 have y2:w2.cell? ⟨w.heap.size+1,2,none⟩=some (.bool true):=zaa hv2 rfl
 have y3:w2.cell? ⟨w.heap.size+1,3,none⟩=some (.int .i64 2):=zaa hv2 rfl
 have lr2:=(Array.getElem?_eq_some_iff.1 hr2).1
 have ld2:=(Array.getElem?_eq_some_iff.1 hd2).1
 have lv2:=(Array.getElem?_eq_some_iff.1 hv2).1
 clear hr2 hd2 hv2 hx2 hnd c1 c2 f1 f2 H11 HP1 HK2 l10 l11 HR1 HD1 H10
 go_region_with (first | (go_at_call 43;refine(HS2.out w2.drew ((Below.refl _ w2).drew)).mono ?_;rintro e w3 ⟨rfl,hk3,hR⟩;have hx3:=(hk3 w.heap.size (Nat.le_refl _) (show w.heap.size<w2.heap.size by omega)).trans HX2.out;have k6:w3.cell? ⟨w.heap.size,6,none⟩=some (.bool false):=zaa hx3 rfl;have lx3:=(Array.getElem?_eq_some_iff.1 hx3).1;have HRR:=Lib.hid hR;clear hR hk3 hx3) | (go_at_call 246;refine(zml _).mono ?_;rintro e w4 ⟨rfl,rfl⟩))
 all_goals (
  go_wp2_with fail
  go_end0
  exact⟨rfl,HRR.out⟩)
end
theorem zwh (w:World) (rb:Nat) (ln:Int) (n op x t nd o:ByteArray) (rv:Value) (hrv:∃ a n c,rv=.slice a n c) (R:World→Prop)
  (HR:∀ W,Below w.heap.size w W→Calls Tryz.prog 173 #[.pointer (some ⟨rb,0,none⟩),.agg #[.int .i64 0,.int .i64 ln,.string n,.string op,.string x,.bool false,.bool false,.string t,.string nd,.string o,rv]] W fun e w'=>e=.returned (.tuple #[])∧R w') :
  Calls Tryz.prog 102 #[.pointer (some ⟨rb,0,none⟩),.agg #[.int .i64 0,.int .i64 ln,.string n,.string op,.string x,.bool false,.bool false,.string t,.string nd,.string o,rv]] w fun e w'=>e=.returned (.tuple #[])∧R w':=by
 obtain⟨a,n',c,rfl⟩:=hrv
 have HR:=Lib.hid (HR _ ((Below.refl _ w).alloc (Nat.le_refl _) (.cells #[.int .i64 0,.int .i64 ln,.string n,.string op,.string x,.bool false,.bool false,.string t,.string nd,.string o,.slice a n' c] PT0)))
 go_enter Tryz.func102,Tryz.ntmps102
 go_wp2_with fail
 refine HR.out.mono ?_
 rintro e w1 ⟨rfl,h1⟩
 have H1:=Lib.hid h1
 clear h1 HR
 go_wp2_with fail
 go_end0
 exact⟨rfl,H1.out⟩
theorem zje {n b:Nat} {cs:Array Value} {T:TypeId} {fz:Nat×Nat}:Holds n fun W=>W.heap[b]?=some (.cells cs T fz):=fun _ _ _ _ h hg hr=>(zcj hg (fun r e=>(hr r e).2) h).trans h
theorem map_holds {α:Type} {K:Kind α} {n b:Nat} {L:List (Bs×α)} (hb:b<n):Holds n fun W=>Kw.MapAt K W b L:=fun _ W W' row h hg hr =>
 h.block (hg.block b h.lt (fun e=>by have:=(hr b e.symm).1;omega))
theorem row_holds {n lo:Nat} {e:TypeId} {z:Nat} {v:Value} {k:Nat} {xs:List Value}:Holds n fun W=>W.ownsRow lo e z v k xs:=fun _ W W' row h hg hr=>by
 rcases h.2 with ⟨hv,hn⟩ | ⟨g,cap,cur,hv,hb,hg',h1⟩
 ·exact⟨h.1,.inl ⟨hv,hn⟩⟩
 ·exact⟨h.1,.inr ⟨g,cap,cur,hv,hb,(zcj hg (fun r e=>(hr r e).2) hg').trans hg',h1⟩⟩
theorem zoo {n sb bm:Nat} {L:List Sw.F} {c:Int} (hb:bm<n):Holds n fun W=>Sw.StoreAt W sb bm L c:=fun _ W W' row h hg hr=>by
 obtain⟨es,ck,hh,r⟩:=h.map.own
 have h2:=hg.block bm (Array.getElem?_eq_some_iff.1 hh).1 (fun e=>by have:=(hr bm e.symm).1;omega)
 exact⟨(zcj hg (fun r e=>(hr r e).2) h.cells).trans h.cells,⟨⟨es,ck,h2.trans hh,r⟩,h.map.sorted⟩⟩
def Told (db tb:Nat) (dir:ByteArray) (gl:List Bs) (W:World):Prop:=∃ v,W.heap[db]?=some (.cells (dC dir tb (.slice none 0 0) (.slice none 0 0) (.slice none 0 0) v) DT (0,0))∧W.ownsRow 0 ST 1 v gl.length (gl.map fun j=>.string (str j))
theorem zpt {db tb:Nat} {dir:ByteArray} {gl:List Bs}:Dz.Abides (Told db tb dir gl):=fun W W' Z hk hz ⟨v,h1,h2⟩ =>
 ⟨v,zis ⟨by decide,by decide,by decide,by decide⟩ W W' Z hk hz h1,row_abide ⟨by decide,by decide,by decide,by decide⟩ W W' Z hk hz h2⟩
theorem told_holds {n db tb:Nat} {dir:ByteArray} {gl:List Bs}:Holds n (Told db tb dir gl):=fun s W W' row ⟨v,h1,h2⟩ hg hr =>
 ⟨v,zje s W W' row h1 hg hr,row_holds s W W' row h2 hg hr⟩
structure Gi (rb db tb sx dx rx fx ib kb sb bm:Nat) (dir:ByteArray) (L:List Sw.F) (c:Int) (cs0:Array Value) (T0:TypeId) (fz0:Nat×Nat) (W:World):Prop where
 r:W.heap[rb]?=some (.cells (rC db tb (.map none) (qV rx fx) ib kb) RT (0,0))
 d:W.heap[db]?=some (.cells (dC dir tb (.slice none 0 0) (.slice none 0 0) (.slice none 0 0) (.slice none 0 0)) DT (0,0))
 crx:W.heap[rx]?=some (.cells #[.pointer (some ⟨rb,0,none⟩)] RpT (0,0))
 cfx:W.heap[fx]?=some (.cells #[gV sx dx] FuT (0,0))
 csx:W.heap[sx]?=some (.cells #[.pointer (some ⟨sb,0,none⟩)] StP (0,0))
 cdx:W.heap[dx]?=some (.cells #[.string dir] ST (0,0))
 k:Kw.MapAt UK W kb []
 st:Sw.StoreAt W sb bm L c
 z:W.heap[0]?=some (.cells cs0 T0 fz0)
section
variable {rb db tb sx dx rx fx ib kb sb bm:Nat} {dir:ByteArray} {L:List Sw.F} {c:Int} {cs0:Array Value} {T0:TypeId} {fz0:Nat×Nat} {W W':World}
theorem zrb (h0:Else T0):Dz.Abides (Gi rb db tb sx dx rx fx ib kb sb bm dir L c cs0 T0 fz0):=fun W W' Z hk hz h =>
 have E:∀ {b:Nat} {cs:Array Value} {T:TypeId} {fz:Nat×Nat},Else T→W.heap[b]?=some (.cells cs T fz)→W'.heap[b]?=some (.cells cs T fz):=fun hT e=>zis hT W W' Z hk hz e
 ⟨E ⟨by decide,by decide,by decide,by decide⟩ h.r,E ⟨by decide,by decide,by decide,by decide⟩ h.d,E ⟨by decide,by decide,by decide,by decide⟩ h.crx,E ⟨by decide,by decide,by decide,by decide⟩ h.cfx,E ⟨by decide,by decide,by decide,by decide⟩ h.csx,E ⟨by decide,by decide,by decide,by decide⟩ h.cdx,map_abide W W' Z hk hz h.k,zng W W' Z hk hz h.st,E h0 h.z⟩
theorem gi_holds {n:Nat} (hk:kb<n) (hb:bm<n):Holds n (Gi rb db tb sx dx rx fx ib kb sb bm dir L c cs0 T0 fz0):=fun s W W' row h hg hr =>
 have E:∀ {b:Nat} {cs:Array Value} {T:TypeId} {fz:Nat×Nat},W.heap[b]?=some (.cells cs T fz)→W'.heap[b]?=some (.cells cs T fz):=fun e=>zje s W W' row e hg hr
 ⟨E h.r,E h.d,E h.crx,E h.cfx,E h.csx,E h.cdx,map_holds hk s W W' row h.k hg hr,zoo hb s W W' row h.st hg hr,E h.z⟩
theorem zkk {b b':Nat} {cs cs':Array Value} {T T':TypeId} {fz fz':Nat×Nat} (h:W.heap[b]?=some (.cells cs T fz)) (h':W.heap[b']?=some (.cells cs' T' fz')) (hT:T≠T'):b≠b':=fun e=>by
 subst e;rw[h] at h';injection h' with h';injection h' with _ h3;exact hT h3
theorem ask_any (h:Gi rb db tb sx dx rx fx ib kb sb bm dir L c cs0 T0 fz0 W) (p:ByteArray) (j:Option Bs) (hs:dir.size≤1000000∧p.size≤1000000) (hj:Hid (Pt.join [bs dir,bs p]=j)) (hl:∀ q,j=some q→q.length≤3000000) :
  Calls Tryz.prog 99 #[.pointer (some ⟨rb,0,none⟩),.string p] W fun e w'=>e=.returned (.tuple #[])∧Kept [db,kb] W w'∧Told db tb dir j.toList w':=by
 cases j with
 | none =>
  refine(ask_no h.r h.d p hs hj).mono ?_
  rintro e w' ⟨rfl,B⟩
  exact⟨rfl,Kept.of_below B,_,(B.block _ (Array.getElem?_eq_some_iff.1 h.d).1).trans h.d,World.ownsRow_nil _ _ _ _⟩
 | some q =>
  refine(ask_yes h.r h.d h.k p q hs hj (hl q rfl)).mono ?_
  rintro e w' ⟨rfl,v,h1,h2,_,hk⟩
  exact⟨rfl,hk,v,h1,zbn h2 (Nat.zero_le _)⟩
theorem find_told (h:Gi rb db tb sx dx rx fx ib kb sb bm dir L c cs0 T0 fz0 W) {m0:Int} (hm:cs0[0]?=some (.int .i64 m0)) (hT0:T0≠DT) (hbk:bm≠kb) {p:ByteArray} (hb:Bd dir p L) (j:Option Bs) (hj:Hid (Pt.join [bs dir,bs p]=j)) (hl:∀ q,j=some q→q.length≤3000000)
  {xb:Nat} {v0 v1 v3 v4 v5:Value} {d:Int} (hC:ZAt xb v0 v1 (qV rx fx) v3 v4 v5 W d) :
  Calls Tryz.prog 261 #[.pointer (some ⟨xb,0,none⟩),.string p] W fun e w'=>∃ v,e=.returned v∧Kept [db,kb] W w'∧Told db tb dir j.toList w'∧∃ lo,w'.ownsRow lo Ww.ST 1 v (Dg.zbm p (bs dir) L).length (zbb (Dg.zbm p (bs dir) L)):=by
 have hkd:kb≠db:=h.k.not_cells h.d
 refine(find_z 98 #[.pointer (some ⟨rx,0,none⟩),.pointer (some ⟨fx,0,none⟩)] p (by kernel_rfl) enter65 hC (fun v w'=>Kept [db,kb] W w'∧Told db tb dir j.toList w'∧∃ lo,w'.ownsRow lo Ww.ST 1 v (Dg.zbm p (bs dir) L).length (zbb (Dg.zbm p (bs dir) L))) ?_).mono ?_
 ·refine(start1_any W h.crx h.cfx [db,kb] ?_ (Told db tb dir j.toList) (fun v W' w'=>w'.ownsRow W'.heap.size ST 1 v (Dg.zbm p (bs dir) L).length (zbb (Dg.zbm p (bs dir) L))) (ask_any h p j ⟨by have:=hb.q;omega,by have:=hb.p;omega⟩ hj hl) ?_).mono ?_
  ·intro i hi
   simp only [List.mem_cons,List.not_mem_nil,or_false] at hi
   rcases hi with rfl | rfl
   ·exact⟨(Array.getElem?_eq_some_iff.1 h.d).1,zkk h.d h.cfx (by decide)⟩
   ·exact⟨h.k.lt,h.k.not_cells h.cfx⟩
  ·intro W' hk hp
   have E:∀ {b:Nat} {cs:Array Value} {T:TypeId} {fz:Nat×Nat},T≠DT→W.heap[b]?=some (.cells cs T fz)→W'.heap[b]?=some (.cells cs T fz):=fun {b cs T fz} hT e=>(hk.block b (Array.getElem?_eq_some_iff.1 e).1 (by
    simp only [List.mem_cons,List.not_mem_nil,or_false,not_or]
    exact⟨zkk e h.d hT,fun e'=>h.k.not_cells e e'.symm⟩)).trans e
   have hst:Sw.StoreAt W' sb bm L c:=by
    have hbd:bm≠db:=fun e=>by
     obtain⟨es,ck,hh,_⟩:=h.st.map.own
     rw[e,h.d] at hh;cases hh
    refine⟨E (by decide) h.st.cells,h.st.map.block (hk.block bm h.st.map.lt ?_)⟩
    simp only [List.mem_cons,List.not_mem_nil,or_false,not_or]
    exact⟨hbd,hbk⟩
   have hz:=E hT0 h.z
   exact env1_any (m0:=m0) W' ⟨E (by decide) h.csx,E (by decide) h.cdx,hst,by simp[World.cell?,hz,hm],(Array.getElem?_eq_some_iff.1 hz).1⟩ hb
  ·rintro e w' ⟨v,W',rfl,hk,hp,ho,hB⟩
   exact⟨v,rfl,hk.trans (Kept.of_below hB),zpt.below hp hB,_,ho⟩
 ·rintro e w' ⟨v,rfl,h1,h2,h3⟩
  exact⟨v,rfl,h1,h2,h3⟩
end
theorem znm {db tb:Nat} {dir:ByteArray} {gl:List Bs} {W W':World} {Z:List Nat} (h:Told db tb dir gl W) (hk:Kept Z W W') (hz:∀ z∈Z,∃ cs T fz,W.heap[z]?=some (.cells cs T fz)∧T≠DT∧T≠ST):Told db tb dir gl W':=by
 obtain⟨v,h1,h2⟩:=h
 refine⟨v,(hk.block db (Array.getElem?_eq_some_iff.1 h1).1 fun e=>?_).trans h1,Mw.zbk h2 fun g hg=>?_⟩
 ·obtain⟨cs,T,fz,hh,hT,_⟩:=hz db e
  exact zkk hh h1 hT rfl
 ·rcases h2.2 with ⟨hv,_⟩ | ⟨g',cap,cur,hv,_,hg',_⟩
  ·rw[hv] at hg;cases hg
  ·rw[hv] at hg;cases hg
   refine hk.block _ (Array.getElem?_eq_some_iff.1 hg').1 fun e=>?_
   obtain⟨cs,T,fz,hh,_,hT⟩:=hz _ e
   exact zkk hh hg' hT rfl
def GlobP (dir:ByteArray) (V:Jp.V) (gl:List Bs) (db:Nat) (W:World):Prop:=∃ tb X,Told db tb dir gl W∧Tab W tb X [V] [] false
theorem GlobP.set {dir:ByteArray} {V:Jp.V} {gl:List Bs} {db:Nat} {W:World} {b i:Nat} {v:Value} {T:TypeId} (hT:T≠DT∧T≠ST∧T≠Jw.PT∧T≠Jw.BT∧T≠Ww.U8) (hb:∃ cs,W.heap[b]?=some (.cells cs T (0,0))) (h:GlobP dir V gl db W):GlobP dir V gl db (W.setCell ⟨b,i,none⟩ v):=by
 obtain⟨tb,X,h1,h2⟩:=h
 obtain⟨cs,hb⟩:=hb
 obtain⟨X0,h3,h4,_⟩:=h2.shrink
 have hk:Kept [b] W (W.setCell ⟨b,i,none⟩ v):=(Kept.refl [b] W).setCell (p:=⟨b,i,none⟩) (.inl (by simp)) v
 refine⟨tb,X0,znm h1 hk (fun z hz=>by rw[List.mem_singleton.1 hz];exact⟨cs,T,_,hb,hT.1,hT.2.1⟩),h3.kept hk (fun k hk' e=>?_)⟩
 rw[List.mem_singleton.1 e] at hk'
 exact h4.box hb hT.2.2 hk'
section
variable {rb db tb sx dx rx fx ib kb sb bm:Nat} {dir:ByteArray} {L:List Sw.F} {c:Int} {cs0:Array Value} {T0:TypeId} {fz0:Nat×Nat} {W W':World}
abbrev zdf (p:Bs):Bs:=36 :: 40 :: (zeh p++[41])
structure Pw (p:Bs) (x:Nat×Nat):Prop where
 no:(36:UInt8)∉p
 bl:∀ c∈p,Wp.zaw c=false
 fl:Flat [41] (zeh p)
 len:p.length≤80
 it:Wp.items p=[x]
 pt:Ww.part (str p) x=str p
theorem text_told (h:Gi rb db tb sx dx rx fx ib kb sb bm dir L c cs0 T0 fz0 W) {m0:Int} (hm:cs0[0]?=some (.int .i64 m0)) (hT0:T0≠DT∧Else T0) (hbk:bm≠kb) {p:Bs} {x:Nat×Nat} (hp:Pw p x) (hb:Bd dir (str p) L) (j:Option Bs) (hj:Hid (Pt.join [bs dir,bs (str p)]=j)) (hl:∀ q,j=some q→q.length≤3000000)
  (hG:(jnA (Dg.zbm (str p) (bs dir) L)).length≤1048000) (hGn:(Dg.zbm (str p) (bs dir) L).length≤1000000) :
  Calls Tryz.prog 247 #[.pointer (some ⟨rb,0,none⟩),.string (str (zdf p))] W fun e w'=>e=.returned (.string (str (jnA (Dg.zbm (str p) (bs dir) L))))∧Kept [db,kb] W w'∧Told db tb dir j.toList w':=by
 have hY:∀ i∈[db,kb],i<W.heap.size:=fun i hi=>by
  simp only [List.mem_cons,List.not_mem_nil,or_false] at hi
  rcases hi with rfl | rfl
  ·exact(Array.getElem?_eq_some_iff.1 h.d).1
  ·exact h.k.lt
 have hB:=beg_wild (v0:=.pointer (some ⟨tb,0,none⟩)) (v1:=.map none) (Y:=[db,kb]) (I:=Gi rb db tb sx dx rx fx ib kb sb bm dir L c cs0 T0 fz0) (P:=Told db tb dir j.toList) W 98 #[.pointer (some ⟨rx,0,none⟩),.pointer (some ⟨fx,0,none⟩)] p x (Dg.zbm (str p) (bs dir) L) hp.no hp.bl hp.fl hp.len hp.it hp.pt hG hGn (zrb hT0.2) zpt (gi_holds h.k.lt h.st.map.lt) told_holds hY h
  (fun xb v3 v4 v5 W' hC hi _=>find_told hi hm hT0.1 hbk hb j hj hl hC)
 refine(text_q h.r (zdf p) [db,kb] _ hB hY).mono ?_
 rintro e w' ⟨r,W1,rfl,hk,⟨rfl,ht⟩,hk2,cs,hcs⟩
 exact⟨rfl,hk,znm ht hk2 (fun z hz=>by rw[List.mem_singleton.1 hz];exact⟨cs,_,_,hcs,by decide,by decide⟩)⟩
end
def zlw (p:Bs) (dir:ByteArray) (L:List Sw.F):Jp.V:=⟨[88],jnA (Dg.zbm (str p) (bs dir) L),true,2⟩
theorem all_wild (w:World) {sb bm:Nat} {dir:ByteArray} {L:List Sw.F} {c:Int} {cs0:Array Value} {T0:TypeId} {fz0:Nat×Nat} (hst:Sw.StoreAt w sb bm L c) (hz:w.heap[0]?=some (.cells cs0 T0 fz0)) {m0:Int} (hm:cs0[0]?=some (.int .i64 m0)) (hT0:T0≠DT∧Else T0) {p:Bs} {x:Nat×Nat} (hp:Pw p x) (hb:Bd dir (str p) L) (j:Option Bs) (hj:Hid (Pt.join [bs dir,bs (str p)]=j)) (hl:∀ q,j=some q→q.length≤3000000)
  (hG:(jnA (Dg.zbm (str p) (bs dir) L)).length≤1048000) (hGn:(Dg.zbm (str p) (bs dir) L).length≤1000000) :
  AllC w [] (.pointer (some ⟨sb,0,none⟩)) dir (pC ((0:Nat):Int) ((1:Nat):Int) (str [88]) (str [58,61]) (str (zdf p)) false false (str []) (str []) (str [])) (GlobP dir (zlw p dir L) j.toList):=by
 intro W0 W rb db tb sx dx rx fx ib kb X g c' ra rc hB hw hBw hdb hdl hT hX hg hP
 obtain⟨X0,hT0',hK0,hsub⟩:=hT.shrink
 have hsb:=hst.lt
 have hbm:=hst.map.lt
 have hbk:bm≠kb:=fun e=>by have:=hB.new.2.2.2.2.2.2;omega
 have hgi:Gi rb db tb sx dx rx fx ib kb sb bm dir L c cs0 T0 fz0 W:=⟨hB.r,hB.d,hB.crx,hB.cfx,hB.csx,hB.cdx,hB.k,hst.below hBw,(hBw.block 0 (Array.getElem?_eq_some_iff.1 hz).1).trans hz⟩
 have hdX:db∉X0:=hK0.box hB.d ⟨by decide,by decide,by decide⟩
 have hkX:kb∉X0:=fun e=>by have:=(hX kb (hsub kb e)).2;have:=hB.new.2.2.2.2.2.2;omega
 have hdW:db<W.heap.size:=(Array.getElem?_eq_some_iff.1 hB.d).1
 have hkW:kb<W.heap.size:=hB.k.lt
 have hXW:∀ i∈X0,i<W.heap.size:=fun i hi=>kinds_lt hK0 i hi
 have hY:∀ i∈X0++[db,kb],i<W.heap.size:=fun i hi=>by
  simp only [List.mem_append,List.mem_cons,List.not_mem_nil,or_false] at hi
  rcases hi with hi | rfl | rfl
  ·exact hXW i hi
  ·exact hdW
  ·exact hkW
 have hal:=all_one W rb g c' 0 1 (str [88]) (str [58,61]) (str (zdf p)) false false (str []) (str []) (str []) ra 0 rc hP (X0++[db,kb]) hY (GlobP dir (zlw p dir L) j.toList db) (fun W b i v hb h=>GlobP.set ⟨by decide,by decide,by decide,by decide,by decide⟩ hb h) (by
  intro W1 hW1
  refine zwh W1 rb 1 (str [88]) (str [58,61]) (str (zdf p)) (str []) (str []) (str []) (.slice ra 0 rc) ⟨_,_,_,rfl⟩ (fun w'=>Kept (X0++[db,kb]) W1 w'∧GlobP dir (zlw p dir L) j.toList db w') ?_
  intro W2 hW2
  have hB2:Below W.heap.size W W2:=hW1.trans (hW2.mono hW1.size)
  have hg2:Gi rb db tb sx dx rx fx ib kb sb bm dir L c cs0 T0 fz0 W2:=(zrb hT0.2).below hgi hB2
  have hT2:=hT0'.below hB2
  refine(zsi (db:=db) (w:=W2) hg2.r (dir:=dir) 1 [88] (zdf p) (str []) (str []) (str []) ra 0 rc (jnA (Dg.zbm (str p) (bs dir) L)) (fun w'=>Kept [db,kb] W2 w'∧Told db tb dir j.toList w') (fun w'=>Kept (X0++[db,kb]) W2 w'∧GlobP dir (zlw p dir L) j.toList db w') ?_ ?_).mono ?_
  ·intro W3 hW3 _
   have hg3:=(zrb hT0.2).below hg2 hW3
   refine(text_told hg3 hm hT0 hbk hp hb j hj hl hG hGn).mono ?_
   rintro e w' ⟨rfl,hk,ht⟩
   have hs2:=hB2.size
   have hs3:=hW3.size
   refine⟨rfl,fun i h1 h2=>hk.block i h2 (by simp only [List.mem_cons,List.not_mem_nil,or_false];omega),(hk.block rb (Array.getElem?_eq_some_iff.1 hg3.r).1 ?_).trans hg3.r,?_,(Kept.of_below hW3).trans hk,ht⟩
   ·simp only [List.mem_cons,List.not_mem_nil,or_false,not_or]
    exact⟨zkk hg3.r hg3.d (by decide),fun e=>hg3.k.not_cells hg3.r e.symm⟩
   ·obtain⟨v,h,_⟩:=ht
    exact⟨_,_,_,_,h⟩
  ·rintro W4 W5 ⟨hk4,ht4⟩ hk5 ⟨cs,hcs⟩
   have hs2:=hB2.size
   have hT4:Tab W4 tb X0 [] [] false:=hT2.kept hk4 (fun i hi=>by
    simp only [List.mem_cons,List.not_mem_nil,or_false,not_or]
    exact⟨fun e=>hdX (e▸hi),fun e=>hkX (e▸hi)⟩)
   have hT5:Tab W5 tb X0 [] [] false:=hT4.kept hk5 (fun i hi=>by
    have:=hXW i hi
    simp only [List.mem_singleton];omega)
   have ht5:=znm ht4 hk5 (fun z hz=>by rw[List.mem_singleton.1 hz];exact⟨cs,_,_,hcs,by decide,by decide⟩)
   obtain⟨X1,hT6,hK6,hsub6⟩:=hT5.shrink
   have hs5:=hk4.size
   have hs6:=hk5.size
   refine(PSet_empty W5 hT6 (zlw p dir L) rfl (by simp[zlw])).mono ?_
   rintro e w' ⟨rfl,X2,hT7,hk7,hX2⟩
   have ht7:Told db tb dir j.toList w':=by
    obtain⟨v,h1,h2⟩:=ht5
    refine⟨v,(hk7.block db (Array.getElem?_eq_some_iff.1 h1).1 (fun e=>hdX (hsub6 db e))).trans h1,Mw.zbk h2 fun g' hg'=>?_⟩
    have hgn:=hK6.row h2 ⟨by decide,by decide,by decide⟩ g' hg'
    refine hk7.block g' ?_ hgn
    rcases h2.2 with ⟨hv,_⟩ | ⟨g2,cap,cur,hv,_,hg2',_⟩
    ·rw[hv] at hg';cases hg'
    ·rw[hv] at hg';cases hg';exact(Array.getElem?_eq_some_iff.1 hg2').1
   refine⟨rfl,fun i h1 h2=>hk7.block i h2 (fun e=>by have:=hXW i (hsub6 i e);omega),?_,tb,X2,ht7,hT7⟩
   have hk25:Kept (X0++[db,kb]) W2 W5:=⟨hk5.os.trans hk4.os,hk5.tape.trans hk4.tape,hk5.output.trans hk4.output,Nat.le_trans hk4.size hk5.size,fun i hi hx=>(hk5.block i (by omega) (by simp only [List.mem_singleton];omega)).trans (hk4.block i hi (fun e=>hx (List.mem_append.2 (.inr e))))⟩
   exact hk25.trans (hk7.mono fun i hi=>List.mem_append.2 (.inl (hsub6 i hi)))
  ·rintro e w' ⟨rfl,hk,hp'⟩
   exact⟨rfl,(Kept.of_below hW2).trans hk,hp'⟩)
 refine hal.mono ?_
 rintro e w' ⟨rfl,hk,hp'⟩
 refine⟨X0++[db,kb],rfl,hk,?_,hp'⟩
 intro i hi
 simp only [List.mem_append,List.mem_cons,List.not_mem_nil,or_false] at hi
 rcases hi with hi | rfl | rfl
 ·exact .inr (.inl (hsub i hi))
 ·exact .inl rfl
 ·exact .inr (.inr ⟨hB.new.2.2.2.2.2.2,hB.k.not_cells hB.r⟩)
end Dq
end Go.Proofs.YtgdpbnfgcabneaaGreatDoor
