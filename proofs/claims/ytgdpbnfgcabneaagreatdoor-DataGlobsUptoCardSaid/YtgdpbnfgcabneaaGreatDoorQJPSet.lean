/- Part of the proof. -/
import Derived.Test.YtgdpbnfgcabneaaGreatDoorQJPGet
import Derived.StillTailTactics
set_option maxRecDepth 100000
set_option maxHeartbeats 40000000
namespace Go.Proofs.YtgdpbnfgcabneaaGreatDoor
namespace Jw
open Go.RowKit Ww Tw Kw
section
variable {w0 w w2:World} {tb bm:Nat} {X:List Nat} {E:List (Bs×KE)} {M:List (Bs×Int)} {all:Bool} {mn:Option Nat} {O:Bs→List Nat}
theorem TabAt.put (h:TabAt w0 tb X E M all (some bm) mn O) (v:Jp.V) (g:Option Nat) (On Y:List Nat) (hk:Kept Y w0 w)
  (hY:∀ i∈Y,∃ e∈E,e.1=v.n∧e.2.g≠none∧i∈O v.n) (hB:∀ b,g=some b→∃ pv bv,BldAt w b On v.x pv bv) (hOn:g≠none→∀ i∈On,i∈Y∨w0.heap.size≤i)
  (hM:Kw.MapAt KK w2 bm (Kp.ins E (v.n,⟨v,g⟩))) (ht:w.mapTurned w2 bm) :
  ∃ X',TabAt w2 tb X' (Kp.ins E (v.n,⟨v,g⟩)) M all (some bm) mn (fun k=>if k=v.n then On else O k)∧Kept X w0 w2∧∀ i∈X',i∈X∨w0.heap.size≤i:=by
 have hs:=h.vars.sorted
 have hg:=ht.grown
 have hbX:bm∈X:=h.vX bm rfl
 have hYX:∀ i∈Y,i∈X:=fun i hi=>by
  obtain⟨e,he,h1,h2,h3⟩:=hY i hi
  exact h.oX e he h2 i (h1▸h3)
 have hYk:∀ i∈Y,∃ cs T fz,w0.heap[i]?=some (.cells cs T fz)∧T≠PT:=fun i hi=>by
  obtain⟨e,he,h1,h2,h3⟩:=hY i hi
  exact h.grown.kind e he h2 i (h1▸h3)
 have htY:tb∉Y:=fun hi=>by
  obtain⟨cs,T,fz,h1,h2⟩:=hYk tb hi
  rw[h.cells] at h1;cases h1;exact h2 rfl
 have hbY:bm∉Y:=fun hi=>by
  obtain⟨cs,T,fz,h1,_⟩:=hYk bm hi
  exact Kw.MapAt.not_cells h.vars h1 rfl
 have hnY:∀ b,mn=some b→b∉Y:=fun b e hi=>by
  obtain⟨cs,T,fz,h1,_⟩:=hYk b hi
  exact h.named.not_cells h1 e
 have hMw:Kw.MapAt KK w bm E:=Kw.MapAt.kept h.vars hk hbY
 have htw:w.heap[tb]?=some (.cells #[.map (some bm),.map mn,.bool all] PT (0,0)):=(hk.block tb h.lt htY).trans h.cells
 have hst:∀ i,i<w.heap.size→i≠bm→w2.heap[i]?=w.heap[i]?:=fun i hi hne=>hg.block i hi (fun e=>hne (Option.some.inj e))
 have hst0:∀ i,i<w0.heap.size→i∉Y→i≠bm→w2.heap[i]?=w0.heap[i]?:=fun i hi hy hne=>(hst i (Nat.lt_of_lt_of_le hi hk.size) hne).trans (hk.block i hi hy)
 have hOY:∀ e∈E,e.1≠v.n→e.2.g≠none→∀ i∈O e.1,i∉Y:=fun e he hne hgn i hi hy=>by
  obtain⟨e0,he0,h1,h2,h3⟩:=hY i hy
  exact h.grown.apart e he e0 he0 (by rw[h1];exact hne) hgn h2 i hi (h1▸h3)
 have hOb:∀ e∈E,e.2.g≠none→∀ i∈O e.1,i≠bm:=fun e he hgn i hi hy=>by
  obtain⟨cs,T,fz,h1,_⟩:=h.grown.kind e he hgn i hi
  exact Kw.MapAt.not_cells h.vars h1 hy.symm
 have hOnO:g≠none→∀ e∈E,e.1≠v.n→e.2.g≠none→∀ i∈On,i∉O e.1:=fun hgn e he hne hen i hi hO=>by
  rcases hOn hgn i hi with hy | hy
  ·exact hOY e he hne hen i hO hy
  ·exact absurd (h.grown.ltO e he hen i hO) (by omega)
 refine⟨X++(if g=none then [] else On),⟨(hst tb (Nat.lt_of_lt_of_le h.lt hk.size) (fun e=>Kw.MapAt.not_cells h.vars h.cells e.symm)).trans htw,hM,h.named.block fun b e=>hst0 b (h.named.lt b e) (hnY b e) (fun e2=>h.ne bm rfl (e2▸e)),h.ne,?_,⟨?_,?_⟩,by simp[h.tX],fun b e=>by simp[h.vX b e],fun b e=>by simp[h.nX b e],?_⟩,?_,?_⟩
 ·intro e he
  rcases (Kp.zcn hs e).1 he with rfl | ⟨he,_⟩
  ·rfl
  ·exact h.keys e he
 ·intro e he b hgb
  rcases (Kp.zcn hs e).1 he with rfl | ⟨he,hne⟩
  ·dsimp only at hgb ⊢
   rw[if_pos rfl]
   obtain⟨pv,bv,hBb⟩:=hB b hgb
   refine⟨pv,bv,hBb.block fun i hi=>hst i (hBb.ltO i hi) fun e=>?_⟩
   obtain⟨cs,T,fz,h1,_⟩:=hBb.cells_of i hi
   exact hMw.not_cells h1 e.symm
  ·rw[if_neg hne]
   obtain⟨pv,bv,hBb⟩:=h.grown.at_ e he b hgb
   exact⟨pv,bv,hBb.block fun i hi=>hst0 i (hBb.ltO i hi) (hOY e he hne (by rw[hgb];simp) i hi) (hOb e he (by rw[hgb];simp) i hi)⟩
 ·intro e he e' he' hne hge hge' i hi
  rcases (Kp.zcn hs e).1 he with rfl | ⟨he,hn⟩
  ·rcases (Kp.zcn hs e').1 he' with rfl | ⟨he',hn'⟩
   ·exact absurd rfl hne
   ·dsimp only at hi hge
    rw[if_pos rfl] at hi
    rw[if_neg hn']
    exact hOnO hge e' he' hn' hge' i hi
  ·rw[if_neg hn] at hi
   rcases (Kp.zcn hs e').1 he' with rfl | ⟨he',hn'⟩
   ·dsimp only at hge' ⊢
    rw[if_pos rfl]
    exact fun h2=>hOnO hge' e he hn hge i h2 hi
   ·rw[if_neg hn']
    exact h.grown.apart e he e' he' hne hge hge' i hi
 ·intro e he hge i hi
  rcases (Kp.zcn hs e).1 he with rfl | ⟨he,hn⟩
  ·dsimp only at hi hge
   rw[if_pos rfl] at hi
   rw[if_neg hge];simp[hi]
  ·rw[if_neg hn] at hi
   simp[h.oX e he hge i hi]
 ·exact(hk.mono hYX).grown hg fun r e=>.inl (by cases e;exact hbX)
 ·intro i hi
  rcases List.mem_append.1 hi with hi | hi
  ·exact .inl hi
  ·by_cases hgn:g=none
   ·rw[if_pos hgn] at hi;cases hi
   ·rw[if_neg hgn] at hi
    rcases hOn hgn i hi with hy | hy
    ·exact .inl (hYX i hy)
    ·exact .inr hy
end
def SPost (w:World) (tb:Nat) (X:List Nat) (L:List Jp.V) (M:List (Bs×Int)) (all:Bool) (n:Int) (e:Ending) (w':World):Prop :=
 e=.returned (.int .i64 n)∧∃ X',Tab w' tb X' L M all∧Kept X w w'∧∀ i∈X',i∈X∨w.heap.size≤i
theorem ins_l {v:Jp.V} {g:Option Nat} {E:List (Bs×KE)} (hs:Kp.Sorted E) (hk:∀ e∈E,e.1=e.2.v.n):(Kp.ins E (v.n,⟨v,g⟩)).map (fun e=>e.2.v)=Jp.insA v false (E.map fun e=>e.2.v):=ins_map hs hk
theorem tab_put {w w3:World} {tb:Nat} {X:List Nat} {M:List (Bs×Int)} {all:Bool} {E:List (Bs×KE)} {mv mn:Option Nat} {O:Bs→List Nat} {L:List Jp.V} {X':List Nat} (hk:Kept X w w3) (h:TabAt w3 tb X' E M all mv mn O) (hl:E.map (fun e=>e.2.v)=L) (hX:∀ i∈X',i∈X∨w.heap.size≤i):SPost w tb X L M all 0 (.returned (.int .i64 0)) w3 :=
 ⟨rfl,X',⟨E,mv,mn,O,h,hl⟩,hk,hX⟩
theorem heap_ne {w:World} {b g i:Nat} {o:Obj} (h:w.heap[b]?=some o) (hn:b≠g) (v:Value):(w.setCell ⟨g,i,none⟩ v).heap[b]?=some o:=(Below.heap_setCell _ _ _ _ hn).trans h
theorem TabAt.made {w:World} {tb:Nat} {X:List Nat} {M:List (Bs×Int)} {all:Bool} {mn:Option Nat} {O:Bs→List Nat} (h:TabAt w tb X [] M all none mn O) :
  TabAt ((w.alloc (.map #[] 0)).setCell ⟨tb,0,none⟩ (.map (some w.heap.size))) tb (w.heap.size :: X) [] M all (some w.heap.size) mn O:=by
 have hB:=(Below.refl w.heap.size w).alloc (Nat.le_refl _) (.map #[] 0)
 have hlt:=h.lt
 have hc:=(hB.block _ hlt).trans h.cells
 have hn:=h.named.below hB
 have hnc:=fun b (e:mn=some b)=>fun (e2:b=tb)=>hn.not_cells hc (e2▸e)
 refine⟨heap_set hc _,(Kw.MapAt.new w).setCell (p:=⟨tb,0,none⟩) (by show w.heap.size≠tb;omega) _,hn.block fun b e=>Below.heap_setCell _ _ _ _ (hnc b e),fun b e e2=>?_,fun e he=>(by cases he),Grown.nil _ _,by simp[h.tX],fun b e=>by simp[Option.some.inj e],fun b e=>by simp[h.nX b e],fun e he=>(by cases he)⟩
 cases e
 exact Nat.lt_irrefl _ (h.named.lt _ e2)
theorem _root_.Go.Proofs.YtgdpbnfgcabneaaGreatDoor.Kw.Kept.trans_new {X Y:List Nat} {a b c:World} (h:Kept X a b) (k:Kept Y b c) (hY:∀ i∈Y,i∈X∨a.heap.size≤i):Kept X a c :=
 ⟨k.os.trans h.os,k.tape.trans h.tape,k.output.trans h.output,Nat.le_trans h.size k.size,fun i hi hx=>(k.block i (Nat.lt_of_lt_of_le hi h.size) fun hy=>by
  rcases hY i hy with hh | hh
  ·exact hx hh
  ·omega).trans (h.block i hi hx)⟩
theorem PSet_new (w:World) {tb:Nat} {X:List Nat} {E:List (Bs×KE)} {M:List (Bs×Int)} {all:Bool} {bm:Nat} {mn:Option Nat} {O:Bs→List Nat} (h:TabAt w tb X E M all (some bm) mn O) (v:Jp.V) (hr:Jp.zha v=true) (hz:v.n.length≤1000000) (o:Jp.V) (q:Option Addr)
  (hlen:E.length≤1000000) (hV:keV (valA KK E v.n)=.agg #[.string (str o.n),.string (str o.x),.bool o.s,.int .i64 o.f,.pointer q]) (hb:(Kp.get E v.n).isSome=false) :
  Calls Tryz.prog 43 #[.pointer (some ⟨tb,0,none⟩),.agg (vA v)] w (SPost w tb X (Jp.insA v false (E.map fun e=>e.2.v)) M all 0):=by
 have hps:(str v.n).size≤maxLen:=by rw[zan];unfold maxLen;omega
 have hlk:=fun (W:World) (hM:MOpt KK W (some bm) E)=>(hM.run_look hps).1
 rw[zam,hb] at hlk
 change ∀ W,MOpt KK W (some bm) E→(Instr.lookup 160 (.map (some bm)) (.string (str v.n)) true).run Tryz.prog W=.ok (.tuple #[keV (valA KK E v.n),.bool false]) W at hlk
 rw[hV] at hlk
 have HLK:=Lib.hid hlk
 have hbx:=zah w (.cells (vA v) PV)
 have hB:=(Below.refl w.heap.size w).alloc (Nat.le_refl _) (.cells (vA v) PV)
 have c0:=zaa (i:=0) hbx rfl
 have c1:=zaa (i:=1) hbx rfl
 have c2:=zaa (i:=2) hbx rfl
 have c3:=zaa (i:=3) hbx rfl
 have hq:=fun (w:World)=>run_eql_map_nil (P:=Tryz.prog) w 160 9 158 (some bm) Tryz.underlying160
 have hW:=fun W=>zpg W v
 rw[hr] at hW
 have H:=Lib.hid h
 have HBX:=Lib.hid hbx
 have htb:=h.lt
 have hs:=h.vars.sorted
 have hkeys:=h.keys
 clear h hV hb hr hlk hbx
 unfold vA at *
 have HW:=Lib.hid hW
 clear hW
 go_enter Tryz.func43,Tryz.ntmps43
 go_wp2_with fail
 refine(HW.out _).mono ?_
 rintro e w1 ⟨rfl,B1⟩
 have hB1:=hB.trans (B1.mono hB.size)
 have h1:=H.out.below hB1
 have d0:w1.drew.cell? ⟨tb,0,none⟩=some (.map (some bm)):=h1.c0
 have hv1:=(B1.block _ (by simp)).trans HBX.out
 have e0:w1.drew.cell? ⟨w.heap.size,0,none⟩=some (.string (str v.n)):=zaa (i:=0) hv1 rfl
 have Ba:=fun o=>(Below.refl w1.heap.size w1).alloc (Nat.le_refl _) o
 have l1:=HLK.out w1.drew (h1.below (Below.refl _ w1).drew).vars
 have l2:=fun o=>HLK.out (w1.alloc o).drew (h1.below ((Ba o).drew)).vars
 have d0a:=fun o=>(h1.below ((Ba o).drew)).c0
 have hv2:=fun o=>((Ba o).drew.block _ (Array.getElem?_eq_some_iff.1 hv1).1).trans hv1
 have e0a:=fun o=>zaa (i:=0) (hv2 o) rfl
 have e3a:=fun o=>zaa (i:=3) (hv2 o) rfl
 have htb1:=h1.lt
 have hwl:=(Array.getElem?_eq_some_iff.1 hv1).1
 have h2:=fun o=>h1.below ((Ba o).drew)
 clear c0 c1 c2 c3 hv1
 go_wp2_with fail
 go_region
 have hT3:=h2 (.cells #[.string (str o.n),.string (str o.x),.bool o.s,.int .i64 o.f,.pointer q] PK)
 have hv3:=hv2 (.cells #[.string (str o.n),.string (str o.x),.bool o.s,.int .i64 o.f,.pointer q] PK)
 have HB3:=Lib.hid (hB1.trans ((Ba (.cells #[.string (str o.n),.string (str o.x),.bool o.s,.int .i64 o.f,.pointer q] PK)).drew.mono hB1.size))
 have ho3:=zah w1 (.cells #[.string (str o.n),.string (str o.x),.bool o.s,.int .i64 o.f,.pointer q] PK)
 have ho3:(w1.alloc (.cells #[.string (str o.n),.string (str o.x),.bool o.s,.int .i64 o.f,.pointer q] PK)).drew.heap[w1.heap.size]?=_:=ho3
 have hso:w1.heap.size<(w1.alloc (.cells #[.string (str o.n),.string (str o.x),.bool o.s,.int .i64 o.f,.pointer q] PK)).drew.heap.size:=by show w1.heap.size<(w1.alloc _).heap.size;simp
 clear d0a e0a e3a l2 hv2 h2 Ba l1 d0 e0
 generalize (w1.alloc (.cells #[.string (str o.n),.string (str o.x),.bool o.s,.int .i64 o.f,.pointer q] PK)).drew=W3 at *
 have o3:=zaa (i:=3) ho3 rfl
 have e0:=zaa (i:=0) hv3 rfl
 have e1:=zaa (i:=1) hv3 rfl
 have e2:=zaa (i:=2) hv3 rfl
 have e3:=zaa (i:=3) hv3 rfl
 have d0:=hT3.c0
 have htb3:=hT3.lt
 have hwl3:=(Array.getElem?_eq_some_iff.1 hv3).1
 have HT3:=Lib.hid hT3
 clear hT3 hv3 ho3 h1
 go_wp2_with fail
 go_still_tail 8,(by kernel_rfl)
 change wpList _ _ _ _ _ W3.drew
 have hT4:=HT3.out.below (Below.refl _ W3).drew
 have HB4:=Lib.hid (HB3.out.trans ((Below.refl _ W3).drew.mono HB3.out.size))
 have HT4:=Lib.hid hT4
 have hM4:Kw.MapAt KK W3.drew bm E:=hT4.vars
 clear hT4 d0 e0 e1 e2 e3 o3 htb3 hwl3 hso
 generalize W3.drew=W4 at *
 go_wp2_with (at_mapUpdate;refine zfw (K:=KK) (p:=v.n) (c:=⟨v,none⟩) _ rfl _ _ _ rfl rfl rfl rfl hM4 (by unfold maxLen;omega) (by unfold maxLen;omega) ?_;intro w5 hM5 ht)
 go_ret
 obtain⟨X',h5,hK5,hX5⟩:=HT4.out.put v none [] [] (Kept.refl _ _) (fun i h=>(by cases h)) (fun b h=>(by cases h)) (fun h=>absurd rfl h) hM5 ht
 exact tab_put ((Kept.of_below HB4.out).trans hK5) h5 (ins_l hs hkeys) (fun i hi=>by
  rcases hX5 i hi with h | h
  ·exact .inl h
  ·exact .inr (Nat.le_trans HB4.out.size h))
theorem PSet_first (w:World) {tb:Nat} {X:List Nat} {E:List (Bs×KE)} {M:List (Bs×Int)} {all:Bool} {mn:Option Nat} {O:Bs→List Nat} (h:TabAt w tb X E M all none mn O) (v:Jp.V) (hr:Jp.zha v=true) (hz:v.n.length≤1000000) (o:Jp.V) (q:Option Addr)
  (hlen:E.length≤1000000) (hV:keV (valA KK E v.n)=.agg #[.string (str o.n),.string (str o.x),.bool o.s,.int .i64 o.f,.pointer q]) (hb:(Kp.get E v.n).isSome=false) :
  Calls Tryz.prog 43 #[.pointer (some ⟨tb,0,none⟩),.agg (vA v)] w (SPost w tb X (Jp.insA v false (E.map fun e=>e.2.v)) M all 0):=by
 have hps:(str v.n).size≤maxLen:=by rw[zan];unfold maxLen;omega
 have hlk:=fun (W:World) (hM:MOpt KK W none E)=>(hM.run_look hps).1
 rw[zam,hb] at hlk
 change ∀ W,MOpt KK W none E→(Instr.lookup 160 (.map none) (.string (str v.n)) true).run Tryz.prog W=.ok (.tuple #[keV (valA KK E v.n),.bool false]) W at hlk
 rw[hV] at hlk
 have HLK:=Lib.hid hlk
 have hbx:=zah w (.cells (vA v) PV)
 have hB:=(Below.refl w.heap.size w).alloc (Nat.le_refl _) (.cells (vA v) PV)
 have c0:=zaa (i:=0) hbx rfl
 have c1:=zaa (i:=1) hbx rfl
 have c2:=zaa (i:=2) hbx rfl
 have c3:=zaa (i:=3) hbx rfl
 have hq:=fun (w:World)=>run_eql_map_nil (P:=Tryz.prog) w 160 9 158 none Tryz.underlying160
 have hW:=fun W=>zpg W v
 rw[hr] at hW
 have H:=Lib.hid h
 have HBX:=Lib.hid hbx
 have htb:=h.lt
 have hs:=h.vars.sorted
 have hkeys:=h.keys
 clear h hV hb hr hlk hbx
 unfold vA at *
 have HW:=Lib.hid hW
 clear hW
 go_enter Tryz.func43,Tryz.ntmps43
 go_wp2_with fail
 refine(HW.out _).mono ?_
 rintro e w1 ⟨rfl,B1⟩
 have hB1:=hB.trans (B1.mono hB.size)
 have h1:=H.out.below hB1
 have d0:w1.drew.cell? ⟨tb,0,none⟩=some (.map none):=h1.c0
 have hv1:=(B1.block _ (by simp)).trans HBX.out
 have e0:w1.drew.cell? ⟨w.heap.size,0,none⟩=some (.string (str v.n)):=zaa (i:=0) hv1 rfl
 have Ba:=fun o=>(Below.refl w1.heap.size w1).alloc (Nat.le_refl _) o
 have l1:=HLK.out w1.drew (h1.below (Below.refl _ w1).drew).vars
 have l2:=fun o=>HLK.out (w1.alloc o).drew (h1.below ((Ba o).drew)).vars
 have d0a:=fun o=>(h1.below ((Ba o).drew)).c0
 have hv2:=fun o=>((Ba o).drew.block _ (Array.getElem?_eq_some_iff.1 hv1).1).trans hv1
 have e0a:=fun o=>zaa (i:=0) (hv2 o) rfl
 have e3a:=fun o=>zaa (i:=3) (hv2 o) rfl
 have htb1:=h1.lt
 have hwl:=(Array.getElem?_eq_some_iff.1 hv1).1
 have h2:=fun o=>h1.below ((Ba o).drew)
 clear c0 c1 c2 c3 hv1
 go_wp2_with fail
 go_region
 have hT3:=h2 (.cells #[.string (str o.n),.string (str o.x),.bool o.s,.int .i64 o.f,.pointer q] PK)
 have hv3:=hv2 (.cells #[.string (str o.n),.string (str o.x),.bool o.s,.int .i64 o.f,.pointer q] PK)
 have HB3:=Lib.hid (hB1.trans ((Ba (.cells #[.string (str o.n),.string (str o.x),.bool o.s,.int .i64 o.f,.pointer q] PK)).drew.mono hB1.size))
 have ho3:=zah w1 (.cells #[.string (str o.n),.string (str o.x),.bool o.s,.int .i64 o.f,.pointer q] PK)
 have ho3:(w1.alloc (.cells #[.string (str o.n),.string (str o.x),.bool o.s,.int .i64 o.f,.pointer q] PK)).drew.heap[w1.heap.size]?=_:=ho3
 have hso:w1.heap.size<(w1.alloc (.cells #[.string (str o.n),.string (str o.x),.bool o.s,.int .i64 o.f,.pointer q] PK)).drew.heap.size:=by show w1.heap.size<(w1.alloc _).heap.size;simp
 clear d0a e0a e3a l2 hv2 h2 Ba l1 d0 e0
 generalize (w1.alloc (.cells #[.string (str o.n),.string (str o.x),.bool o.s,.int .i64 o.f,.pointer q] PK)).drew=W3 at *
 have o3:=zaa (i:=3) ho3 rfl
 have e0:=zaa (i:=0) hv3 rfl
 have e1:=zaa (i:=1) hv3 rfl
 have e2:=zaa (i:=2) hv3 rfl
 have e3:=zaa (i:=3) hv3 rfl
 have d0:=hT3.c0
 have htb3:=hT3.lt
 have hwl3:=(Array.getElem?_eq_some_iff.1 hv3).1
 have hmm:=@run_makeMap Tryz.prog
 obtain rfl:E=[]:=hT3.vars
 have hBa:=(Below.refl W3.heap.size W3).alloc (Nat.le_refl _) (.map #[] 0)
 have hTa:=hT3.below hBa
 have d0a:=hTa.c0
 have f0a:=zad hTa.cells 0
 have hT5:=hT3.made
 have hcm:(W3.alloc (.map #[] 0)).setCell ⟨tb,0,none⟩ (.map (some W3.heap.size))=(W3.setCell ⟨tb,0,none⟩ (.map (some W3.heap.size))).alloc (.map #[] 0):=World.setCell_alloc_past _ _ _ _ htb3
 rw[hcm] at hT5
 have hK5:=((Kept.of_below HB3.out).trans (((Kept.refl X W3).alloc (.map #[] 0)).setCell (p:=⟨tb,0,none⟩) (.inl hT3.tX) (.map (some W3.heap.size))))
 rw[hcm] at hK5
 have hv5:=heap_ne (i:=0) ((hBa.block _ hwl3).trans hv3) (show w.heap.size≠tb by omega) (.map (some W3.heap.size))
 rw[hcm] at hv5
 clear hcm
 have HT5:=Lib.hid hT5
 have HK5:=Lib.hid hK5
 have x0:=hT5.c0
 have x1:=hT5.lt
 have y0:=zaa (i:=0) hv5 rfl
 have y1:=zaa (i:=1) hv5 rfl
 have y2:=zaa (i:=2) hv5 rfl
 have y3:=zaa (i:=3) hv5 rfl
 have y4:=(Array.getElem?_eq_some_iff.1 hv5).1
 clear hT3 hv3 ho3 h1 hTa hT5 hK5 hv5 hBa
 go_wp2_with fail
 clear hmm d0 d0a f0a e0 e1 e2 e3 o3
 generalize hW5:(W3.setCell ⟨tb,0,none⟩ (.map (some W3.heap.size))).alloc (.map #[] 0)=W5 at *
 go_still_tail 8,(by kernel_rfl)
 change wpList _ _ _ _ _ W5.drew
 have HT6:=Lib.hid (HT5.out.below (Below.refl _ W5).drew)
 have HK6:=Lib.hid (HK5.out.drewN 1)
 have hM6:Kw.MapAt KK W5.drew W3.heap.size []:=HT6.out.vars
 clear x0 x1 y0 y1 y2 y3 y4 htb3 hwl3 hso hW5 HT5 HK5
 change Hid (Kept X w W5.drew) at HK6
 have hz3:=HB3.out.size
 generalize W5.drew=W6 at *
 go_wp2_with (at_mapUpdate;refine zfw (K:=KK) (p:=v.n) (c:=⟨v,none⟩) _ rfl _ _ _ rfl rfl rfl rfl hM6 (by unfold maxLen;omega) (by unfold maxLen;simp) ?_;intro w7 hM7 ht)
 go_ret
 obtain⟨X',h7,hK7,hX7⟩:=HT6.out.put v none [] [] (Kept.refl _ _) (fun i h=>(by cases h)) (fun b h=>(by cases h)) (fun h=>absurd rfl h) hM7 ht
 refine tab_put (HK6.out.trans_new hK7 (fun i hi=>?_)) h7 (ins_l (List.Pairwise.nil) (fun e h=>(by cases h))) (fun i hi=>?_)
 ·rcases List.mem_cons.1 hi with rfl | hi
  ·exact .inr hz3
  ·exact .inl hi
 ·rcases hX7 i hi with h | h
  ·rcases List.mem_cons.1 h with rfl | h
   ·exact .inr hz3
   ·exact .inl h
  ·exact .inr (Nat.le_trans HK6.out.size h)
end Jw
namespace Jw
open Go.RowKit Ww Tw
theorem zmp {P:Program} {fn:Func} {p:Tmp} {ty:TypeId} (h:fn.results=#[.cell p ty]) (tmps:Array Value) (w:World) (g:Nat) (t:TypeId) (cs:Array Value) (fr:Nat×Nat) (d:TypeDesc)
  (hp:tmps.getD p undef=.pointer (some ⟨g,0,none⟩)) (hg:w.heap[g]?=some (.cells cs t fr))
  (hu:P.underlying ty=some d) (hd:(match d with | .struct _ | .array _ _=>true | _=>false)=true) (hi:(P.info? ty).map (·.size)=some cs.size) :
  (results fn tmps).run P w=.ok (.agg cs) w:=by
 have hp':tmps[p]?.getD undef=.pointer (some ⟨g,0,none⟩):=by simpa using hp
 simp[results,h,hp',asAddr,run_loadVar_row w g t ty cs fr d hg hu hd hi]
def zrc:Array Value:=#[.slice none 0 0,.slice none 0 0,.slice none 0 0,.bool false]
def tA (vl vy vn:Value) (all:Bool):Array Value:=#[vl,vy,vn,.bool all]
theorem one_t (a1 a2 a3:Option Addr) (n1 n2 n3 c1 c2 c3:Nat) (all:Bool):(tA (.slice a1 n1 c1) (.slice a2 n2 c2) (.slice a3 n3 c3) all).all (·.oneCell')=true:=by simp[tA,Value.oneCell']
theorem zhn (a b:Bs):Op.bytesLess (str a).toList (str b).toList=Op.bytesLess a b:=by rw[zau,zau];rfl
theorem zee (v x:Jp.V) (d:Bool) (r:List Jp.V):Jp.insA v d (x :: r)=(if d=false∧Op.bytesLess x.n v.n=false then [v] else [])++(if x.n=v.n then [] else [x])++Jp.insA v (d || !Op.bytesLess x.n v.n) r:=rfl
structure Three (w:World) (t v:Array Value) (W:World):Prop where
 t:W.heap[w.heap.size]?=some (.cells t TT (0,0))
 v:W.heap[w.heap.size+1]?=some (.cells v VT (0,0))
 o:W.heap[w.heap.size+2]?=some (.cells zrc TT (0,0))
 below:Below w.heap.size w W
theorem Three.new (w:World) (t v:Array Value):Three w t v (((w.alloc (.cells t TT)).alloc (.cells v VT)).alloc (.cells zrc TT)):=by
 have h1:=zah w (.cells t TT)
 have h2:=zah (w.alloc (.cells t TT)) (.cells v VT)
 have h3:=zah ((w.alloc (.cells t TT)).alloc (.cells v VT)) (.cells zrc TT)
 rw[World.size_alloc] at h2
 rw[World.size_alloc,World.size_alloc] at h3
 have B1:=(Below.refl (w.alloc (.cells t TT)).heap.size (w.alloc (.cells t TT))).alloc (Nat.le_refl _) (.cells v VT)
 have B2:=(Below.refl ((w.alloc (.cells t TT)).alloc (.cells v VT)).heap.size ((w.alloc (.cells t TT)).alloc (.cells v VT))).alloc (Nat.le_refl _) (.cells zrc TT)
 refine⟨(B2.block _ (by simp;omega)).trans ((B1.block _ (by simp)).trans h1),(B2.block _ (by simp)).trans h2,h3,(((Below.refl _ _).alloc (Nat.le_refl _) _).alloc (by simp) _).alloc (by simp;omega) _⟩
theorem Three.on {w W W':World} {t v:Array Value} (h:Three w t v W) (hB:Below W.heap.size W W'):Three w t v W' :=
 ⟨(hB.block _ (Array.getElem?_eq_some_iff.1 h.t).1).trans h.t,(hB.block _ (Array.getElem?_eq_some_iff.1 h.v).1).trans h.v,(hB.block _ (Array.getElem?_eq_some_iff.1 h.o).1).trans h.o,h.below.trans (hB.mono h.below.size)⟩
theorem zkr {W wr w4:World} {n:Nat} {o:Obj} {B:Nat} {row:Option Nat} (hB:Below B W wr) (hs:B≤wr.heap.size) (hg:((wr.drewN n).alloc o).grownBy w4 row) (hr:∀ j,row=some j→B≤j):Below B W w4 :=
 ((below_drewN hB n).alloc hs o).grown hg (by rw[World.size_alloc];exact Nat.le_succ_of_le hs) hr
def SRel (W:World) (l:List Jp.V) (v:Jp.V) (vo vd vi:Value) (wr:World):Prop :=
 ∃ (i:Nat) (d:Bool) (q:List Jp.V),vi=.int .i64 i∧vd=.bool d∧i≤l.length∧q.length≤2 * i∧wr.ownsRow W.heap.size VT 4 vo q.length (vsC q)∧Below W.heap.size W wr∧Jp.insA v false l=q++Jp.insA v d (l.drop i)
def zdl (w:World) (lo:Nat) (vy vn:Value) (all:Bool) (l:List Jp.V) (e:Ending) (w':World):Prop :=
 ∃ vl,e=.returned (.agg #[vl,vy,vn,.bool all])∧w'.ownsRow lo VT 4 vl l.length (vsC l)∧Below w.heap.size w w'
theorem zxc {w:World} {lo g:Nat} {v:Value} {n:Nat} {xs:List Value} {cs old:Array Value} (h:w.ownsRow lo VT 4 v n xs) (hg:w.heap[g]?=some (.cells old TT (0,0))):(w.setRow g cs).ownsRow lo VT 4 v n xs:=by
 obtain⟨hl,hr⟩:=h
 refine⟨hl,?_⟩
 rcases hr with hr | ⟨k,cap,cur,hv,hb,hk,hrest⟩
 ·exact .inl hr
 ·refine .inr ⟨k,cap,cur,hv,hb,?_,hrest⟩
  rw[setRow_other _ _ _ _ (fun e=>by subst e;rw[hg] at hk;cases hk)]
  exact hk
theorem own_setc {w:World} {lo g i:Nat} {v u:Value} {n:Nat} {xs:List Value} {old:Array Value} (h:w.ownsRow lo VT 4 v n xs) (hg:w.heap[g]?=some (.cells old TT (0,0))):(w.setCell ⟨g,i,none⟩ u).ownsRow lo VT 4 v n xs:=by
 obtain⟨hl,hr⟩:=h
 refine⟨hl,?_⟩
 rcases hr with hr | ⟨k,cap,cur,hv,hb,hk,hrest⟩
 ·exact .inl hr
 ·refine .inr ⟨k,cap,cur,hv,hb,?_,hrest⟩
  rw[Below.heap_setCell _ _ _ _ (fun e=>by subst e;rw[hg] at hk;cases hk)]
  exact hk
structure Fin (w:World) (u b c d:Value) (X:World):Prop where
 t:X.heap[w.heap.size]?=some (.cells #[u,b,c,d] TT (0,0))
 o:X.heap[w.heap.size+2]?=some (.cells zrc TT (0,0))
 below:Below w.heap.size w X
theorem Three.fin {w W:World} {a b c d:Value} {v:Array Value} (h:Three w #[a,b,c,d] v W) (u:Value):Fin w u b c d (W.setCell ⟨w.heap.size,0,none⟩ u) :=
 ⟨heap_set h.t u,(Below.heap_setCell _ _ _ _ (by simp)).trans h.o,h.below.setCell (p:=⟨w.heap.size,0,none⟩) (Nat.le_refl _) u⟩
theorem Fin.own {w W:World} {a b c d:Value} {v:Array Value} (h:Three w #[a,b,c,d] v W) {B lo:Nat} {vl:Value} {n:Nat} {xs:List Value} (hl:lo≤B) (ho:W.ownsRow B VT 4 vl n xs) (u:Value) (cs:Array Value) :
  ((W.setCell ⟨w.heap.size,0,none⟩ u).setRow (w.heap.size+2) cs).ownsRow lo VT 4 vl n xs :=
 zxc (own_setc (zco ho hl) h.t) (h.fin u).o
theorem Set_put_f (w:World) (lo:Nat) (a1 a2 a3:Option Addr) (c1 n2 c2 n3 c3:Nat) (all:Bool) (l:List Jp.V) (v:Jp.V) (on ox:ByteArray) (os:Bool) (ov:Int)  (hlo:lo≤w.heap.size) (hl:w.ownsRow lo VT 4 (.slice a1 l.length c1) l.length (vsC l)) (hz:l.length≤10000)
  (hG:∀ W,W.ownsRow lo VT 4 (.slice a1 l.length c1) l.length (vsC l)→Calls Tryz.prog 18 #[.agg #[.slice a1 l.length c1,.slice a2 n2 c2,.slice a3 n3 c3,.bool all],.string (str v.n)] W fun e w'=>e=.returned (.tuple #[.agg #[.string on,.string ox,.bool os,.int .i64 ov],.bool false])∧Below W.heap.size W w') :
  Calls Tryz.prog 44 #[.agg (tA (.slice a1 l.length c1) (.slice a2 n2 c2) (.slice a3 n3 c3) all),.agg (vA v)] w (zdl w lo (.slice a2 n2 c2) (.slice a3 n3 c3) all (Jp.insA v false l)):=by
 obtain⟨i0,hi0,hz0,hz1,hz2⟩:=info_parts infoVT
 have h3:=Three.new w (tA (.slice a1 l.length c1) (.slice a2 n2 c2) (.slice a3 n3 c3) all) (vA v)
 have H3:=Lib.hid h3
 have d0:=zaa (i:=0) h3.t rfl
 have d1:=zaa (i:=1) h3.t rfl
 have d2:=zaa (i:=2) h3.t rfl
 have d3:=zaa (i:=3) h3.t rfl
 have b0:=zaa (i:=0) h3.v rfl
 have hGet:=hG _ (zae hl h3.below)
 have HL:=Lib.hid hl
 clear h3 hl hG
 simp only [tA,vA,zrc] at d0 d1 d2 d3 b0 hGet
 have HGet:=Lib.hid hGet
 clear hGet
 unfold tA vA
 go_enter Tryz.func44,Tryz.ntmps44
 go_wp2_with fail
 refine HGet.out.mono ?_
 rintro e w1 ⟨rfl,B1⟩
 have HB1:=Lib.hid B1
 have h31:=H3.out.on B1
 have ob:=zah w1 (.cells #[.string on,.string ox,.bool os,.int .i64 ov] VT)
 have H3W:=Lib.hid (h31.on ((Below.refl w1.heap.size w1).alloc (Nat.le_refl _) (.cells #[.string on,.string ox,.bool os,.int .i64 ov] VT)))
 have hv3:=zaa (i:=3) H3W.out.v rfl
 have o3:=zaa (i:=3) ob rfl
 simp only [vA] at hv3
 clear ob h31 B1 d0 d1 d2 d3 b0
 go_wp2_with fail
 generalize hW:w1.alloc (.cells #[.string on,.string ox,.bool os,.int .i64 ov] VT)=W at *
 go_loopw [7,8,9] (fun vo vd vi wr=>SRel W l v vo vd vi wr) (fun _ _ vi _=>l.length - (intOf vi).toNat)
 case atStart=>exact⟨0,false,[],rfl,rfl,Nat.zero_le _,Nat.le_refl _,World.ownsRow_nil _ _ _ _,Below.refl _ _,rfl⟩
 case round =>
  obtain⟨i,d,q,rfl,rfl,hi,hq,hro,hB,hins⟩:=hrel
  obtain⟨va,vc,hvv⟩:=zac hro
  subst hvv
  have h3r:=H3W.out.on hB
  have t0:=zaa (i:=0) h3r.t rfl
  have v0:=zaa (i:=0) h3r.v rfl
  have v1:=zaa (i:=1) h3r.v rfl
  have v2:=zaa (i:=2) h3r.v rfl
  have v3:=zaa (i:=3) h3r.v rfl
  simp only [tA,vA] at t0 v0 v1 v2 v3
  have HB:=Lib.hid hB
  have hws:=hB.size
  have HRO:=Lib.hid hro
  have HROd:=Lib.hid (show ∀ n,(wr.drewN n).ownsRow W.heap.size VT 4 (.slice va q.length vc) q.length (vsC q) from fun n=>hro)
  have HBw:=Lib.hid h3r.below
  have H3R:=Lib.hid h3r
  by_cases hlt:i<l.length
  ·obtain⟨g,rfl,hc,hgl,_,x0,x1,x2,x3⟩:=zth HL.out hlt
   have p0:=(h3r.below.cell (p:=⟨g,i * 4,none⟩) hgl).trans x0
   have p1:=(h3r.below.cell (p:=⟨g,i * 4+1,none⟩) hgl).trans x1
   have p2:=(h3r.below.cell (p:=⟨g,i * 4+2,none⟩) hgl).trans x2
   have p3:=(h3r.below.cell (p:=⟨g,i * 4+3,none⟩) hgl).trans x3
   rw[List.drop_eq_getElem_cons hlt] at hins
   have hki:(i:Int)<l.length:=by omega
   have hk0:(0:Int)≤(i:Int):=Int.natCast_nonneg _
   clear hro hB h3r hv3 o3
   generalize l[i]=x at *
   cases d with
   | true =>
    cases hless:Op.bytesLess x.n v.n with
    | true =>
     by_cases hk:x.n=v.n
     ·skip
      have hls:Op.bytesLess (str x.n).toList (str v.n).toList=true:=by rw[zhn];exact hless
      have hke:=zeg (a:=str x.n) (b:=str v.n) (by rw[zam,zam];exact hk)
      have HIN:Hid (Jp.insA v false l=(q)++Jp.insA v true (l.drop (i+1))):=Lib.hid (by rw[hins,zee,hless,if_pos hk];simp)
      clear hins hless hk
      go_wp2_with fail
      go_quiet (fail)
      go_wp2_with fail
      go_quiet (fail)
      go_wp2_with fail
      go_roundw
      case rel=>exact⟨i+1,true,q,by go_num,rfl,hlt,by first | omega | (simp;omega),HROd.out _,below_drewN HB.out _,HIN.out⟩
      case measure=>simp[intOf];omega
     ·skip
      have hls:Op.bytesLess (str x.n).toList (str v.n).toList=true:=by rw[zhn];exact hless
      have hke:=zhq (a:=str x.n) (b:=str v.n) (by rw[zam,zam];exact hk)
      have HIN:Hid (Jp.insA v false l=(q++[x])++Jp.insA v true (l.drop (i+1))):=Lib.hid (by rw[hins,zee,hless,if_neg hk];simp)
      clear hins hless hk
      go_wp2_with fail
      go_quiet (fail)
      go_wp2_with fail
      go_quiet (fail)
      go_wp2_with (at_builtin;refine wpList_append_own_at _ rfl _ _ 34 rfl W.heap.size VT i0 (.agg #[.string ByteArray.empty,.string ByteArray.empty,.bool false,.int .i64 0]) 4 48 Tryz.underlying34 hi0 hz0 hz1 hz2 rfl (by decide) _ _ _ rfl ((HROd.out _).alloc _) ⟨wr.heap.size,0,none⟩ 1 1 (vC x) rfl rfl (zbv _ #[.string (str (x).n),.string (str (x).x),.bool (x).s,.int .i64 (x).f] _ rfl) (by simp[vC,Value.oneCell']) (by unfold maxLen;omega) (by omega) (by rw[World.size_alloc];exact Nat.le_succ_of_le hws) ?_;intro v4b w4b hown4b hgrow4b _ hat4b;obtain⟨a4b,c4b,rfl⟩:=zac hown4b;have HB4b:=Lib.hid (zkr HB.out hws hgrow4b (fun j ej=>(HRO.out.lt j ej).1)))
      go_roundw
      case rel=>exact⟨i+1,true,q++[x],by go_num,rfl,hlt,by first | omega | (simp;omega),by rw[List.length_append,zgw];exact hown4b,HB4b.out,HIN.out⟩
      case measure=>simp[intOf];omega
    | false =>
     by_cases hk:x.n=v.n
     ·skip
      have hls:Op.bytesLess (str x.n).toList (str v.n).toList=false:=by rw[zhn];exact hless
      have hke:=zeg (a:=str x.n) (b:=str v.n) (by rw[zam,zam];exact hk)
      have HIN:Hid (Jp.insA v false l=(q)++Jp.insA v true (l.drop (i+1))):=Lib.hid (by rw[hins,zee,hless,if_pos hk];simp)
      clear hins hless hk
      go_wp2_with fail
      go_quiet (fail)
      go_wp2_with fail
      go_quiet (fail)
      go_wp2_with fail
      go_roundw
      case rel=>exact⟨i+1,true,q,by go_num,rfl,hlt,by first | omega | (simp;omega),HROd.out _,below_drewN HB.out _,HIN.out⟩
      case measure=>simp[intOf];omega
     ·skip
      have hls:Op.bytesLess (str x.n).toList (str v.n).toList=false:=by rw[zhn];exact hless
      have hke:=zhq (a:=str x.n) (b:=str v.n) (by rw[zam,zam];exact hk)
      have HIN:Hid (Jp.insA v false l=(q++[x])++Jp.insA v true (l.drop (i+1))):=Lib.hid (by rw[hins,zee,hless,if_neg hk];simp)
      clear hins hless hk
      go_wp2_with fail
      go_quiet (fail)
      go_wp2_with fail
      go_quiet (fail)
      go_wp2_with (at_builtin;refine wpList_append_own_at _ rfl _ _ 34 rfl W.heap.size VT i0 (.agg #[.string ByteArray.empty,.string ByteArray.empty,.bool false,.int .i64 0]) 4 48 Tryz.underlying34 hi0 hz0 hz1 hz2 rfl (by decide) _ _ _ rfl ((HROd.out _).alloc _) ⟨wr.heap.size,0,none⟩ 1 1 (vC x) rfl rfl (zbv _ #[.string (str (x).n),.string (str (x).x),.bool (x).s,.int .i64 (x).f] _ rfl) (by simp[vC,Value.oneCell']) (by unfold maxLen;omega) (by omega) (by rw[World.size_alloc];exact Nat.le_succ_of_le hws) ?_;intro v4b w4b hown4b hgrow4b _ hat4b;obtain⟨a4b,c4b,rfl⟩:=zac hown4b;have HB4b:=Lib.hid (zkr HB.out hws hgrow4b (fun j ej=>(HRO.out.lt j ej).1)))
      go_roundw
      case rel=>exact⟨i+1,true,q++[x],by go_num,rfl,hlt,by first | omega | (simp;omega),by rw[List.length_append,zgw];exact hown4b,HB4b.out,HIN.out⟩
      case measure=>simp[intOf];omega
   | false =>
    cases hless:Op.bytesLess x.n v.n with
    | true =>
     by_cases hk:x.n=v.n
     ·skip
      have hls:Op.bytesLess (str x.n).toList (str v.n).toList=true:=by rw[zhn];exact hless
      have hke:=zeg (a:=str x.n) (b:=str v.n) (by rw[zam,zam];exact hk)
      have HIN:Hid (Jp.insA v false l=(q)++Jp.insA v false (l.drop (i+1))):=Lib.hid (by rw[hins,zee,hless,if_pos hk];simp)
      clear hins hless hk
      go_wp2_with fail
      go_quiet (fail)
      go_wp2_with fail
      go_quiet (fail)
      go_wp2_with fail
      go_roundw
      case rel=>exact⟨i+1,false,q,by go_num,rfl,hlt,by first | omega | (simp;omega),HROd.out _,below_drewN HB.out _,HIN.out⟩
      case measure=>simp[intOf];omega
     ·skip
      have hls:Op.bytesLess (str x.n).toList (str v.n).toList=true:=by rw[zhn];exact hless
      have hke:=zhq (a:=str x.n) (b:=str v.n) (by rw[zam,zam];exact hk)
      have HIN:Hid (Jp.insA v false l=(q++[x])++Jp.insA v false (l.drop (i+1))):=Lib.hid (by rw[hins,zee,hless,if_neg hk];simp)
      clear hins hless hk
      go_wp2_with fail
      go_quiet (fail)
      go_wp2_with fail
      go_quiet (fail)
      go_wp2_with (at_builtin;refine wpList_append_own_at _ rfl _ _ 34 rfl W.heap.size VT i0 (.agg #[.string ByteArray.empty,.string ByteArray.empty,.bool false,.int .i64 0]) 4 48 Tryz.underlying34 hi0 hz0 hz1 hz2 rfl (by decide) _ _ _ rfl ((HROd.out _).alloc _) ⟨wr.heap.size,0,none⟩ 1 1 (vC x) rfl rfl (zbv _ #[.string (str (x).n),.string (str (x).x),.bool (x).s,.int .i64 (x).f] _ rfl) (by simp[vC,Value.oneCell']) (by unfold maxLen;omega) (by omega) (by rw[World.size_alloc];exact Nat.le_succ_of_le hws) ?_;intro v4b w4b hown4b hgrow4b _ hat4b;obtain⟨a4b,c4b,rfl⟩:=zac hown4b;have HB4b:=Lib.hid (zkr HB.out hws hgrow4b (fun j ej=>(HRO.out.lt j ej).1)))
      go_roundw
      case rel=>exact⟨i+1,false,q++[x],by go_num,rfl,hlt,by first | omega | (simp;omega),by rw[List.length_append,zgw];exact hown4b,HB4b.out,HIN.out⟩
      case measure=>simp[intOf];omega
    | false =>
     by_cases hk:x.n=v.n
     ·skip
      have hls:Op.bytesLess (str x.n).toList (str v.n).toList=false:=by rw[zhn];exact hless
      have hke:=zeg (a:=str x.n) (b:=str v.n) (by rw[zam,zam];exact hk)
      have HIN:Hid (Jp.insA v false l=(q++[v])++Jp.insA v true (l.drop (i+1))):=Lib.hid (by rw[hins,zee,hless,if_pos hk];simp)
      clear hins hless hk
      go_wp2_with fail
      go_quiet (fail)
      go_wp2_with (at_builtin;refine wpList_append_own_at _ rfl _ _ 34 rfl W.heap.size VT i0 (.agg #[.string ByteArray.empty,.string ByteArray.empty,.bool false,.int .i64 0]) 4 48 Tryz.underlying34 hi0 hz0 hz1 hz2 rfl (by decide) _ _ _ rfl ((HROd.out _).alloc _) ⟨wr.heap.size,0,none⟩ 1 1 (vC v) rfl rfl (zbv _ #[.string (str (v).n),.string (str (v).x),.bool (v).s,.int .i64 (v).f] _ rfl) (by simp[vC,Value.oneCell']) (by unfold maxLen;omega) (by omega) (by rw[World.size_alloc];exact Nat.le_succ_of_le hws) ?_;intro v4a w4a hown4a hgrow4a _ hat4a;obtain⟨a4a,c4a,rfl⟩:=zac hown4a;have HB4a:=Lib.hid (zkr HB.out hws hgrow4a (fun j ej=>(HRO.out.lt j ej).1));have h34:=H3W.out.on HB4a.out;have HO4d:=Lib.hid (show ∀ m,(w4a.drewN m).ownsRow W.heap.size VT 4 (.slice a4a (q.length+1) c4a) (q.length+1) (vsC q++vC v) from fun m=>hown4a);have t0a:=zaa (i:=0) h34.t rfl;have v0a:=zaa (i:=0) h34.v rfl;simp only [tA,vA] at t0a v0a;have hw4:=h34.below;have p0a:=(hw4.cell (p:=⟨g,i * 4,none⟩) hgl).trans x0;have p1a:=(hw4.cell (p:=⟨g,i * 4+1,none⟩) hgl).trans x1;have p2a:=(hw4.cell (p:=⟨g,i * 4+2,none⟩) hgl).trans x2;have p3a:=(hw4.cell (p:=⟨g,i * 4+3,none⟩) hgl).trans x3;have hs4:=HB4a.out.size)
      go_quiet (fail)
      go_wp2_with fail
      go_roundw
      case rel=>exact⟨i+1,true,q++[v],by go_num,rfl,hlt,by first | omega | (simp;omega),by rw[List.length_append,zgw];exact HO4d.out _,below_drewN HB4a.out _,HIN.out⟩
      case measure=>simp[intOf];omega
     ·skip
      have hls:Op.bytesLess (str x.n).toList (str v.n).toList=false:=by rw[zhn];exact hless
      have hke:=zhq (a:=str x.n) (b:=str v.n) (by rw[zam,zam];exact hk)
      have HIN:Hid (Jp.insA v false l=(q++[v]++[x])++Jp.insA v true (l.drop (i+1))):=Lib.hid (by rw[hins,zee,hless,if_neg hk];simp)
      clear hins hless hk
      go_wp2_with fail
      go_quiet (fail)
      go_wp2_with (at_builtin;refine wpList_append_own_at _ rfl _ _ 34 rfl W.heap.size VT i0 (.agg #[.string ByteArray.empty,.string ByteArray.empty,.bool false,.int .i64 0]) 4 48 Tryz.underlying34 hi0 hz0 hz1 hz2 rfl (by decide) _ _ _ rfl ((HROd.out _).alloc _) ⟨wr.heap.size,0,none⟩ 1 1 (vC v) rfl rfl (zbv _ #[.string (str (v).n),.string (str (v).x),.bool (v).s,.int .i64 (v).f] _ rfl) (by simp[vC,Value.oneCell']) (by unfold maxLen;omega) (by omega) (by rw[World.size_alloc];exact Nat.le_succ_of_le hws) ?_;intro v4a w4a hown4a hgrow4a _ hat4a;obtain⟨a4a,c4a,rfl⟩:=zac hown4a;have HB4a:=Lib.hid (zkr HB.out hws hgrow4a (fun j ej=>(HRO.out.lt j ej).1));have h34:=H3W.out.on HB4a.out;have HO4d:=Lib.hid (show ∀ m,(w4a.drewN m).ownsRow W.heap.size VT 4 (.slice a4a (q.length+1) c4a) (q.length+1) (vsC q++vC v) from fun m=>hown4a);have t0a:=zaa (i:=0) h34.t rfl;have v0a:=zaa (i:=0) h34.v rfl;simp only [tA,vA] at t0a v0a;have hw4:=h34.below;have p0a:=(hw4.cell (p:=⟨g,i * 4,none⟩) hgl).trans x0;have p1a:=(hw4.cell (p:=⟨g,i * 4+1,none⟩) hgl).trans x1;have p2a:=(hw4.cell (p:=⟨g,i * 4+2,none⟩) hgl).trans x2;have p3a:=(hw4.cell (p:=⟨g,i * 4+3,none⟩) hgl).trans x3;have hs4:=HB4a.out.size)
      go_quiet (fail)
      go_wp2_with (at_builtin;refine wpList_append_own_at _ rfl _ _ 34 rfl W.heap.size VT i0 (.agg #[.string ByteArray.empty,.string ByteArray.empty,.bool false,.int .i64 0]) 4 48 Tryz.underlying34 hi0 hz0 hz1 hz2 rfl (by decide) _ _ _ rfl ((HO4d.out _).alloc _) ⟨w4a.heap.size,0,none⟩ 1 1 (vC x) rfl rfl (zbv _ #[.string (str (x).n),.string (str (x).x),.bool (x).s,.int .i64 (x).f] _ rfl) (by simp[vC,Value.oneCell']) (by unfold maxLen;omega) (by omega) (by rw[World.size_alloc];exact Nat.le_succ_of_le hs4) ?_;intro v4b w4b hown4b hgrow4b _ hat4b;obtain⟨a4b,c4b,rfl⟩:=zac hown4b;have HB4b:=Lib.hid (zkr HB4a.out hs4 hgrow4b (fun j ej=>((HO4d.out 0).lt j ej).1)))
      go_roundw
      case rel=>exact⟨i+1,true,q++[v]++[x],by go_num,rfl,hlt,by first | omega | (simp;omega),by rw[List.length_append,List.length_append,zgw,zgw];exact hown4b,HB4b.out,HIN.out⟩
      case measure=>simp[intOf];omega
  ·obtain rfl:i=l.length:=by omega
   rw[List.drop_length] at hins
   have hki:¬ (l.length:Int)<l.length:=by omega
   have f0:=zad h3r.t 0
   have hWlo:lo≤W.heap.size:=Nat.le_trans hlo (by rw[←hW,World.size_alloc];exact Nat.le_succ_of_le (Nat.le_trans H3.out.below.size HB1.out.size))
   have hltb:=(Array.getElem?_eq_some_iff.1 h3r.t).1
   cases d with
   | true =>
    have HA:Hid (Jp.insA v false l=q):=Lib.hid (by rw[hins];simp[Jp.insA])
    have hF:=Lib.hid (h3r.fin (.slice va q.length vc))
    have e0:=zaa (i:=0) hF.out.t rfl
    have e1:=zaa (i:=1) hF.out.t rfl
    have e2:=zaa (i:=2) hF.out.t rfl
    have e3:=zaa (i:=3) hF.out.t rfl
    clear hro hB h3r hv3 o3 hins
    go_wp2_with (refine wpList_store_row rfl TT _ _ rfl (w.heap.size+2) (tA (.slice va q.length vc) (.slice a2 n2 c2) (.slice a3 n3 c3) all) rfl rfl TT zrc hF.out.o sizeT rfl (one_t va a2 a3 q.length n2 n3 vc c2 c3 all) ?_)
    (try simp only [Exit.inBlock,Exit.then])
    refine bodyPost_ret (zmp Tryz.results44 _ _ (w.heap.size+2) TT (tA (.slice va q.length vc) (.slice a2 n2 c2) (.slice a3 n3 c3) all) (0,0) _ rfl (setRow_heap _ _ _ _ _ _ hF.out.o) undT rfl sizeT) rfl ?_
    rw[HA.out]
    exact⟨_,rfl,Fin.own H3R.out hWlo HRO.out _ _,below_setRow hF.out.below (by omega) _⟩
   | false =>
    have HA:Hid (Jp.insA v false l=q++[v]):=Lib.hid (by rw[hins];simp[Jp.insA])
    clear hro hB h3r hv3 o3 hins
    go_wp2_with (first
     | (at_builtin;refine wpList_append_own_at _ rfl _ _ 34 rfl W.heap.size VT i0 (.agg #[.string ByteArray.empty,.string ByteArray.empty,.bool false,.int .i64 0]) 4 48 Tryz.underlying34 hi0 hz0 hz1 hz2 rfl (by decide) _ _ _ rfl (HRO.out.alloc _) ⟨wr.heap.size,0,none⟩ 1 1 (vC v) rfl rfl (zbv _ #[.string (str v.n),.string (str v.x),.bool v.s,.int .i64 v.f] _ rfl) (by simp[vC,Value.oneCell']) (by unfold maxLen;omega) (by omega) (by rw[World.size_alloc];exact Nat.le_succ_of_le hws) ?_;intro v4 w4 hown4 hgrow4 _ hat4;obtain⟨a4,c4,rfl⟩:=zac hown4;have HB4:=Lib.hid (((HB.out).alloc hws _).grown hgrow4 (by rw[World.size_alloc];exact Nat.le_succ_of_le hws) (fun j ej=>(HRO.out.lt j ej).1));have h34:=H3W.out.on HB4.out;have H34:=Lib.hid h34;have f4:=zad h34.t 0;have t4:=zaa (i:=0) h34.t rfl;have hlt4:=(Array.getElem?_eq_some_iff.1 h34.t).1;have hF:=Lib.hid (h34.fin (.slice a4 (q.length+1) c4));have e0:=zaa (i:=0) hF.out.t rfl;have e1:=zaa (i:=1) hF.out.t rfl;have e2:=zaa (i:=2) hF.out.t rfl;have e3:=zaa (i:=3) hF.out.t rfl;clear h34;simp only [tA] at t4)
     | (refine wpList_store_row rfl TT _ _ rfl (w.heap.size+2) (tA (.slice a4 (q.length+1) c4) (.slice a2 n2 c2) (.slice a3 n3 c3) all) rfl rfl TT zrc hF.out.o sizeT rfl (one_t a4 a2 a3 (q.length+1) n2 n3 c4 c2 c3 all) ?_))
    (try simp only [Exit.inBlock,Exit.then])
    refine bodyPost_ret (zmp Tryz.results44 _ _ (w.heap.size+2) TT (tA (.slice a4 (q.length+1) c4) (.slice a2 n2 c2) (.slice a3 n3 c3) all) (0,0) _ rfl (setRow_heap _ _ _ _ _ _ hF.out.o) undT rfl sizeT) rfl ?_
    rw[HA.out]
    exact⟨_,rfl,by have:=Fin.own H34.out hWlo hown4 (.slice a4 (q.length+1) c4) (tA (.slice a4 (q.length+1) c4) (.slice a2 n2 c2) (.slice a3 n3 c3) all);rw[List.length_append,zgw];exact this,below_setRow hF.out.below (by omega) _⟩
end Jw
end Go.Proofs.YtgdpbnfgcabneaaGreatDoor
