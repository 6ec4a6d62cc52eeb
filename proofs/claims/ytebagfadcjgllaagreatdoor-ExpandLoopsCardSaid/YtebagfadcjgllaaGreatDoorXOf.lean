/-
  flatironlaw14.Of: what a text is expanded by, of variables alone.
-/
import Derived.StillTailTactics
import Derived.Laws.EntriesVeiled
import Derived.Deep.RegionHeld3
import Derived.Test.YtebagfadcjgllaaGreatDoorKOrder
import Derived.Test.YtebagfadcjgllaaGreatDoorJPSet
import Derived.Test.YtebagfadcjgllaaGreatDoorJOf
import Derived.Test.YtebagfadcjgllaaGreatDoorJKinds
namespace Go.Proofs.YtebagfadcjgllaaGreatDoor.Xw
open Go.RowKit Go.Proofs.YtebagfadcjgllaaGreatDoor Go.Proofs.YtebagfadcjgllaaGreatDoor.Ww Go.Proofs.YtebagfadcjgllaaGreatDoor.Tw Go.Proofs.YtebagfadcjgllaaGreatDoor.Kw Go.Proofs.YtebagfadcjgllaaGreatDoor.Jw
set_option maxRecDepth 100000

abbrev GT : TypeId := 27
abbrev ET : TypeId := 36
abbrev RT : TypeId := 41
/-- The variables, set one behind another. -/
def setsA (L : List Jp.V) : Jp.T := L.foldl Jp.setA Jp.new
theorem setA_keeps (T : Jp.T) (v : Jp.V) : (Jp.setA T v).yes = T.yes ∧ (Jp.setA T v).no = T.no ∧ (Jp.setA T v).all = T.all := by
  unfold Jp.setA
  split
  · split <;> exact ⟨rfl, rfl, rfl⟩
  · exact ⟨rfl, rfl, rfl⟩
theorem setsA_take {L : List Jp.V} {i : Nat} (h : i < L.length) : setsA (L.take (i + 1)) = Jp.setA (setsA (L.take i)) L[i] := by
  unfold setsA
  rw [List.take_succ_eq_append_getElem h, List.foldl_append]; rfl
theorem sets_keeps : ∀ (L : List Jp.V) (T : Jp.T), (L.foldl Jp.setA T).yes = T.yes ∧ (L.foldl Jp.setA T).no = T.no ∧ (L.foldl Jp.setA T).all = T.all
  | [], _ => ⟨rfl, rfl, rfl⟩
  | v :: r, T => by
    obtain ⟨h1, h2, h3⟩ := sets_keeps r (Jp.setA T v)
    obtain ⟨k1, k2, k3⟩ := setA_keeps T v
    exact ⟨h1.trans k1, h2.trans k2, h3.trans k3⟩
theorem setsA_keeps (L : List Jp.V) : (setsA L).yes = [] ∧ (setsA L).no = [] ∧ (setsA L).all = false := sets_keeps L Jp.new
theorem insA_len2 (v : Jp.V) : ∀ (d : Bool) (l : List Jp.V), (Jp.insA v d l).length ≤ l.length + (if d = true then 0 else 1)
  | d, [] => by unfold Jp.insA; cases d <;> simp
  | d, x :: r => by
    have i0 := insA_len2 v true r
    have i1 := insA_len2 v false r
    unfold Jp.insA
    have h2 : (if x.n = v.n then [] else [x]).length ≤ 1 := by split <;> simp
    simp only [if_true, Bool.false_eq_true, if_false] at i0 i1
    simp only [List.length_append, List.length_cons]
    cases d with
    | true => simp; omega
    | false =>
      cases hb : Op.bytesLess x.n v.n with
      | true => simp; omega
      | false => simp; omega
theorem insA_len (v : Jp.V) (l : List Jp.V) : (Jp.insA v false l).length ≤ l.length + 1 := insA_len2 v false l
theorem sets_len : ∀ (L : List Jp.V) (T : Jp.T), (L.foldl Jp.setA T).l.length ≤ T.l.length + L.length
  | [], _ => Nat.le_refl _
  | v :: r, T => by
    have h1 := sets_len r (Jp.setA T v)
    have h2 : (Jp.setA T v).l.length ≤ T.l.length + 1 := by
      unfold Jp.setA Jp.putA
      split
      · split
        · exact Nat.le_succ _
        · exact insA_len _ _
      · exact insA_len _ _
    simp only [List.foldl_cons, List.length_cons]
    omega
theorem setsA_len (L : List Jp.V) : (setsA L).l.length ≤ L.length := by have := sets_len L Jp.new; simpa [Jp.new, setsA] using this

theorem kGT : GT ≠ PT ∧ GT ≠ BT ∧ GT ≠ U8 := by decide
theorem kET : ET ≠ PT ∧ ET ≠ BT ∧ ET ≠ U8 := by decide
theorem kRT : RT ≠ PT ∧ RT ≠ BT ∧ RT ≠ U8 := by decide

def OfPost (w : World) (L : List Jp.V) (e : Ending) (w' : World) : Prop :=
  ∃ (tb mb : Nat) (f : Value) (s : Sl) (X : List Nat), e = .returned (.tuple #[.agg #[.pointer (some ⟨tb, 0, none⟩), .map (some mb), f], .agg #[.slice s.a0 (setsA L).l.length s.c0, .slice s.a1 0 s.c1, .slice s.a2 0 s.c2, .bool false, .slice none 0 0, .slice none 0 0]]) ∧
    f.oneCell' = true ∧ Tab w' tb X (setsA L).l [] false ∧ w'.heap[mb]? = some (.map #[] 0) ∧ (∀ x ∈ X, w.heap.size ≤ x ∧ x ≠ mb) ∧ w.heap.size ≤ mb ∧ Below w.heap.size w w'
structure Boxes (w : World) (vl : Value) (z1 : Array Value) (z2 : Array Value) (W : World) : Prop where
  g : W.heap[w.heap.size]? = some (.cells #[vl, .slice none 0 0, .slice none 0 0] GT (0, 0))
  e : W.heap[w.heap.size + 1]? = some (.cells z1 ET (0, 0))
  r : W.heap[w.heap.size + 2]? = some (.cells z2 RT (0, 0))
  below : Below w.heap.size w W
theorem Boxes.on {w W W' : World} {vl : Value} {z1 z2 : Array Value} (h : Boxes w vl z1 z2 W) (hB : Below W.heap.size W W') : Boxes w vl z1 z2 W' :=
  ⟨(hB.block _ (Array.getElem?_eq_some_iff.1 h.g).1).trans h.g, (hB.block _ (Array.getElem?_eq_some_iff.1 h.e).1).trans h.e, (hB.block _ (Array.getElem?_eq_some_iff.1 h.r).1).trans h.r, h.below.trans (hB.mono h.below.size)⟩
def ORel (w : World) (vl : Value) (z1 z2 : Array Value) (L : List Jp.V) (tb mb : Nat) (vi : Value) (wr : World) : Prop :=
  ∃ (i : Nat) (s : Sl) (X : List Nat), vi = .int .i64 i ∧ i ≤ L.length ∧ Tab wr tb X (setsA (L.take i)).l [] false ∧ wr.heap[mb]? = some (.cells (mC (setsA (L.take i)) s) TT (0, 0)) ∧ Rows3 wr (setsA (L.take i)) s ∧ Boxes w vl z1 z2 wr ∧ ∀ x ∈ X, w.heap.size ≤ x

def zE : Array Value := #[.pointer none, .map none, .nilFunc]
def zR : Array Value := #[.slice none 0 0, .slice none 0 0, .slice none 0 0, .bool false, .slice none 0 0, .slice none 0 0]
theorem Boxes.new (w : World) (vl : Value) : Boxes w vl zE zR (((w.alloc (.cells #[vl, .slice none 0 0, .slice none 0 0] GT)).alloc (.cells zE ET)).alloc (.cells zR RT)) := by
  have B1 := (Below.refl w.heap.size w).alloc (Nat.le_refl _) (.cells #[vl, .slice none 0 0, .slice none 0 0] GT)
  have B2 := (Below.refl (w.alloc (.cells #[vl, .slice none 0 0, .slice none 0 0] GT)).heap.size (w.alloc (.cells #[vl, .slice none 0 0, .slice none 0 0] GT))).alloc (Nat.le_refl _) (.cells zE ET)
  have B3 := (Below.refl ((w.alloc (.cells #[vl, .slice none 0 0, .slice none 0 0] GT)).alloc (.cells zE ET)).heap.size ((w.alloc (.cells #[vl, .slice none 0 0, .slice none 0 0] GT)).alloc (.cells zE ET))).alloc (Nat.le_refl _) (.cells zR RT)
  have h1 := heap_last w (.cells #[vl, .slice none 0 0, .slice none 0 0] GT)
  have h2 := heap_last (w.alloc (.cells #[vl, .slice none 0 0, .slice none 0 0] GT)) (.cells zE ET)
  have h3 := heap_last ((w.alloc (.cells #[vl, .slice none 0 0, .slice none 0 0] GT)).alloc (.cells zE ET)) (.cells zR RT)
  rw [World.size_alloc, World.size_alloc] at h3
  rw [World.size_alloc] at h2
  exact ⟨(B3.block _ (by rw [World.size_alloc, World.size_alloc]; omega)).trans ((B2.block _ (by rw [World.size_alloc]; omega)).trans h1), (B3.block _ (by rw [World.size_alloc, World.size_alloc]; omega)).trans h2, h3, (B1.alloc B1.size _).alloc (B1.alloc B1.size _).size _⟩

/-- What a round stands on behind its first call. -/
structure RW (w : World) (vl : Value) (z1 z2 : Array Value) (tb mb vb : Nat) (X : List Nat) (l : List Jp.V) (T : Jp.T) (s : Sl) (v : Jp.V) (W : World) : Prop where
  tab : Tab W tb X l [] false
  m : W.heap[mb]? = some (.cells (mC T s) TT (0, 0))
  rows : Rows3 W T s
  box : Boxes w vl z1 z2 W
  v : W.heap[vb]? = some (.cells (vA v) PV (0, 0))
theorem RW.on {w : World} {vl : Value} {z1 z2 : Array Value} {tb mb vb : Nat} {X : List Nat} {l : List Jp.V} {T : Jp.T} {s : Sl} {v : Jp.V} {W W' : World} (h : RW w vl z1 z2 tb mb vb X l T s v W) (hB : Below W.heap.size W W') : RW w vl z1 z2 tb mb vb X l T s v W' :=
  ⟨h.tab.below hB, (hB.block _ (Array.getElem?_eq_some_iff.1 h.m).1).trans h.m, h.rows.below hB, h.box.on hB, (hB.block _ (Array.getElem?_eq_some_iff.1 h.v).1).trans h.v⟩
theorem Boxes.set {w W : World} {vl : Value} {z1 z2 : Array Value} {mb : Nat} {cs : Array Value} (h : Boxes w vl z1 z2 W) (hm : W.heap[mb]? = some (.cells cs TT (0, 0))) (hmb : w.heap.size ≤ mb) (i : Nat) (y : Value) : Boxes w vl z1 z2 (W.setCell ⟨mb, i, none⟩ y) := by
  have n1 : w.heap.size ≠ mb := fun e => by have := h.g; rw [e, hm] at this; cases this
  have n2 : w.heap.size + 1 ≠ mb := fun e => by have := h.e; rw [e, hm] at this; cases this
  have n3 : w.heap.size + 2 ≠ mb := fun e => by have := h.r; rw [e, hm] at this; cases this
  exact ⟨heap_ne h.g n1 _, heap_ne h.e n2 _, heap_ne h.r n3 _, h.below.setCell hmb _⟩
theorem RW.turn {w : World} {vl : Value} {z1 z2 : Array Value} {tb mb vb : Nat} {X : List Nat} {l : List Jp.V} {T : Jp.T} {s : Sl} {v : Jp.V} {W : World} (h : RW w vl z1 z2 tb mb vb X l T s v W) {T' : Jp.T} {s' : Sl} (hr : Rows3 W T' s') (hX : mb ∉ X) (hmb : w.heap.size ≤ mb) :
    let W' := (((W.setCell ⟨mb, 0, none⟩ (.slice s'.a0 T'.l.length s'.c0)).setCell ⟨mb, 1, none⟩ (.slice s'.a1 T'.yes.length s'.c1)).setCell ⟨mb, 2, none⟩ (.slice s'.a2 T'.no.length s'.c2)).setCell ⟨mb, 3, none⟩ (.bool T'.all)
    Tab W' tb X l [] false ∧ W'.heap[mb]? = some (.cells (mC T' s') TT (0, 0)) ∧ Rows3 W' T' s' ∧ Boxes w vl z1 z2 W' := by
  have hmm : (mb : Nat) ∈ [mb] := by simp
  have h1 := heap_set (i := 0) h.m (.slice s'.a0 T'.l.length s'.c0)
  have h2 := heap_set (i := 1) h1 (.slice s'.a1 T'.yes.length s'.c1)
  have h3 := heap_set (i := 2) h2 (.slice s'.a2 T'.no.length s'.c2)
  refine ⟨h.tab.kept (((((Kept.refl [mb] W).setCell (p := ⟨mb, 0, none⟩) (.inl hmm) _).setCell (p := ⟨mb, 1, none⟩) (.inl hmm) _).setCell (p := ⟨mb, 2, none⟩) (.inl hmm) _).setCell (p := ⟨mb, 3, none⟩) (.inl hmm) _) (fun i hi e => hX (List.mem_singleton.1 e ▸ hi)), setRow_four W mb _ _ _ _ h.m, hr.box h.m fun i _ hi => ?_, (((h.box.set h.m hmb 0 _).set h1 hmb 1 _).set h2 hmb 2 _).set h3 hmb 3 _⟩
  exact (Below.heap_setCell _ _ _ _ hi).trans ((Below.heap_setCell _ _ _ _ hi).trans ((Below.heap_setCell _ _ _ _ hi).trans (Below.heap_setCell _ _ _ _ hi)))
theorem Boxes.kept {w W W' : World} {vl : Value} {z1 z2 : Array Value} {X : List Nat} (h : Boxes w vl z1 z2 W) (hK : Kinds W X) (hk : Kept X W W') (hX : ∀ x ∈ X, w.heap.size ≤ x) : Boxes w vl z1 z2 W' :=
  ⟨box_kept h.g hK kGT hk, box_kept h.e hK kET hk, box_kept h.r hK kRT hk, h.below.trans (hk.to_below h.below.size hX)⟩

theorem results_boxes {P : Program} {fn : Func} {p q : Tmp} {ty tz : TypeId} (h : fn.results = #[.cell p ty, .cell q tz]) (tmps : Array Value) (w : World) (g k : Nat) (t u : TypeId) (cs ds : Array Value) (fr gr : Nat × Nat) (d e : TypeDesc)
    (hp : tmps.getD p undef = .pointer (some ⟨g, 0, none⟩)) (hq : tmps.getD q undef = .pointer (some ⟨k, 0, none⟩)) (hg : w.heap[g]? = some (.cells cs t fr)) (hk : w.heap[k]? = some (.cells ds u gr))
    (hu : P.underlying ty = some d) (hd : (match d with | .struct _ | .array _ _ => true | _ => false) = true) (hi : (P.info? ty).map (·.size) = some cs.size)
    (hu' : P.underlying tz = some e) (hd' : (match e with | .struct _ | .array _ _ => true | _ => false) = true) (hi' : (P.info? tz).map (·.size) = some ds.size) :
    (results fn tmps).run P w = .ok (.tuple #[.agg cs, .agg ds]) w := by
  have hp' : tmps[p]?.getD undef = .pointer (some ⟨g, 0, none⟩) := by simpa using hp
  have hq' : tmps[q]?.getD undef = .pointer (some ⟨k, 0, none⟩) := by simpa using hq
  simp [results, h, hp', hq', asAddr, run_loadVar_row w g t ty cs fr d hg hu hd hi, run_loadVar_row w k u tz ds gr e hk hu' hd' hi', Result.andThen]
theorem undE : Tryz.prog.underlying ET = some (.struct (Tryz.prog.fieldsOf ET)) := by kernel_rfl
theorem undR : Tryz.prog.underlying RT = some (.struct (Tryz.prog.fieldsOf RT)) := by kernel_rfl
theorem sizeE : (Tryz.prog.info? ET).map (·.size) = some 3 := by kernel_rfl
theorem sizeR : (Tryz.prog.info? RT).map (·.size) = some 6 := by kernel_rfl
theorem heap_drew {W : World} {b : Nat} {o : Option Obj} (h : W.heap[b]? = o) : W.drew.heap[b]? = o := h
theorem kept_drew {X : List Nat} {a b : World} (h : Kept X a b) : Kept X a b.drew := ⟨h.os, h.tape, h.output, h.size, h.block⟩
set_option maxHeartbeats 1000000 in
theorem boxes_end {W1 : World} {b c : Nat} {x0 x1 x2 y0 y1 y2 y3 y4 y5 : Value} (p0 p1 p2 q0 q1 q2 q3 q4 q5 : Value) (he : W1.heap[b]? = some (.cells #[x0, x1, x2] ET (0, 0))) (hr : W1.heap[c]? = some (.cells #[y0, y1, y2, y3, y4, y5] RT (0, 0))) (hne : b ≠ c) :
    ∀ wz, wz = ((((((((((W1).setCell ⟨b, 0, none⟩ p0).setCell ⟨b, 1, none⟩ p1).setCell ⟨b, 2, none⟩ p2).setCell ⟨c, 0, none⟩ q0).setCell ⟨c, 1, none⟩ q1).setCell ⟨c, 2, none⟩ q2).setCell ⟨c, 3, none⟩ q3).setCell ⟨c, 4, none⟩ q4).setCell ⟨c, 5, none⟩ q5).drew →
    wz.heap[b]? = some (.cells #[p0, p1, p2] ET (0, 0)) ∧ wz.heap[c]? = some (.cells #[q0, q1, q2, q3, q4, q5] RT (0, 0)) ∧ Kept [b, c] W1 wz := by
  rintro _ rfl
  have e1 := heap_set (i := 0) he p0
  have e2 := heap_set (i := 1) e1 p1
  have e3 := heap_set (i := 2) e2 p2
  have r1 := heap_ne (g := b) (i := 2) (heap_ne (g := b) (i := 1) (heap_ne (g := b) (i := 0) hr (Ne.symm hne) p0) (Ne.symm hne) p1) (Ne.symm hne) p2
  have s0 := heap_set (i := 0) r1 q0
  have s1 := heap_set (i := 1) s0 q1
  have s2 := heap_set (i := 2) s1 q2
  have s3 := heap_set (i := 3) s2 q3
  have s4 := heap_set (i := 4) s3 q4
  have s5 := heap_set (i := 5) s4 q5
  have hb : (b : Nat) ∈ [b, c] := by simp
  have hc : (c : Nat) ∈ [b, c] := by simp
  have f0 := heap_ne (g := c) (i := 0) e3 hne q0
  have f1 := heap_ne (g := c) (i := 1) f0 hne q1
  have f2 := heap_ne (g := c) (i := 2) f1 hne q2
  have f3 := heap_ne (g := c) (i := 3) f2 hne q3
  have f4 := heap_ne (g := c) (i := 4) f3 hne q4
  have f5 := heap_ne (g := c) (i := 5) f4 hne q5
  have k0 := (Kept.refl [b, c] W1).setCell (p := ⟨b, 0, none⟩) (.inl hb) p0
  have k1 := k0.setCell (p := ⟨b, 1, none⟩) (.inl hb) p1
  have k2 := k1.setCell (p := ⟨b, 2, none⟩) (.inl hb) p2
  have l0 := k2.setCell (p := ⟨c, 0, none⟩) (.inl hc) q0
  have l1 := l0.setCell (p := ⟨c, 1, none⟩) (.inl hc) q1
  have l2 := l1.setCell (p := ⟨c, 2, none⟩) (.inl hc) q2
  have l3 := l2.setCell (p := ⟨c, 3, none⟩) (.inl hc) q3
  have l4 := l3.setCell (p := ⟨c, 4, none⟩) (.inl hc) q4
  have l5 := l4.setCell (p := ⟨c, 5, none⟩) (.inl hc) q5
  exact ⟨heap_drew f5, heap_drew s5, kept_drew l5⟩

set_option maxHeartbeats 8000000 in
theorem Of14_any (w : World) {lo : Nat} {a : Option Addr} {c : Nat} {L : List Jp.V} (hl : w.ownsRow lo PV 4 (.slice a L.length c) L.length (vsC L)) (hr : ∀ v ∈ L, Jp.rightA v = true) (hn : ∀ v ∈ L, v.n.length ≤ 1000) (hz : L.length ≤ 1000) :
    Calls Tryz.prog 6 #[.agg #[.slice a L.length c, .slice none 0 0, .slice none 0 0]] w (OfPost w L) := by
  have HBx := Lib.hid (Boxes.new w (.slice a L.length c))
  unfold zE zR at HBx
  have HL := Lib.hid hl
  have HR := Lib.hid hr
  have HN := Lib.hid hn
  clear hl hr hn
  go_enter Tryz.func6, Tryz.ntmps6
  go_wp2_with fail
  generalize ((w.alloc (.cells #[.slice a L.length c, .slice none 0 0, .slice none 0 0] GT)).alloc (.cells #[.pointer none, .map none, .nilFunc] ET)).alloc (.cells #[.slice none 0 0, .slice none 0 0, .slice none 0 0, .bool false, .slice none 0 0, .slice none 0 0] RT) = w1 at *
  refine (PNew_any _).mono ?_
  rintro e w2 ⟨rfl, hT, B2⟩
  have hb2 := HBx.out.on B2
  have Ba := (Below.refl w2.heap.size w2).alloc (Nat.le_refl _) (.cells #[.slice none 0 0, .slice none 0 0, .slice none 0 0, .bool false] TT)
  have c0 := cell_at (i := 0) (hb2.on Ba).g rfl
  have cg : w.heap.size < w2.heap.size := (Array.getElem?_eq_some_iff.1 hb2.g).1
  have HStart : Hid (ORel w (.slice a L.length c) #[.pointer none, .map none, .nilFunc] #[.slice none 0 0, .slice none 0 0, .slice none 0 0, .bool false, .slice none 0 0, .slice none 0 0] L w1.heap.size w2.heap.size (.int .i64 0) (w2.alloc (.cells #[.slice none 0 0, .slice none 0 0, .slice none 0 0, .bool false] TT))) := Lib.hid ⟨0, ⟨none, 0, none, 0, none, 0⟩, [w1.heap.size], rfl, Nat.zero_le _, hT.below Ba, heap_last _ _, ⟨World.ownsRow_nil _ _ _ _, World.ownsRow_nil _ _ _ _, World.ownsRow_nil _ _ _ _⟩, hb2.on Ba, fun i hi => by rw [List.mem_singleton.1 hi]; exact HBx.out.below.size⟩
  have hmb : w.heap.size ≤ w2.heap.size := Nat.le_of_lt cg
  clear hT hb2 Ba B2
  go_wp2_with fail
  clear c0 cg
  generalize w2.alloc (.cells #[.slice none 0 0, .slice none 0 0, .slice none 0 0, .bool false] TT) = W0 at *
  generalize w1.heap.size = tb at *
  generalize w2.heap.size = mb at *
  clear HBx
  go_loopw [17] (fun vi wx => ORel w (.slice a L.length c) #[.pointer none, .map none, .nilFunc] #[.slice none 0 0, .slice none 0 0, .slice none 0 0, .bool false, .slice none 0 0, .slice none 0 0] L tb mb vi wx) (fun vi _ => L.length - (intOf vi).toNat)
  case atStart => exact HStart.out
  case round =>
    clear HStart
    obtain ⟨i, s, X, rfl, hi, hT, hm, hRw, hbx, hX⟩ := hrel
    by_cases hlt : i < L.length
    · obtain ⟨X0, hT0, hK0, hX0⟩ := hT.shrink
      have hB := hbx.below
      have hmem := List.getElem_mem hlt
      have hst := setsA_take hlt
      obtain ⟨g, rfl, hc, hgl, x0, x1, x2, x3⟩ := var_cells2 HL.out hlt
      have p0 := (hB.cell (p := ⟨g, i * 4, none⟩) hgl).trans x0
      have p1 := (hB.cell (p := ⟨g, i * 4 + 1, none⟩) hgl).trans x1
      have p2 := (hB.cell (p := ⟨g, i * 4 + 2, none⟩) hgl).trans x2
      have p3 := (hB.cell (p := ⟨g, i * 4 + 3, none⟩) hgl).trans x3
      have hgr : g < wr.heap.size := Nat.lt_of_lt_of_le hgl hB.size
      have hrv := HR.out _ hmem
      have hnv := HN.out _ hmem
      have hlen : (setsA (L.take i)).l.length ≤ 1000 := Nat.le_trans (setsA_len _) (by rw [List.length_take]; omega)
      obtain ⟨k1, k2, k3⟩ := setsA_keeps (L.take i)
      generalize L[i] = v at *
      generalize setsA (L.take i) = T at *
      obtain ⟨Tl, Ty, Tn, Ta⟩ := T
      dsimp only at k1 k2 k3 hT hm hRw hT0 hlen
      subst k1 k2 k3
      have hki : (i : Int) < L.length := by omega
      have hk0 : (0 : Int) ≤ (i : Int) := Int.natCast_nonneg _
      clear x0 x1 x2 x3 hgl hmem
      have HB := Lib.hid hB
      have HM := Lib.hid hm
      have HRw := Lib.hid hRw
      have HBx := Lib.hid hbx
      have HT0 := Lib.hid hT0
      have HK0 := Lib.hid hK0
      clear hT hB hm hRw hbx hT0 hK0
      have Ba := (Below.refl wr.heap.size wr).alloc (Nat.le_refl _) (.cells (vA v) PV)
      have hS := Lib.hid (PSet_any _ (HT0.out.below Ba) v ⟨Tl, [], [], false⟩ rfl (by omega) (by omega))
      rw [hrv, if_pos rfl, if_pos rfl] at hS
      have HOf := Lib.hid (fun W => Of_any W v)
      have HRi := Lib.hid (fun W => Right_any W v)
      rw [hrv] at HRi
      have HSet := Lib.hid (fun W (hW : Rows3 W ⟨Tl, [], [], false⟩ s) => Set_any W 0 s.a0 s.a1 s.a2 s.c0 0 s.c1 0 s.c2 ⟨Tl, [], [], false⟩ v (Nat.zero_le _) hW.l (by dsimp only; omega))
      unfold tA vA at HSet
      unfold vA at hS HOf HRi
      have HBa := Lib.hid Ba
      clear Ba
      go_wp2_with fail
      refine hS.out.mono ?_
      rintro e w3 ⟨rfl, X3, hT3, hK3, hX3⟩
      have HRW : Hid (RW w (.slice (some ⟨g, 0, none⟩) L.length c) #[.pointer none, .map none, .nilFunc] #[.slice none 0 0, .slice none 0 0, .slice none 0 0, .bool false, .slice none 0 0, .slice none 0 0] tb mb wr.heap.size X3 (Jp.setA ⟨Tl, [], [], false⟩ v).l ⟨Tl, [], [], false⟩ s v w3) := Lib.hid (by
        have hKa : Kinds (wr.alloc (.cells (vA v) PV)) X0 := HK0.out.kept (Y := []) (.of_below HBa.out) (fun i _ h => by cases h)
        have hma := (HBa.out.block _ (Array.getElem?_eq_some_iff.1 HM.out).1).trans HM.out
        exact ⟨hT3, box_kept hma hKa kTT hK3, (HRw.out.below HBa.out).kept hKa hK3, (HBx.out.on HBa.out).kept hKa hK3 (fun x hx => hX x (hX0 x hx)), box_kept (heap_last wr (.cells (vA v) PV)) hKa kPV hK3⟩)
      have HX3 : Hid (∀ x ∈ X3, w.heap.size ≤ x) := Lib.hid (fun x hx => by
        rcases hX3 x hx with h | h
        · exact hX x (hX0 x h)
        · exact Nat.le_trans HBx.out.below.size (Nat.le_trans HBa.out.size h))
      have HmX : Hid (mb ∉ X3) := Lib.hid (fun h => by
        rcases hX3 mb h with h | h
        · exact HK0.out.box HM.out kTT h
        · exact absurd (Nat.lt_of_lt_of_le (Array.getElem?_eq_some_iff.1 HM.out).1 (Nat.le_trans HBa.out.size h)) (Nat.lt_irrefl _))
      clear hS hT3 hK3 hX3 HT0 HK0 HBa HM HRw HBx HB p0 p1 p2 p3 hX hX0
      have hvl := (Array.getElem?_eq_some_iff.1 HRW.out.v).1
      have v0 := cell_at (i := 0) HRW.out.v rfl
      have v1 := cell_at (i := 1) HRW.out.v rfl
      have v2 := cell_at (i := 2) HRW.out.v rfl
      have v3 := cell_at (i := 3) HRW.out.v rfl
      unfold vA at v0 v1 v2 v3
      go_wp2_with fail
      refine (HOf.out _).mono ?_
      rintro e w4 ⟨rfl, B4⟩
      go_wp2_with fail
      refine (HRi.out _).mono ?_
      rintro e w5 ⟨rfl, B5⟩
      have HR5 := Lib.hid ((HRW.out.on B4).on B5)
      clear HRW B4 B5 v0 v1 v2 v3 hvl
      go_wp2_with fail
      have hT0 : (fun (b : Bool) (W : World) => b = false → RW w (.slice (some ⟨g, 0, none⟩) L.length c) #[.pointer none, .map none, .nilFunc] #[.slice none 0 0, .slice none 0 0, .slice none 0 0, .bool false, .slice none 0 0, .slice none 0 0] tb mb wr.heap.size X3 (Jp.setA ⟨Tl, [], [], false⟩ v).l ⟨Tl, [], [], false⟩ s v W) false w5.drew := fun _ => HR5.out.on (Below.refl _ w5).drew
      refine wp_region_D 4 (fun b W => b = false → RW w (.slice (some ⟨g, 0, none⟩) L.length c) #[.pointer none, .map none, .nilFunc] #[.slice none 0 0, .slice none 0 0, .slice none 0 0, .bool false, .slice none 0 0, .slice none 0 0] tb mb wr.heap.size X3 (Jp.setA ⟨Tl, [], [], false⟩ v).l ⟨Tl, [], [], false⟩ s v W) (by kernel_rfl) ?_
      refine wpAnyD_pre (i := 0) [0, 3, 4] (v := .agg #[.slice s.a0 Tl.length s.c0, .slice s.a1 0 s.c1, .slice s.a2 0 s.c2, .bool false]) (by rfl) rfl (by rfl) (by kernel_rfl) (by kernel_rfl) (by kernel_rfl) (by kernel_rfl) (by kernel_rfl) (fun c a w h => h) (Or.inl ⟨by rfl, ?_⟩) hT0 ?_
      · rintro W hW
        have hm := (hW rfl).m
        have n0 := cell_at (i := 0) hm rfl
        have n1 := cell_at (i := 1) hm rfl
        have n2 := cell_at (i := 2) hm rfl
        have n3 := cell_at (i := 3) hm rfl
        have nl := (Array.getElem?_eq_some_iff.1 hm).1
        unfold mC at n0 n1 n2 n3
        go_simp
      simp only [Act.put, List.setIfInBounds_toArray]
      refine wpAnyD_pre (i := 1) [1, 2, 3, 4] (v := .agg #[.string (str v.n), .string (str v.x), .bool v.s, .int .i64 v.f]) (by rfl) rfl (by rfl) (by kernel_rfl) (by kernel_rfl) (by kernel_rfl) (by kernel_rfl) (by kernel_rfl) (fun c a w h => h) (Or.inl ⟨by rfl, ?_⟩) hT0 ?_
      · rintro W hW
        have hm := (hW rfl).v
        have n0 := cell_at (i := 0) hm rfl
        have n1 := cell_at (i := 1) hm rfl
        have n2 := cell_at (i := 2) hm rfl
        have n3 := cell_at (i := 3) hm rfl
        have nl := (Array.getElem?_eq_some_iff.1 hm).1
        unfold vA at n0 n1 n2 n3
        go_simp
      simp only [Act.put]
      have HD0 := Lib.hid (hT0 rfl)
      clear hT0 HR5
      generalize w5.drew = wd at *
      refine wpAnyD_one (i := 2) (by kernel_rfl) rfl false (by rfl) (fun K hK => ?_)
      go_simp
      refine (HOf.out _).mono ?_
      rintro e w6 ⟨rfl, B6⟩
      have HD6 := Lib.hid (HD0.out.on B6)
      clear HD0 B6
      dsimp only
      refine hK.out _ _ (fun _ => HD6.out) ?_
      clear hK K
      refine wpAnyD_one (i := 3) (by kernel_rfl) rfl false (by rfl) (fun K hK => ?_)
      go_simp
      refine (HSet.out _ HD6.out.rows).mono ?_
      rintro e w7 ⟨vl, rfl, ho, B7⟩
      obtain ⟨al, cl, rfl⟩ := owns_slice ho
      have hD7 := HD6.out.on B7
      have HR7 : Hid (Rows3 w7 (Jp.setA ⟨Tl, [], [], false⟩ v) ⟨al, cl, s.a1, s.c1, s.a2, s.c2⟩) := Lib.hid ⟨ho, by rw [(setA_keeps _ _).1]; exact hD7.rows.yes, by rw [(setA_keeps _ _).2.1]; exact hD7.rows.no⟩
      have n0 := cell_at (i := 0) hD7.m rfl
      have n1 := cell_at (i := 1) hD7.m rfl
      have n2 := cell_at (i := 2) hD7.m rfl
      have n3 := cell_at (i := 3) hD7.m rfl
      have nl := (Array.getElem?_eq_some_iff.1 hD7.m).1
      have f0 := frozen_at hD7.m 0
      have f1 := frozen_at hD7.m 1
      have f2 := frozen_at hD7.m 2
      have f3 := frozen_at hD7.m 3
      unfold mC at n0 n1 n2 n3
      have HD7 := Lib.hid hD7
      clear hD7 HD6 B7 ho
      dsimp only
      refine hK.out _ _ (fun _ => HD7.out) ?_
      clear hK K
      refine wpAnyD_one (i := 4) (by kernel_rfl) rfl true (by rfl) (fun K hK => ?_)
      go_simp
      refine hK.out _ _ (fun h => by cases h) ?_
      clear hK K
      refine wpAnyD_done (by kernel_rfl) ?_ _
      have hrel := HD7.out.turn HR7.out HmX.out hmb
      rw [(setA_keeps ⟨Tl, [], [], false⟩ v).1, (setA_keeps ⟨Tl, [], [], false⟩ v).2.1, (setA_keeps ⟨Tl, [], [], false⟩ v).2.2] at hrel
      have HRel := Lib.hid hrel
      clear hrel HD7 HR7 n0 n1 n2 n3 nl f0 f1 f2 f3
      go_wp2_with fail
      refine ⟨⟨i + 1, ⟨al, cl, s.a1, s.c1, s.a2, s.c2⟩, X3, by go_num, hlt, ?_⟩, by simp [intOf]; omega⟩
      rw [hst]
      exact ⟨HRel.out.1, HRel.out.2.1, HRel.out.2.2.1, HRel.out.2.2.2, HX3.out⟩
    · obtain rfl : i = L.length := by omega
      have hki : ¬ (L.length : Int) < L.length := by omega
      rw [List.take_length] at hT hm hRw
      obtain ⟨k1, k2, k3⟩ := setsA_keeps L
      obtain ⟨X0, hT0, hK0, hX0⟩ := hT.shrink
      have hmm : ∀ W : World, (Instr.makeMap 33 none).run Tryz.prog W = .ok (.map (some W.heap.size)) (W.alloc (.map #[] 0)) := fun W => run_makeMap _ _
      have Ba := (Below.refl wr.heap.size wr).alloc (Nat.le_refl _) (.map #[] 0)
      have HT0 := Lib.hid (hT0.below Ba)
      have HBx := Lib.hid (hbx.on Ba)
      have HMp := Lib.hid (heap_last wr (.map #[] 0))
      have hms : (wr.alloc (.map #[] 0)).heap.size = wr.heap.size + 1 := World.size_alloc _ _
      have HlX : Hid (∀ x ∈ X0, (w.heap.size ≤ x ∧ x ≠ wr.heap.size) ∧ x ∉ [w.heap.size + 1, w.heap.size + 1 + 1]) := Lib.hid (fun x hx => ⟨⟨hX x (hX0 x hx), fun e => by have := hK0.lt x hx; omega⟩, fun h => by
        rcases List.mem_cons.1 h with rfl | h
        · exact hK0.box hbx.e kET hx
        · obtain rfl := List.mem_singleton.1 h
          exact hK0.box hbx.r kRT hx⟩)
      have hwr : w.heap.size + 1 + 1 < wr.heap.size := (Array.getElem?_eq_some_iff.1 hbx.r).1
      have HwS := Lib.hid hbx.below.size
      have hma := (Ba.block _ (Array.getElem?_eq_some_iff.1 hm).1).trans hm
      have HMa := Lib.hid hma
      have n0 := cell_at (i := 0) hma rfl
      have n1 := cell_at (i := 1) hma rfl
      have n2 := cell_at (i := 2) hma rfl
      have n3 := cell_at (i := 3) hma rfl
      have nl := (Array.getElem?_eq_some_iff.1 hma).1
      have g0 := cell_at (i := 0) HBx.out.g rfl
      have g1 := cell_at (i := 1) HBx.out.g rfl
      have g2 := cell_at (i := 2) HBx.out.g rfl
      have gl := (Array.getElem?_eq_some_iff.1 HBx.out.g).1
      unfold mC at n0 n1 n2 n3
      rw [k1] at n1
      rw [k2] at n2
      rw [k3] at n3
      clear hT hm hRw hbx hT0 hK0 hX hX0 hma Ba
      go_wp2_with fail
      refine wp_loop_rounds 1 ?_
      rw [rounds_succ]
      go_wp2_with fail
      generalize wr.alloc (.map #[] 0) = wm at *
      have Bb := (Below.refl wm.heap.size wm).alloc (Nat.le_refl _) (.cells #[.slice s.a0 (setsA L).l.length s.c0, .slice s.a1 0 s.c1, .slice s.a2 0 s.c2, .bool false, .slice none 0 0, .slice none 0 0] RT)
      have hlast := heap_last wm (.cells #[.slice s.a0 (setsA L).l.length s.c0, .slice s.a1 0 s.c1, .slice s.a2 0 s.c2, .bool false, .slice none 0 0, .slice none 0 0] RT)
      clear n0 n1 n2 n3 nl g0 g1 g2 gl
      have hb := HBx.out.on Bb
      have he := hb.e
      have hR6 : (wm.alloc (.cells #[.slice s.a0 (setsA L).l.length s.c0, .slice s.a1 0 s.c1, .slice s.a2 0 s.c2, .bool false, .slice none 0 0, .slice none 0 0] RT)).heap[w.heap.size + 1 + 1]? = some (.cells #[.slice none 0 0, .slice none 0 0, .slice none 0 0, .bool false, .slice none 0 0, .slice none 0 0] RT (0, 0)) := hb.r
      have e0 := cell_at (i := 0) he rfl
      have e1 := cell_at (i := 1) he rfl
      have e2 := cell_at (i := 2) he rfl
      have fe0 := frozen_at he 0
      have fe1 := frozen_at he 1
      have fe2 := frozen_at he 2
      have r0 := cell_at (i := 0) hR6 rfl
      have r1 := cell_at (i := 1) hR6 rfl
      have r2 := cell_at (i := 2) hR6 rfl
      have r3 := cell_at (i := 3) hR6 rfl
      have r4 := cell_at (i := 4) hR6 rfl
      have r5 := cell_at (i := 5) hR6 rfl
      have fr0 := frozen_at hR6 0
      have fr1 := frozen_at hR6 1
      have fr2 := frozen_at hR6 2
      have fr3 := frozen_at hR6 3
      have fr4 := frozen_at hR6 4
      have fr5 := frozen_at hR6 5
      have el := (Array.getElem?_eq_some_iff.1 he).1
      have rl := (Array.getElem?_eq_some_iff.1 hR6).1
      have hwm : w.heap.size + 1 + 1 < wm.heap.size := (Array.getElem?_eq_some_iff.1 HBx.out.r).1
      rw [← hms]
      have HB := Lib.hid hb
      have HE := Lib.hid he
      have HR6 := Lib.hid hR6
      clear hb he hR6
      go_region
      have hend := boxes_end (.pointer (some ⟨tb, 0, none⟩)) (.map (some wr.heap.size)) (.func (.func 13) #[.agg #[.slice s.a0 (setsA L).l.length s.c0, .slice s.a1 0 s.c1, .slice s.a2 0 s.c2, .bool false, .slice none 0 0, .slice none 0 0]] #[]) (.slice s.a0 (setsA L).l.length s.c0) (.slice s.a1 0 s.c1) (.slice s.a2 0 s.c2) (.bool false) (.slice none 0 0) (.slice none 0 0) HE.out HR6.out (by omega) _ rfl
      obtain ⟨E9, R9, K9⟩ := hend
      clear e0 e1 e2 fe0 fe1 fe2 r0 r1 r2 r3 r4 r5 fr0 fr1 fr2 fr3 fr4 fr5 el rl
      have u0 := cell_at (i := 0) E9 rfl
      have u1 := cell_at (i := 1) E9 rfl
      have u2 := cell_at (i := 2) E9 rfl
      have t0 := cell_at (i := 0) R9 rfl
      have t1 := cell_at (i := 1) R9 rfl
      have t2 := cell_at (i := 2) R9 rfl
      have t3 := cell_at (i := 3) R9 rfl
      have t4 := cell_at (i := 4) R9 rfl
      have t5 := cell_at (i := 5) R9 rfl
      go_wp2_with fail
      refine bodyPost_ret (results_boxes Tryz.results6 _ _ (w.heap.size + 1) (w.heap.size + 1 + 1) ET RT _ _ (0, 0) (0, 0) _ _ rfl rfl E9 R9 undE rfl sizeE undR rfl sizeR) rfl ?_
      have hBs := K9.to_below (B := w.heap.size) HB.out.below.size (fun i hi => by
        rcases List.mem_cons.1 hi with rfl | hi
        · omega
        · rw [List.mem_singleton.1 hi]; omega)
      refine ⟨tb, wr.heap.size, _, s, X0, rfl, rfl, (HT0.out.below Bb).kept K9 (fun i hi => (HlX.out i hi).2), ?_, fun x hx => (HlX.out x hx).1, HwS.out, HB.out.below.trans hBs⟩
      have hmm1 := (Bb.block wr.heap.size (by omega)).trans HMp.out
      exact (K9.block _ (Array.getElem?_eq_some_iff.1 hmm1).1 (fun h => by
        rcases List.mem_cons.1 h with e | h
        · omega
        · have := List.mem_singleton.1 h; omega)).trans hmm1
end Go.Proofs.YtebagfadcjgllaaGreatDoor.Xw
