/-
  (*Store).All: the files, by rising paths.
-/
import Derived.Shelf.SlSortCmp.NoneTotal
import Derived.Sort.OwnSorted
import Derived.Test.YtmmilnmlmgcobaaGreatDoorShelf
import Derived.Test.YtmmilnmlmgcobaaGreatDoorSIter
import Derived.Test.YtmmilnmlmgcobaaGreatDoorSGet
namespace Go.Proofs.YtmmilnmlmgcobaaGreatDoor.Sw
open Go.RowKit Go.Proofs.YtmmilnmlmgcobaaGreatDoor Go.Maps Go.Shelf Go.Sort
set_option maxRecDepth 100000

instance : Inhabited F := ⟨noF⟩

theorem cmp_lt : ∀ (a b : List UInt8), decide (Lib.compareBytes a b < 0) = decide (a < b)
  | [], [] => by simp [Lib.compareBytes]
  | [], _ :: _ => by simp [Lib.compareBytes]
  | _ :: _, [] => by simp [Lib.compareBytes]
  | a :: r, b :: s => by
    have ih := cmp_lt r s
    unfold Lib.compareBytes
    simp only [List.cons_lt_cons_iff]
    by_cases h1 : a < b
    · simp [h1]
    · by_cases h2 : b < a
      · have : a ≠ b := fun e => by subst e; exact absurd h2 h1
        simp [h1, h2, this]
      · have : a = b := UInt8.le_antisymm (UInt8.not_lt.1 h2) (UInt8.not_lt.1 h1)
        subst this
        simp only [h1, if_false, false_or, true_and]
        exact ih

def cmpF (x y : F) : Int := Lib.compareBytes x.p y.p
theorem ltF (x y : F) : ltOf cmpF x y = decide (x.p < y.p) := cmp_lt x.p y.p
theorem swoF : SWO (ltOf cmpF) where
  irrefl x := by rw [ltF]; simp [Sp.lt_irr x.p]
  trans x y z h1 h2 := by rw [ltF] at *; simp only [decide_eq_true_eq] at *; exact Sp.lt_tr h1 h2
  ntrans x y z h1 h2 := by
    rw [ltF] at *
    simp only [decide_eq_false_iff_not] at *
    exact List.not_lt.2 (List.le_trans (List.not_lt.1 h2) (List.not_lt.1 h1))

set_option maxHeartbeats 1000000 in
theorem closure_any (x y : F) (W : World) : Calls Tryz.prog 71 #[.agg #[.string (str x.p), .string (str x.t), .int .i64 x.c, .bool x.d], .agg #[.string (str y.p), .string (str y.t), .int .i64 y.c, .bool y.d]] W fun e w' => e = .returned (.int .i64 (cmpF x y)) ∧ ∃ q os', w' = grow (W.drewN q) os' := by
  obtain ⟨r, hr⟩ : ∃ r, Hid (cmpF x y = r) := ⟨_, Lib.hid rfl⟩
  have hcon : ∀ W', Calls Tryz.prog 72 #[.string (str x.p), .string (str y.p)] W' fun e w' => e = .returned (.int .i64 r) ∧ w' = W' := fun W' => by
    have := Tryz.strings_Compare (str x.p) (str y.p) W'
    rwa [show Lib.compareBytes (str x.p).data.toList (str y.p).data.toList = r from hr.out] at this
  rw [hr.out]
  go_enter Tryz.func71, Tryz.ntmps71
  go_wp2_with (go_at_call 72; go_must (refine (hcon _).mono ?_); rintro e w' ⟨rfl, rfl⟩)
  go_ret
  exact ⟨rfl, 0, _, by rw [alloc_eq_grow, alloc_eq_grow, grow_grow]; rfl⟩

/-- A slice that reads as these files. -/
def Files (w : World) (v : Value) (L : List F) : Prop :=
  (L = [] ∧ ∃ a c, v = .slice a 0 c) ∨ ∃ b o c, v = .slice (some ⟨b, o, none⟩) L.length c ∧ b < w.heap.size ∧ ∀ j, (h : j < L.length) →
    w.cell? ⟨b, o + j * 4, none⟩ = some (.string (str L[j].p)) ∧ w.cell? ⟨b, o + j * 4 + 1, none⟩ = some (.string (str L[j].t)) ∧ w.cell? ⟨b, o + j * 4 + 2, none⟩ = some (.int .i64 L[j].c) ∧ w.cell? ⟨b, o + j * 4 + 3, none⟩ = some (.bool L[j].d)

theorem Files.kept {X : List Nat} {w w' : World} {v : Value} {L : List F} (h : Files w v L) (hk : Kept X w w') (hx : ∀ b, v.ownBlock = some b → b ∉ X) : Files w' v L := by
  rcases h with h | ⟨b, o, c, rfl, hb, hc⟩
  · exact .inl h
  · refine .inr ⟨b, o, c, rfl, Nat.lt_of_lt_of_le hb hk.size, fun j hj => ?_⟩
    have hn : b ∉ X := hx b rfl
    obtain ⟨c0, c1, c2, c3⟩ := hc j hj
    have e := fun i => hk.cell (p := ⟨b, i, none⟩) hb hn
    exact ⟨(e _).trans c0, (e _).trans c1, (e _).trans c2, (e _).trans c3⟩
theorem Files.below {w w' : World} {v : Value} {L : List F} (h : Files w v L) (hB : Below w.heap.size w w') : Files w' v L := h.kept (X := []) (.of_below hB) (fun _ _ => by simp)

theorem fCs_get : ∀ (L : List F) (j c : Nat) (h : j < L.length), c < 4 → (fCs L)[j * 4 + c]? = (fC L[j])[c]?
  | f :: r, 0, c, _, hc => by
    show (fC f ++ fCs r)[0 * 4 + c]? = _
    rw [List.getElem?_append_left (by simp [fC]; omega)]; simp
  | f :: r, j + 1, c, h, hc => by
    show (fC f ++ fCs r)[(j + 1) * 4 + c]? = _
    rw [List.getElem?_append_right (by simp [fC]; omega), show (j + 1) * 4 + c - (fC f).length = j * 4 + c by simp [fC]; omega, fCs_get r j c (by simpa using h) hc]
    rfl

theorem files_own {w : World} {base : Nat} {v : Value} {L : List F} (h : w.ownsRow base 26 4 v L.length (fCs L)) : Files w v L := by
  rcases L with _ | ⟨f, r⟩
  · rcases h.2 with ⟨rfl, _⟩ | ⟨g, cap, cur, rfl, _⟩
    · exact .inl ⟨rfl, _, _, rfl⟩
    · exact .inl ⟨rfl, _, _, rfl⟩
  · obtain ⟨g, cap, rfl, _, _⟩ := owns_some h (by simp)
    have hlt := (h.lt g rfl).2
    refine .inr ⟨g, 0, cap, rfl, hlt, fun j hj => ?_⟩
    have e := fun c (hc : c < 4) u (hu : (fC (f :: r)[j])[c]? = some u) => h.cells (g := g) rfl (j * 4 + c) u (by rw [fCs_get _ j c hj hc]; exact hu)
    simp only [Addr.add_lit, Nat.zero_add] at e
    rw [Nat.zero_add]
    exact ⟨e 0 (by omega) _ rfl, e 1 (by omega) _ rfl, e 2 (by omega) _ rfl, e 3 (by omega) _ rfl⟩

theorem holdsK_own {w : World} {base : Nat} {v : Value} {L : List F} (h : w.ownsRow base 26 4 v L.length (fCs L)) (hn : 0 < L.length) :
    ∃ g cap, v = .slice (some ⟨g, 0, none⟩) L.length cap ∧ base ≤ g ∧ g < w.heap.size ∧ HoldsK fC 4 w g 0 L.toArray := by
  rcases h.2 with ⟨_, h0⟩ | ⟨g, cap, cur, rfl, hb, hgb, _⟩
  · omega
  · refine ⟨g, cap, rfl, hb, (Array.getElem?_eq_some_iff.1 hgb).1, fun t ht => ?_⟩
    rw [size_flatK] at ht
    simp only [List.size_toArray] at ht
    have hj : t / 4 < L.length := by omega
    refine ⟨?_, by simp [World.frozen?, hgb]⟩
    have e1 := fCs_get L (t / 4) (t % 4) hj (by omega)
    have e2 : ∃ u, (fC L[t / 4])[t % 4]? = some u := ⟨_, List.getElem?_eq_getElem (by simp [fC]; omega)⟩
    obtain ⟨u, hu⟩ := e2
    have e3 := h.cells (g := g) rfl (t / 4 * 4 + t % 4) u (by rw [e1]; exact hu)
    rw [Addr.add_lit, Nat.zero_add, show t / 4 * 4 + t % 4 = t by omega] at e3
    rw [get_flatK _ _ _ _ (by simpa using ht), Nat.zero_add, e3]
    simp only [id]
    congr 1
    rw [show L.toArray[t / 4]! = L[t / 4] by simp [hj]]
    simp [List.getElem!_eq_getElem?_getD, hu]

theorem files_holdsK {w : World} {g : Nat} {d : Array F} {cap n : Nat} (h : HoldsK fC 4 w g 0 d) (hg : g < w.heap.size) (hd : d.size = n) : Files w (.slice (some ⟨g, 0, none⟩) n cap) d.toList := by
  refine .inr ⟨g, 0, cap, by rw [Array.length_toList, hd], hg, fun j hj => ?_⟩
  have hj' : j < d.size := by simpa using hj
  have e := fun c (hc : c < 4) => (HoldsK.cell h hj' hc).1
  have hx : d[j]! = d.toList[j] := by rw [getElem!_pos d j hj']; rfl
  rw [hx] at e
  exact ⟨e 0 (by omega), e 1 (by omega), e 2 (by omega), e 3 (by omega)⟩

theorem grown_sortedK {w : World} {g n : Nat} {os : Array Obj} (d : Array F) : w.grownBy (sortWorldK fC 4 w g 0 n d os) (some g) := by
  refine ⟨rfl, rfl, rfl, by simp [sortWorldK, putRowK], fun k hk hne => ?_⟩
  unfold sortWorldK putRowK
  rw [heap_grow_old _ _ (by simpa using hk)]
  have : g ≠ k := fun e => hne (by rw [e])
  simp [putRow, mapBlock, Sort.ahead, Array.getElem?_modify, this]

/-- A rising row of what L holds is L. -/
theorem sorted_is {L xs : List F} {d : Array F} (hs : Sp.Sorted L) (hx : xs.Perm L) (hp : PermIn 0 xs.length xs.toArray d) (ho : SortedIn (ltOf cmpF) 0 xs.length d) : d.toList = L := by
  obtain ⟨h1, _, h3⟩ := hp
  have hd : d.size = xs.length := by simpa using h1
  have h4 : d.toList.Perm L := by
    have : (d.extract 0 xs.length).toList = d.toList := by rw [← hd]; simp
    rw [this] at h3
    exact (h3.trans (by simp)).trans hx
  refine Sp.sorted_ext ?_ hs fun g => h4.mem_iff
  have hnd : d.toList.Pairwise fun a b => a.p ≠ b.p := (h4.pairwise_iff (fun {a b} (h : a.p ≠ b.p) => h.symm)).2 (hs.imp fun {a b} h => Sp.lt_ne h)
  refine List.pairwise_iff_getElem.2 fun i j hi hj hij => ?_
  have hi' : i < d.size := by simpa using hi
  have hj' : j < d.size := by simpa using hj
  have a := ho i j (by omega) hij (by omega)
  rw [ltF, getElem!_pos d i hi', getElem!_pos d j hj', decide_eq_false_iff_not] at a
  exact Sp.lt_or a fun e => List.pairwise_iff_getElem.1 hnd i j hi hj hij e.symm

def FilesPost (w : World) (L : List F) (e : Ending) (w' : World) : Prop := ∃ v, e = .returned v ∧ Files w' v L ∧ (∃ a c, v = .slice a L.length c) ∧ Below w.heap.size w w'

set_option maxHeartbeats 1000000 in
theorem Collect_any {L : List F} {bm : Nat} (n : Nat) (hn : 5 ≤ n) (B : Nat) (w : World) (hB : B < w.heap.size) (hm : w.cell? ⟨B, 0, none⟩ = some (.map (some bm))) (hM : MapAt w bm L) (hL : L.length ≤ 1000000) :
    CallsIn Fence.wide n Tryz.prog 84 #[.func (.func 86) #[] #[.pointer (some ⟨B, 0, none⟩)]] w fun e w' =>
      ∃ (v : Value) (xs : List F), e = .returned v ∧ xs.Perm L ∧ w'.ownsRow w.heap.size 26 4 v xs.length (fCs xs) ∧ Below w.heap.size w w' := by
  refine callsIn_of_wp Tryz.func84 rfl trivial ?_ rfl
  simp only [Tryz.ntmps84, List.size_toArray, List.length_cons, List.length_nil, Nat.reduceAdd, Nat.reduceSub, Array.replicate_succ, Array.replicate_zero, List.push_toArray, List.append_toArray, List.nil_append, List.cons_append]
  gi_wp2_with (refine ⟨trivial, fun _ => by omega, ?_⟩; gi_at_call 95; refine (AppendSeq_any (n - 1) (by omega) B _ hB hm hM hL).mono ?_; rintro e w' ⟨v, xs, rfl, h1, h2, h3⟩)
  go_ret
  exact ⟨v, xs, rfl, h1, h2, h3⟩

set_option maxHeartbeats 1000000 in
theorem SortedFunc_any {L : List F} {bm : Nat} (n : Nat) (hn : 6 ≤ n) (B : Nat) (w : World) (hB : B < w.heap.size) (hm : w.cell? ⟨B, 0, none⟩ = some (.map (some bm))) (hM : MapAt w bm L) (hL : L.length ≤ 1000000) :
    CallsIn Fence.wide n Tryz.prog 69 #[.func (.func 86) #[] #[.pointer (some ⟨B, 0, none⟩)], .func (.func 71) #[] #[]] w (FilesPost w L) := by
  have hs := hM.sorted
  refine callsIn_of_wp Tryz.func69 rfl trivial ?_ rfl
  simp only [Tryz.ntmps69, List.size_toArray, List.length_cons, List.length_nil, Nat.reduceAdd, Nat.reduceSub, Array.replicate_succ, Array.replicate_zero, List.push_toArray, List.append_toArray, List.nil_append, List.cons_append]
  gi_wp2_with (refine ⟨trivial, fun _ => by omega, ?_⟩; gi_at_call 84; refine (Collect_any (n - 1) (by omega) B _ hB hm hM hL).mono ?_; rintro e w1 ⟨v, xs, rfl, h1, h2, h3⟩)
  rcases Nat.eq_zero_or_pos xs.length with h0 | h0
  · obtain rfl : xs = [] := List.eq_nil_of_length_eq_zero h0
    obtain rfl : L = [] := h1.symm.eq_nil
    obtain ⟨a, c, rfl⟩ : ∃ a c, v = .slice a 0 c := by
      rcases h2.2 with ⟨rfl, _⟩ | ⟨g, cap, cur, rfl, _⟩
      · exact ⟨_, _, rfl⟩
      · exact ⟨_, _, rfl⟩
    have hcon := fun fv W => AnyF.slices_SortFunc_none Tryz.laysSortF a c fv W
    change ∀ fv W, Calls Tryz.prog 85 _ _ _ at hcon
    gi_wp2_with (refine ⟨trivial, fun _ => by omega, ?_⟩; gi_at_call 85; refine (callsIn_wide.2 (hcon _ _)).mono ?_; rintro e w2 ⟨rfl, rfl⟩)
    go_ret
    exact ⟨_, rfl, .inl ⟨rfl, _, _, rfl⟩, ⟨_, _, rfl⟩, h3⟩
  · obtain ⟨g, cap, rfl, hb, hg, hH⟩ := holdsK_own h2 h0
    have eg : ∀ args w, (callFunc 71 args).run Tryz.prog w = .ok (.enter 71 args) w := enters_of Tryz.func71 (by kernel_rfl) rfl
    have hxl := h1.length_eq
    have hcon := AnyQ.slices_SortFunc Tryz.laysSortF 4 Tryz.isAgg26 Tryz.sizeOf26 fC (fun _ => rfl) (fun x v hv => by simp [fC] at hv; rcases hv with rfl | rfl | rfl | rfl <;> rfl) cmpF swoF 71 #[] g 0 cap xs.toArray w1 eg
      (fun m os dk _ x y => closure_any x y _) hH hg (by simp; omega)
    change Calls Tryz.prog 85 _ _ _ at hcon
    simp only [List.size_toArray] at hcon
    have HC := Lib.hid hcon
    have HH := Lib.hid hH
    clear hcon hH hxl
    gi_wp2_with (refine ⟨trivial, fun _ => by omega, ?_⟩; gi_at_call 85; refine (callsIn_wide.2 HC.out).mono ?_; rintro e w2 ⟨rfl, d, nn, os, hp, ho, rfl⟩)
    go_ret
    have hd : d.size = xs.length := by simpa using hp.1
    have hxl := h1.length_eq
    have hB2 := grown_sortedK (w := w1) (g := g) (n := nn) (os := os) d
    have hL2 := sorted_is hs h1 hp ho
    refine ⟨.slice (some ⟨g, 0, none⟩) xs.length cap, rfl, ?_, ⟨some ⟨g, 0, none⟩, cap, by rw [← hxl]⟩, h3.grown hB2 h3.size (fun j e => by cases e; exact hb)⟩
    have := files_holdsK (cap := cap) (n := xs.length) (holdsK_sortWorldK fC 4 w1 g 0 nn xs.toArray d os hg HH.out (by simpa using hd)) (lt_sortWorldK fC 4 w1 g 0 nn d os hg) hd
    rw [hL2] at this
    exact this

set_option maxHeartbeats 1000000 in
theorem All_any (w : World) {sb bm : Nat} {L : List F} {c : Int} (hS : StoreAt w sb bm L c) (hL : L.length ≤ 1000000) :
    Calls Tryz.prog 36 #[.pointer (some ⟨sb, 0, none⟩)] w (FilesPost w L) := by
  have c1 := hS.c1
  have hlt := hS.lt
  have hM := (hS.map).alloc (.cells #[.map (some bm)] 50)
  have hm := (Boxed.new w 50 (.map (some bm))).cell
  clear hS
  refine (callsIn_wide (n := 9)).1 ?_
  refine callsIn_of_wp Tryz.func36 rfl trivial ?_ rfl
  simp only [Tryz.ntmps36, List.size_toArray, List.length_cons, List.length_nil, Nat.reduceAdd, Nat.reduceSub, Array.replicate_succ, Array.replicate_zero, List.push_toArray, List.append_toArray, List.nil_append, List.cons_append]
  gi_wp2_with (first
    | (refine ⟨trivial, ?_⟩; gi_at_call 70; refine (Values_any _ _ bm).mono ?_; rintro e w1 ⟨rfl, rfl⟩)
    | (refine ⟨trivial, ?_⟩; gi_at_call 69; refine (SortedFunc_any _ (by omega) w.heap.size _ (by simp) hm hM hL).mono ?_; rintro e w2 ⟨v, rfl, h1, h2, h3⟩))
  go_ret
  exact ⟨v, rfl, h1, h2, ((Below.refl _ w).alloc (Nat.le_refl _) _).trans (h3.mono (by simp))⟩

theorem All_nil (w : World) : Calls Tryz.prog 36 #[.pointer none] w fun e w' => e = .returned (.slice none 0 0) ∧ w = w' := by
  go_enter Tryz.func36, Tryz.ntmps36
  go_wp2
  go_ret
  exact ⟨rfl, rfl⟩
end Go.Proofs.YtmmilnmlmgcobaaGreatDoor.Sw
