/-
  The statement StoreActsCardSaid: for all files, acts and a path that can be read, flatironlaw03.StoreActs returns true and leaves what it was handed as it was. Conditions: the two listed tables of unicode/utf8 read as the program's own text lays them (the card ties them to that text; the tie is given).
-/
import Derived.Test.YtmmilnmlmgcobaaGreatDoorCards
import Derived.Test.YtmmilnmlmgcobaaGreatDoorTie
import Derived.ProofKit
import Derived.OpenShut
import Derived.SizedLaws
import Derived.ChangeMaps5
import Derived.Deep.DeepHandedRow
import Derived.Deep.Slices
import Derived.Lib.LaidTab
import Derived.Test.YtmmilnmlmgcobaaGreatDoorSLaw
namespace Go.Proofs.YtmmilnmlmgcobaaGreatDoor.sacts
open Go.ChangeShapes Go.WideShapes Go.ChangeAt Go.RowKit
open Go.ChangeMaps (open_string shut_string)

theorem own : ownKnob Tryz.prog.godebug = none := by kernel_rfl
theorem laidOut : laidOutB Tryz.prog = true := by kernel_rfl

/-- A world for the witness: the settled one, the two tables holding what their initialisers lay. -/
noncomputable def laidWorld (os : Os) : World :=
  let w0 := World.holding Tryz.prog os ⟨#[], #[], []⟩
  let put (h : Array Obj) (g : Nat) (cs : Array Value) : Array Obj := h.modify g fun
    | .cells _ t frozen => .cells cs t frozen
    | o => o
  let h1 := put w0.heap 1 (Go.Pinned.utf8FirstZ.map fun (z : Nat) => Value.int .u8 (z : Int)).toArray
  let h2 := put h1 2 (([(128, 191), (160, 191), (128, 159), (144, 191), (128, 143)] ++ List.replicate 11 ((0 : Int), (0 : Int))).flatMap fun (x : Int × Int) => [Value.int .u8 x.1, Value.int .u8 x.2]).toArray
  { w0 with heap := h2 }
theorem laid_met (os : Os) (args : Array Value) : laidMet Tryz.prog Rows.storeActsRow.laid ((laidWorld os).forCall (fun _ _ => 0) ⟨#[], args, []⟩).memory :=
  laidMet_of_run' 8 (by kernel_rfl) (by kernel_rfl)
theorem reads (os : Os) {H : Type} (enc : TypeId × Value → H) : ∃ ds places, DataW.whole enc Tryz.prog ((laidWorld os).forCall (fun _ _ => 0) ⟨#[], #[.slice none 0 0, .slice none 0 0, .string ⟨#[]⟩], []⟩).memory Tryz.f3.params.toList Rows.storeActsSpec.vars false #[Value.slice none 0 0, .slice none 0 0, .string ⟨#[]⟩].toList 8 = some (ds, [], places) :=
  ⟨[.nil, .nil, .lit (.string [])], [], by kernel_rfl⟩

theorem cellsS : Tryz.prog.cellsOf 9 = 1 := by kernel_rfl
theorem cellsI : Tryz.prog.cellsOf 2 = 1 := by kernel_rfl
theorem cellsB : Tryz.prog.cellsOf 4 = 1 := by kernel_rfl
theorem cellsU : Tryz.prog.cellsOf 5 = 1 := by kernel_rfl
theorem cellsF : Tryz.prog.cellsOf 26 = 4 := by kernel_rfl
theorem cellsA : Tryz.prog.cellsOf 28 = 4 := by kernel_rfl

/-- A file that is read. -/
theorem file_of {H : Type} {enc : TypeId × Value → H} {W : World} {base n : Nat} {spare : Nat → Bool} {held : Bool} {cs : List Value} {x : DataW H × List MemPlace} (hl : cs.length = 4) (h : DataW.trod enc Tryz.prog W base spare held n 26 cs = some x) :
    ∃ (s t : ByteArray) (c : Int) (d : Bool), cs = [.string s, .string t, .int .i64 c, .bool d] ∧ x.1 = .agg [.lit (.string s.data.toList), .lit (.string t.data.toList), .lit (.int .i64 c), .lit (.bool d)] := by
  match cs, hl with
  | [c0, c1, c2, c3], _ =>
    obtain ⟨ys, n', _, hy, _, hyl, hf⟩ := DataW.trod_struct Tryz.underlying26 h
    have h0 : DataW.trod enc Tryz.prog W base spare held n' 9 (([c0, c1, c2, c3].drop 0).take (Tryz.prog.cellsOf 9)) = ys[0]? := hf 0 _ rfl
    have h1 : DataW.trod enc Tryz.prog W base spare held n' 9 (([c0, c1, c2, c3].drop 1).take (Tryz.prog.cellsOf 9)) = ys[1]? := hf 1 _ rfl
    have h2 : DataW.trod enc Tryz.prog W base spare held n' 2 (([c0, c1, c2, c3].drop 2).take (Tryz.prog.cellsOf 2)) = ys[2]? := hf 2 _ rfl
    have h3 : DataW.trod enc Tryz.prog W base spare held n' 4 (([c0, c1, c2, c3].drop 3).take (Tryz.prog.cellsOf 4)) = ys[3]? := hf 3 _ rfl
    rw [cellsS] at h0
    rw [cellsS] at h1
    rw [cellsI] at h2
    rw [cellsB] at h3
    match ys, hyl with
    | [y0, y1, y2, y3], _ =>
      obtain ⟨s, e0, f0, _⟩ := DataW.trod_string Tryz.underlying9 h0
      obtain ⟨t, e1, f1, _⟩ := DataW.trod_string Tryz.underlying9 h1
      obtain ⟨c, e2, f2, _⟩ := DataW.trod_int Tryz.underlying2 h2
      obtain ⟨d, e3, f3⟩ := DataW.trod_bool Tryz.underlying4 h3
      simp at e0 e1 e2 e3 f0 f1 f2 f3
      subst e0 e1 e2 e3
      exact ⟨s, t, c, d, rfl, by rw [hy, f0, f1, f2, f3]; rfl⟩
/-- An act that is read. -/
theorem act_of {H : Type} {enc : TypeId × Value → H} {W : World} {base n : Nat} {spare : Nat → Bool} {held : Bool} {cs : List Value} {x : DataW H × List MemPlace} (hl : cs.length = 4) (h : DataW.trod enc Tryz.prog W base spare held n 28 cs = some x) :
    ∃ (k : Nat) (s t : ByteArray) (d : Bool), cs = [.int .u8 k, .string s, .string t, .bool d] ∧ x.1 = .agg [.lit (.int .u8 k), .lit (.string s.data.toList), .lit (.string t.data.toList), .lit (.bool d)] := by
  match cs, hl with
  | [c0, c1, c2, c3], _ =>
    obtain ⟨ys, n', _, hy, _, hyl, hf⟩ := DataW.trod_struct Tryz.underlying28 h
    have h0 : DataW.trod enc Tryz.prog W base spare held n' 5 (([c0, c1, c2, c3].drop 0).take (Tryz.prog.cellsOf 5)) = ys[0]? := hf 0 _ rfl
    have h1 : DataW.trod enc Tryz.prog W base spare held n' 9 (([c0, c1, c2, c3].drop 1).take (Tryz.prog.cellsOf 9)) = ys[1]? := hf 1 _ rfl
    have h2 : DataW.trod enc Tryz.prog W base spare held n' 9 (([c0, c1, c2, c3].drop 2).take (Tryz.prog.cellsOf 9)) = ys[2]? := hf 2 _ rfl
    have h3 : DataW.trod enc Tryz.prog W base spare held n' 4 (([c0, c1, c2, c3].drop 3).take (Tryz.prog.cellsOf 4)) = ys[3]? := hf 3 _ rfl
    rw [cellsU] at h0
    rw [cellsS] at h1
    rw [cellsS] at h2
    rw [cellsB] at h3
    match ys, hyl with
    | [y0, y1, y2, y3], _ =>
      obtain ⟨k, e0, f0, hk⟩ := DataW.trod_int Tryz.underlying5 h0
      obtain ⟨s, e1, f1, _⟩ := DataW.trod_string Tryz.underlying9 h1
      obtain ⟨t, e2, f2, _⟩ := DataW.trod_string Tryz.underlying9 h2
      obtain ⟨d, e3, f3⟩ := DataW.trod_bool Tryz.underlying4 h3
      simp at e0 e1 e2 e3 f0 f1 f2 f3
      subst e0 e1 e2 e3
      have hk2 : 0 ≤ k := by
        have h : (decide ((0 : Int) ≤ k) && decide (k ≤ 255)) = true := hk
        rw [Bool.and_eq_true, decide_eq_true_eq, decide_eq_true_eq] at h
        exact h.1
      obtain ⟨m, rfl⟩ : ∃ m : Nat, k = (m : Int) := ⟨k.toNat, by omega⟩
      exact ⟨m, s, t, d, rfl, by rw [hy, f0, f1, f2, f3]; rfl⟩

theorem list_of {α : Type} {Q : Nat → α → Prop} : ∀ (n : Nat), (∀ i, i < n → ∃ x, Q i x) → ∃ l : List α, l.length = n ∧ ∀ j (h : j < l.length), Q j l[j]
  | 0, _ => ⟨[], rfl, fun j h => by cases h⟩
  | n + 1, h => by
    obtain ⟨l, hl, hq⟩ := list_of n fun i hi => h i (by omega)
    obtain ⟨x, hx⟩ := h n (by omega)
    refine ⟨l ++ [x], by simp [hl], fun j hj => ?_⟩
    rcases Nat.lt_or_ge j l.length with h1 | h1
    · rw [List.getElem_append_left h1]; exact hq j h1
    · have e : j = n := by rw [List.length_append, List.length_singleton] at hj; omega
      subst e
      rw [List.getElem_append_right h1]
      simpa [hl] using hx
theorem mem_all {H : Type} {e : TypeId} {d : DataW H} {n : Nat} (h : n ∈ DataW.weights Tryz.prog e d) : ∀ {l : List (DataW H)}, d ∈ l → n ∈ DataW.weightsAll Tryz.prog e l
  | x :: r, hd => by
    show n ∈ DataW.weights Tryz.prog e x ++ DataW.weightsAll Tryz.prog e r
    rcases List.mem_cons.1 hd with rfl | hd
    · exact List.mem_append_left _ h
    · exact List.mem_append_right _ (mem_all h hd)
theorem mem_slice {H : Type} {t e : TypeId} (ht : Tryz.prog.underlying t = some (.slice e)) {elems rest : List (DataW H)} {d : DataW H} {n : Nat} (hd : d ∈ elems) (h : n ∈ DataW.weights Tryz.prog e d) : n ∈ DataW.weights Tryz.prog t (.slice elems rest) := by
  simp only [DataW.weights, ht]
  exact List.mem_cons_of_mem _ (List.mem_append_left _ (mem_all h hd))
theorem le_reach {n : Nat} {l : List Nat} (h : l.all (· ≤ reachBytes) = true) (hn : n ∈ l) : n ≤ 140737488355328 := by
  have h2 := of_decide_eq_true (List.all_eq_true.1 h n hn)
  have e : reachBytes = 140737488351232 := rfl
  omega

set_option maxRecDepth 100000 in
theorem contract (H : Type) (enc : TypeId × Value → H) (W : World) (base : Nat) (args : Array Value) (ds gs : List (DataW H)) (before : List MemPlace)
    (hval : ∀ (j : Nat) t v, Tryz.f3.params[j]? = some t → args[j]? = some v → Value.okWide Tryz.prog W .any base t v)
    (hW : DataW.Whole enc Tryz.prog Tryz.f3.params.toList Rows.storeActsSpec.vars false W args.toList ds gs before)
    (hsz : (DataW.weightsEach Tryz.prog (Tryz.f3.params.toList ++ Rows.storeActsSpec.plain.varTypes Tryz.prog) (ds ++ gs)).all (· ≤ reachBytes) = true) :
    Calls Tryz.prog 3 args W fun e W' => ∃ v, e = .returned v ∧ Rows.storeActsSpec.post enc Tryz.prog Tryz.f3 false true false false W args v W' := by
  have hW' := hW
  obtain ⟨p, q, hA0, hV, rfl, hfz, hnd⟩ := hW
  have hA : DataW.TrodAll enc Tryz.prog W 0 (fun _ => true) true Tryz.f3.params.toList args.toList ds p := hA0
  rw [Tryz.params3] at hA hval hsz
  obtain ⟨v0, vs0, d0, ds0, p0, q0, hargs, rfl, rfl, h0, r0⟩ := trodAll_cons hA
  obtain ⟨v1, vs1, d1, ds1, p1, q1, rfl, rfl, rfl, h1, r1⟩ := trodAll_cons r0
  obtain ⟨v2, vs2, d2, ds2, p2, q2, rfl, rfl, rfl, h2, r2⟩ := trodAll_cons r1
  obtain ⟨rfl, rfl, rfl⟩ := trodAll_nil r2
  obtain rfl : args = #[v0, v1, v2] := by cases args; simp_all
  obtain ⟨rfl, rfl⟩ := trodVars_none hV
  obtain ⟨a0, len0, cap0, rfl⟩ := okWide_slice Tryz.underlying22 (hval 0 22 v0 rfl rfl)
  obtain ⟨a1, len1, cap1, rfl⟩ := okWide_slice Tryz.underlying23 (hval 1 23 v1 rfl rfl)
  have h2k := h2
  obtain ⟨look, rfl, rfl, rfl, wl⟩ := open_string Tryz.underlying9 (hval 2 9 v2 rfl rfl) h2
  have h0k := h0
  have h1k := h1
  obtain ⟨fuel0, hf0⟩ := h0
  obtain ⟨fuel1, hf1⟩ := h1
  clear hA0
  have hlt : ∀ x ∈ p0 ++ (p1 ++ []), x.block < W.heap.size := fun x hx => hW'.lt x (by simpa using hx)
  have fin : ∀ W', Below W.heap.size W W' → Rows.storeActsSpec.post enc Tryz.prog Tryz.f3 false true false false W #[.slice a0 len0 cap0, .slice a1 len1 cap1, .string look] (.bool true) W' := by
    intro W' hnx
    refine ⟨_, _, _, [], p0 ++ (p1 ++ []), [], hW', trodAll_mk1 (shut_bool Tryz.underlying4 _), ?_, rfl, hnx.frame _, fun h => by cases h⟩
    have t0 := Below.trod laidOut (by kernel_rfl) (of_decide_eq_true (by kernel_rfl)) h0k hnx (fun x hx => hlt x (by simp [hx]))
    have t1 := Below.trod laidOut (by kernel_rfl) (of_decide_eq_true (by kernel_rfl)) h1k hnx (fun x hx => hlt x (by simp [hx]))
    exact trodAll_mk3 t0 t1 (shut_string Tryz.underlying9 wl)
  have big0 : ∀ n, n ∈ DataW.weights Tryz.prog 22 d0 → n ≤ 140737488355328 := fun n h => le_reach hsz (by
    simp only [List.cons_append, DataW.weightsEach]; exact List.mem_append_left _ h)
  have big1 : ∀ n, n ∈ DataW.weights Tryz.prog 23 d1 → n ≤ 140737488355328 := fun n h => le_reach hsz (by
    simp only [List.cons_append, DataW.weightsEach]; exact List.mem_append_right _ (List.mem_append_left _ h))
  have big2 : look.size ≤ 140737488355328 := by
    have := le_reach (n := look.data.toList.length) hsz (by
      simp only [List.cons_append, DataW.weightsEach, DataW.weights]
      exact List.mem_append_right _ (List.mem_append_right _ (List.mem_append_left _ (List.mem_singleton.2 rfl))))
    rw [← Lib.size_eq] at this; omega
  have ex0 : ∃ l : List Sw.F, l.length = len0 ∧ Sw.Files W (.slice a0 len0 cap0) l ∧ (∀ f ∈ l, f.p.length ≤ 140737488355328 ∧ f.t.length ≤ 140737488355328) ∧ len0 ≤ 9223372036854775807 := by
    rcases Go.Deep.open_slice Tryz.underlying22 hf0 with ⟨hcs, hx⟩ | ⟨a, len, cap, m, n, D, Pl, hcs, _, hl, hm, hmm, hx, hi⟩
    · simp [Value.cells] at hcs
      obtain ⟨rfl, rfl, rfl⟩ := hcs
      exact ⟨[], rfl, .inl ⟨rfl, _, _, rfl⟩, (fun f hf => by cases hf), by omega⟩
    · simp [Value.cells] at hcs
      obtain ⟨rfl, rfl, rfl⟩ := hcs
      simp only [if_true] at hmm
      subst hmm
      have each : ∀ i, i < len0 → ∃ f : Sw.F, D i = .agg [.lit (.string f.p), .lit (.string f.t), .lit (.int .i64 f.c), .lit (.bool f.d)] ∧
          W.cell? (a.add (i * 4)) = some (.string (str f.p)) ∧ W.cell? (a.add (i * 4 + 1)) = some (.string (str f.t)) ∧ W.cell? (a.add (i * 4 + 2)) = some (.int .i64 f.c) ∧ W.cell? (a.add (i * 4 + 3)) = some (.bool f.d) := fun i hil => by
        obtain ⟨cs', hc, ht'⟩ := hi i (by omega)
        rw [cellsF] at hc
        obtain ⟨_, hcl, hat⟩ := World.cells?_some hc
        obtain ⟨s, t, c, d, rfl, hx1⟩ := file_of hcl ht'
        refine ⟨⟨bs s, bs t, c, d⟩, hx1, ?_, ?_, ?_, ?_⟩
        · have := hat 0 (by omega)
          rw [Go.Deep.add_add] at this
          rw [str_bs]; exact this
        · have := hat 1 (by omega)
          rw [Go.Deep.add_add] at this
          rw [str_bs]; exact this
        · have := hat 2 (by omega)
          rw [Go.Deep.add_add] at this
          exact this
        · have := hat 3 (by omega)
          rw [Go.Deep.add_add] at this
          exact this
      obtain ⟨l, hll, hq⟩ := list_of len0 each
      simp only [Prod.mk.injEq] at hx
      obtain ⟨rfl, _⟩ := hx
      refine ⟨l, hll, ?_, fun f hf => ?_, by unfold maxLen at hm; omega⟩
      · rcases Nat.eq_zero_or_pos len0 with h0 | h0
        · exact .inl ⟨List.length_eq_zero_iff.1 (by omega), _, _, by rw [h0]⟩
        · obtain ⟨b, off, spot⟩ := a
          have hspot : spot = none := by simpa [Addr.add] using World.cell?_spot (hq 0 (by omega)).2.1
          subst hspot
          have hbW : b < W.heap.size := by
            have := World.block_lt_of_cell? _ _ (hq 0 (by omega)).2.1
            simpa [add_plain] using this
          refine .inr ⟨b, off, _, by rw [hll], hbW, fun j hj => ?_⟩
          obtain ⟨_, e0, e1, e2, e3⟩ := hq j hj
          simp only [add_plain, ← Nat.add_assoc] at e0 e1 e2 e3
          exact ⟨e0, e1, e2, e3⟩
      · obtain ⟨j, hj, rfl⟩ := List.getElem_of_mem hf
        have hd := (hq j hj).1
        have hmem : D j ∈ (List.range len0).map D := List.mem_map.2 ⟨j, List.mem_range.2 (by omega), rfl⟩
        exact ⟨big0 _ (mem_slice Tryz.underlying22 hmem (by rw [hd]; simp [DataW.weights, DataW.weightsEach, Tryz.underlying26])), big0 _ (mem_slice Tryz.underlying22 hmem (by rw [hd]; simp [DataW.weights, DataW.weightsEach, Tryz.underlying26]))⟩
  have ex1 : ∃ l : List Sw.Ac, l.length = len1 ∧ Sw.Acts W (.slice a1 len1 cap1) l ∧ (∀ f ∈ l, f.P.size ≤ 140737488355328 ∧ f.Q.size ≤ 140737488355328) ∧ len1 ≤ 9223372036854775807 := by
    rcases Go.Deep.open_slice Tryz.underlying23 hf1 with ⟨hcs, hx⟩ | ⟨a, len, cap, m, n, D, Pl, hcs, _, hl, hm, hmm, hx, hi⟩
    · simp [Value.cells] at hcs
      obtain ⟨rfl, rfl, rfl⟩ := hcs
      exact ⟨[], rfl, .inl ⟨rfl, _, _, rfl⟩, (fun f hf => by cases hf), by omega⟩
    · simp [Value.cells] at hcs
      obtain ⟨rfl, rfl, rfl⟩ := hcs
      simp only [if_true] at hmm
      subst hmm
      have each : ∀ i, i < len1 → ∃ f : Sw.Ac, D i = .agg [.lit (.int .u8 f.k), .lit (.string f.P.data.toList), .lit (.string f.Q.data.toList), .lit (.bool f.all)] ∧
          W.cell? (a.add (i * 4)) = some (.int .u8 f.k) ∧ W.cell? (a.add (i * 4 + 1)) = some (.string f.P) ∧ W.cell? (a.add (i * 4 + 2)) = some (.string f.Q) ∧ W.cell? (a.add (i * 4 + 3)) = some (.bool f.all) := fun i hil => by
        obtain ⟨cs', hc, ht'⟩ := hi i (by omega)
        rw [cellsA] at hc
        obtain ⟨_, hcl, hat⟩ := World.cells?_some hc
        obtain ⟨k, s, t, d, rfl, hx1⟩ := act_of hcl ht'
        refine ⟨⟨k, s, t, d⟩, hx1, ?_, ?_, ?_, ?_⟩
        · have := hat 0 (by omega)
          rw [Go.Deep.add_add] at this
          exact this
        · have := hat 1 (by omega)
          rw [Go.Deep.add_add] at this
          exact this
        · have := hat 2 (by omega)
          rw [Go.Deep.add_add] at this
          exact this
        · have := hat 3 (by omega)
          rw [Go.Deep.add_add] at this
          exact this
      obtain ⟨l, hll, hq⟩ := list_of len1 each
      simp only [Prod.mk.injEq] at hx
      obtain ⟨rfl, _⟩ := hx
      refine ⟨l, hll, ?_, fun f hf => ?_, by unfold maxLen at hm; omega⟩
      · rcases Nat.eq_zero_or_pos len1 with h0 | h0
        · exact .inl ⟨List.length_eq_zero_iff.1 (by omega), _, _, by rw [h0]⟩
        · obtain ⟨b, off, spot⟩ := a
          have hspot : spot = none := by simpa [Addr.add] using World.cell?_spot (hq 0 (by omega)).2.1
          subst hspot
          have hbW : b < W.heap.size := by
            have := World.block_lt_of_cell? _ _ (hq 0 (by omega)).2.1
            simpa [add_plain] using this
          refine .inr ⟨b, off, _, by rw [hll], hbW, fun j hj => ?_⟩
          obtain ⟨_, e0, e1, e2, e3⟩ := hq j hj
          simp only [add_plain, ← Nat.add_assoc] at e0 e1 e2 e3
          exact ⟨e0, e1, e2, e3⟩
      · obtain ⟨j, hj, rfl⟩ := List.getElem_of_mem hf
        have hd := (hq j hj).1
        have hmem : D j ∈ (List.range len1).map D := List.mem_map.2 ⟨j, List.mem_range.2 (by omega), rfl⟩
        have e1 := Lib.size_eq l[j].P
        have e2 := Lib.size_eq l[j].Q
        exact ⟨big1 _ (mem_slice Tryz.underlying23 hmem (by rw [hd, e1]; simp [DataW.weights, DataW.weightsEach, Tryz.underlying28])), big1 _ (mem_slice Tryz.underlying23 hmem (by rw [hd, e2]; simp [DataW.weights, DataW.weightsEach, Tryz.underlying28]))⟩
  have walk : Calls Tryz.prog 3 #[.slice a0 len0 cap0, .slice a1 len1 cap1, .string look] W fun e w' => e = .returned (.bool true) ∧ Below W.heap.size W w' := by
    obtain ⟨l, hll, hF, hsF, hL0⟩ := ex0
    obtain ⟨A, hAl, hAc, hsA, hL1⟩ := ex1
    by_cases hbig : 200 < l.length ∨ 60 < A.length
    · exact Sw.ActsBig_any W _ _ look l A hF hAc (by omega) (by omega) hbig
    · exact Sw.Acts_any W _ _ look l A hF hAc (by omega) (by omega) hsF hsA big2
  refine walk.mono fun e W' ⟨he, hnx⟩ => ?_
  subst he
  exact ⟨_, rfl, fin W' hnx⟩

set_option maxRecDepth 100000 in
theorem lifted (os : Os) (started : os.Started) (H : Type) (enc : TypeId × Value → H) (F : Stop.Interp) :
    ReturnsInHanded {} Tryz.checked os 3 .any ((OpenSpec.ofChange Rows.storeActsSpec).preRow enc Tryz.prog Tryz.f3 Rows.storeActsRow.domain false Rows.storeActsRow.laid) (((OpenSpec.ofChange Rows.storeActsSpec).at F).post enc Tryz.prog Tryz.f3 false true false false) := by
  obtain ⟨ds, places, hx⟩ := reads os enc
  refine returnsInHanded_of_row (C := Tryz.checked) (s := OpenSpec.ofChange Rows.storeActsSpec) own started (by kernel_rfl) Tryz.func3
    (witness_row_at (enc := enc) (C := Tryz.checked) false (laidWorld os) #[.slice none 0 0, .slice none 0 0, .string ⟨#[]⟩] rfl (by kernel_rfl) (by kernel_rfl) (by kernel_rfl)
      (OpenSpec.preRow_of_cond 8 hx (by kernel_rfl) (fun k hk => by cases hk) (by kernel_rfl) (laid_met os _))) ?_
  intro W base args ds gs before hval hW _ _ hsz _ _ _
  exact contract H enc W base args ds gs before hval hW hsz

theorem said : Rows.StoreActsSaid :=
  OpenClaim.holds_of_cond 3 Tryz.f3 rfl rfl rfl rfl rfl rfl rfl ⟨rfl, rfl, rfl, rfl, rfl⟩ rfl rfl rfl rfl rfl (by kernel_rfl) Tryz.func3 (by kernel_rfl)
    (of_decide_eq_true (by kernel_rfl)) (by unfold Func.isWrapper; first | (rw [if_pos (by decide +kernel)]; kernel_rfl) | (rw [if_neg (by decide +kernel)]; exact ⟨rfl, rfl⟩))
    (fun os started H enc _ F => by rw [OpenClaim.pre_eq_preRow]; exact lifted os started H enc F)

/-- No parameter wants a stand-in; the program asks for its own looks. -/
theorem plain (f : FuncId) (fn : Func) (hf : Tryz.pinned.checked.prog.funcNamed "flatiron/flatironlaw03.StoreActs" = some f) (hfn : Tryz.pinned.checked.prog.funcs[f]? = some fn) :
    true = Tryz.pinned.checked.prog.looks [] ∧ ∀ (j : Nat) t, fn.params[j]? = some t → Tryz.pinned.checked.prog.wantsStandIn t = false := by
  obtain rfl : f = 3 := Option.some.inj ((show Tryz.prog.funcNamed "flatiron/flatironlaw03.StoreActs" = some 3 by kernel_rfl).symm.trans hf) |>.symm
  obtain rfl : fn = Tryz.f3 := (Option.some.inj (Tryz.func3.symm.trans hfn)).symm
  refine ⟨by kernel_rfl, fun j t ht => ?_⟩
  rw [Tryz.params3] at ht
  rcases (show t = 22 ∨ t = 23 ∨ t = 9 by simpa using Array.mem_of_getElem? ht) with rfl | rfl | rfl
  · exact (show Tryz.prog.wantsStandIn 22 = false by kernel_rfl)
  · exact (show Tryz.prog.wantsStandIn 23 = false by kernel_rfl)
  · exact (show Tryz.prog.wantsStandIn 9 = false by kernel_rfl)

/-- The card. -/
theorem card : Rows.StoreActsCardSaid :=
  Claim7.holds_tied_plain_at .later [] _ _ _ _ said (fun _ h => by cases h) (by kernel_rfl) (fun _ h => by cases h) storeActs_row_tie rfl ⟨rfl, rfl⟩ (by kernel_rfl) rfl plain (by kernel_rfl)
end Go.Proofs.YtmmilnmlmgcobaaGreatDoor.sacts
