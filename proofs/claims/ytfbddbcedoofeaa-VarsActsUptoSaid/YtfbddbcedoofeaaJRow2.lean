/-
  The statement VarsActsUptoSaid: for every list of acts and name that can be read, and that hold at most 1048576 values and letters, flatironlaw11.VarsActs returns true and leaves what it was handed as it was. Conditions: that bound.
-/
import Derived.Test.YtfbddbcedoofeaaJRow1
import Derived.Test.YtfbddbcedoofeaaJLaw
namespace Go.Proofs.Ytfbddbcedoofeaa.vacts
open Go.ChangeShapes Go.WideShapes Go.ChangeAt Go.RowKit
open Go.ChangeMaps (open_string shut_string)

theorem own : ownKnob Try.prog.godebug = none := by kernel_rfl
theorem laidOut : laidOutB Try.prog = true := by kernel_rfl
theorem cellsS : Try.prog.cellsOf 9 = 1 := by kernel_rfl
theorem cellsU : Try.prog.cellsOf 5 = 1 := by kernel_rfl
theorem cellsLS : Try.prog.cellsOf 27 = 1 := by kernel_rfl
theorem cellsV : Try.prog.cellsOf 26 = 4 := by kernel_rfl
theorem cellsA : Try.prog.cellsOf 29 = 6 := by kernel_rfl

/-- A world for the witness: the settled one. -/
noncomputable def laidWorld (os : Os) : World := World.holding Try.prog os ⟨#[], #[], []⟩
theorem laid_met (os : Os) (args : Array Value) : laidMet Try.prog Rows.varsActsUptoRow.laid ((laidWorld os).forCall (fun _ _ => 0) ⟨#[], args, []⟩).memory :=
  laidMet_of_run' 8 (by kernel_rfl) (by kernel_rfl)
theorem reads (os : Os) {H : Type} (enc : TypeId × Value → H) : ∃ places, DataW.whole enc Try.prog ((laidWorld os).forCall (fun _ _ => 0) ⟨#[], #[.slice none 0 0, .string ⟨#[]⟩], []⟩).memory Try.f3.params.toList Rows.varsActsSpec.vars false #[Value.slice none 0 0, .string ⟨#[]⟩].toList 8 = some ([.nil, .lit (.string [])], [], places) :=
  ⟨[], by kernel_rfl⟩

theorem bulk_all {H : Type} {α : Type} (f : α → DataW H) (g : α → Nat) (hfg : ∀ x, g x ≤ Rows.uptoBulk (f x)) : ∀ l : List α, (l.map g).sum ≤ Rows.uptoBulkAll (l.map f)
  | [] => Nat.zero_le _
  | x :: r => by
    have h1 := bulk_all f g hfg r
    have h2 := hfg x
    simp only [List.map_cons, List.sum_cons, Rows.uptoBulkAll]
    omega
theorem range_map {H : Type} {α : Type} {f : α → DataW H} {D : Nat → DataW H} {l : List α} (h : ∀ j (h : j < l.length), D j = f l[j]) : (List.range l.length).map D = l.map f := by
  refine List.ext_getElem (by simp) fun j h1 h2 => ?_
  have hj : j < l.length := by simpa using h2
  simp [h j hj]
theorem list_of {α : Type} {Q : Nat → α → Prop} : ∀ (n : Nat), (∀ i, i < n → ∃ x, Q i x) → ∃ l : List α, l.length = n ∧ ∀ j (h : j < l.length), Q j l[j]
  | 0, _ => ⟨[], rfl, fun j h => by cases h⟩
  | n + 1, h => by
    obtain ⟨l, hl, hq⟩ := list_of n fun i hi => h i (by omega)
    obtain ⟨x, hx⟩ := h n (by omega)
    refine ⟨l ++ [x], by simp [hl], fun j hj => ?_⟩
    rcases Nat.lt_or_ge j l.length with h1 | h1
    · rw [List.getElem_append_left h1]; exact hq j h1
    · have e : j = n := by rw [List.length_append, List.length_singleton] at hj; omega
      subst e
      rw [List.getElem_append_right h1]
      simpa [hl] using hx

section
variable {H : Type} {enc : TypeId × Value → H} {W : World}
/-- Names that are read. -/
theorem names_of {n : Nat} {v : Value} {x : DataW H × List MemPlace} (h : DataW.trod enc Try.prog W 0 (fun _ => true) true n 27 [v] = some x) :
    ∃ l : List Ww.Bs, Ww.Rd W W.heap.size v (Jw.nC l) ∧ l.length + Jw.sumN l ≤ Rows.uptoBulk x.1 := by
  rcases Go.Deep.open_slice Try.underlying27 h with ⟨hcs, rfl⟩ | ⟨a, len, cap, m, k, D, Pl, hcs, _, hl, hm, hmm, rfl, hi⟩
  · simp at hcs
    subst hcs
    exact ⟨[], ⟨none, 0, rfl, Nat.le_refl _, fun h => absurd rfl h⟩, Nat.zero_le _⟩
  · simp at hcs
    subst hcs
    simp only [if_true] at hmm
    subst hmm
    have each : ∀ i, i < len → ∃ s : Ww.Bs, D i = .lit (.string s) ∧ W.cell? (a.add i) = some (.string (Tw.str s)) := fun i hil => by
      obtain ⟨cs', hc, ht'⟩ := hi i (by omega)
      rw [cellsS] at hc
      obtain ⟨_, hcl, hat⟩ := World.cells?_some hc
      match cs', hcl with
      | [c0], _ =>
        obtain ⟨s, e0, f0, _⟩ := DataW.trod_string Try.underlying9 ht'
        simp at e0
        subst e0
        refine ⟨Ww.by8 s, (Prod.mk.inj f0).1, ?_⟩
        have := hat 0 (by omega)
        rw [Go.Deep.add_add, Nat.mul_one, Nat.add_zero] at this
        exact this
    obtain ⟨l, hll, hq⟩ := list_of len each
    subst hll
    have hnl : (Jw.nC l).length = l.length := by simp [Jw.nC]
    refine ⟨l, ⟨some a, _, by rw [hnl], by rw [hnl]; exact hl, fun hne => ?_⟩, ?_⟩
    · have h0 : 0 < l.length := by
        rcases Nat.eq_zero_or_pos l.length with h0 | h0
        · exact absurd (List.length_eq_zero_iff.1 (by rw [hnl]; exact h0)) hne
        · exact h0
      have h1 := (hq 0 h0).2
      obtain ⟨b, off, spot⟩ := a
      have hspot : spot = none := by simpa [Addr.add] using World.cell?_spot h1
      subst hspot
      have hbW : b < W.heap.size := by
        have := World.block_lt_of_cell? _ _ h1
        simpa [add_plain] using this
      refine ⟨b, off, rfl, hbW, fun j u hj => ?_⟩
      have hjl : j < l.length := by
        have := (List.getElem?_eq_some_iff.1 hj).1
        omega
      rw [Jw.nC_get hjl] at hj
      cases hj
      have := (hq j hjl).2
      simpa [add_plain] using this
    · have e := range_map (f := fun s => (DataW.lit (.string s) : DataW H)) fun j h => (hq j h).1
      have hb := bulk_all (H := H) (fun s : Ww.Bs => (DataW.lit (.string s) : DataW H)) (fun s => s.length + 1) (fun s => by simp [Rows.uptoBulk]) l
      have hs : (l.map fun s : Ww.Bs => s.length + 1).sum = l.length + Jw.sumN l := by
        clear hq e hb hi hl hm h each hnl
        induction l with
        | nil => rfl
        | cons y r ih =>
          show (y.length + 1) + (r.map fun s : Ww.Bs => s.length + 1).sum = (r.length + 1) + (y.length + Jw.sumN r)
          rw [ih]; omega
      rw [← e] at hb
      simp only [Rows.uptoBulk]
      omega
/-- Acts that are read. -/
theorem acts_of {n : Nat} {v : Value} {x : DataW H × List MemPlace} (h : DataW.trod enc Try.prog W 0 (fun _ => true) true n 22 [v] = some x) :
    ∃ A : List Jw.Ac, Jw.Acts W v A ∧ (∀ x ∈ A, Ww.Rd W W.heap.size x.nv (Jw.nC x.L)) ∧ Jw.sumA A ≤ Rows.uptoBulk x.1 := by
  rcases Go.Deep.open_slice Try.underlying22 h with ⟨hcs, rfl⟩ | ⟨a, len, cap, m, k, D, Pl, hcs, _, hl, hm, hmm, rfl, hi⟩
  · simp at hcs
    subst hcs
    exact ⟨[], .inl ⟨rfl, _, _, rfl⟩, (fun x hx => by cases hx), Nat.zero_le _⟩
  · simp at hcs
    subst hcs
    simp only [if_true] at hmm
    subst hmm
    have each : ∀ i, i < len → ∃ x : Jw.Ac × DataW H, D i = x.2 ∧ Ww.Rd W W.heap.size x.1.nv (Jw.nC x.1.L) ∧ Jw.wA x.1 ≤ Rows.uptoBulk x.2 ∧
        W.cell? (a.add (i * 6)) = some (.int .u8 x.1.k) ∧ W.cell? (a.add (i * 6 + 1)) = some (.string (Tw.str x.1.v.n)) ∧ W.cell? (a.add (i * 6 + 2)) = some (.string (Tw.str x.1.v.x)) ∧
        W.cell? (a.add (i * 6 + 3)) = some (.bool x.1.v.s) ∧ W.cell? (a.add (i * 6 + 4)) = some (.int .i64 x.1.v.f) ∧ W.cell? (a.add (i * 6 + 5)) = some x.1.nv := fun i hil => by
      obtain ⟨cs', hc, ht'⟩ := hi i (by omega)
      rw [cellsA] at hc
      obtain ⟨_, hcl, hat⟩ := World.cells?_some hc
      match cs', hcl with
      | [c0, c1, c2, c3, c4, c5], _ =>
        obtain ⟨ys, n', _, hy, _, hyl, hf⟩ := DataW.trod_struct Try.underlying29 ht'
        have h0 : DataW.trod enc Try.prog W 0 (fun _ => true) true n' 5 (([c0, c1, c2, c3, c4, c5].drop 0).take (Try.prog.cellsOf 5)) = ys[0]? := hf 0 _ rfl
        have h1 : DataW.trod enc Try.prog W 0 (fun _ => true) true n' 26 (([c0, c1, c2, c3, c4, c5].drop 1).take (Try.prog.cellsOf 26)) = ys[1]? := hf 1 _ rfl
        have h2 : DataW.trod enc Try.prog W 0 (fun _ => true) true n' 27 (([c0, c1, c2, c3, c4, c5].drop 5).take (Try.prog.cellsOf 27)) = ys[2]? := hf 2 _ rfl
        rw [cellsU] at h0
        rw [cellsV] at h1
        rw [cellsLS] at h2
        match ys, hyl with
        | [y0, y1, y2], _ =>
          obtain ⟨q, e0, f0, hk⟩ := DataW.trod_int Try.underlying5 h0
          simp at e0 f0
          subst e0
          have hk2 : 0 ≤ q := by
            have h : (decide ((0 : Int) ≤ q) && decide (q ≤ 255)) = true := hk
            rw [Bool.and_eq_true, decide_eq_true_eq, decide_eq_true_eq] at h
            exact h.1
          obtain ⟨kk, rfl⟩ : ∃ m : Nat, q = (m : Int) := ⟨q.toNat, by omega⟩
          obtain ⟨s, t, d, c, ev, f1⟩ := vnil.var_of (x := y1) rfl h1
          have ev' : [c1, c2, c3, c4] = [.string s, .string t, .bool d, .int .i64 c] := ev
          obtain ⟨ws, r1, b1⟩ := names_of (v := c5) (x := y2) h2
          simp only [List.cons.injEq, and_true] at ev'
          obtain ⟨rfl, rfl, rfl, rfl⟩ := ev'
          refine ⟨⟨⟨kk, ⟨Ww.by8 s, Ww.by8 t, d, c⟩, c5, ws⟩, D i⟩, rfl, r1, ?_, ?_, ?_, ?_, ?_, ?_, ?_⟩
          · have : D i = .agg [y0.1, y1.1, y2.1] := (Prod.mk.inj hy).1
            show (Ww.by8 s).length + (Ww.by8 t).length + ws.length + Jw.sumN ws ≤ Rows.uptoBulk (D i)
            rw [this, f1]
            have e1 : (Ww.by8 s).length = s.data.toList.length := rfl
            have e2 : (Ww.by8 t).length = t.data.toList.length := rfl
            simp only [Rows.uptoBulk, Rows.uptoBulkAll]
            omega
          · have := hat 0 (by omega); rw [Go.Deep.add_add] at this; exact this
          · have := hat 1 (by omega); rw [Go.Deep.add_add] at this; exact this
          · have := hat 2 (by omega); rw [Go.Deep.add_add] at this; exact this
          · have := hat 3 (by omega); rw [Go.Deep.add_add] at this; exact this
          · have := hat 4 (by omega); rw [Go.Deep.add_add] at this; exact this
          · have := hat 5 (by omega); rw [Go.Deep.add_add] at this; exact this
    obtain ⟨l, hll, hq⟩ := list_of len each
    subst hll
    refine ⟨l.map (·.1), ?_, fun x hx => ?_, ?_⟩
    · rcases Nat.eq_zero_or_pos l.length with h0 | h0
      · exact .inl ⟨by rw [List.length_eq_zero_iff.1 h0]; rfl, _, _, by rw [h0]⟩
      · obtain ⟨b, off, spot⟩ := a
        have hspot : spot = none := by simpa [Addr.add] using World.cell?_spot (hq 0 h0).2.2.2.1
        subst hspot
        have hbW : b < W.heap.size := by
          have := World.block_lt_of_cell? _ _ (hq 0 h0).2.2.2.1
          simpa [add_plain] using this
        refine .inr ⟨b, off, _, by rw [List.length_map], hbW, fun j hj => ?_⟩
        have hj' : j < l.length := by simpa using hj
        obtain ⟨_, _, _, e0, e1, e2, e3, e4, e5⟩ := hq j hj'
        simp only [add_plain, ← Nat.add_assoc] at e0 e1 e2 e3 e4 e5
        simp only [List.getElem_map]
        exact ⟨e0, e1, e2, e3, e4, e5⟩
    · obtain ⟨y, hy, rfl⟩ := List.mem_map.1 hx
      obtain ⟨j, hj, rfl⟩ := List.getElem_of_mem hy
      exact (hq j hj).2.1
    · have e := range_map (f := fun x : Jw.Ac × DataW H => x.2) fun j h => (hq j h).1
      have hb : ∀ r : List (Jw.Ac × DataW H), (∀ x ∈ r, Jw.wA x.1 ≤ Rows.uptoBulk x.2) → Jw.sumA (r.map (·.1)) ≤ Rows.uptoBulkAll (r.map fun x => x.2) := by
        intro r
        induction r with
        | nil => intro _; exact Nat.zero_le _
        | cons y r ih =>
          intro hr
          have h1 := ih fun x hx => hr x (List.mem_cons_of_mem _ hx)
          have h2 := hr y (by simp)
          show Jw.wA y.1 + Jw.sumA (r.map (·.1)) ≤ Rows.uptoBulk y.2 + Rows.uptoBulkAll (r.map fun x => x.2)
          omega
      have hb := hb l fun x hx => by
        obtain ⟨j, hj, rfl⟩ := List.getElem_of_mem hx
        exact (hq j hj).2.2.1
      rw [← e] at hb
      simp only [Rows.uptoBulk]
      omega
end

set_option maxRecDepth 100000 in
theorem contract (H : Type) (enc : TypeId × Value → H) (W : World) (base : Nat) (args : Array Value) (ds gs : List (DataW H)) (before : List MemPlace)
    (hval : ∀ (j : Nat) t v, Try.f3.params[j]? = some t → args[j]? = some v → Value.okWide Try.prog W .any base t v)
    (hW : DataW.Whole enc Try.prog Try.f3.params.toList Rows.varsActsSpec.vars false W args.toList ds gs before)
    (hbk : Rows.uptoBulkAll (ds ++ gs) ≤ 1048576) :
    Calls Try.prog 3 args W fun e W' => ∃ v, e = .returned v ∧ Rows.varsActsSpec.post enc Try.prog Try.f3 false true false false W args v W' := by
  have hW' := hW
  obtain ⟨p, q, hA0, hV, rfl, hfz, hnd⟩ := hW
  have hA : DataW.TrodAll enc Try.prog W 0 (fun _ => true) true Try.f3.params.toList args.toList ds p := hA0
  rw [Try.params3] at hA hval
  obtain ⟨v0, vs0, d0, ds0, p0, q0, hargs, rfl, rfl, h0, r0⟩ := trodAll_cons hA
  obtain ⟨v1, vs1, d1, ds1, p1, q1, rfl, rfl, rfl, h1, r1⟩ := trodAll_cons r0
  obtain ⟨rfl, rfl, rfl⟩ := trodAll_nil r1
  obtain rfl : args = #[v0, v1] := by cases args; simp_all
  obtain ⟨rfl, rfl⟩ := trodVars_none hV
  obtain ⟨a0, len0, cap0, rfl⟩ := okWide_slice Try.underlying22 (hval 0 22 v0 rfl rfl)
  obtain ⟨look, rfl, rfl, rfl, wl⟩ := open_string Try.underlying9 (hval 1 9 v1 rfl rfl) h1
  have h0k := h0
  obtain ⟨fuel0, hf0⟩ := h0
  clear hA0
  have hlt : ∀ x ∈ p0 ++ [], x.block < W.heap.size := fun x hx => hW'.lt x (by simpa using hx)
  have fin : ∀ W', Below W.heap.size W W' → Rows.varsActsSpec.post enc Try.prog Try.f3 false true false false W #[.slice a0 len0 cap0, .string look] (.bool true) W' := by
    intro W' hnx
    refine ⟨_, _, _, [], p0 ++ [], [], hW', trodAll_mk1 (shut_bool Try.underlying4 _), ?_, rfl, hnx.frame _, fun h => by cases h⟩
    have t0 := Below.trod laidOut (by kernel_rfl) (of_decide_eq_true (by kernel_rfl)) h0k hnx (fun x hx => hlt x (by simp [hx]))
    exact trodAll_mk2 t0 (shut_string Try.underlying9 wl)
  have hf0' : DataW.trod enc Try.prog W 0 (fun _ => true) true fuel0 22 [.slice a0 len0 cap0] = some (d0, p0) := by simpa [Value.cells] using hf0
  obtain ⟨A, hX, hN, hbX⟩ := acts_of hf0'
  have hbd : Jw.sumA A ≤ 1048576 := by
    simp only [List.cons_append, Rows.uptoBulkAll] at hbk
    simp only at hbX
    omega
  obtain ⟨a1, c1, hs⟩ := hX.shape
  cases hs
  have walk : Calls Try.prog 3 #[.slice a0 A.length cap0, .string look] W fun e w' => e = .returned (.bool true) ∧ Below W.heap.size W w' := by
    by_cases hbig : 60 < A.length ∨ 100 < look.size
    · exact Jw.VarsActs_big W a0 A.length cap0 look hbig
    · have hsz : (Ww.by8 look).length = look.size := rfl
      exact Jw.VarsActs_any W _ A (Ww.by8 look) hX hN (by omega) (by omega) (by omega)
  refine walk.mono fun e W' ⟨he, hnx⟩ => ?_
  subst he
  exact ⟨_, rfl, fin W' hnx⟩

set_option maxRecDepth 100000 in
theorem lifted (os : Os) (started : os.Started) (H : Type) (enc : TypeId × Value → H) (F : Stop.Interp) :
    ReturnsInHanded {} Try.checked os 3 .any ((Rows.OpenSpec.upto Rows.varsActsSpec).preRow enc Try.prog Try.f3 Rows.varsActsUptoRow.domain false Rows.varsActsUptoRow.laid) (((Rows.OpenSpec.upto Rows.varsActsSpec).at F).post enc Try.prog Try.f3 false true false false) := by
  obtain ⟨places, hx⟩ := reads os enc
  refine returnsInHanded_of_row (C := Try.checked) (s := Rows.OpenSpec.upto Rows.varsActsSpec) own started (by kernel_rfl) Try.func3
    (witness_row_at (enc := enc) (C := Try.checked) false (laidWorld os) #[.slice none 0 0, .string ⟨#[]⟩] rfl (by kernel_rfl) (by kernel_rfl) (by kernel_rfl)
      (OpenSpec.preRow_of_cond 8 hx (by kernel_rfl) (fun k hk => by cases hk; kernel_rfl) (by kernel_rfl) (laid_met os _))) ?_
  intro W base args ds gs before hval hW h2 hcond hsz _ _ _
  exact contract H enc W base args ds gs before hval hW (of_decide_eq_true (hcond _ rfl))

theorem said : Rows.VarsActsUptoSaid :=
  OpenClaim.holds_of_cond 3 Try.f3 rfl rfl rfl rfl rfl rfl rfl ⟨rfl, rfl, rfl, rfl, rfl⟩ rfl rfl rfl rfl rfl (by kernel_rfl) Try.func3 (by kernel_rfl)
    (of_decide_eq_true (by kernel_rfl)) (by unfold Func.isWrapper; first | (rw [if_pos (by decide +kernel)]; kernel_rfl) | (rw [if_neg (by decide +kernel)]; exact ⟨rfl, rfl⟩))
    (fun os started H enc _ F => by rw [OpenClaim.pre_eq_preRow]; exact lifted os started H enc F)

end Go.Proofs.Ytfbddbcedoofeaa.vacts
