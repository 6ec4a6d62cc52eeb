/-
  The statement VarsNilSaid: for every variable and list of names that can be read, flatironlaw11.VarsNil returns true and leaves what it was handed as it was. Conditions: none.
-/
import Derived.Test.YtfbddbcedoofeaaRows
import Derived.ProofKit
import Derived.OpenShut
import Derived.SizedLaws
import Derived.ChangeMaps5
import Derived.Deep.DeepHandedRow
import Derived.Deep.Slices
import Derived.Lib.LaidTab
import Derived.Test.YtfbddbcedoofeaaJNil
namespace Go.Proofs.Ytfbddbcedoofeaa.vnil
open Go.ChangeShapes Go.WideShapes Go.ChangeAt Go.RowKit

theorem own : ownKnob Try.prog.godebug = none := by kernel_rfl
theorem laidOut : laidOutB Try.prog = true := by kernel_rfl
theorem cellsS : Try.prog.cellsOf 9 = 1 := by kernel_rfl
theorem cellsB : Try.prog.cellsOf 4 = 1 := by kernel_rfl
theorem cellsO : Try.prog.cellsOf 24 = 1 := by kernel_rfl
theorem cellsV : Try.prog.cellsOf 26 = 4 := by kernel_rfl

/-- A variable that is read. -/
theorem var_of {H : Type} {enc : TypeId × Value → H} {W : World} {base n : Nat} {spare : Nat → Bool} {held : Bool} {cs : List Value} {x : DataW H × List MemPlace} (hl : cs.length = 4) (h : DataW.trod enc Try.prog W base spare held n 26 cs = some x) :
    ∃ (s t : ByteArray) (d : Bool) (c : Int), cs = [.string s, .string t, .bool d, .int .i64 c] ∧ x.1 = .agg [.lit (.string s.data.toList), .lit (.string t.data.toList), .lit (.bool d), .lit (.int .i64 c)] := by
  match cs, hl with
  | [c0, c1, c2, c3], _ =>
    obtain ⟨ys, n', _, hy, _, hyl, hf⟩ := DataW.trod_struct Try.underlying26 h
    have h0 : DataW.trod enc Try.prog W base spare held n' 9 (([c0, c1, c2, c3].drop 0).take (Try.prog.cellsOf 9)) = ys[0]? := hf 0 _ rfl
    have h1 : DataW.trod enc Try.prog W base spare held n' 9 (([c0, c1, c2, c3].drop 1).take (Try.prog.cellsOf 9)) = ys[1]? := hf 1 _ rfl
    have h2 : DataW.trod enc Try.prog W base spare held n' 4 (([c0, c1, c2, c3].drop 2).take (Try.prog.cellsOf 4)) = ys[2]? := hf 2 _ rfl
    have h3 : DataW.trod enc Try.prog W base spare held n' 24 (([c0, c1, c2, c3].drop 3).take (Try.prog.cellsOf 24)) = ys[3]? := hf 3 _ rfl
    rw [cellsS] at h0
    rw [cellsS] at h1
    rw [cellsB] at h2
    rw [cellsO] at h3
    match ys, hyl with
    | [y0, y1, y2, y3], _ =>
      obtain ⟨s, e0, f0, _⟩ := DataW.trod_string Try.underlying9 h0
      obtain ⟨t, e1, f1, _⟩ := DataW.trod_string Try.underlying9 h1
      obtain ⟨d, e2, f2⟩ := DataW.trod_bool Try.underlying4 h2
      obtain ⟨c, e3, f3, _⟩ := DataW.trod_int Try.underlying24 h3
      simp at e0 e1 e2 e3 f0 f1 f2 f3
      subst e0 e1 e2 e3
      exact ⟨s, t, d, c, rfl, by rw [hy, f0, f1, f2, f3]; rfl⟩

/-- A world for the witness: the settled one. -/
noncomputable def laidWorld (os : Os) : World := World.holding Try.prog os ⟨#[], #[], []⟩
theorem laid_met (os : Os) (args : Array Value) : laidMet Try.prog Rows.varsNilRow.laid ((laidWorld os).forCall (fun _ _ => 0) ⟨#[], args, []⟩).memory :=
  laidMet_of_run' 8 (by kernel_rfl) (by kernel_rfl)
theorem reads (os : Os) {H : Type} (enc : TypeId × Value → H) : ∃ places, DataW.whole enc Try.prog ((laidWorld os).forCall (fun _ _ => 0) ⟨#[], #[.agg #[.string ⟨#[]⟩, .string ⟨#[]⟩, .bool false, .int .i64 0], .slice none 0 0], []⟩).memory Try.f4.params.toList Rows.varsNilSpec.vars false #[Value.agg #[.string ⟨#[]⟩, .string ⟨#[]⟩, .bool false, .int .i64 0], .slice none 0 0].toList 8 = some ([.agg [.lit (.string []), .lit (.string []), .lit (.bool false), .lit (.int .i64 0)], .nil], [], places) :=
  ⟨[], by kernel_rfl⟩

set_option maxRecDepth 100000 in
theorem contract (H : Type) (enc : TypeId × Value → H) (W : World) (base : Nat) (args : Array Value) (ds gs : List (DataW H)) (before : List MemPlace)
    (hval : ∀ (j : Nat) t v, Try.f4.params[j]? = some t → args[j]? = some v → Value.okWide Try.prog W .any base t v)
    (hW : DataW.Whole enc Try.prog Try.f4.params.toList Rows.varsNilSpec.vars false W args.toList ds gs before)
    (hsz : (DataW.weightsEach Try.prog (Try.f4.params.toList ++ Rows.varsNilSpec.plain.varTypes Try.prog) (ds ++ gs)).all (· ≤ reachBytes) = true) :
    Calls Try.prog 4 args W fun e W' => ∃ v, e = .returned v ∧ Rows.varsNilSpec.post enc Try.prog Try.f4 false true false false W args v W' := by
  have hW' := hW
  obtain ⟨p, q, hA0, hV, rfl, hfz, hnd⟩ := hW
  have hA : DataW.TrodAll enc Try.prog W 0 (fun _ => true) true Try.f4.params.toList args.toList ds p := hA0
  rw [Try.params4] at hA hval hsz
  obtain ⟨v0, vs0, d0, ds0, p0, q0, hargs, rfl, rfl, h0, r0⟩ := trodAll_cons hA
  obtain ⟨v1, vs1, d1, ds1, p1, q1, rfl, rfl, rfl, h1, r1⟩ := trodAll_cons r0
  obtain ⟨rfl, rfl, rfl⟩ := trodAll_nil r1
  obtain rfl : args = #[v0, v1] := by cases args; simp_all
  obtain ⟨rfl, rfl⟩ := trodVars_none hV
  obtain ⟨cs, rfl, hcs⟩ := okWide_struct Try.underlying26 (hval 0 26 v0 rfl rfl)
  obtain ⟨a1, len, cap, rfl⟩ := okWide_slice Try.underlying27 (hval 1 27 v1 rfl rfl)
  have h0k := h0
  have h1k := h1
  obtain ⟨fuel0, hf0⟩ := h0
  clear hA0
  rw [cellsV] at hcs
  obtain ⟨s, t, d, c, hcl, _⟩ := var_of (by simpa [Value.cells] using hcs) hf0
  obtain rfl : cs = #[.string s, .string t, .bool d, .int .i64 c] := Array.toList_inj.1 (by simpa [Value.cells] using hcl)
  have hlt : ∀ x ∈ p0 ++ (p1 ++ []), x.block < W.heap.size := fun x hx => hW'.lt x (by simpa using hx)
  have fin : ∀ W', Below W.heap.size W W' → Rows.varsNilSpec.post enc Try.prog Try.f4 false true false false W #[.agg #[.string s, .string t, .bool d, .int .i64 c], .slice a1 len cap] (.bool true) W' := by
    intro W' hnx
    refine ⟨_, _, _, [], p0 ++ (p1 ++ []), [], hW', trodAll_mk1 (shut_bool Try.underlying4 _), ?_, rfl, hnx.frame _, fun h => by cases h⟩
    have t0 := Below.trod laidOut (by kernel_rfl) (of_decide_eq_true (by kernel_rfl)) h0k hnx (fun x hx => hlt x (by simp [hx]))
    have t1 := Below.trod laidOut (by kernel_rfl) (of_decide_eq_true (by kernel_rfl)) h1k hnx (fun x hx => hlt x (by simp [hx]))
    rw [← List.append_nil p1] at t1
    exact trodAll_mk2 t0 t1
  refine (Jw.VarsNil_any W ⟨Ww.by8 s, Ww.by8 t, d, c⟩ a1 len cap).mono fun e W' ⟨he, hnx⟩ => ?_
  subst he
  exact ⟨_, rfl, fin W' hnx⟩

set_option maxRecDepth 100000 in
theorem lifted (os : Os) (started : os.Started) (H : Type) (enc : TypeId × Value → H) (F : Stop.Interp) :
    ReturnsInHanded {} Try.checked os 4 .any ((OpenSpec.ofChange Rows.varsNilSpec).preRow enc Try.prog Try.f4 Rows.varsNilRow.domain false Rows.varsNilRow.laid) (((OpenSpec.ofChange Rows.varsNilSpec).at F).post enc Try.prog Try.f4 false true false false) := by
  obtain ⟨places, hx⟩ := reads os enc
  refine returnsInHanded_of_row (C := Try.checked) (s := OpenSpec.ofChange Rows.varsNilSpec) own started (by kernel_rfl) Try.func4
    (witness_row_at (enc := enc) (C := Try.checked) false (laidWorld os) #[.agg #[.string ⟨#[]⟩, .string ⟨#[]⟩, .bool false, .int .i64 0], .slice none 0 0] rfl (by kernel_rfl) (by kernel_rfl) (by kernel_rfl)
      (OpenSpec.preRow_of_cond 8 hx (by kernel_rfl) (fun k hk => by cases hk) (by kernel_rfl) (laid_met os _))) ?_
  intro W base args ds gs before hval hW _ _ hsz _ _ _
  exact contract H enc W base args ds gs before hval hW hsz

theorem said : Rows.VarsNilSaid :=
  OpenClaim.holds_of_cond 4 Try.f4 rfl rfl rfl rfl rfl rfl rfl ⟨rfl, rfl, rfl, rfl, rfl⟩ rfl rfl rfl rfl rfl (by kernel_rfl) Try.func4 (by kernel_rfl)
    (of_decide_eq_true (by kernel_rfl)) (by unfold Func.isWrapper; first | (rw [if_pos (by decide +kernel)]; kernel_rfl) | (rw [if_neg (by decide +kernel)]; exact ⟨rfl, rfl⟩))
    (fun os started H enc _ F => by rw [OpenClaim.pre_eq_preRow]; exact lifted os started H enc F)

end Go.Proofs.Ytfbddbcedoofeaa.vnil
