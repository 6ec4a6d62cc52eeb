/-
  The statement FindFirstCardSaid: for every slice of bytes, and every number of 16 bits, that can be read, flatironlaw17.FindFirst returns true and leaves what it was handed as it was. Conditions: the listed variables (tables of math/bits, internal/strconv and unicode/utf8) read as the program's own text lays them (the card ties them to that text; the tie is given).
-/
import Derived.Test.YtgednccpjegbmaaGreatDoorCards
import Derived.Test.YtgednccpjegbmaaGreatDoorTie
import Derived.ProofKit
import Derived.OpenShut
import Derived.SizedLaws
import Derived.ChangeMaps5
import Derived.Deep.DeepHandedRow
import Derived.Lib.LaidTab
import Derived.Test.YtgednccpjegbmaaGreatDoorQFdGm
import Derived.Test.YtgednccpjegbmaaGreatDoorQFdFirst
namespace Go.Proofs.YtgednccpjegbmaaGreatDoor.ffirst
open Go.ChangeShapes Go.WideShapes Go.ChangeAt Go.RowKit

theorem cells8 : Tryz.prog.cellsOf 5 = 1 := by kernel_rfl
theorem own : ownKnob Tryz.prog.godebug = none := by kernel_rfl
theorem laidOut : laidOutB Tryz.prog = true := by kernel_rfl

theorem laid_met (os : Os) (args : Array Value) : laidMet Tryz.prog Rows.findFirstRow.laid ((Fd.laidWorld os).forCall (fun _ _ => 0) ⟨#[], args, []⟩).memory := Fd.laid_met os args
theorem reads (os : Os) {H : Type} (enc : TypeId × Value → H) : ∃ ds places, DataW.whole enc Tryz.prog ((Fd.laidWorld os).forCall (fun _ _ => 0) ⟨#[], #[.slice none 0 0, .int .u16 0], []⟩).memory Tryz.f3.params.toList Rows.findFirstSpec.vars false #[Value.slice none 0 0, .int .u16 0].toList 8 = some (ds, [], places) :=
  ⟨[.nil, .lit (.int .u16 0)], [], by kernel_rfl⟩

set_option maxRecDepth 100000 in
theorem contract (H : Type) (enc : TypeId × Value → H) (W : World) (base : Nat) (args : Array Value) (ds gs : List (DataW H)) (before : List MemPlace)
    (hval : ∀ (j : Nat) t v, Tryz.f3.params[j]? = some t → args[j]? = some v → Value.okWide Tryz.prog W .any base t v)
    (hW : DataW.Whole enc Tryz.prog Tryz.f3.params.toList Rows.findFirstSpec.vars false W args.toList ds gs before)
    (hsz : (DataW.weightsEach Tryz.prog (Tryz.f3.params.toList ++ Rows.findFirstSpec.plain.varTypes Tryz.prog) (ds ++ gs)).all (· ≤ reachBytes) = true) (hL : laidMetH Tryz.prog Rows.findNilRow.laid W) (hsh : W.ShapedOpen Tryz.prog) :
    Calls Tryz.prog 3 args W fun e W' => ∃ v, e = .returned v ∧ Rows.findFirstSpec.post enc Tryz.prog Tryz.f3 false true false false W args v W' := by
  have hW' := hW
  obtain ⟨p, q, hA0, hV, rfl, hfz, hnd⟩ := hW
  have hA : DataW.TrodAll enc Tryz.prog W 0 (fun _ => true) true Tryz.f3.params.toList args.toList ds p := hA0
  rw [Tryz.params3] at hA hval hsz
  obtain ⟨v0, v1, d0, d1, p0, p1, rfl, rfl, rfl, h0, h1⟩ := trodAll_two hA
  obtain ⟨rfl, rfl⟩ := trodVars_none hV
  obtain ⟨a0, len, cap, rfl⟩ := okWide_slice Tryz.underlying22 (hval 0 22 v0 rfl rfl)
  obtain ⟨b, rfl, rfl, rfl, wb⟩ := open_int Tryz.underlying23 (hval 1 23 v1 rfl rfl) h1
  have hb : 0 ≤ b ∧ b < 65536 := by
    have h : (decide ((0 : Int) ≤ b) && decide (b ≤ 65535)) = true := wb
    rw [Bool.and_eq_true, decide_eq_true_eq, decide_eq_true_eq] at h
    omega
  obtain ⟨t, rfl⟩ : ∃ t : Nat, b = (t : Int) := ⟨b.toNat, by omega⟩
  have hG : Ew.GM W := Fd.gm_of hL hsh
  have h0k := h0
  obtain ⟨fuel, hf⟩ := h0
  clear hA0 h1
  simp only [List.append_nil] at hW'
  have hlt : ∀ x ∈ p0, x.block < W.heap.size := fun x hx => by simpa using hW'.lt x (by simpa using hx)
  have fin : ∀ W', Below W.heap.size W W' → Rows.findFirstSpec.post enc Tryz.prog Tryz.f3 false true false false W #[.slice a0 len cap, .int .u16 (t : Int)] (.bool true) W' := by
    intro W' hnx
    refine ⟨_, _, _, [], p0 ++ [], [], hW', trodAll_mk1 (shut_bool Tryz.underlying4 _), ?_, rfl, hnx.frame _, fun h => by cases h⟩
    exact trodAll_mk2 (Below.trod laidOut (by kernel_rfl) (of_decide_eq_true (by kernel_rfl)) h0k hnx hlt) (shut_int Tryz.underlying23 wb)
  have walk : Calls Tryz.prog 3 #[.slice a0 len cap, .int .u16 (t : Int)] W fun e w' => e = .returned (.bool true) ∧ Below W.heap.size W w' := by
    rcases open_ints Tryz.underlying22 Tryz.underlying5 cells8 hf with ⟨hcs, hx⟩ | ⟨a1, len', cap', zs, hcs, _, hl, hmx, hz, hx, hcell, hwz⟩
    · simp [Value.cells] at hcs
      obtain ⟨rfl, rfl, rfl⟩ := hcs
      exact Dq.FindFirst_any W hG none 0 [] ⟨by simp, fun h => absurd rfl h⟩ t (by decide)
    · simp [Value.cells] at hcs
      obtain ⟨rfl, rfl, rfl⟩ := hcs
      simp only [Prod.mk.injEq] at hx
      obtain ⟨rfl, rfl⟩ := hx
      simp only [if_true] at hz
      by_cases hbig : 10 < len
      · exact Dq.FindFirst_big W hG _ len cap t hbig (by unfold maxLen at hmx; omega)
      have hl2 : ((zs.take len).map Int.toNat).length = len := by rw [List.length_map, List.length_take]; omega
      have hrg : ∀ n ∈ zs, 0 ≤ n ∧ n < 256 := fun n hn => by
        have h : (decide ((0 : Int) ≤ n) && decide (n ≤ 255)) = true := hwz n hn
        rw [Bool.and_eq_true, decide_eq_true_eq, decide_eq_true_eq] at h
        omega
      have h := Dq.FindFirst_any W hG (some a1) cap ((zs.take len).map Int.toNat) ⟨fun k hk => by
        obtain ⟨n, hn, rfl⟩ := List.mem_map.1 hk
        have := hrg n (List.mem_of_mem_take hn); omega, fun hne => ?_⟩ t (by omega)
      · rw [hl2] at h; exact h
      obtain ⟨g, off, spot⟩ := a1
      have hpos : 0 < len := by
        rcases Nat.eq_zero_or_pos len with h | h
        · subst h; exact absurd (by rw [List.take_zero]; rfl) hne
        · exact h
      have hspot : spot = none := by simpa [Addr.add] using World.cell?_spot (hcell 0 (by omega))
      subst hspot
      have hbW : g < W.heap.size := hlt (.cell g off) (MemPlace.mem_row.2 ⟨0, by omega, by simp⟩)
      refine ⟨g, off, rfl, hbW, fun j hj => ?_⟩
      rw [hl2] at hj
      have h2 := hcell j (by omega)
      rw [Addr.add_lit] at h2
      rw [h2]
      have hjz : j < zs.length := by omega
      have e1 : zs.getD j 0 = zs[j] := by rw [List.getD_eq_getElem?_getD, List.getElem?_eq_getElem hjz]; rfl
      rw [e1]
      have := hrg _ (List.getElem_mem hjz)
      congr 3
      simp only [List.getElem_map, List.getElem_take]
      omega
  refine walk.mono fun e W' ⟨he, hnx⟩ => ?_
  subst he
  exact ⟨_, rfl, fin W' hnx⟩

set_option maxRecDepth 100000 in
theorem lifted (os : Os) (started : os.Started) (H : Type) (enc : TypeId × Value → H) (F : Stop.Interp) :
    ReturnsInHanded {} Tryz.checked os 3 .any ((OpenSpec.ofChange Rows.findFirstSpec).preRow enc Tryz.prog Tryz.f3 Rows.findFirstRow.domain false Rows.findFirstRow.laid) (((OpenSpec.ofChange Rows.findFirstSpec).at F).post enc Tryz.prog Tryz.f3 false true false false) := by
  obtain ⟨ds, places, hx⟩ := reads os enc
  refine returnsInHanded_of_row (C := Tryz.checked) (s := OpenSpec.ofChange Rows.findFirstSpec) own started (by kernel_rfl) Tryz.func3
    (witness_row_at (enc := enc) (C := Tryz.checked) false (Fd.laidWorld os) #[.slice none 0 0, .int .u16 0] rfl (by kernel_rfl) (by kernel_rfl) (by kernel_rfl)
      (OpenSpec.preRow_of_cond 8 hx (by kernel_rfl) (fun k hk => by cases hk) (by kernel_rfl) (laid_met os _))) ?_
  intro W base args ds gs before hval hW _ _ hsz hL hsh _
  exact contract H enc W base args ds gs before hval hW hsz hL hsh

theorem and_tt {a b : Bool} (h : a = true) (k : b = true) : (a && b) = true := by rw [h, k]; rfl
set_option maxHeartbeats 40000000 in
/-- The closed facts of the row, each for itself: together they outgrow the kernel's memory. -/
theorem closed : joinedFacts Tryz.prog 3 Tryz.f3 (OpenSpec.ofChange Rows.findFirstSpec).bare Rows.findFirstRow = true := by
  unfold joinedFacts
  repeat (refine and_tt ?_ ?_)
  all_goals (as_aux_lemma => kernel_rfl)
theorem said : Rows.FindFirstSaid :=
  OpenClaim.holds_of_cond 3 Tryz.f3 rfl rfl rfl rfl rfl rfl rfl ⟨rfl, rfl, rfl, rfl, rfl⟩ rfl rfl rfl rfl rfl (by kernel_rfl) Tryz.func3 closed
    (of_decide_eq_true (by kernel_rfl)) (by unfold Func.isWrapper; first | (rw [if_pos (by decide +kernel)]; kernel_rfl) | (rw [if_neg (by decide +kernel)]; exact ⟨rfl, rfl⟩))
    (fun os started H enc _ F => by rw [OpenClaim.pre_eq_preRow]; exact lifted os started H enc F)

/-- No parameter wants a stand-in; the program's own looks are off. -/
theorem plain (f : FuncId) (fn : Func) (hf : Tryz.pinned.checked.prog.funcNamed "flatiron/flatironlaw17.FindFirst" = some f) (hfn : Tryz.pinned.checked.prog.funcs[f]? = some fn) :
    true = Tryz.pinned.checked.prog.looks [] ∧ ∀ (j : Nat) t, fn.params[j]? = some t → Tryz.pinned.checked.prog.wantsStandIn t = false := by
  obtain rfl : f = 3 := Option.some.inj ((show Tryz.prog.funcNamed "flatiron/flatironlaw17.FindFirst" = some 3 by kernel_rfl).symm.trans hf) |>.symm
  obtain rfl : fn = Tryz.f3 := (Option.some.inj (Tryz.func3.symm.trans hfn)).symm
  refine ⟨by kernel_rfl, fun j t ht => ?_⟩
  rw [Tryz.params3] at ht
  rcases (show t = 22 ∨ t = 23 by simpa using Array.mem_of_getElem? ht) with rfl | rfl
  · exact (show Tryz.prog.wantsStandIn 22 = false by kernel_rfl)
  · exact (show Tryz.prog.wantsStandIn 23 = false by kernel_rfl)

set_option maxRecDepth 100000
/-- No function goes, told part by part: the whole outgrows the kernel's memory. -/
theorem goes_of {P : Program} (f : FuncId) (h : ∀ fn ∈ P.funcs.toList, Func.goes fn = false) : P.goes f = false := by
  unfold Program.goes
  rw [Bool.or_eq_false_iff]
  refine ⟨?_, ?_⟩
  · rw [List.any_eq_false]
    intro g _
    cases hg : P.funcs[g]? with
    | none => simp
    | some fn =>
      have := h fn (by rw [Array.mem_toList_iff]; exact Array.mem_of_getElem? hg)
      simp [this]
  · have : P.funcs.any Func.goes = false := by
      rw [← Array.any_toList, List.any_eq_false]
      intro fn hfn
      rw [h fn hfn]; exact Bool.false_ne_true
    rw [this, Bool.and_false]
theorem take_of {l : List Func} {k n : Nat} (h1 : ((l.drop k).take n).any Func.goes = false) (h2 : ∀ fn ∈ l.drop (k + n), Func.goes fn = false) : ∀ fn ∈ l.drop k, Func.goes fn = false := fun fn hf => by
  rw [← List.take_append_drop n (l.drop k), List.drop_drop] at hf
  rcases List.mem_append.1 hf with hf | hf
  · exact Bool.eq_false_iff.2 (List.any_eq_false.1 h1 fn hf)
  · exact h2 fn hf
theorem g0 : ((Tryz.prog.funcs.toList.drop 0).take 48).any Func.goes = false := by kernel_rfl
theorem g1 : ((Tryz.prog.funcs.toList.drop 48).take 48).any Func.goes = false := by kernel_rfl
theorem g2 : ((Tryz.prog.funcs.toList.drop 96).take 48).any Func.goes = false := by kernel_rfl
theorem g3 : ((Tryz.prog.funcs.toList.drop 144).take 48).any Func.goes = false := by kernel_rfl
theorem g4 : ((Tryz.prog.funcs.toList.drop 192).take 48).any Func.goes = false := by kernel_rfl
theorem g5 : ((Tryz.prog.funcs.toList.drop 240).take 48).any Func.goes = false := by kernel_rfl
theorem g6 : ((Tryz.prog.funcs.toList.drop 288).take 48).any Func.goes = false := by kernel_rfl
theorem g7 : ((Tryz.prog.funcs.toList.drop 336).take 48).any Func.goes = false := by kernel_rfl
theorem gend : Tryz.prog.funcs.toList.drop 384 = [] := by kernel_rfl
theorem goes_all : ∀ fn ∈ Tryz.prog.funcs.toList, Func.goes fn = false := by
  have h := gend
  have z : ∀ fn ∈ Tryz.prog.funcs.toList.drop 384, Func.goes fn = false := by rw [h]; simp
  replace z := take_of (k := 336) (n := 48) g7 z
  replace z := take_of (k := 288) (n := 48) g6 z
  replace z := take_of (k := 240) (n := 48) g5 z
  replace z := take_of (k := 192) (n := 48) g4 z
  replace z := take_of (k := 144) (n := 48) g3 z
  replace z := take_of (k := 96) (n := 48) g2 z
  replace z := take_of (k := 48) (n := 48) g1 z
  replace z := take_of (k := 0) (n := 48) g0 z
  simpa using z
theorem goesBy_no {P : Program} {c : OpenClaim} {n : String} {f : FuncId} (hs : c.start = .entering) (hn : c.func = n) (hf : P.funcNamed n = some f) (h : P.goes f = false) : false = c.goesBy P := by
  unfold OpenClaim.goesBy Program.goesAt Program.goesFrom
  rw [hs, hn, hf]
  simp [h]
theorem named : Tryz.prog.funcNamed "flatiron/flatironlaw17.FindFirst" = some 3 := by kernel_rfl
theorem goes_no : false = Rows.findFirstRow.goesBy Tryz.prog := goesBy_no rfl rfl named (goes_of _ goes_all)
/-- The card. -/
theorem card : Rows.FindFirstCardSaid :=
  Claim7.holds_tied_plain_at .later [] _ _ _ _ said (fun _ h => by cases h) (by as_aux_lemma => kernel_rfl) (fun _ h => by cases h) findFirst_row_tie rfl ⟨rfl, rfl⟩ (by as_aux_lemma => kernel_rfl) rfl plain goes_no
end Go.Proofs.YtgednccpjegbmaaGreatDoor.ffirst
