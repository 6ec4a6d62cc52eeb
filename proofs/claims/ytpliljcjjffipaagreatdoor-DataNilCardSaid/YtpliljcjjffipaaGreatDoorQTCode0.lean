/-
  Package stem's functions: cut, match, put, change; Has, Match, Put, Change.
-/
import Derived.Test.YtpliljcjjffipaaGreatDoorQTCut
import Derived.Test.YtpliljcjjffipaaGreatDoorQTRef0
namespace Go.Proofs.YtpliljcjjffipaaGreatDoor.Tw
open Go.RowKit Go.Proofs.YtpliljcjjffipaaGreatDoor Go.Proofs.YtpliljcjjffipaaGreatDoor.Ww
set_option maxRecDepth 100000

abbrev PA : TypeId := 317
def zeroP : Array Value := #[.string ⟨#[]⟩, .bool false, .string ⟨#[]⟩, .string ⟨#[]⟩]
/-- A text that is cut: its cells. -/
def patOf (p : ByteArray) : Option Nat → Array Value
  | none => #[.string p, .bool false, .string p, .string ⟨#[]⟩]
  | some i => #[.string p, .bool true, .string (str ((by8 p).take i)), .string (str ((by8 p).drop (i + 1)))]
def patC (p : ByteArray) : Array Value := patOf p (Tp.atA (by8 p))
def patV (p : ByteArray) : Value := .agg (patC p)
theorem sizeA : (Tryz.prog.info? PA).map (·.size) = some 4 := by kernel_rfl
theorem undA : Tryz.prog.underlying PA = some (.struct (Tryz.prog.fieldsOf PA)) := by kernel_rfl
/-- The answer lies in a box. -/
theorem results_box {P : Program} {fn : Func} {p : Tmp} {ty : TypeId} (h : fn.results = #[.cell p ty]) (tmps : Array Value) (w : World) (g : Nat) (t : TypeId) (cs : Array Value) (fr : Nat × Nat) (d : TypeDesc)
    (hp : tmps.getD p undef = .pointer (some ⟨g, 0, none⟩)) (hg : w.heap[g]? = some (.cells cs t fr))
    (hu : P.underlying ty = some d) (hd : (match d with | .struct _ | .array _ _ => true | _ => false) = true) (hi : (P.info? ty).map (·.size) = some cs.size) :
    (results fn tmps).run P w = .ok (.agg cs) w := by
  have hp' : tmps[p]?.getD undef = .pointer (some ⟨g, 0, none⟩) := by simpa using hp
  simp [results, h, hp', asAddr, run_loadVar_row w g t ty cs fr d hg hu hd hi]
theorem heap_alloc_last (w : World) (o : Obj) : (w.alloc o).heap[w.heap.size]? = some o := Array.getElem?_push_size

set_option maxHeartbeats 2000000 in
theorem cut_in (w : World) (p a b : ByteArray) (q : Bool) (HC : ∀ W, Calls Tryz.prog 94 #[.string p, .string ⟨#[37]⟩] W fun e w' => e = .returned (.tuple #[.string a, .string b, .bool q]) ∧ Below W.heap.size W w') : Calls Tryz.prog 230 #[.string p] w fun e w' => e = .returned (.agg #[.string p, .bool q, .string a, .string b]) ∧ Below w.heap.size w w' := by
  have HC := Lib.hid HC
  go_enter Tryz.func230, Tryz.ntmps230
  go_wp2_with fail
  refine (HC.out _).mono ?_
  rintro e w1 ⟨rfl, B1⟩
  have HB := Lib.hid (((Below.refl w.heap.size w).alloc (Nat.le_refl _) (.cells zeroP PA)).trans (B1.mono (by simp)))
  have H1 := Lib.hid ((B1.block w.heap.size (by simp)).trans (heap_alloc_last w (.cells zeroP PA)))
  clear B1
  go_wp2_with (refine wpList_store_row rfl PA _ _ rfl w.heap.size #[.string p, .bool q, .string a, .string b] rfl rfl PA zeroP H1.out sizeA rfl (by simp [Value.oneCell']) ?_)
  (try simp only [Exit.inBlock, Exit.then])
  refine bodyPost_ret (results_box Tryz.results230 _ _ w.heap.size PA #[.string p, .bool q, .string a, .string b] (0, 0) _ rfl (setRow_heap _ _ _ _ _ _ H1.out) undA rfl sizeA) rfl ?_
  exact ⟨rfl, below_setRow HB.out (Nat.le_refl _) _⟩
theorem cut_any (w : World) (p : ByteArray) (hs : p.size ≤ 1000000) : Calls Tryz.prog 230 #[.string p] w fun e w' => e = .returned (patV p) ∧ Below w.heap.size w w' := by
  cases h : Tp.atA (by8 p) with
  | none =>
    refine (cut_in w p p ⟨#[]⟩ false fun W => Cut_no W p 37 (Tp.at_none h)).mono ?_
    rintro e w' ⟨rfl, hB⟩
    exact ⟨by unfold patV patC; rw [h]; rfl, hB⟩
  | some i =>
    refine (cut_in w p _ _ true fun W => Cut_yes W p hs 37 _ _ (Tp.at_split h).1 (Tp.at_split h).2).mono ?_
    rintro e w' ⟨rfl, hB⟩
    exact ⟨by unfold patV patC; rw [h]; rfl, hB⟩

theorem field_has (a b c d : Value) (w : World) : (Instr.field PA (.agg #[a, b, c, d]) 1).run Tryz.prog w = .ok b w := by kernel_rfl
set_option maxHeartbeats 2000000 in
theorem Has_any (w : World) (p : ByteArray) (hs : p.size ≤ 1000000) : Calls Tryz.prog 180 #[.string p] w fun e w' => e = .returned (.bool (Tp.atA (by8 p)).isSome) ∧ Below w.heap.size w w' := by
  have HC := Lib.hid fun W => cut_any W p hs
  obtain ⟨q, hq⟩ : ∃ q, (Tp.atA (by8 p)).isSome = q := ⟨_, rfl⟩
  obtain ⟨a, b, hp⟩ : ∃ a b, patV p = .agg #[.string p, .bool q, .string a, .string b] := by
    cases h : Tp.atA (by8 p) with
    | none => rw [h] at hq; exact ⟨_, _, by unfold patV patC; rw [h, ← hq]; rfl⟩
    | some i => rw [h] at hq; exact ⟨_, _, by unfold patV patC; rw [h, ← hq]; rfl⟩
  rw [hq]
  rw [hp] at HC
  clear hp hq
  have hf := fun W => field_has (.string p) (.bool q) (.string a) (.string b) W
  go_enter Tryz.func180, Tryz.ntmps180
  go_wp2_with fail
  refine (HC.out _).mono ?_
  rintro e w1 ⟨rfl, B1⟩
  go_wp2_with fail
  go_ret
  exact ⟨rfl, B1⟩
end Go.Proofs.YtpliljcjjffipaaGreatDoor.Tw
