/-
  What small callees of package path do: the last place of a byte in a slice.
-/
import Derived.WalkKit
import Derived.LoopTactic
import Derived.WalkSpells
import Derived.WalkLawsBesides
import Derived.Lib.Hide
import Derived.Lib.Walk
import Derived.Lib.Bytealg
import Derived.Outline
import Derived.Test.YtmmilnmlmgcobaaGreatDoorPaths
import Derived.Test.YtmmilnmlmgcobaaGreatDoorProg
namespace Go.Proofs.YtmmilnmlmgcobaaGreatDoor
open Go.RowKit
set_option maxRecDepth 100000

/-- Slice v holds the bytes l. -/
def Held (w : World) (g : Nat) (l : List UInt8) : Prop := ∀ j, j < l.length → w.cell? ⟨g, j, none⟩ = some (.int .u8 (l[j]?.getD 0).toNat)

theorem get_of {l : List UInt8} {j : Nat} (h : j < l.length) : l[j]? = some (l[j]?.getD 0) := by
  rw [List.getElem?_eq_getElem h]; rfl

set_option maxHeartbeats 1000000 in
theorem lastG_any (w : World) (g cap : Nat) (l : List UInt8) (hm : l.length ≤ 9223372036854775807) (hc : Held w g l) :
    Calls Tryz.prog 124 #[.slice (some ⟨g, 0, none⟩) l.length cap, .int .u8 47] w fun e w' => e = .returned (.int .i64 (Lib.Pa.lastIndexByte l 47)) ∧ w = w' := by
  go_enter Tryz.func124, Tryz.ntmps124
  go_wp2
  go_loop [5] (fun i => ∃ k : Nat, k ≤ l.length ∧ i = .int .i64 ((k : Int) - 1) ∧ Lib.Pa.lastIdx l 47 k = Lib.Pa.lastIndexByte l 47) (fun i => (intOf i + 1).toNat)
  case atStart => exact ⟨l.length, Nat.le_refl _, rfl, rfl⟩
  case round =>
    obtain ⟨k, hk, rfl, hl⟩ := hrel
    have HL := Lib.hid hl
    clear hl
    cases k with
    | zero =>
      go_wp2
      go_ret
      exact ⟨by rw [← HL.out]; rfl, rfl⟩
    | succ k =>
      have hcell := hc k (by omega)
      have hg := get_of (show k < l.length by omega)
      by_cases e : l[k]?.getD 0 = 47
      · rw [e] at hcell hg
        have HG := Lib.hid hg
        clear hg e
        go_wp2
        go_ret
        exact ⟨by rw [← HL.out, Lib.Pa.lastIdx, if_pos HG.out]; rfl, rfl⟩
      · have e2 : (((l[k]?.getD 0).toNat : Int) == 47) = false := by
          rw [beq_eq_false_iff_ne]
          intro h
          exact e (UInt8.toNat_inj.1 (by simpa using (by omega : (l[k]?.getD 0).toNat = 47)))
        have HG := Lib.hid hg
        have HE := Lib.hid e
        clear hg e
        go_wp2
        go_round
        case rel => exact ⟨k, by omega, by go_num, by rw [← HL.out, Lib.Pa.lastIdx, if_neg (by rw [HG.out]; simpa using HE.out)]⟩
        case measure => simp [intOf]

set_option maxHeartbeats 400000 in
theorem last_any (w : World) (g cap : Nat) (l : List UInt8) (hm : l.length ≤ 9223372036854775807) (hc : Held w g l) :
    Calls Tryz.prog 109 #[.slice (some ⟨g, 0, none⟩) l.length cap, .int .u8 47] w fun e w' => e = .returned (.int .i64 (Lib.Pa.lastIndexByte l 47)) ∧ w = w' := by
  have HC := Lib.hid hc
  clear hc
  go_enter Tryz.func109, Tryz.ntmps109
  go_wp2_with (go_at_call 124; refine (lastG_any _ g cap l hm HC.out).mono ?_; rintro e w' ⟨rfl, rfl⟩)
  go_ret
  exact ⟨rfl, rfl⟩

set_option maxHeartbeats 400000 in
/-- The place of the first slash. -/
theorem indexL_any (w : World) (s : ByteArray) :
    Calls Tryz.prog 135 #[.string s, .int .u8 47] w fun e w' => e = .returned (.int .i64 (Lib.indexByte s.data.toList 47)) ∧ w = w' := by
  go_enter Tryz.func135, Tryz.ntmps135
  go_wp2
  rw [run_callFunc_extern Tryz.func139 (by kernel_rfl) (by kernel_rfl) (by kernel_rfl) (e := Extern.BytealgIndexByte.indexByte) (by kernel_rfl), Lib.run_indexByteString]
  simp only [Result.andThen]
  rw [Oper.upon_value]
  go_wp2
  go_ret
  exact ⟨rfl, rfl⟩

set_option maxHeartbeats 400000 in
theorem indexS_any (w : World) (s : ByteArray) :
    Calls Tryz.prog 134 #[.string s, .string ⟨#[47]⟩] w fun e w' => e = .returned (.int .i64 (Lib.indexByte s.data.toList 47)) ∧ w = w' := by
  by_cases h : ([47] == s.toList) = true
  · have e : Lib.indexByte s.data.toList 47 = 0 := by
      have : s.toList = [47] := (eq_of_beq h).symm
      rw [← Lib.toList_data, this]
      rfl
    have HE := Lib.hid e
    clear e
    go_enter Tryz.func134, Tryz.ntmps134
    go_wp2_with (go_at_call 135; refine (indexL_any _ s).mono ?_; rintro e w' ⟨rfl, rfl⟩)
    go_ret
    exact ⟨by rw [HE.out]; rfl, rfl⟩
  · have h1 : ([47] == s.toList) = false := by simpa using h
    clear h
    go_enter Tryz.func134, Tryz.ntmps134
    go_wp2_with (go_at_call 135; refine (indexL_any _ s).mono ?_; rintro e w' ⟨rfl, rfl⟩)
    go_ret
    exact ⟨rfl, rfl⟩

set_option maxHeartbeats 400000 in
theorem index_any (w : World) (s : ByteArray) :
    Calls Tryz.prog 131 #[.string s, .string ⟨#[47]⟩] w fun e w' => e = .returned (.int .i64 (Lib.indexByte s.data.toList 47)) ∧ w = w' := by
  go_enter Tryz.func131, Tryz.ntmps131
  go_wp2_with (go_at_call 134; refine (indexS_any _ s).mono ?_; rintro e w' ⟨rfl, rfl⟩)
  go_ret
  exact ⟨rfl, rfl⟩
end Go.Proofs.YtmmilnmlmgcobaaGreatDoor
