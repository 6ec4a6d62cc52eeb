/-
  flatironref13.Takes: how many texts a function takes.
-/
import Derived.Test.YtenokbceamcekaaGreatDoorQEOne
namespace Go.Proofs.YtenokbceamcekaaGreatDoor.Ew
open Go.RowKit Go.Proofs.YtenokbceamcekaaGreatDoor Go.Proofs.YtenokbceamcekaaGreatDoor.Ww Go.Proofs.YtenokbceamcekaaGreatDoor.Tw
set_option maxRecDepth 100000

/-- How many texts a function takes. -/
def takesN : Nat → Nat
  | 0 => 3
  | 1 => 3
  | 2 => 1
  | 3 => 2
  | 4 => 2
  | 5 => 2
  | 6 => 1
  | 7 => 2
  | 8 => 1
  | 9 => 3
  | 10 => 1
  | 11 => 1
  | 12 => 1
  | 13 => 1
  | 14 => 1
  | 15 => 1
  | 16 => 2
  | 17 => 2
  | _ => 2
set_option maxHeartbeats 2000000 in
theorem takes0 (w : World) : Calls Tryz.prog 23 #[.string ⟨#[115, 117, 98, 115, 116]⟩] w fun e w' => e = .returned (.int .i64 3) ∧ w = w' := by
  go_enter Tryz.func23, Tryz.ntmps23
  go_wp2_with fail
  go_ret
  exact ⟨rfl, rfl⟩
set_option maxHeartbeats 2000000 in
theorem takes1 (w : World) : Calls Tryz.prog 23 #[.string ⟨#[112, 97, 116, 115, 117, 98, 115, 116]⟩] w fun e w' => e = .returned (.int .i64 3) ∧ w = w' := by
  go_enter Tryz.func23, Tryz.ntmps23
  go_wp2_with fail
  go_ret
  exact ⟨rfl, rfl⟩
set_option maxHeartbeats 2000000 in
theorem takes2 (w : World) : Calls Tryz.prog 23 #[.string ⟨#[115, 116, 114, 105, 112]⟩] w fun e w' => e = .returned (.int .i64 1) ∧ w = w' := by
  go_enter Tryz.func23, Tryz.ntmps23
  go_wp2_with fail
  go_ret
  exact ⟨rfl, rfl⟩
set_option maxHeartbeats 2000000 in
theorem takes3 (w : World) : Calls Tryz.prog 23 #[.string ⟨#[102, 105, 110, 100, 115, 116, 114, 105, 110, 103]⟩] w fun e w' => e = .returned (.int .i64 2) ∧ w = w' := by
  go_enter Tryz.func23, Tryz.ntmps23
  go_wp2_with fail
  go_ret
  exact ⟨rfl, rfl⟩
set_option maxHeartbeats 2000000 in
theorem takes4 (w : World) : Calls Tryz.prog 23 #[.string ⟨#[102, 105, 108, 116, 101, 114]⟩] w fun e w' => e = .returned (.int .i64 2) ∧ w = w' := by
  go_enter Tryz.func23, Tryz.ntmps23
  go_wp2_with fail
  go_ret
  exact ⟨rfl, rfl⟩
set_option maxHeartbeats 2000000 in
theorem takes5 (w : World) : Calls Tryz.prog 23 #[.string ⟨#[102, 105, 108, 116, 101, 114, 45, 111, 117, 116]⟩] w fun e w' => e = .returned (.int .i64 2) ∧ w = w' := by
  go_enter Tryz.func23, Tryz.ntmps23
  go_wp2_with fail
  go_ret
  exact ⟨rfl, rfl⟩
set_option maxHeartbeats 2000000 in
theorem takes6 (w : World) : Calls Tryz.prog 23 #[.string ⟨#[115, 111, 114, 116]⟩] w fun e w' => e = .returned (.int .i64 1) ∧ w = w' := by
  go_enter Tryz.func23, Tryz.ntmps23
  go_wp2_with fail
  go_ret
  exact ⟨rfl, rfl⟩
set_option maxHeartbeats 2000000 in
theorem takes7 (w : World) : Calls Tryz.prog 23 #[.string ⟨#[119, 111, 114, 100]⟩] w fun e w' => e = .returned (.int .i64 2) ∧ w = w' := by
  go_enter Tryz.func23, Tryz.ntmps23
  go_wp2_with fail
  go_ret
  exact ⟨rfl, rfl⟩
set_option maxHeartbeats 2000000 in
theorem takes8 (w : World) : Calls Tryz.prog 23 #[.string ⟨#[119, 111, 114, 100, 115]⟩] w fun e w' => e = .returned (.int .i64 1) ∧ w = w' := by
  go_enter Tryz.func23, Tryz.ntmps23
  go_wp2_with fail
  go_ret
  exact ⟨rfl, rfl⟩
set_option maxHeartbeats 2000000 in
theorem takes9 (w : World) : Calls Tryz.prog 23 #[.string ⟨#[119, 111, 114, 100, 108, 105, 115, 116]⟩] w fun e w' => e = .returned (.int .i64 3) ∧ w = w' := by
  go_enter Tryz.func23, Tryz.ntmps23
  go_wp2_with fail
  go_ret
  exact ⟨rfl, rfl⟩
set_option maxHeartbeats 2000000 in
theorem takes10 (w : World) : Calls Tryz.prog 23 #[.string ⟨#[102, 105, 114, 115, 116, 119, 111, 114, 100]⟩] w fun e w' => e = .returned (.int .i64 1) ∧ w = w' := by
  go_enter Tryz.func23, Tryz.ntmps23
  go_wp2_with fail
  go_ret
  exact ⟨rfl, rfl⟩
set_option maxHeartbeats 2000000 in
theorem takes11 (w : World) : Calls Tryz.prog 23 #[.string ⟨#[108, 97, 115, 116, 119, 111, 114, 100]⟩] w fun e w' => e = .returned (.int .i64 1) ∧ w = w' := by
  go_enter Tryz.func23, Tryz.ntmps23
  go_wp2_with fail
  go_ret
  exact ⟨rfl, rfl⟩
set_option maxHeartbeats 2000000 in
theorem takes12 (w : World) : Calls Tryz.prog 23 #[.string ⟨#[100, 105, 114]⟩] w fun e w' => e = .returned (.int .i64 1) ∧ w = w' := by
  go_enter Tryz.func23, Tryz.ntmps23
  go_wp2_with fail
  go_ret
  exact ⟨rfl, rfl⟩
set_option maxHeartbeats 2000000 in
theorem takes13 (w : World) : Calls Tryz.prog 23 #[.string ⟨#[110, 111, 116, 100, 105, 114]⟩] w fun e w' => e = .returned (.int .i64 1) ∧ w = w' := by
  go_enter Tryz.func23, Tryz.ntmps23
  go_wp2_with fail
  go_ret
  exact ⟨rfl, rfl⟩
set_option maxHeartbeats 2000000 in
theorem takes14 (w : World) : Calls Tryz.prog 23 #[.string ⟨#[115, 117, 102, 102, 105, 120]⟩] w fun e w' => e = .returned (.int .i64 1) ∧ w = w' := by
  go_enter Tryz.func23, Tryz.ntmps23
  go_wp2_with fail
  go_ret
  exact ⟨rfl, rfl⟩
set_option maxHeartbeats 2000000 in
theorem takes15 (w : World) : Calls Tryz.prog 23 #[.string ⟨#[98, 97, 115, 101, 110, 97, 109, 101]⟩] w fun e w' => e = .returned (.int .i64 1) ∧ w = w' := by
  go_enter Tryz.func23, Tryz.ntmps23
  go_wp2_with fail
  go_ret
  exact ⟨rfl, rfl⟩
set_option maxHeartbeats 2000000 in
theorem takes16 (w : World) : Calls Tryz.prog 23 #[.string ⟨#[97, 100, 100, 112, 114, 101, 102, 105, 120]⟩] w fun e w' => e = .returned (.int .i64 2) ∧ w = w' := by
  go_enter Tryz.func23, Tryz.ntmps23
  go_wp2_with fail
  go_ret
  exact ⟨rfl, rfl⟩
set_option maxHeartbeats 2000000 in
theorem takes17 (w : World) : Calls Tryz.prog 23 #[.string ⟨#[97, 100, 100, 115, 117, 102, 102, 105, 120]⟩] w fun e w' => e = .returned (.int .i64 2) ∧ w = w' := by
  go_enter Tryz.func23, Tryz.ntmps23
  go_wp2_with fail
  go_ret
  exact ⟨rfl, rfl⟩
set_option maxHeartbeats 2000000 in
theorem takes18 (w : World) : Calls Tryz.prog 23 #[.string ⟨#[106, 111, 105, 110]⟩] w fun e w' => e = .returned (.int .i64 2) ∧ w = w' := by
  go_enter Tryz.func23, Tryz.ntmps23
  go_wp2_with fail
  go_ret
  exact ⟨rfl, rfl⟩
/-- No function's name. -/
def NoFn (f : ByteArray) : Prop := ∀ k, k < 19 → f ≠ nm k
theorem no_name {f : ByteArray} (h : NoFn f) {k : Nat} (hk : k < 19) {l : List UInt8} (hl : by8 (nm k) = l) : (f.toList == l) = false := by
  rw [toList_by8]
  refine beq_eq_false_iff_ne.2 fun e => h k hk (by8_ext ?_)
  rw [e, hl]
set_option maxHeartbeats 2000000 in
theorem takes_none (w : World) (f : ByteArray) (h : NoFn f) : Calls Tryz.prog 23 #[.string f] w fun e w' => e = .returned (.int .i64 0) ∧ w = w' := by
  have h0 : (f.toList == [115, 117, 98, 115, 116]) = false := no_name h (k := 0) (by decide) rfl
  have h1 : (f.toList == [112, 97, 116, 115, 117, 98, 115, 116]) = false := no_name h (k := 1) (by decide) rfl
  have h2 : (f.toList == [115, 116, 114, 105, 112]) = false := no_name h (k := 2) (by decide) rfl
  have h3 : (f.toList == [102, 105, 110, 100, 115, 116, 114, 105, 110, 103]) = false := no_name h (k := 3) (by decide) rfl
  have h4 : (f.toList == [102, 105, 108, 116, 101, 114]) = false := no_name h (k := 4) (by decide) rfl
  have h5 : (f.toList == [102, 105, 108, 116, 101, 114, 45, 111, 117, 116]) = false := no_name h (k := 5) (by decide) rfl
  have h6 : (f.toList == [115, 111, 114, 116]) = false := no_name h (k := 6) (by decide) rfl
  have h7 : (f.toList == [119, 111, 114, 100]) = false := no_name h (k := 7) (by decide) rfl
  have h8 : (f.toList == [119, 111, 114, 100, 115]) = false := no_name h (k := 8) (by decide) rfl
  have h9 : (f.toList == [119, 111, 114, 100, 108, 105, 115, 116]) = false := no_name h (k := 9) (by decide) rfl
  have h10 : (f.toList == [102, 105, 114, 115, 116, 119, 111, 114, 100]) = false := no_name h (k := 10) (by decide) rfl
  have h11 : (f.toList == [108, 97, 115, 116, 119, 111, 114, 100]) = false := no_name h (k := 11) (by decide) rfl
  have h12 : (f.toList == [100, 105, 114]) = false := no_name h (k := 12) (by decide) rfl
  have h13 : (f.toList == [110, 111, 116, 100, 105, 114]) = false := no_name h (k := 13) (by decide) rfl
  have h14 : (f.toList == [115, 117, 102, 102, 105, 120]) = false := no_name h (k := 14) (by decide) rfl
  have h15 : (f.toList == [98, 97, 115, 101, 110, 97, 109, 101]) = false := no_name h (k := 15) (by decide) rfl
  have h16 : (f.toList == [97, 100, 100, 112, 114, 101, 102, 105, 120]) = false := no_name h (k := 16) (by decide) rfl
  have h17 : (f.toList == [97, 100, 100, 115, 117, 102, 102, 105, 120]) = false := no_name h (k := 17) (by decide) rfl
  have h18 : (f.toList == [106, 111, 105, 110]) = false := no_name h (k := 18) (by decide) rfl
  clear h
  go_enter Tryz.func23, Tryz.ntmps23
  go_wp2_with fail
  go_ret
  exact ⟨rfl, rfl⟩
theorem fn_cases (f : ByteArray) : NoFn f ∨ ∃ k, k < 19 ∧ f = nm k := by
  by_cases h : ∃ k, k < 19 ∧ f = nm k
  · exact .inr h
  · exact .inl fun k hk e => h ⟨k, hk, e⟩
end Go.Proofs.YtenokbceamcekaaGreatDoor.Ew
