/-
  (*Store).Get and Read: what they return, and that nothing turns but new blocks.
-/
import Derived.Test.YtmmilnmlmgcobaaGreatDoorSWorld
namespace Go.Proofs.YtmmilnmlmgcobaaGreatDoor.Sw
open Go.RowKit Go.Proofs.YtmmilnmlmgcobaaGreatDoor Go.Maps
set_option maxRecDepth 100000

def rootF : F := ⟨[46], [], 0, true⟩
/-- What is at a path. -/
def getR (L : List F) (p : List UInt8) : Option F := if p = [46] then some rootF else Sp.get L p
theorem getR_root (L : List F) : getR L [46] = some rootF := rfl
theorem getR_ne {L : List F} {p : List UInt8} (h : p ≠ [46]) : getR L p = Sp.get L p := if_neg h

theorem Get_nil (w : World) (p : ByteArray) :
    Calls Tryz.prog 37 #[.pointer none, .string p] w fun e w' => e = .returned (.tuple #[fV noF, .bool false]) ∧ Below w.heap.size w w' := by
  go_enter Tryz.func37, Tryz.ntmps37
  go_wp2
  exact bodyPost_ret (v := .tuple #[fV noF, .bool false]) (by simp [results, Tryz.results37, go_sem]; rfl) rfl ⟨rfl, ((Below.refl _ w).alloc (Nat.le_refl _) _)⟩

set_option maxHeartbeats 400000 in
theorem Get_yes (w : World) {sb bm : Nat} {L : List F} {c : Int} (p : ByteArray) {f : F} (hS : StoreAt w sb bm L c) (hp : p.size ≤ maxLen) (hf : Hid (getR L (bs p) = some f)) :
    Calls Tryz.prog 37 #[.pointer (some ⟨sb, 0, none⟩), .string p] w fun e w' => e = .returned (.tuple #[fV f, .bool true]) ∧ Below w.heap.size w w' := by
  by_cases h0 : (p.toList == [46]) = true
  · have hr : rootF = f := by have := hf.out; rw [bs_is h0] at this; exact Option.some.inj this
    subst hr
    go_enter Tryz.func37, Tryz.ntmps37
    go_wp2
    exact bodyPost_ret (v := .tuple #[fV rootF, .bool true]) (by simp [results, Tryz.results37, go_sem]; rfl) rfl ⟨rfl, ((Below.refl _ w).alloc (Nat.le_refl _) _)⟩
  · have h0' : (p.toList == [46]) = false := by simpa using h0
    have hg : Hid (Sp.get L (bs p) = some f) := Lib.hid (by have := hf.out; rwa [getR_ne (bs_not h0')] at this)
    have c1 := hS.c1
    have hlt := hS.lt
    have hM := hS.map
    clear h0 hf hS
    go_enter Tryz.func37, Tryz.ntmps37
    go_wp2_with (at_lookup; refine wpList_look_yes _ rfl _ _ rfl rfl rfl (hM.alloc _) hp hg ?_)
    exact bodyPost_ret (v := .tuple #[fV f, .bool true]) (by simp [results, Tryz.results37, go_sem]; rfl) rfl ⟨rfl, (((Below.refl _ w).alloc (Nat.le_refl _) _).alloc (by simp) _)⟩

theorem Get_no (w : World) {sb bm : Nat} {L : List F} {c : Int} (p : ByteArray) (hS : StoreAt w sb bm L c) (hp : p.size ≤ maxLen) (hf : Hid (getR L (bs p) = none)) :
    Calls Tryz.prog 37 #[.pointer (some ⟨sb, 0, none⟩), .string p] w fun e w' => e = .returned (.tuple #[fV noF, .bool false]) ∧ Below w.heap.size w w' := by
  have hne : bs p ≠ [46] := fun e => by have := hf.out; rw [e] at this; cases this
  have h0' : (p.toList == [46]) = false := by rw [Lib.toList_data, beq_eq_false_iff_ne]; exact hne
  have hg : Hid (Sp.get L (bs p) = none) := Lib.hid (by have := hf.out; rwa [getR_ne hne] at this)
  have c1 := hS.c1
  have hlt := hS.lt
  have hM := hS.map
  clear hf hS hne
  go_enter Tryz.func37, Tryz.ntmps37
  go_wp2_with (at_lookup; refine wpList_look_no _ rfl _ _ rfl rfl rfl (hM.alloc _) hp hg ?_)
  exact bodyPost_ret (v := .tuple #[fV noF, .bool false]) (by simp [results, Tryz.results37, go_sem]; rfl) rfl ⟨rfl, (((Below.refl _ w).alloc (Nat.le_refl _) _).alloc (by simp) _)⟩

/-! ### Read -/
def ReadPost (w : World) (t : List UInt8) (code : Int) (e : Ending) (w' : World) : Prop := e = .returned (.tuple #[.string (str t), .int .i64 code]) ∧ Below w.heap.size w w'
/-- What Read answers. -/
def readA (r : Option F) : List UInt8 × Int := match r with
  | none => ([], 3)
  | some f => if f.d then ([], 4) else (f.t, 0)

theorem Read_nil (w : World) (p : ByteArray) :
    Calls Tryz.prog 15 #[.pointer none, .string p] w fun e w' => e = .returned (.tuple #[.string ⟨#[]⟩, .int .i64 3]) ∧ Below w.heap.size w w' := by
  go_enter Tryz.func15, Tryz.ntmps15
  go_wp2_with fail
  refine (Get_nil _ p).mono ?_
  rintro e w1 ⟨rfl, B1⟩
  unfold fV
  go_wp2
  go_ret2
  exact ⟨rfl, B1.alloc B1.size _⟩

theorem Read_any (w : World) {sb bm : Nat} {L : List F} {c : Int} (p : ByteArray) (r : Option F) (hS : StoreAt w sb bm L c) (hp : p.size ≤ maxLen) (hf : Hid (getR L (bs p) = r)) :
    Calls Tryz.prog 15 #[.pointer (some ⟨sb, 0, none⟩), .string p] w (ReadPost w (readA r).1 (readA r).2) := by
  cases r with
  | none =>
    go_enter Tryz.func15, Tryz.ntmps15
    go_wp2_with fail
    refine (Get_no _ p hS hp hf).mono ?_
    rintro e w1 ⟨rfl, B1⟩
    unfold fV
    go_wp2
    go_ret2
    exact ⟨rfl, B1.alloc B1.size _⟩
  | some f =>
    obtain ⟨fp, ft, fc, fd⟩ := f
    cases fd with
    | true =>
      go_enter Tryz.func15, Tryz.ntmps15
      go_wp2_with fail
      refine (Get_yes _ p hS hp hf).mono ?_
      rintro e w1 ⟨rfl, B1⟩
      unfold fV
      go_wp2
      go_ret2
      exact ⟨rfl, B1.alloc B1.size _⟩
    | false =>
      go_enter Tryz.func15, Tryz.ntmps15
      go_wp2_with fail
      refine (Get_yes _ p hS hp hf).mono ?_
      rintro e w1 ⟨rfl, B1⟩
      unfold fV
      go_wp2
      go_ret2
      exact ⟨rfl, B1.alloc B1.size _⟩
end Go.Proofs.YtmmilnmlmgcobaaGreatDoor.Sw
