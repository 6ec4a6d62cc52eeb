/-
  (*Store).Get and Read: what they return, and that nothing turns but new blocks.
  (*Store).place and put: the error of checking a place; a file of the next time.
  (*Store).put: a file of the next time.
-/
import Derived.Test.YtgednccpjegbmaaGreatDoorQSWorld
import Derived.StillTailTactics
import Derived.WalkSpells
import Derived.WalkLawsBesides
namespace Go.Proofs.YtgednccpjegbmaaGreatDoor.Sw
open Go.RowKit Go.Proofs.YtgednccpjegbmaaGreatDoor Go.Maps
set_option maxRecDepth 100000

def rootF : F := ⟨[46], [], 0, true⟩
/-- What is at a path. -/
def getR (L : List F) (p : List UInt8) : Option F := if p = [46] then some rootF else Sp.get L p
theorem getR_ne {L : List F} {p : List UInt8} (h : p ≠ [46]) : getR L p = Sp.get L p := if_neg h

set_option maxHeartbeats 400000 in
theorem Get_yes (w : World) {sb bm : Nat} {L : List F} {c : Int} (p : ByteArray) {f : F} (hS : StoreAt w sb bm L c) (hp : p.size ≤ maxLen) (hf : Hid (getR L (bs p) = some f)) :
    Calls Tryz.prog 39 #[.pointer (some ⟨sb, 0, none⟩), .string p] w fun e w' => e = .returned (.tuple #[fV f, .bool true]) ∧ Below w.heap.size w w' := by
  by_cases h0 : (p.toList == [46]) = true
  · have hr : rootF = f := by have := hf.out; rw [bs_is h0] at this; exact Option.some.inj this
    subst hr
    go_enter Tryz.func39, Tryz.ntmps39
    go_wp2
    exact bodyPost_ret (v := .tuple #[fV rootF, .bool true]) (by simp [results, Tryz.results39, go_sem]; rfl) rfl ⟨rfl, ((Below.refl _ w).alloc (Nat.le_refl _) _)⟩
  · have h0' : (p.toList == [46]) = false := by simpa using h0
    have hg : Hid (Sp.get L (bs p) = some f) := Lib.hid (by have := hf.out; rwa [getR_ne (bs_not h0')] at this)
    have c1 := hS.c1
    have hlt := hS.lt
    have hM := hS.map
    clear h0 hf hS
    go_enter Tryz.func39, Tryz.ntmps39
    go_wp2_with (at_lookup; refine wpList_look_yes _ rfl _ _ rfl rfl rfl (hM.alloc _) hp hg ?_)
    exact bodyPost_ret (v := .tuple #[fV f, .bool true]) (by simp [results, Tryz.results39, go_sem]; rfl) rfl ⟨rfl, (((Below.refl _ w).alloc (Nat.le_refl _) _).alloc (by simp) _)⟩

theorem Get_no (w : World) {sb bm : Nat} {L : List F} {c : Int} (p : ByteArray) (hS : StoreAt w sb bm L c) (hp : p.size ≤ maxLen) (hf : Hid (getR L (bs p) = none)) :
    Calls Tryz.prog 39 #[.pointer (some ⟨sb, 0, none⟩), .string p] w fun e w' => e = .returned (.tuple #[fV noF, .bool false]) ∧ Below w.heap.size w w' := by
  have hne : bs p ≠ [46] := fun e => by have := hf.out; rw [e] at this; cases this
  have h0' : (p.toList == [46]) = false := by rw [Lib.toList_data, beq_eq_false_iff_ne]; exact hne
  have hg : Hid (Sp.get L (bs p) = none) := Lib.hid (by have := hf.out; rwa [getR_ne hne] at this)
  have c1 := hS.c1
  have hlt := hS.lt
  have hM := hS.map
  clear hf hS hne
  go_enter Tryz.func39, Tryz.ntmps39
  go_wp2_with (at_lookup; refine wpList_look_no _ rfl _ _ rfl rfl rfl (hM.alloc _) hp hg ?_)
  exact bodyPost_ret (v := .tuple #[fV noF, .bool false]) (by simp [results, Tryz.results39, go_sem]; rfl) rfl ⟨rfl, (((Below.refl _ w).alloc (Nat.le_refl _) _).alloc (by simp) _)⟩

/-! ### Read -/
def ReadPost (w : World) (t : List UInt8) (code : Int) (e : Ending) (w' : World) : Prop := e = .returned (.tuple #[.string (str t), .int .i64 code]) ∧ Below w.heap.size w w'
/-- What Read answers. -/
def readA (r : Option F) : List UInt8 × Int := match r with
  | none => ([], 3)
  | some f => if f.d then ([], 4) else (f.t, 0)

theorem Read_any (w : World) {sb bm : Nat} {L : List F} {c : Int} (p : ByteArray) (r : Option F) (hS : StoreAt w sb bm L c) (hp : p.size ≤ maxLen) (hf : Hid (getR L (bs p) = r)) :
    Calls Tryz.prog 20 #[.pointer (some ⟨sb, 0, none⟩), .string p] w (ReadPost w (readA r).1 (readA r).2) := by
  cases r with
  | none =>
    go_enter Tryz.func20, Tryz.ntmps20
    go_wp2_with fail
    refine (Get_no _ p hS hp hf).mono ?_
    rintro e w1 ⟨rfl, B1⟩
    unfold fV
    go_wp2
    go_ret2
    exact ⟨rfl, B1.alloc B1.size _⟩
  | some f =>
    obtain ⟨fp, ft, fc, fd⟩ := f
    cases fd with
    | true =>
      go_enter Tryz.func20, Tryz.ntmps20
      go_wp2_with fail
      refine (Get_yes _ p hS hp hf).mono ?_
      rintro e w1 ⟨rfl, B1⟩
      unfold fV
      go_wp2
      go_ret2
      exact ⟨rfl, B1.alloc B1.size _⟩
    | false =>
      go_enter Tryz.func20, Tryz.ntmps20
      go_wp2_with fail
      refine (Get_yes _ p hS hp hf).mono ?_
      rintro e w1 ⟨rfl, B1⟩
      unfold fV
      go_wp2
      go_ret2
      exact ⟨rfl, B1.alloc B1.size _⟩
end Go.Proofs.YtgednccpjegbmaaGreatDoor.Sw
namespace Go.Proofs.YtgednccpjegbmaaGreatDoor.Sw
open Go.RowKit Go.Proofs.YtgednccpjegbmaaGreatDoor Go.Maps
set_option maxRecDepth 100000

def IntPost (w : World) (n : Int) (e : Ending) (w' : World) : Prop := e = .returned (.int .i64 n) ∧ Below w.heap.size w w'

theorem clean_is (w : World) (p : ByteArray) (b : Bool) (hs : p.size ≤ 1000000) (h : Hid (isPath (bs p) = b)) :
    Calls Tryz.prog 18 #[.string p] w fun e w' => e = .returned (.bool b) ∧ Below w.heap.size w w' := by
  have := Clean_any w p (by omega)
  rwa [h.out] at this
theorem dir_is (w : World) (p d : ByteArray) (hs : p.size ≤ 1000000) (h : Hid (dirL (bs p) = bs d)) :
    Calls Tryz.prog 38 #[.string p] w fun e w' => e = .returned (.string d) ∧ w = w' := by
  have := Dir_any w p hs
  rwa [h.out, str_bs] at this













































































































































end Go.Proofs.YtgednccpjegbmaaGreatDoor.Sw
namespace Go.Proofs.YtgednccpjegbmaaGreatDoor.Sw
open Go.RowKit Go.Proofs.YtgednccpjegbmaaGreatDoor Go.Maps
set_option maxRecDepth 100000












theorem file_new (w : World) (p t : List UInt8) (c : Int) (d : Bool) :
    (w.alloc (.cells #[.string (str p), .string (str t), .int .i64 c, .bool d] 31)).cell? ⟨w.heap.size, 0, none⟩ = some (.string (str p)) ∧
    (w.alloc (.cells #[.string (str p), .string (str t), .int .i64 c, .bool d] 31)).cell? ⟨w.heap.size, 1, none⟩ = some (.string (str t)) ∧
    (w.alloc (.cells #[.string (str p), .string (str t), .int .i64 c, .bool d] 31)).cell? ⟨w.heap.size, 2, none⟩ = some (.int .i64 c) ∧
    (w.alloc (.cells #[.string (str p), .string (str t), .int .i64 c, .bool d] 31)).cell? ⟨w.heap.size, 3, none⟩ = some (.bool d) := by
  refine ⟨?_, ?_, ?_, ?_⟩ <;> rw [World.cell?_alloc_at _ _ _ _ rfl] <;> rfl

































/-! ### a store's state, and what the calls make of it -/
structure St where
  L : List F
  c : Int
/-- What a call leaves: an error's number, a store, other blocks as they were. -/
def OpPost (w : World) (sb bm : Nat) (r : St × Int) (e : Ending) (w' : World) : Prop := e = .returned (.int .i64 r.2) ∧ StoreAt w' sb bm r.1.L r.1.c ∧ Kept [sb, bm] w w'

end Go.Proofs.YtgednccpjegbmaaGreatDoor.Sw
