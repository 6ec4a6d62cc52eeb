/-
  The reference's store: where a path stands.
-/
import Derived.Test.YtmmilnmlmgcobaaGreatDoorSList
import Derived.Test.YtmmilnmlmgcobaaGreatDoorSSort
import Derived.Sort.Walk0
namespace Go.Proofs.YtmmilnmlmgcobaaGreatDoor.Sw
open Go.RowKit Go.Proofs.YtmmilnmlmgcobaaGreatDoor Go.Maps Go.Sort
set_option maxRecDepth 100000

/-- What 'at' says from the k-th file on. -/
def posK (L : List F) (p : List UInt8) (k : Nat) : Nat × Bool := (k + (Sp.pos (L.drop k) p).1, (Sp.pos (L.drop k) p).2)
theorem posK_zero (L : List F) (p : List UInt8) : posK L p 0 = Sp.pos L p := by simp [posK]
theorem posK_end (L : List F) (p : List UInt8) {k : Nat} (h : L.length ≤ k) : posK L p k = (k, false) := by
  unfold posK; rw [List.drop_eq_nil_of_le h]; rfl
theorem posK_is {L : List F} {p : List UInt8} {k : Nat} (h : k < L.length) (e : L[k].p = p) : posK L p k = (k, true) := by
  unfold posK; rw [List.drop_eq_getElem_cons h, Sp.pos, if_pos e]; rfl
theorem posK_past {L : List F} {p : List UInt8} {k : Nat} (h : k < L.length) (e : L[k].p ≠ p) (e2 : p < L[k].p) : posK L p k = (k, false) := by
  unfold posK; rw [List.drop_eq_getElem_cons h, Sp.pos, if_neg e, if_pos e2]; rfl
theorem posK_next {L : List F} {p : List UInt8} {k : Nat} (h : k < L.length) (e : L[k].p ≠ p) (e2 : ¬ p < L[k].p) : posK L p k = posK L p (k + 1) := by
  unfold posK; rw [List.drop_eq_getElem_cons h, Sp.pos, if_neg e, if_neg e2]; simp; omega

def AtPost (w : World) (r : Nat × Bool) (e : Ending) (w' : World) : Prop := e = .returned (.tuple #[.int .i64 r.1, .bool r.2]) ∧ Below w.heap.size w w'

def mCells (v : Value) (c : Int) : Obj := .cells #[v, .int .i64 c] 34

set_option maxHeartbeats 1000000 in
theorem at_row (w : World) (b o cp : Nat) (c : Int) (L : List F) (p : ByteArray) (hl : L.length ≤ 100000) (hb : b < w.heap.size)
    (hC : Hid (∀ j, (h : j < L.length) → w.cell? ⟨b, o + j * 4, none⟩ = some (.string (str L[j].p)))) :
    Calls Tryz.prog 21 #[.agg #[.slice (some ⟨b, o, none⟩) L.length cp, .int .i64 c], .string p] w (AtPost w (Sp.pos L (bs p))) := by
  have hB := (Below.refl w.heap.size w).alloc (Nat.le_refl _) (.cells #[.slice (some ⟨b, o, none⟩) L.length cp, .int .i64 c] 34)
  go_enter Tryz.func21, Tryz.ntmps21
  go_wp2
  go_loopw [6] (fun v wr => ∃ k : Nat, k ≤ L.length ∧ v = .int .i64 k ∧ wr = w.alloc (.cells #[.slice (some ⟨b, o, none⟩) L.length cp, .int .i64 c] 34) ∧ Hid (Sp.pos L (bs p) = posK L (bs p) k)) (fun v _ => L.length - (intOf v).toNat)
  case atStart => exact ⟨0, by omega, rfl, rfl, Lib.hid (posK_zero _ _).symm⟩
  case round =>
    obtain ⟨k, hk, rfl, rfl, HP⟩ := hrel
    by_cases hlt : k < L.length
    · have hc0 := hC.out k hlt
      have hck : (w.alloc (.cells #[.slice (some ⟨b, o, none⟩) L.length cp, .int .i64 c] 34)).cell? ⟨b, o + k * 4, none⟩ = some (.string (str L[k].p)) := ((Kept.of_below (X := []) hB).cell (p := ⟨b, o + k * 4, none⟩) hb (by simp)).trans hc0
      obtain ⟨q, hq⟩ : ∃ q, str L[k].p = q := ⟨_, rfl⟩
      have hki : (k : Int) < L.length := by omega
      have hqp : L[k].p = bs q := by rw [← hq, bs_str]
      rw [hq] at hck
      have hqh := Lib.hid hqp
      clear hc0 hq hqp
      by_cases h1 : (q.toList == p.toList) = true
      · have HE : Hid (Sp.pos L (bs p) = (k, true)) := Lib.hid (HP.out.trans (posK_is hlt (by rw [hqh.out]; rw [Lib.toList_data, Lib.toList_data] at h1; exact eq_of_beq h1)))
        go_wp2
        go_ret2
        exact ⟨by rw [HE.out]; rfl, hB⟩
      · have hne : L[k].p ≠ bs p := by rw [hqh.out]; intro e; apply h1; rw [Lib.toList_data, Lib.toList_data]; exact beq_iff_eq.2 e
        by_cases h2 : Op.bytesLess q.toList p.toList = true
        · have HN : Hid (Sp.pos L (bs p) = posK L (bs p) (k + 1)) := Lib.hid (HP.out.trans (posK_next hlt hne (by
            rw [hqh.out]
            rw [bytesLess_eq, Lib.toList_data, Lib.toList_data, decide_eq_true_eq] at h2
            exact fun h => Sp.lt_irr _ (Sp.lt_tr h h2))))
          clear hne
          go_wp2
          refine ⟨⟨k + 1, by omega, by go_num, trivial, HN⟩, ?_⟩
          simp [intOf]; omega
        · have HE : Hid (Sp.pos L (bs p) = (k, false)) := Lib.hid (HP.out.trans (posK_past hlt hne (by
            rw [hqh.out]
            rw [hqh.out] at hne
            rw [bytesLess_eq, Lib.toList_data, Lib.toList_data, decide_eq_true_eq] at h2
            exact Sp.lt_or h2 hne)))
          clear hne
          go_wp2
          go_ret2
          exact ⟨by rw [HE.out]; rfl, hB⟩
    · obtain rfl : k = L.length := by omega
      have HE := Lib.hid (HP.out.trans (posK_end L (bs p) (Nat.le_refl _)))
      go_wp2
      go_ret2
      exact ⟨by rw [HE.out]; rfl, hB⟩

theorem at_none (w : World) (a : Option Addr) (cp : Nat) (c : Int) (p : ByteArray) :
    Calls Tryz.prog 21 #[.agg #[.slice a 0 cp, .int .i64 c], .string p] w (AtPost w (0, false)) := by
  have hB := (Below.refl w.heap.size w).alloc (Nat.le_refl _) (.cells #[.slice a 0 cp, .int .i64 c] 34)
  go_enter Tryz.func21, Tryz.ntmps21
  go_wp2
  go_loopw [6] (fun v wr => v = .int .i64 0 ∧ wr = w.alloc (.cells #[.slice a 0 cp, .int .i64 c] 34)) (fun _ _ => 0)
  case atStart => exact ⟨rfl, rfl⟩
  case round =>
    obtain ⟨rfl, rfl⟩ := hrel
    go_wp2
    go_ret2
    exact ⟨rfl, hB⟩

theorem at_any (w : World) (v : Value) (c : Int) (L : List F) (p : ByteArray) (hl : L.length ≤ 100000) (hF : Files w v L) :
    Calls Tryz.prog 21 #[.agg #[v, .int .i64 c], .string p] w (AtPost w (Sp.pos L (bs p))) := by
  rcases hF with ⟨rfl, a, cp, rfl⟩ | ⟨b, o, cp, rfl, hb, hC⟩
  · exact at_none w a cp c p
  · exact at_row w b o cp c L p hl hb (Lib.hid fun j hj => (hC j hj).1)
end Go.Proofs.YtmmilnmlmgcobaaGreatDoor.Sw
