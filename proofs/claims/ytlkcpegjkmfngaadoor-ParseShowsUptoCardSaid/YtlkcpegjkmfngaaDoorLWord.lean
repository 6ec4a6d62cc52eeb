/-
  lex.firstWord: the word with which a line begins.
-/
import Derived.Lib.IndexAny
import Derived.Deep.RegionHeld3
import Derived.RegionTactic
import Derived.Test.YtlkcpegjkmfngaaDoorShelf
import Derived.Test.YtlkcpegjkmfngaaDoorLTake2
namespace Go.Proofs.YtlkcpegjkmfngaaDoor.Lx
open Go.RowKit Go.Proofs.YtlkcpegjkmfngaaDoor
set_option maxRecDepth 100000

/-- The bytes that end a word. -/
def endsS : ByteArray := ⟨#[32, 9, 10, 59, 38, 124, 60, 62]⟩
def specS : ByteArray := ⟨#[32, 9, 10, 59, 38, 124, 60, 62, 39, 34, 92]⟩
theorem index_neg {l : List UInt8} {c : UInt8} : Lib.indexByte l c < 0 ↔ l.contains c = false := by
  rw [Lib.contains_iff_indexByte, decide_eq_false_iff_not]
  omega
theorem ends_is (c : UInt8) : (by8 endsS).contains c = Lp.endB c := by
  show List.contains [32, 9, 10, 59, 38, 124, 60, 62] c = _
  simp only [List.contains_cons, List.contains_nil, Bool.or_false, Lp.endB, Lp.blankB, Bool.or_assoc]
theorem spec_is (c : UInt8) : (by8 specS).contains c = Lp.specB c := by
  show List.contains [32, 9, 10, 59, 38, 124, 60, 62, 39, 34, 92] c = _
  simp only [List.contains_cons, List.contains_nil, Bool.or_false, Lp.specB, Lp.endB, Lp.blankB, Bool.or_assoc]

theorem IndexByte_is (s : ByteArray) (c : UInt8) (w : World) :
    Calls Tryd.prog 51 #[.string s, .int .u8 (c.toNat : Int)] w fun e w' => e = .returned (.int .i64 (Lib.indexByte (by8 s) c)) ∧ w = w' := by
  refine (Tryd.strings_IndexByte s (c.toNat : Int) w).mono fun e w' ⟨he, hw⟩ => ⟨?_, hw.symm⟩
  rw [he]
  have e : ((c.toNat : Int)).toNat.toUInt8 = c := by simp
  rw [e]; rfl
theorem among_any (w : World) (s : ByteArray) (c : UInt8) : Calls Tryd.prog 40 #[.string s, .int .u8 (c.toNat : Int)] w fun e w' => e = .returned (.bool ((by8 s).contains c)) ∧ w = w' := by
  have hI := IndexByte_is s c w
  have hge := Lib.indexByte_ge (by8 s) c
  have hn := index_neg (l := by8 s) (c := c)
  generalize Lib.indexByte (by8 s) c = i at *
  by_cases h : 0 ≤ i
  · have HT : Hid ((by8 s).contains c = true) := Lib.hid (by
      cases hc : (by8 s).contains c with
      | true => rfl
      | false => have := hn.2 hc; omega)
    clear hn
    go_enter Tryd.func40, Tryd.ntmps40
    go_wp2_with fail
    refine hI.mono ?_
    rintro e w' ⟨rfl, rfl⟩
    go_wp2_with fail
    go_ret
    exact ⟨by rw [HT.out]; rfl, rfl⟩
  · have HT : Hid ((by8 s).contains c = false) := Lib.hid (hn.1 (by omega))
    have hd : decide (0 ≤ i) = false := decide_eq_false h
    clear hn
    go_enter Tryd.func40, Tryd.ntmps40
    go_wp2_with fail
    refine hI.mono ?_
    rintro e w' ⟨rfl, rfl⟩
    go_wp2_with fail
    go_ret
    exact ⟨by rw [HT.out, ← hd]; rfl, rfl⟩

theorem WAt.later {w w' : World} {b : Nat} {X : Lp.W} (h : WAt w b X) (hB : Below w.heap.size w w') : WAt w' b X := by
  have hlt := h.lt
  obtain ⟨a, c, H, hrow⟩ := h
  exact ⟨a, c, (hB.block b hlt).trans H, owns_below hrow hB⟩
theorem WAt.alloc {w : World} {b : Nat} {X : Lp.W} (h : WAt w b X) (o : Obj) : WAt (w.alloc o) b X := h.later ((Below.refl _ _).alloc (Nat.le_refl _) o)

theorem set_two {w : World} {n : Nat} {x y : Value} {T : TypeId} (H : w.heap[n]? = some (.cells #[x, y] T (0, 0))) (u v : Value) : (w.setCell ⟨n, 0, none⟩ u).cell? ⟨n, 0, none⟩ = some u ∧ ((w.setCell ⟨n, 0, none⟩ u).setCell ⟨n, 1, none⟩ v).cell? ⟨n, 1, none⟩ = some v :=
  ⟨cell_at (heap_set3 H u) rfl, cell_at (heap_set3 (heap_set3 H u) v) rfl⟩
theorem str_drop (s : ByteArray) (k : Nat) : str ((by8 s).drop k) = s.extract k s.size := by rw [← by8_drop, str_by8]
def wordV : Option (Bs × Bs) → Value
  | none => .tuple #[.agg #[.int .i64 0, .string ⟨#[]⟩], .string ⟨#[]⟩, .bool false]
  | some p => .tuple #[.agg #[.int .i64 0, .string (str p.1)], .string (str p.2), .bool true]
def WordPost (w : World) (o : Option (Bs × Bs)) (e : Ending) (w' : World) : Prop := e = .returned (wordV o) ∧ Below w.heap.size w w'

/-- What the loop's head knows. -/
def WordRel (w : World) (s : ByteArray) (v : Value) (wr : World) : Prop :=
  ∃ (k : Nat) (X : Lp.W), v = .int .i64 k ∧ k ≤ s.size ∧ WAt wr (w.heap.size + 1) X ∧ Lp.wordA Lp.word0 (by8 s) = Lp.wordA X ((by8 s).drop k) ∧ X.t.length ≤ 2 * k ∧
    wr.heap[w.heap.size]? = some (.cells #[.int .i64 0, .string ⟨#[]⟩] 63 (0, 0)) ∧ Below w.heap.size w wr

theorem take_len (X : Lp.W) (c : UInt8) : (Lp.takeA X c).t.length ≤ X.t.length + 2 := by
  unfold Lp.takeA
  split
  · split <;> simp
  · split
    · simp
    · split
      · split
        · simp
        · split <;> simp
      · simp

set_option maxHeartbeats 2000000 in
theorem firstWord_any (w : World) (s : ByteArray) (hs : s.size ≤ 100000) : Calls Tryd.prog 41 #[.string s] w (WordPost w (Lp.wordA Lp.word0 (by8 s))) := by
  go_enter Tryd.func41, Tryd.ntmps41
  go_wp2_with fail
  go_loopw [9] (fun v wr => WordRel w s v wr) (fun v _ => s.size - (intOf v).toNat)
  case atStart =>
    refine ⟨0, Lp.word0, rfl, Nat.zero_le _, ⟨none, 0, heap_new _ _ (by simp), World.ownsRow_nil _ _ _ _⟩, rfl, Nat.zero_le _, ?_, ((Below.refl _ _).alloc (Nat.le_refl _) _).alloc (by simp) _⟩
    exact (Below.heap_alloc _ _ _ (by simp)).trans (heap_new _ _ rfl)
  case round =>
    obtain ⟨k, X, rfl, hk, hW, hword, hlen, H0, hB⟩ := hrel
    by_cases hlt : k < s.size
    · have hopen := open_any wr _ X hW
      have ham := among_any wr endsS s[k]
      rw [ends_is] at ham
      have htake := take_any wr _ X s[k] (by omega) hW
      have hlen2 := take_len X s[k]
      have hlt0 : w.heap.size < wr.heap.size := (Array.getElem?_eq_some_iff.1 H0).1
      by_cases hstop : X.open = false ∧ Lp.endB s[k] = true
      · have HWd : Hid (Lp.wordA Lp.word0 (by8 s) = some (X.t, (by8 s).drop k)) := Lib.hid (by rw [hword, by8_at hlt, Lp.wordA, if_pos hstop])
        rw [hstop.1] at hopen
        rw [hstop.2] at ham
        clear hword hstop htake
        go_wp2_with fail
        refine hopen.mono ?_
        rintro e w' ⟨rfl, rfl⟩
        go_wp2_with fail
        refine ham.mono ?_
        rintro e w' ⟨rfl, rfl⟩
        go_wp2_with fail
        have HW := Lib.hid fun W (B : Below wr.heap.size wr W) => token_any W _ X (hW.later B)
        have HH := Lib.hid fun W (B : Below wr.heap.size wr W) => (B.block _ hlt0).trans H0
        have D0 : Below wr.heap.size wr wr.drew := (Below.refl _ _).drew
        have hk63 : (k : Int) ≤ s.size := by omega
        clear hopen ham
        go_region_held3 (fun w' => True) (first | go_keep | trivial)
          (first
            | (go_at_call 53; refine (HW.out _ D0).mono ?_; rintro e wa ⟨rfl, Ba⟩; have D1 := D0.trans Ba; have G1 := HH.out _ D1; have z0 := frozen_at G1 0; have z1 := frozen_at G1 1; have c0 : wa.cell? ⟨w.heap.size, 0, none⟩ = some (.int .i64 0) := cell_at G1 rfl; have c1 : wa.cell? ⟨w.heap.size, 1, none⟩ = some (.string ⟨#[]⟩) := cell_at G1 rfl; have hlt1 : w.heap.size < wa.heap.size := (Array.getElem?_eq_some_iff.1 G1).1))
        all_goals (obtain ⟨s0, s1⟩ := set_two G1 (.int .i64 0) (.string (str X.t)))
        all_goals go_wp2_with fail
        all_goals exact bodyPost_ret (v := wordV (some (X.t, (by8 s).drop k))) (by simp [results, Tryd.results41, go_sem, wordV, s0, s1, str_drop]) rfl ⟨by rw [HWd.out], ((hB.trans (D1.mono hB.size)).setCell (Nat.le_refl _) _).setCell (Nat.le_refl _) _⟩
      · have HWd : Hid (Lp.wordA Lp.word0 (by8 s) = Lp.wordA (Lp.takeA X s[k]) ((by8 s).drop (k + 1))) := Lib.hid (by rw [hword, by8_at hlt, Lp.wordA, if_neg hstop])
        clear hword
        cases ho : X.open with
        | true =>
          rw [ho] at hopen
          clear ho ham hstop
          go_wp2_with fail
          refine hopen.mono ?_
          rintro e w' ⟨rfl, rfl⟩
          go_wp2_with fail
          refine htake.mono ?_
          rintro e w1 ⟨rfl, hW1, hB1⟩
          go_wp2_with fail
          go_roundw
          case rel => exact ⟨k + 1, Lp.takeA X s[k], by go_num, hlt, hW1, HWd.out, by omega, (hB1.block _ (by omega)).trans H0, hB.trans (hB1.mono (by omega))⟩
          case measure => simp [intOf]; omega
        | false =>
          have he : Lp.endB s[k] = false := by
            cases he : Lp.endB s[k] with
            | false => rfl
            | true => exact absurd ⟨ho, he⟩ hstop
          rw [ho] at hopen
          rw [he] at ham
          clear ho he hstop
          go_wp2_with fail
          refine hopen.mono ?_
          rintro e w' ⟨rfl, rfl⟩
          go_wp2_with fail
          refine ham.mono ?_
          rintro e w' ⟨rfl, rfl⟩
          go_wp2_with fail
          refine htake.mono ?_
          rintro e w1 ⟨rfl, hW1, hB1⟩
          go_wp2_with fail
          go_roundw
          case rel => exact ⟨k + 1, Lp.takeA X s[k], by go_num, hlt, hW1, HWd.out, by omega, (hB1.block _ (by omega)).trans H0, hB.trans (hB1.mono (by omega))⟩
          case measure => simp [intOf]; omega
    · obtain rfl : k = s.size := by omega
      rw [List.drop_eq_nil_of_le (by rw [by8_len]; omega)] at hword
      have hopen := open_any wr _ X hW
      have htok := token_any wr _ X hW
      have z0 := frozen_at H0 0
      have z1 := frozen_at H0 1
      have c0 : wr.cell? ⟨w.heap.size, 0, none⟩ = some (.int .i64 0) := cell_at H0 rfl
      have c1 : wr.cell? ⟨w.heap.size, 1, none⟩ = some (.string ⟨#[]⟩) := cell_at H0 rfl
      have hlt0 : w.heap.size < wr.heap.size := (Array.getElem?_eq_some_iff.1 H0).1
      cases ho : X.open with
      | true =>
        have HWd : Hid (Lp.wordA Lp.word0 (by8 s) = none) := Lib.hid (by rw [hword, Lp.wordA, if_pos ho])
        rw [ho] at hopen
        clear ho hword htok
        go_wp2_with fail
        refine hopen.mono ?_
        rintro e w' ⟨rfl, rfl⟩
        go_wp2_with fail
        obtain ⟨s0, s1⟩ := set_two H0 (.int .i64 0) (.string ⟨#[]⟩)
        exact bodyPost_ret (v := wordV none) (by simp [results, Tryd.results41, go_sem, wordV, s0, s1]) rfl ⟨by rw [HWd.out], (hB.setCell (Nat.le_refl _) _).setCell (Nat.le_refl _) _⟩
      | false =>
        have HWd : Hid (Lp.wordA Lp.word0 (by8 s) = some (X.t, [])) := Lib.hid (by rw [hword, Lp.wordA, if_neg (by rw [ho]; simp)])
        rw [ho] at hopen
        clear ho hword
        go_wp2_with fail
        refine hopen.mono ?_
        rintro e w' ⟨rfl, rfl⟩
        go_wp2_with fail
        refine htok.mono ?_
        rintro e w2 ⟨rfl, hB2⟩
        have HH := (hB2.block _ hlt0).trans H0
        have z0 := frozen_at HH 0
        have z1 := frozen_at HH 1
        have c0 : w2.cell? ⟨w.heap.size, 0, none⟩ = some (.int .i64 0) := cell_at HH rfl
        have c1 : w2.cell? ⟨w.heap.size, 1, none⟩ = some (.string ⟨#[]⟩) := cell_at HH rfl
        have hlt0 : w.heap.size < w2.heap.size := (Array.getElem?_eq_some_iff.1 HH).1
        go_wp2_with fail
        obtain ⟨s0, s1⟩ := set_two HH (.int .i64 0) (.string (str X.t))
        exact bodyPost_ret (v := wordV (some (X.t, []))) (by simp [results, Tryd.results41, go_sem, wordV, s0, s1]; rfl) rfl ⟨by rw [HWd.out], ((hB.trans (hB2.mono hB.size)).setCell (Nat.le_refl _) _).setCell (Nat.le_refl _) _⟩
end Go.Proofs.YtlkcpegjkmfngaaDoor.Lx
