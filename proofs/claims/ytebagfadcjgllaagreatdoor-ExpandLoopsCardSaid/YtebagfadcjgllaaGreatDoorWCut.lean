/-
  words.Cut: where the first byte of some stands, that isn't between brackets.
-/
import Derived.Test.YtebagfadcjgllaaGreatDoorWSet
import Derived.Test.YtebagfadcjgllaaGreatDoorWFollow
namespace Go.Proofs.YtebagfadcjgllaaGreatDoor.Ww
open Go.RowKit Go.Proofs.YtebagfadcjgllaaGreatDoor
set_option maxRecDepth 100000

/-- What Cut returns. -/
def cutOut (s : ByteArray) : Option Nat → Value
  | none => .tuple #[.string s, .int .u8 0, .string ⟨#[]⟩]
  | some k => .tuple #[.string (s.extract 0 k), .int .u8 (((by8 s).getD k 0).toNat : Int), .string (s.extract (k + 1) s.size)]
theorem cutOut_some {s : ByteArray} {k : Nat} (h : k < s.size) : cutOut s (some k) = .tuple #[.string (s.extract 0 k), .int .u8 (s[k].toNat : Int), .string (s.extract (k + 1) s.size)] := by
  show Value.tuple #[.string (s.extract 0 k), .int .u8 (((by8 s).getD k 0).toNat : Int), .string (s.extract (k + 1) s.size)] = _
  rw [List.getD_eq_getElem?_getD, by8_get h]
  rfl

def CutPost (s stops : ByteArray) (w : World) (e : Ending) (w' : World) : Prop := e = .returned (cutOut s (Wp.cutA (by8 stops) [] (by8 s) 0)) ∧ Below w.heap.size w w'

/-- What the loop's head knows. -/
def CutRel (w : World) (s stops : ByteArray) (b : Nat) (v i : Value) (wr : World) : Prop :=
  ∃ (k : Nat) (op : Bs) (a : Option Addr) (cp : Nat), v = .slice a op.length cp ∧ i = .int .i64 k ∧ k ≤ s.size ∧ op.length ≤ k ∧ Wp.Open op ∧ wr.ownsRow (b + 1) U8 1 (.slice a op.length cp) op.length (endsC op) ∧
    b + 1 ≤ wr.heap.size ∧ wr.heap[b]? = some (.cells (Lib.setCells (by8 stops)) AT (0, 0)) ∧ Below w.heap.size w wr ∧ Wp.cutA (by8 stops) op ((by8 s).drop k) k = Wp.cutA (by8 stops) [] (by8 s) 0

theorem CutRel.next {w wr w1 : World} {s stops : ByteArray} {b k : Nat} {op : Bs} {a2 : Option Addr} {c2 : Nat} (hk : k < s.size) (hl : op.length ≤ k) (ho : Wp.Open op) (hm : ¬ (op = [] ∧ (by8 stops).contains s[k] = true))
    (hb : b + 1 ≤ wr.heap.size) (hg : wr.heap[b]? = some (.cells (Lib.setCells (by8 stops)) AT (0, 0))) (hB : Below w.heap.size w wr) (hw : w.heap.size ≤ b) (hC : Wp.cutA (by8 stops) op ((by8 s).drop k) k = Wp.cutA (by8 stops) [] (by8 s) 0)
    (hr : w1.ownsRow (b + 1) U8 1 (.slice a2 (Wp.next op s[k]).length c2) (Wp.next op s[k]).length (endsC (Wp.next op s[k]))) (h1 : Below (b + 1) wr w1) :
    CutRel w s stops b (.slice a2 (Wp.next op s[k]).length c2) (.int .i64 ((k : Int) + 1)) w1 := by
  refine ⟨k + 1, Wp.next op s[k], a2, c2, rfl, by go_num, hk, ?_, ho.next, hr, Nat.le_trans hb h1.size, ?_, hB.trans (h1.mono (by omega)), ?_⟩
  · have := Wp.next_len op s[k]; omega
  · rw [h1.block b (by omega)]; exact hg
  · rw [← hC, by8_at hk, Wp.cutA_miss hm]

set_option maxHeartbeats 4000000 in
theorem Cut_any (w : World) (s stops : ByteArray) (hs : s.size ≤ 100000) (hst : stops.size ≤ 100000) :
    Calls Tryz.prog 42 #[.string s, .string stops] w (CutPost s stops w) := by
  have hz := zeroA
  go_enter Tryz.func42, Tryz.ntmps42
  go_wp2_with fail
  refine (set_any stops _ (by omega)).mono ?_
  rintro e w1 ⟨rfl, B1⟩
  have H1 := Lib.hid (heap_alloc_last w1 (.cells Zs AT (0, 0)))
  go_wp2_with (refine wpList_store_row rfl AT _ _ rfl w1.heap.size (Lib.setCells (by8 stops)) rfl rfl AT Zs H1.out (by rw [Lib.setCells_size]; exact sizeA) (by rw [Lib.setCells_size]; rfl) (Lib.setCells_one _) ?_)
  have HG := Lib.hid (setRow_heap _ w1.heap.size _ (Lib.setCells (by8 stops)) _ _ H1.out)
  have HB : Hid (Below w.heap.size w ((w1.alloc (.cells Zs AT (0, 0))).setRow w1.heap.size (Lib.setCells (by8 stops)))) := Lib.hid (below_setRow (B1.alloc B1.size _) B1.size _)
  go_loopw [8, 14] (fun v i wr => CutRel w s stops w1.heap.size v i wr) (fun _ i _ => s.size - (intOf i).toNat)
  case atStart => exact ⟨0, [], none, 0, rfl, rfl, Nat.zero_le _, Nat.le_refl _, Wp.Open.nil, World.ownsRow_nil _ _ _ _, by simp, HG.out, HB.out, rfl⟩
  case round =>
    obtain ⟨k, op, a, cp, rfl, rfl, hk, hl, ho, hr, hb, hg, hB, hC⟩ := hrel
    clear H1 HG HB
    by_cases hlt : k < s.size
    · by_cases h0 : op = []
      · subst h0
        have hx256 : (s[k].toNat : Int) < 256 := by have := UInt8.toNat_lt s[k]; omega
        have hcell := (cell_of_row wr _ s[k].toNat _ _ _ hg).trans (Lib.setCells_at (by8 stops) s[k])
        cases hct : (by8 stops).contains s[k] with
        | true =>
          rw [hct] at hcell
          have HP : Hid (CutPost s stops w (.returned (.tuple #[.string (s.extract 0 k), .int .u8 (s[k].toNat : Int), .string (s.extract (k + 1) s.size)])) wr) := Lib.hid (by
            refine ⟨?_, hB⟩
            rw [← hC, by8_at hlt, Wp.cutA_hit hct, cutOut_some hlt])
          have HB := Lib.hid hB
          have hw1 : IntKind.i64.wrap (↑k + 1) = ↑k + 1 := IntWalk.i64_in _ (by omega)
          have hw2 : (0 : Int) ≤ ↑k + 1 := by omega
          have hw3 : ((k : Int) + 1).toNat = k + 1 := by omega
          clear hC hg ho hr hct
          go_wp2_with fail
          go_quiet (fail)
          go_wp2_with fail
          go_ret3
          exact ⟨HP.out.1, below_drewN HB.out _⟩
        | false =>
          rw [hct] at hcell
          have HN := Lib.hid fun (w2 : World) (a2 : Option Addr) (c2 : Nat) => @CutRel.next w wr w2 s stops w1.heap.size k [] a2 c2 hlt hl ho (fun h => by rw [hct] at h; cases h.2) hb hg hB B1.size hC
          have HR := Lib.hid hr
          have HO := Lib.hid ho
          clear hC hg ho hr hct
          go_wp2_with fail
          refine (follow_any wr (w1.heap.size + 1) [] HO.out s[k] a cp HR.out (by simp) hb).mono ?_
          rintro e w2 ⟨a2, c2, rfl, hown, hb2⟩
          have HR2 := Lib.hid hown
          clear hown
          go_wp2_with fail
          go_roundw
          case rel => exact HN.out _ _ _ HR2.out hb2
          case measure => simp [intOf]; omega
      · have hpos : 0 < op.length := List.length_pos_iff.2 h0
        have hb0 : ((op.length : Int) == 0) = false := beq_eq_false_iff_ne.2 (by omega)
        have HN := Lib.hid fun (w2 : World) (a2 : Option Addr) (c2 : Nat) => @CutRel.next w wr w2 s stops w1.heap.size k op a2 c2 hlt hl ho (fun h => h0 h.1) hb hg hB B1.size hC
        have HR := Lib.hid hr
        have HO := Lib.hid ho
        clear hC hg ho hr h0
        go_wp2_with fail
        refine (follow_any wr (w1.heap.size + 1) op HO.out s[k] a cp HR.out (by omega) hb).mono ?_
        rintro e w2 ⟨a2, c2, rfl, hown, hb2⟩
        have HR2 := Lib.hid hown
        clear hown
        go_wp2_with fail
        go_roundw
        case rel => exact HN.out _ _ _ HR2.out hb2
        case measure => simp [intOf]; omega
    · obtain rfl : k = s.size := by omega
      have HP : Hid (CutPost s stops w (.returned (.tuple #[.string s, .int .u8 0, .string ⟨#[]⟩])) wr) := Lib.hid (by
        refine ⟨?_, hB⟩
        rw [← hC, List.drop_of_length_le (by rw [by8_len]; exact Nat.le_refl _), Wp.cutA_nil]
        rfl)
      clear hC hg ho hr
      go_wp2_with fail
      go_ret3
      exact HP.out
end Go.Proofs.YtebagfadcjgllaaGreatDoor.Ww
