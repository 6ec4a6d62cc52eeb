/-
  lex.Show: tokens as a line.
-/
import Derived.Deep.OwnRows
import Derived.Test.YtlkcpegjkmfngaaDoorLShow
namespace Go.Proofs.YtlkcpegjkmfngaaDoor.Lx
open Go.RowKit Go.Proofs.YtlkcpegjkmfngaaDoor
set_option maxRecDepth 100000

def txs (L : List Lp.T) (k : Nat) : List Value := (L.take k).map (fun x => Value.string (str (Lp.showT x))) ++ List.replicate (L.length - k) (.string ⟨#[]⟩)
theorem txs_len (L : List Lp.T) {k : Nat} (h : k ≤ L.length) : (txs L k).length = L.length := by simp [txs]; omega
theorem txs_set (L : List Lp.T) {k : Nat} (h : k < L.length) : (txs L k).toArray.setIfInBounds k (.string (str (Lp.showT L[k]))) = (txs L (k + 1)).toArray := by
  rw [List.setIfInBounds_toArray]
  congr 1
  unfold txs
  have e : L.length - k = (L.length - (k + 1)) + 1 := by omega
  rw [e, List.replicate_succ, List.set_append_right _ _ (by simp; omega)]
  have e2 : k - ((L.take k).map (fun x => Value.string (str (Lp.showT x)))).length = 0 := by simp; omega
  rw [e2, List.set_cons_zero, List.take_succ_eq_append_getElem h, List.map_append, List.append_assoc]
  rfl
theorem txs_get (L : List Lp.T) {k : Nat} (h : k < L.length) : ∃ v, (txs L k)[k]? = some v := by
  have := txs_len L (Nat.le_of_lt h)
  exact ⟨_, List.getElem?_eq_getElem (by omega)⟩
theorem row_cells {w : World} {B : Nat} {T : TypeId} {a : Option Addr} {c : Nat} {L : List Lp.T} (hr : w.ownsRow B T 2 (.slice a L.length c) L.length (tsC L)) (h : 0 < L.length) :
    ∃ g, a = some ⟨g, 0, none⟩ ∧ L.length ≤ c ∧ g < w.heap.size ∧ ∀ k (h : k < L.length), w.cell? ⟨g, k * 2, none⟩ = some (.int .i64 L[k].k) ∧ w.cell? ⟨g, k * 2 + 1, none⟩ = some (.string (str L[k].t)) := by
  rcases hr.2 with ⟨_, h2⟩ | ⟨g, cap, cur, h1, h2, h3, h4, h5, h6, h7⟩
  · omega
  · cases h1
    refine ⟨g, rfl, h4, (Array.getElem?_eq_some_iff.1 h3).1, fun k hk => ?_⟩
    obtain ⟨t1, t2⟩ := tsC_get hk
    have c1 := hr.cells (g := g) rfl _ _ t1
    have c2 := hr.cells (g := g) rfl _ _ t2
    rw [Addr.add_lit, Nat.zero_add] at c1 c2
    exact ⟨c1, c2⟩

theorem infoS : (Tryd.prog.info? 9).map (fun i => (i.zero, i.size, i.bytes)) = some (some (.string ⟨#[]⟩), 1, 16) := by kernel_rfl
theorem txs_made (L : List Lp.T) : madeCells #[.string ⟨#[]⟩] L.length = (txs L 0).toArray := by
  apply Array.toList_inj.1
  rw [toList_madeCells_one]
  simp [txs]
theorem show_join : ∀ L : List Lp.T, Lib.join ((L.map fun x => str (Lp.showT x)).map (·.data.toList)) (⟨#[32]⟩ : ByteArray).data.toList = Lp.showA L
  | [] => rfl
  | [x] => by simp [Lib.join, List.intercalate, Lp.showA, str]
  | x :: y :: r => by
    have := show_join (y :: r)
    show _ = Lp.showT x ++ 32 :: Lp.showA (y :: r)
    rw [← this]
    simp [Lib.join, List.intercalate, str]
def ShRel (w : World) (L : List Lp.T) (v : Value) (wr : World) : Prop :=
  ∃ k : Nat, v = .int .i64 k ∧ k ≤ L.length ∧ wr.heap[w.heap.size]? = some (.cells (txs L k).toArray 9 (0, 0)) ∧ Below w.heap.size w wr

set_option maxHeartbeats 4000000 in
theorem Show_any (w : World) (B : Nat) (a : Option Addr) (c : Nat) (L : List Lp.T) (hr : w.ownsRow B TT 2 (.slice a L.length c) L.length (tsC L)) (hl : L.length ≤ 100000) (hs : ∀ x ∈ L, x.t.length ≤ 100000 ∧ x.k ≤ 100) (hsum : (Lp.showA L).length ≤ 1000000) (hG : Glob w) :
    Calls Tryd.prog 19 #[.slice a L.length c] w fun e w' => e = .returned (.string (str (Lp.showA L))) ∧ Below w.heap.size w w' := by
  have HG := Lib.hid hG
  have HS := Lib.hid hs
  clear hG hs
  have hmk := run_make_row' (P := Tryd.prog) 37 9 (.string ⟨#[]⟩) 16 Tryd.underlying37 infoS rfl .i64 .i64 L.length (by omega) (by omega)
  have hB0 := fun o => (Below.refl w.heap.size w).alloc (Nat.le_refl _) o
  go_enter Tryd.func19, Tryd.ntmps19
  go_wp2_with fail
  go_loopw [11] (fun v wr => ShRel w L v wr) (fun v _ => L.length - (intOf v).toNat)
  case atStart => exact ⟨0, rfl, Nat.zero_le _, by rw [heap_new _ _ rfl, txs_made], hB0 _⟩
  case round =>
    obtain ⟨k, rfl, hk, H, hB⟩ := hrel
    by_cases hlt : k < L.length
    · obtain ⟨g, rfl, hgc, hg, hcells⟩ := row_cells hr (by omega)
      obtain ⟨x1, x2⟩ := hcells k hlt
      have y1 : wr.cell? ⟨g, k * 2, none⟩ = some (.int .i64 L[k].k) := (hB.cell (p := ⟨g, k * 2, none⟩) hg).trans x1
      have y2 : wr.cell? ⟨g, k * 2 + 1, none⟩ = some (.string (str L[k].t)) := (hB.cell (p := ⟨g, k * 2 + 1, none⟩) hg).trans x2
      have hb := HS.out L[k] (List.getElem_mem hlt)
      have hlt0 : w.heap.size < wr.heap.size := (Array.getElem?_eq_some_iff.1 H).1
      have hsh := Lib.hid fun W (hBW : Below w.heap.size w W) => show_any W L[k] (by omega) (by omega) (HG.out.below hBW)
      have HT := Lib.hid (txs_set L hlt)
      obtain ⟨vk, hvk⟩ := txs_get L hlt
      have hB1 := fun o => hB.alloc hB.size o
      clear hcells x1 x2
      generalize L[k] = x at *
      go_wp2_with (go_at_call 34; refine (hsh.out _ (hB1 _)).mono ?_; rintro e w2 ⟨rfl, hB2⟩; have hB3 := (hB1 _).trans (hB2.mono (hB1 _).size); have H2 := (hB2.block w.heap.size (by simp; omega)).trans ((Below.heap_alloc wr _ _ hlt0).trans H); have z2 := frozen_at H2 k; have c2 : w2.cell? ⟨w.heap.size, k, none⟩ = some vk := cell_at H2 (by simpa using hvk); have hlt2 : w.heap.size < w2.heap.size := (Array.getElem?_eq_some_iff.1 H2).1)
      go_roundw
      case rel =>
        refine ⟨k + 1, by go_num, hlt, ?_, hB3.setCell (Nat.le_refl _) _⟩
        rw [heap_set3 H2, HT.out]
      case measure => simp [intOf]; omega
    · obtain rfl : k = L.length := by omega
      have hlt0 : w.heap.size < wr.heap.size := (Array.getElem?_eq_some_iff.1 H).1
      have hJ := Tryd.strings_Join w.heap.size 0 L.length (L.map fun x => str (Lp.showT x)) ⟨#[32]⟩ wr (fun j x hj => by
        rw [Nat.zero_add]
        refine cell_at H ?_
        rw [List.getElem?_toArray]
        unfold txs
        rw [List.take_length, Nat.sub_self, List.replicate_zero, List.append_nil, List.getElem?_map]
        rw [List.getElem?_map] at hj
        cases hx : L[j]? with
        | none => rw [hx] at hj; cases hj
        | some y => rw [hx] at hj; cases hj; rfl) hlt0 (by simp; omega) (by simp) (by
          rw [show_join]; omega)
      have HJ : Hid ((⟨(Lib.join ((L.map fun x => str (Lp.showT x)).map (·.data.toList)) (⟨#[32]⟩ : ByteArray).data.toList).toArray⟩ : ByteArray) = str (Lp.showA L)) := Lib.hid (by rw [show_join]; rfl)
      rw [HJ.out, List.length_map] at hJ
      clear hmk
      go_wp2_with fail
      refine hJ.mono ?_
      rintro e w2 ⟨rfl, hB2⟩
      go_wp2_with fail
      go_ret
      exact ⟨rfl, hB.trans (hB2.mono hB.size)⟩
end Go.Proofs.YtlkcpegjkmfngaaDoor.Lx
