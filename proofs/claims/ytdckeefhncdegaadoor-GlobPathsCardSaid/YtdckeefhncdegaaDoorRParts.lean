/-
  flatironref02.Parts: what stands between slashes, as the document's answer cuts it.
-/
import Derived.Deep.RegionLaw
import Derived.Laws.OwnMore
import Derived.Test.YtdckeefhncdegaaDoorRefJoin
import Derived.Test.YtdckeefhncdegaaDoorPath
namespace Go.Proofs.YtdckeefhncdegaaDoor.Gm
open Go.RowKit Go.Proofs.YtdckeefhncdegaaDoor
set_option maxRecDepth 100000

/-- What has been cut of the first k bytes: the parts, and the last one so far. -/
def PtsRel (B : Nat) (w : World) (s : ByteArray) (v i : Value) (wr : World) : Prop :=
  ∃ (k g c : Nat) (out : List ByteArray) (x : ByteArray), i = .int .i64 k ∧ v = .slice (some ⟨g, 0, none⟩) (out.length + 1) c ∧ k ≤ s.size ∧ x.size + out.length ≤ k ∧
    wr.ownsRow B 9 1 (.slice (some ⟨g, 0, none⟩) (out.length + 1) c) (out.length + 1) (strC (out ++ [x])) ∧ Below B w wr ∧ Pt.pieces ((bs s).take k) = out.map bs ++ [bs x]

theorem pts_slash {B : Nat} {w wr : World} {s x : ByteArray} {k g c : Nat} {out : List ByteArray} {a : Option Addr} (hlt : k < s.size) (h47 : s[k] = 47) (hx : x.size + out.length ≤ k) (hp : Pt.pieces ((bs s).take k) = out.map bs ++ [bs x])
    (ho : wr.ownsRow B 9 1 (.slice a (out.length + 1 + 1) c) (out.length + 1 + 1) (strC (out ++ [x]) ++ [.string ⟨#[]⟩])) (ha : a = some ⟨g, 0, none⟩) (hB : Below B w wr) :
    PtsRel B w s (.slice a (out.length + 1 + 1) c) (.int .i64 ((k : Int) + 1)) wr := by
  subst ha
  refine ⟨k + 1, g, c, out ++ [x], ⟨#[]⟩, by go_num, by rw [List.length_append, List.length_singleton], hlt, ?_, ?_, hB, ?_⟩
  · rw [List.length_append, List.length_singleton]
    show 0 + (out.length + 1) ≤ k + 1
    omega
  · rw [List.length_append, List.length_singleton, show strC (out ++ [x] ++ [⟨#[]⟩]) = strC (out ++ [x]) ++ [.string ⟨#[]⟩] by simp [strC]]
    exact ho
  · rw [take_snoc' (by rw [bs_len]; exact hlt), pieces_snoc _ _ _ _ hp, bs_get hlt, if_pos h47, List.map_append, List.append_assoc]
    rfl

theorem pts_byte {B : Nat} {w wr : World} {s x : ByteArray} {k g c : Nat} {out : List ByteArray} (hlt : k < s.size) (h47 : ¬ s[k] = 47) (hx : x.size + out.length ≤ k) (hp : Pt.pieces ((bs s).take k) = out.map bs ++ [bs x])
    (ho : wr.ownsRow B 9 1 (.slice (some ⟨g, 0, none⟩) (out.length + 1) c) (out.length + 1) (strC (out ++ [x]))) (hB : Below B w wr) (hBg : B ≤ g) :
    PtsRel B w s (.slice (some ⟨g, 0, none⟩) (out.length + 1) c) (.int .i64 ((k : Int) + 1)) (wr.setCell ⟨g, out.length, none⟩ (.string (x ++ s.extract k (k + 1)))) := by
  have h1 := (ho.stored out.length (.string (x ++ s.extract k (k + 1)))).1
  refine ⟨k + 1, g, c, out, x ++ s.extract k (k + 1), by go_num, rfl, hlt, ?_, ?_, hB.setCell (p := ⟨g, out.length, none⟩) hBg _, ?_⟩
  · rw [ByteArray.size_append, ByteArray.size_extract]; omega
  · have e : (strC (out ++ [x])).set out.length (.string (x ++ s.extract k (k + 1))) = strC (out ++ [x ++ s.extract k (k + 1)]) := by
      simp [strC]
    rw [e] at h1
    exact h1
  · rw [take_snoc' (by rw [bs_len]; exact hlt), pieces_snoc _ _ _ _ hp, bs_get hlt, if_neg h47, bs_app, bs_one hlt]

theorem PtsRel.drew {B : Nat} {w wr : World} {s : ByteArray} {v i : Value} (h : PtsRel B w s v i wr) : PtsRel B w s v i wr.drew := by
  obtain ⟨k, g, c, out, x, a1, a2, a3, a4, a5, a6, a7⟩ := h
  exact ⟨k, g, c, out, x, a1, a2, a3, a4, a5, a6.drew, a7⟩

theorem piece_le : ∀ (s : Bs), ∀ x ∈ Pt.pieces s, x.length ≤ s.length
  | [], x, hx => by
    have : x = [] := by simpa [Pt.pieces] using hx
    subst this; exact Nat.le_refl _
  | c :: r, x, hx => by
    have ih := piece_le r
    rw [Pt.pieces] at hx
    split at hx
    · rcases List.mem_cons.1 hx with rfl | h
      · exact Nat.zero_le _
      · exact Nat.le_succ_of_le (ih x h)
    · split at hx
      · rename_i he; exact absurd he (Pt.pieces_ne r)
      · rename_i y ys he
        rcases List.mem_cons.1 hx with rfl | h
        · have := ih y (by rw [he]; simp)
          simp; omega
        · exact Nat.le_succ_of_le (ih x (by rw [he]; simp [h]))
theorem pts_le {s : ByteArray} {out : List ByteArray} {x : ByteArray} (h : Pt.pieces (bs s) = out.map bs ++ [bs x]) : ∀ y ∈ out ++ [x], y.size ≤ s.size := by
  intro y hy
  have h1 : bs y ∈ Pt.pieces (bs s) := by
    rw [h, ← List.map_singleton, ← List.map_append]
    exact List.mem_map_of_mem hy
  have := piece_le _ _ h1
  rw [bs_len, bs_len] at this
  exact this

set_option maxHeartbeats 4000000 in
theorem Parts_any (w : World) (s : ByteArray) (hs : s.size ≤ 1000000) :
    Calls Tryd.prog 23 #[.string s] w fun e w' => ∃ (out : List ByteArray) (g c : Nat), e = .returned (.slice (some ⟨g, 0, none⟩) out.length c) ∧ out.map bs = Pt.pieces (bs s) ∧ w'.ownsRow w.heap.size 9 1 (.slice (some ⟨g, 0, none⟩) out.length c) out.length (strC out) ∧ Below w.heap.size w w' ∧ (∀ x ∈ out, x.size ≤ s.size) := by
  obtain ⟨i0, hi, hz0, hz1, hz2⟩ := info_parts infoS
  go_enter Tryd.func23, Tryd.ntmps23
  go_wp2
  go_loopw [3, 4] (fun v i wr => PtsRel w.heap.size w s v i wr) (fun _ i _ => s.size - (intOf i).toNat)
  case atStart => exact ⟨0, w.heap.size, 1, [], ⟨#[]⟩, rfl, rfl, Nat.zero_le _, Nat.le_refl _, World.ownsRow_lit w #[.string ⟨#[]⟩] 1 (Nat.le_refl _) (by decide) rfl, (Below.refl _ _).alloc (Nat.le_refl _) _, rfl⟩
  case round =>
    obtain ⟨k, g, c, out, x, rfl, rfl, hk, hx, ho, hB, hp⟩ := hrel
    have hgl := (ho.lt g rfl)
    by_cases hlt : k < s.size
    · by_cases h47 : s[k] = 47
      · have hb : ((s[k].toNat : Int) == 47) = true := by rw [h47]; rfl
        have H47 := Lib.hid h47
        have HP := Lib.hid hp
        clear h47 hp
        go_wp2_with (at_builtin; refine wpList_append_own _ rfl _ _ 40 rfl w.heap.size 9 i0 (.string ByteArray.empty) 1 16 Tryd.underlying40 hi hz0 hz1 hz2 rfl (by decide) _ _ _ rfl (ho.alloc _) ⟨wr.heap.size, 0, none⟩ 1 1 [.string ⟨#[]⟩] rfl rfl (cell_one_new _ _ _) (by simp [Value.oneCell']) (by unfold maxLen; omega) (by omega) (by have := hB.size; simp; omega) ?_; intro v' w1 hown' hgrow _; obtain ⟨a2, c2, rfl⟩ := owns_slice hown')
        go_roundw
        case rel =>
          obtain ⟨g2, c3, e2, _, _⟩ := owns_some hown' (by omega)
          cases e2
          exact pts_slash hlt H47.out hx HP.out hown' rfl ((hB.alloc hB.size _).grown hgrow (by have := hB.size; simp; omega) fun j ej => (ho.lt j ej).1)
        case measure => simp [intOf] <;> omega
      · have hb : ((s[k].toNat : Int) == 47) = false := eq_false (b := 47) h47
        have H47 := Lib.hid h47
        have HP := Lib.hid hp
        clear h47 hp
        have hcell : wr.cell? ⟨g, out.length, none⟩ = some (.string x) := by
          rw [ho.cellAt out.length (by omega)]; simp [strC]
        have hfz := ho.frozenAt out.length
        have hwr : IntKind.i64.wrap (((out.length + 1 : Nat) : Int) - 1) = (out.length : Int) := by rw [IntWalk.i64_in _ (by omega)]; omega
        have hwr2 : IntKind.i64.wrap ((out.length : Int)) = (out.length : Int) := by rw [IntWalk.i64_in _ (by omega)]
        have hwr3 : IntKind.i64.wrap ((k : Int) + 1) = (k : Int) + 1 := by rw [IntWalk.i64_in _ (by omega)]
        have hk0 : (0 : Int) ≤ (k : Int) := Int.natCast_nonneg _
        have hk1 : (0 : Int) ≤ (k : Int) + 1 := by omega
        have hk2 : (k : Int) + 1 ≤ (s.size : Int) := by omega
        have hk3 : (k : Int) ≤ (k : Int) + 1 := by omega
        have ho0 : (0 : Int) ≤ (out.length : Int) := Int.natCast_nonneg _
        have ho1 : (out.length : Int) < (out.length : Int) + 1 := by omega
        go_wp2
        go_region
        go_wp2
        go_roundw
        case rel => exact (pts_byte hlt H47.out hx HP.out ho hB hgl.1).drew
        case measure => simp [intOf] <;> omega
    · obtain rfl : k = s.size := by omega
      rw [List.take_of_length_le (by rw [bs_len]; exact Nat.le_refl _)] at hp
      have HP := Lib.hid hp
      clear hp
      go_wp2
      go_ret
      exact ⟨out ++ [x], g, c, by rw [List.length_append]; rfl, by rw [HP.out, List.map_append]; rfl, by rw [List.length_append]; exact ho, hB, fun y hy => pts_le HP.out y hy⟩
end Go.Proofs.YtdckeefhncdegaaDoor.Gm
