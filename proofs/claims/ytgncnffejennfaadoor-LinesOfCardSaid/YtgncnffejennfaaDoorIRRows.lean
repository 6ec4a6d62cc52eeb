/-
  flatironref08.Rows: a text's rows, as the document's answer cuts them.
-/
import Derived.Deep.RegionLaw
import Derived.Laws.OwnMore
import Derived.Maps.AppendAt
import Derived.Test.YtgncnffejennfaaDoorIRBare
namespace Go.Proofs.YtgncnffejennfaaDoor.Iw
open Go.RowKit Go.Proofs.YtgncnffejennfaaDoor Go.Proofs.YtgncnffejennfaaDoor.Ww
set_option maxRecDepth 100000

theorem infoS : (Tryd.prog.info? ST).map (fun i => (i.zero, i.size, i.bytes)) = some (some (.string ByteArray.empty), 1, 16) := by kernel_rfl
theorem rows_snoc_in {c : UInt8} (hc : ¬ c = 10) : ∀ (u : Ip.Bs), Ip.rows (u ++ [c]) = (Ip.rows u).dropLast ++ [(Ip.rows u).getLastD [] ++ [c]]
  | [] => by rw [List.nil_append, Ip.rows_one (by simpa using Ne.symm hc)]; rfl
  | d :: r => by
    have ih := rows_snoc_in hc r
    have hne := Ip.rows_ne r
    by_cases hd : d = 10
    · subst hd
      rw [List.cons_append, Ip.rows_nl, Ip.rows_nl, ih]
      cases hr : Ip.rows r with
      | nil => exact absurd hr hne
      | cons y l => rfl
    · cases hr : Ip.rows r with
      | nil => exact absurd hr hne
      | cons y l =>
        rw [hr] at ih
        cases l with
        | nil => rw [Ip.rows_ch hd hr, List.cons_append, Ip.rows_ch hd ih]; rfl
        | cons z l => rw [Ip.rows_ch hd hr, List.cons_append, Ip.rows_ch hd ih]; rfl
theorem rows_snoc {u x : Ip.Bs} {A : List Ip.Bs} (c : UInt8) (h : Ip.rows u = A ++ [x]) : Ip.rows (u ++ [c]) = if c = 10 then A ++ [x] ++ [[]] else A ++ [x ++ [c]] := by
  by_cases hc : c = 10
  · rw [if_pos hc, hc, Ip.rows_both, h]; rfl
  · rw [if_neg hc, rows_snoc_in hc, h]; simp

/-- What has been cut of the first k bytes: the rows, and the last one so far. -/
def RwRel (B : Nat) (w : World) (s : ByteArray) (v i : Value) (wr : World) : Prop :=
  ∃ (k g c : Nat) (out : List ByteArray) (x : ByteArray), i = .int .i64 k ∧ v = .slice (some ⟨g, 0, none⟩) (out.length + 1) c ∧ k ≤ s.size ∧ x.size + out.length ≤ k ∧
    wr.ownsRow B ST 1 (.slice (some ⟨g, 0, none⟩) (out.length + 1) c) (out.length + 1) (strsC (out ++ [x])) ∧ Below B w wr ∧ Ip.rows ((by8 s).take k) = out.map by8 ++ [by8 x]

theorem rw_nl {B : Nat} {w wr : World} {s x : ByteArray} {k g c : Nat} {out : List ByteArray} {a : Option Addr} (hlt : k < s.size) (h10 : s[k] = 10) (hx : x.size + out.length ≤ k) (hp : Ip.rows ((by8 s).take k) = out.map by8 ++ [by8 x])
    (ho : wr.ownsRow B ST 1 (.slice a (out.length + 1 + 1) c) (out.length + 1 + 1) (strsC (out ++ [x]) ++ [.string ⟨#[]⟩])) (ha : a = some ⟨g, 0, none⟩) (hB : Below B w wr) :
    RwRel B w s (.slice a (out.length + 1 + 1) c) (.int .i64 ((k : Int) + 1)) wr := by
  subst ha
  refine ⟨k + 1, g, c, out ++ [x], ⟨#[]⟩, by go_num, by rw [List.length_append, List.length_singleton], hlt, ?_, ?_, hB, ?_⟩
  · rw [List.length_append, List.length_singleton]
    show 0 + (out.length + 1) ≤ k + 1
    omega
  · rw [List.length_append, List.length_singleton, show strsC (out ++ [x] ++ [⟨#[]⟩]) = strsC (out ++ [x]) ++ [.string ⟨#[]⟩] by simp [strsC]]
    exact ho
  · rw [by8_snoc hlt, rows_snoc _ hp, if_pos h10, List.map_append]
    rfl
theorem rw_byte {B : Nat} {w wr : World} {s x : ByteArray} {k g c : Nat} {out : List ByteArray} (hlt : k < s.size) (h10 : ¬ s[k] = 10) (hx : x.size + out.length ≤ k) (hp : Ip.rows ((by8 s).take k) = out.map by8 ++ [by8 x])
    (ho : wr.ownsRow B ST 1 (.slice (some ⟨g, 0, none⟩) (out.length + 1) c) (out.length + 1) (strsC (out ++ [x]))) (hB : Below B w wr) (hBg : B ≤ g) :
    RwRel B w s (.slice (some ⟨g, 0, none⟩) (out.length + 1) c) (.int .i64 ((k : Int) + 1)) (wr.setCell ⟨g, out.length, none⟩ (.string (x ++ s.extract k (k + 1)))) := by
  have h1 := (ho.stored out.length (.string (x ++ s.extract k (k + 1)))).1
  refine ⟨k + 1, g, c, out, x ++ s.extract k (k + 1), by go_num, rfl, hlt, ?_, ?_, hB.setCell (p := ⟨g, out.length, none⟩) hBg _, ?_⟩
  · rw [ByteArray.size_append, ByteArray.size_extract]; omega
  · have e : (strsC (out ++ [x])).set out.length (.string (x ++ s.extract k (k + 1))) = strsC (out ++ [x ++ s.extract k (k + 1)]) := by
      simp [strsC]
    rw [e] at h1
    exact h1
  · rw [by8_snoc hlt, rows_snoc _ hp, if_neg h10, by8_add, by8_one hlt]
theorem RwRel.drew {B : Nat} {w wr : World} {s : ByteArray} {v i : Value} (h : RwRel B w s v i wr) : RwRel B w s v i wr.drew := by
  obtain ⟨k, g, c, out, x, a1, a2, a3, a4, a5, a6, a7⟩ := h
  exact ⟨k, g, c, out, x, a1, a2, a3, a4, a5, a6.drew, a7⟩

set_option maxHeartbeats 4000000 in
theorem RRows_any (w : World) (s : ByteArray) (hs : s.size ≤ 1000000) :
    Calls Tryd.prog 16 #[.string s] w fun e w' => ∃ (out : List ByteArray) (g c : Nat), e = .returned (.slice (some ⟨g, 0, none⟩) out.length c) ∧ out.map by8 = Ip.rows (by8 s) ∧ w'.ownsRow w.heap.size ST 1 (.slice (some ⟨g, 0, none⟩) out.length c) out.length (strsC out) ∧ Below w.heap.size w w' := by
  obtain ⟨i0, hi, hz0, hz1, hz2⟩ := info_parts infoS
  go_enter Tryd.func16, Tryd.ntmps16
  go_wp2
  go_loopw [3, 4] (fun v i wr => RwRel w.heap.size w s v i wr) (fun _ i _ => s.size - (intOf i).toNat)
  case atStart => exact ⟨0, w.heap.size, 1, [], ⟨#[]⟩, rfl, rfl, Nat.zero_le _, Nat.le_refl _, World.ownsRow_lit w #[.string ⟨#[]⟩] 1 (Nat.le_refl _) (by decide) rfl, (Below.refl _ _).alloc (Nat.le_refl _) _, rfl⟩
  case round =>
    obtain ⟨k, g, c, out, x, rfl, rfl, hk, hx, ho, hB, hp⟩ := hrel
    have hgl := (ho.lt g rfl)
    by_cases hlt : k < s.size
    · by_cases h47 : s[k] = 10
      · have hb : ((s[k].toNat : Int) == 10) = true := by rw [h47]; rfl
        have H47 := Lib.hid h47
        have HP := Lib.hid hp
        clear h47 hp
        go_wp2_with (at_builtin; refine wpList_append_own _ rfl _ _ 37 rfl w.heap.size ST i0 (.string ByteArray.empty) 1 16 Tryd.underlying37 hi hz0 hz1 hz2 rfl (by decide) _ _ _ rfl (ho.alloc _) ⟨wr.heap.size, 0, none⟩ 1 1 [.string ⟨#[]⟩] rfl rfl (cell_one_new _ _ _) (by simp [Value.oneCell']) (by unfold maxLen; omega) (by omega) (by have := hB.size; simp; omega) ?_; intro v' w1 hown' hgrow _; obtain ⟨a2, c2, rfl⟩ := owns_slice hown')
        go_roundw
        case rel =>
          obtain ⟨g2, e2, _⟩ := owns_addr hown' (by omega)
          exact rw_nl hlt H47.out hx HP.out hown' e2 ((hB.alloc hB.size _).grown hgrow (by have := hB.size; simp; omega) fun j ej => (ho.lt j ej).1)
        case measure => simp [intOf] <;> omega
      · have hb : ((s[k].toNat : Int) == 10) = false := eq_false (b := 10) h47
        have H47 := Lib.hid h47
        have HP := Lib.hid hp
        clear h47 hp
        have hcell : wr.cell? ⟨g, out.length, none⟩ = some (.string x) := by
          rw [ho.cellAt out.length (by omega)]; simp [strsC]
        have hfz := ho.frozenAt out.length
        have hwr : IntKind.i64.wrap (((out.length + 1 : Nat) : Int) - 1) = (out.length : Int) := by rw [IntWalk.i64_in _ (by omega)]; omega
        have hwr2 : IntKind.i64.wrap ((out.length : Int)) = (out.length : Int) := by rw [IntWalk.i64_in _ (by omega)]
        have hwr3 : IntKind.i64.wrap ((k : Int) + 1) = (k : Int) + 1 := by rw [IntWalk.i64_in _ (by omega)]
        have hk0 : (0 : Int) ≤ (k : Int) := Int.natCast_nonneg _
        have hk1 : (0 : Int) ≤ (k : Int) + 1 := by omega
        have hk2 : (k : Int) + 1 ≤ (s.size : Int) := by omega
        have hk3 : (k : Int) ≤ (k : Int) + 1 := by omega
        have ho0 : (0 : Int) ≤ (out.length : Int) := Int.natCast_nonneg _
        have ho1 : (out.length : Int) < (out.length : Int) + 1 := by omega
        go_wp2
        go_region
        go_wp2
        go_roundw
        case rel => exact (rw_byte hlt H47.out hx HP.out ho hB hgl.1).drew
        case measure => simp [intOf] <;> omega
    · obtain rfl : k = s.size := by omega
      rw [List.take_of_length_le (by rw [by8_len]; exact Nat.le_refl _)] at hp
      have HP := Lib.hid hp
      clear hp
      go_wp2
      go_ret
      exact ⟨out ++ [x], g, c, by rw [List.length_append]; rfl, by rw [HP.out, List.map_append]; rfl, by rw [List.length_append]; exact ho, hB⟩
end Go.Proofs.YtgncnffejennfaaDoor.Iw
