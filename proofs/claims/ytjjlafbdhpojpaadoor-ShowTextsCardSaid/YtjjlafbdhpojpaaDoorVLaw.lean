/-
  flatironlaw10.ShowTexts, by what show.Text and show.Dollar return.
-/
import Derived.Test.YtjjlafbdhpojpaaDoorVText
namespace Go.Proofs.YtjjlafbdhpojpaaDoor.Vw
open Go.RowKit Go.Proofs.YtjjlafbdhpojpaaDoor Go.Proofs.YtjjlafbdhpojpaaDoor.Ww Go.Proofs.YtjjlafbdhpojpaaDoor.Iw Go.Proofs.YtjjlafbdhpojpaaDoor.Mw
set_option maxRecDepth 100000

/-- What show.Text returns, at parts that are read again. -/
def TextC : Prop := ∀ (w : World) (lo : Nat) (a : Option Addr) (c : Nat) (X : List PV) (L : List Mp.P), Ps w lo (.slice a X.length c) X → Mp.partsA (Vp.textA (X.map PV.p)) = .ok L → L.map Vp.bareP = (X.map PV.p).map Vp.bareP →
  (∀ p ∈ X.map PV.p, p.kind ≤ 3) → (Vp.textA (X.map PV.p)).length ≤ 99990 → X.length ≤ 100000 → (∀ p ∈ X.map PV.p, p.recipe.length ≤ 100000) → (∀ p ∈ X.map PV.p, Vp.Fl 100000 p) → (∀ p ∈ L, Vp.Fl 100000 p ∧ p.recipe.length ≤ 100000) → GM w → (∀ p ∈ X.map PV.p, Vp.Lt (Vp.rowA p)) →
  Calls Tryd.prog 7 #[.slice a X.length c] w fun e w' => e = .returned (.tuple #[.string (str (Vp.textA (X.map PV.p))), .int .i64 0]) ∧ Below w.heap.size w w'
def DollarC : Prop := ∀ w : World, GM w → Calls Tryd.prog 11 #[.string ⟨#[36, 120]⟩] w fun e w' => e = .returned (.string ⟨#[36, 36, 120]⟩) ∧ Below w.heap.size w w'

theorem Fl_Sz {p : Mp.P} (h : Vp.Fl 100000 p) : Sz p := by
  obtain ⟨h1, h2, h3, h4, h5, h6⟩ := h
  exact ⟨by omega, by omega, by omega, by omega, by omega, by omega⟩
theorem textC : TextC := fun w lo a c X L hX hL hLX hk hT hl hr hz hL2 hG hlt =>
  Text_any w hG lo a c X L hX hL hLX (fun x hx => hk x.p (List.mem_map_of_mem hx)) hT hl (fun x hx => hr x.p (List.mem_map_of_mem hx)) (fun x hx => Fl_Sz (hz x.p (List.mem_map_of_mem hx))) (fun x hx => hlt x.p (List.mem_map_of_mem hx)) (fun p hp => (hL2 p hp).2)
theorem dollarC : DollarC := fun w hG => Dollar_x w hG

/-- The chapter's example. -/
def exP : Mp.P := { Mp.zero with kind := 1, targets := [97], needs := [98], recipe := [⟨0, [116, 114, 117, 101], true⟩] }
def exO : List Mp.P := [{ Mp.zero with kind := 1, line := 1, targets := [97], needs := [98], recipe := [⟨2, [116, 114, 117, 101], true⟩] }]
theorem ex_text : Vp.textA [exP] = [97, 58, 32, 98, 10, 9, 116, 114, 117, 101, 10] := by decide
theorem ex_parts : Mp.partsA (Vp.textA [exP]) = .ok exO := by rfl

theorem ex_kind : ∀ p ∈ [exP], p.kind ≤ 3 := by intro p hp; obtain rfl := List.mem_singleton.1 hp; decide
theorem ex_rec : ∀ p ∈ [exP], p.recipe.length ≤ 100000 := by intro p hp; obtain rfl := List.mem_singleton.1 hp; decide
theorem ex_fl : ∀ p ∈ [exP], Vp.Fl 100000 p := by intro p hp; obtain rfl := List.mem_singleton.1 hp; exact ⟨by decide, by decide, by decide, by decide, by decide, by decide⟩
theorem ex_out : ∀ p ∈ exO, Vp.Fl 100000 p ∧ p.recipe.length ≤ 100000 := by intro p hp; obtain rfl := List.mem_singleton.1 hp; exact ⟨⟨by decide, by decide, by decide, by decide, by decide, by decide⟩, by decide⟩
theorem ex_len : (Vp.textA [exP]).length ≤ 99990 := by rw [ex_text]; decide
theorem ex_bare : exO.map Vp.bareP = [exP].map Vp.bareP := by rfl
theorem ex_row : Vp.rowA exP = [97, 58, 32, 98] := by decide
theorem ex_lt : ∀ p ∈ [exP], Vp.Lt (Vp.rowA p) := by
  intro p hp; obtain rfl := List.mem_singleton.1 hp; rw [ex_row]; intro c hc; obtain rfl : (98 : UInt8) = c := by simpa using hc
  decide
theorem ex_calls (HT : TextC) (W : World) (hG : GM W) (lo g : Nat) (v : Value) (HP : Ps W lo (.slice (some ⟨g, 0, none⟩) 1 1) [⟨exP, v⟩]) :
    Calls Tryd.prog 7 #[.slice (some ⟨g, 0, none⟩) 1 1] W fun e w' => e = .returned (.tuple #[.string ⟨#[97, 58, 32, 98, 10, 9, 116, 114, 117, 101, 10]⟩, .int .i64 0]) ∧ Below W.heap.size W w' := by
  have hm : ([⟨exP, v⟩] : List PV).map PV.p = [exP] := rfl
  have h := HT W lo (some ⟨g, 0, none⟩) 1 [⟨exP, v⟩] exO HP
  rw [hm] at h
  have h := h ex_parts ex_bare ex_kind ex_len (by simp) ex_rec ex_fl ex_out hG ex_lt
  rw [ex_text] at h
  exact h

theorem ex_cells (v : Value) : partC exP v = #[.int .i64 1, .int .i64 0, .string ⟨#[]⟩, .string ⟨#[]⟩, .string ⟨#[]⟩, .bool false, .bool false, .string ⟨#[97]⟩, .string ⟨#[98]⟩, .string ⟨#[]⟩, v] := by simp [partC, exP, Mp.zero, str]
set_option maxHeartbeats 2000000 in
theorem lives_any (HT : TextC) (HD : DollarC) (w : World) (hG : GM w) : Calls Tryd.prog 4 #[] w fun e w' => e = .returned (.bool true) ∧ Below w.heap.size w w' := by
  have hown1 := World.ownsRow_lit (base := w.heap.size) (size := 3) (e := LT) w #[.int .i64 0, .string ⟨#[116, 114, 117, 101]⟩, .bool true] 1 (Nat.le_refl _) (by decide) rfl
  have HB1 := Lib.hid ((Below.refl w.heap.size w).alloc (Nat.le_refl _) (.cells #[.int .i64 0, .string ⟨#[116, 114, 117, 101]⟩, .bool true] LT))
  have hown2 := World.ownsRow_lit (base := w.heap.size) (size := 11) (e := PT) (w.alloc (.cells #[.int .i64 0, .string ⟨#[116, 114, 117, 101]⟩, .bool true] LT)) (partC exP (.slice (some ⟨w.heap.size, 0, none⟩) 1 1)) 1 (by simp) (by decide) rfl
  have HB2 := Lib.hid (HB1.out.alloc (by simp) (.cells (partC exP (.slice (some ⟨w.heap.size, 0, none⟩) 1 1)) PT))
  have HP : Hid (Ps ((w.alloc (.cells #[.int .i64 0, .string ⟨#[116, 114, 117, 101]⟩, .bool true] LT)).alloc (.cells (partC exP (.slice (some ⟨w.heap.size, 0, none⟩) 1 1)) PT)) w.heap.size (.slice (some ⟨(w.alloc (.cells #[.int .i64 0, .string ⟨#[116, 114, 117, 101]⟩, .bool true] LT)).heap.size, 0, none⟩) 1 1) [⟨exP, .slice (some ⟨w.heap.size, 0, none⟩) 1 1⟩]) := Lib.hid
    ⟨hown2, fun x hx => by rw [List.mem_singleton.1 hx]; exact owns_below hown1 ((Below.refl _ _).alloc (Nat.le_refl _) _), List.pairwise_singleton _ _⟩
  have hC := ex_calls HT _ (hG.below HB2.out hG.lt) w.heap.size _ _ HP.out
  have HGM := Lib.hid hG
  rw [ex_cells, World.size_alloc] at hC
  have HC := Lib.hid hC
  have hB2 := HB2.out
  rw [ex_cells] at hB2
  have HB3 := Lib.hid hB2
  clear HB2 hB2 hC HP HB1
  have HDD := Lib.hid HD
  clear hown1 hown2 HT HD hG
  go_enter Tryd.func4, Tryd.ntmps4
  go_wp2_with fail
  refine HC.out.mono ?_
  rintro e w1 ⟨rfl, B1⟩
  go_wp2_with fail
  refine (HDD.out _ (HGM.out.below (HB3.out.trans (B1.mono HB3.out.size)) HGM.out.lt)).mono ?_
  rintro e w2 ⟨rfl, B2⟩
  go_wp2_with fail
  go_ret
  have h2 := HB3.out.size
  have h3 := B1.size
  exact ⟨rfl, (HB3.out.trans (B1.mono h2)).trans (B2.mono (by omega))⟩

theorem contains_is (W : World) (s : ByteArray) (b : Bool) (hb : Hid ((by8 s).contains 92 = b)) :
    Calls Tryd.prog 5 #[.string s, .string ⟨#[92]⟩] W fun e w' => e = .returned (.bool b) ∧ W = w' :=
  (Tryd.strings_Contains_one s 92 W).mono fun e w' ⟨he, hw⟩ => ⟨by rw [he, ← Lib.contains_iff_indexByte]; exact congrArg (fun x => Ending.returned (.bool x)) hb.out, hw.symm⟩
theorem go_rec : ∀ {R : List Ip.L} {l m : List Mp.P} {k : Nat}, Mp.goA l R = .ok m → (∀ p ∈ l, p.recipe.length ≤ k) → ∀ p ∈ m, p.recipe.length ≤ k + R.length
  | [], l, m, k, h, hl => by
    have : l = m := by simpa [Mp.goA] using h
    subst this; exact hl
  | x :: R, l, m, k, h, hl => by
    unfold Mp.goA at h
    split at h
    · cases h
    · rename_i l2 h2
      intro p hp
      have := go_rec h (addA_rec h2 hl) p hp
      rw [List.length_cons]; omega
theorem parts_rec {s : Bs} {l : List Mp.P} (h : Mp.partsA s = .ok l) : ∀ p ∈ l, p.recipe.length ≤ s.length + 1 := fun p hp => by
  have h1 := go_rec (k := 0) h (by simp) p hp
  have h2 := Ip.linesA_le s
  have h3 := List.count_le_length (a := (10 : UInt8)) (l := s)
  omega
/-- What is known of a short text's parts. -/
structure Known (s : Bs) (L : List Mp.P) : Prop where
  again : Mp.partsA (Vp.textA L) = .ok (Vp.nps 1 L)
  same : (Vp.nps 1 L).map Vp.bareP = L.map Vp.bareP
  text : Vp.textA (Vp.nps 1 L) = Vp.textA L
  kind : ∀ p ∈ L, p.kind ≤ 3
  kind2 : ∀ p ∈ Vp.nps 1 L, p.kind ≤ 3
  len : (Vp.textA L).length ≤ 99990
  count : L.length ≤ 100000
  recs : ∀ p ∈ L, p.recipe.length ≤ 100000
  recs2 : ∀ p ∈ Vp.nps 1 L, p.recipe.length ≤ 100000
  fl : ∀ p ∈ L, Vp.Fl 100000 p
  fl2 : ∀ p ∈ Vp.nps 1 L, Vp.Fl 100000 p
  lt : ∀ p ∈ L, Vp.Lt (Vp.rowA p)
  lt2 : ∀ p ∈ Vp.nps 1 L, Vp.Lt (Vp.rowA p)
theorem Vp.Fl.mono {N M : Nat} {p : Mp.P} (h : Vp.Fl N p) (hl : N ≤ M) : Vp.Fl M p := by
  obtain ⟨h1, h2, h3, h4, h5, h6⟩ := h
  exact ⟨by omega, by omega, by omega, by omega, by omega, by omega⟩
theorem known {s : Bs} {L : List Mp.P} (hs : s.length ≤ 3000) (h : 92 ∉ s) (hp : Mp.partsA s = .ok L) : Known s L := by
  obtain ⟨h1, h2⟩ := Vp.again h hp
  obtain ⟨h3, h4⟩ := Vp.parts_fl hp
  have h5 := Vp.good_parts h hp
  have h6 := parts_rec hp
  have hfl : ∀ p ∈ L, Vp.Fl 100000 p := fun p hp => Vp.Fl.mono (h3 p hp) (by omega)
  refine ⟨h1, h2, Vp.text_again h hp, fun p hp => (h5 p hp).kind, fun q hq => ?_, Nat.le_trans (Vp.shown_len h hp) (by omega), by omega, fun p hp => by have := h6 p hp; omega, fun q hq => ?_, hfl, fun q hq => ?_, fun p hp => Vp.lt_of (h5 p hp).trim, fun q hq => ?_⟩ <;> (try obtain ⟨p, hp', j, rfl⟩ := Vp.nps_mem hq)
  · exact (h5 p hp').kind
  · have := h6 p hp'
    show (Vp.rl (j + 1) p.recipe).length ≤ _
    rw [Vp.rl_len]; omega
  · exact hfl p hp'
  · exact Vp.lt_of (h5 p hp').trim
end Go.Proofs.YtjjlafbdhpojpaaDoor.Vw
