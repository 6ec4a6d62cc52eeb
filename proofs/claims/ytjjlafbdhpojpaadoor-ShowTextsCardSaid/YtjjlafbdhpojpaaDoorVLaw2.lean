/-
  flatironlaw10.ShowTexts, by what show.Text and show.Dollar return: the law.
-/
import Derived.Test.YtjjlafbdhpojpaaDoorMOf
import Derived.Test.YtjjlafbdhpojpaaDoorVLaw
namespace Go.Proofs.YtjjlafbdhpojpaaDoor.Vw
open Go.RowKit Go.Proofs.YtjjlafbdhpojpaaDoor Go.Proofs.YtjjlafbdhpojpaaDoor.Ww Go.Proofs.YtjjlafbdhpojpaaDoor.Iw Go.Proofs.YtjjlafbdhpojpaaDoor.Mw
set_option maxRecDepth 100000

def TruePost (w : World) (e : Ending) (w' : World) : Prop := e = .returned (.bool true) ∧ Below w.heap.size w w'

set_option maxHeartbeats 2000000 in
theorem law_long (HT : TextC) (HD : DollarC) (w : World) (hG : GM w) (s : ByteArray) (hs : 3000 < s.size) : Calls Tryd.prog 3 #[.string s] w (TruePost w) := by
  have HL := Lib.hid fun W (h : Below w.heap.size w W) => lives_any HT HD W (hG.below h hG.lt)
  have hz : (3000 : Int) < (s.size : Int) := by omega
  clear HT HD hG
  go_enter Tryd.func3, Tryd.ntmps3
  go_wp2_with fail
  refine (HL.out _ (Below.refl _ _)).mono ?_
  rintro e w1 ⟨rfl, B1⟩
  go_wp2_with fail
  refine (HL.out _ B1).mono ?_
  rintro e w2 ⟨rfl, B2⟩
  go_wp2_with fail
  go_ret
  exact ⟨rfl, B1.trans (B2.mono B1.size)⟩
set_option maxHeartbeats 2000000 in
theorem law_slash (HT : TextC) (HD : DollarC) (w : World) (hG : GM w) (s : ByteArray) (hs : s.size ≤ 3000) (hb : (by8 s).contains 92 = true) : Calls Tryd.prog 3 #[.string s] w (TruePost w) := by
  have HL := Lib.hid fun W (h : Below w.heap.size w W) => lives_any HT HD W (hG.below h hG.lt)
  have HC := Lib.hid fun W => contains_is W s true (Lib.hid hb)
  have hz : ¬ (3000 : Int) < (s.size : Int) := by omega
  clear HT HD hb hG
  go_enter Tryd.func3, Tryd.ntmps3
  go_wp2_with fail
  refine (HL.out _ (Below.refl _ _)).mono ?_
  rintro e w1 ⟨rfl, B1⟩
  go_wp2_with fail
  refine (HC.out _).mono ?_
  rintro e w1' ⟨rfl, rfl⟩
  go_wp2_with fail
  refine (HL.out _ B1).mono ?_
  rintro e w2 ⟨rfl, B2⟩
  go_wp2_with fail
  go_ret
  exact ⟨rfl, B1.trans (B2.mono B1.size)⟩
set_option maxHeartbeats 2000000 in
theorem law_none (HT : TextC) (HD : DollarC) (w : World) (hG : GM w) (s : ByteArray) (hs : s.size ≤ 3000) (hb : (by8 s).contains 92 = false) (n : Nat) (hp : Mp.partsA (by8 s) = .error n) : Calls Tryd.prog 3 #[.string s] w (TruePost w) := by
  have HL := Lib.hid fun W (h : Below w.heap.size w W) => lives_any HT HD W (hG.below h hG.lt)
  have HC := Lib.hid fun W => contains_is W s false (Lib.hid hb)
  have HO := Lib.hid fun W => Mw.Of_any W ⟨#[109]⟩ s (by omega)
  have hz : ¬ (3000 : Int) < (s.size : Int) := by omega
  rw [hp] at HO
  clear HT HD hb hp hG
  go_enter Tryd.func3, Tryd.ntmps3
  go_wp2_with fail
  refine (HL.out _ (Below.refl _ _)).mono ?_
  rintro e w1 ⟨rfl, B1⟩
  go_wp2_with fail
  refine (HC.out _).mono ?_
  rintro e w1' ⟨rfl, rfl⟩
  go_wp2_with fail
  refine (HO.out _).mono ?_
  rintro e w2 ⟨rfl, B2⟩
  have HB := Lib.hid (B1.trans (B2.mono B1.size))
  clear B1 B2
  go_wp2_with fail
  go_ret
  exact ⟨rfl, ((HB.out.alloc HB.out.size _))⟩
theorem call_text (HT : TextC) {W : World} {lo : Nat} {a : Option Addr} {c : Nat} {X : List PV} {L M : List Mp.P} {T : Bs} (hX : X.map PV.p = L) (hT : Vp.textA L = T) (hP : Ps W lo (.slice a X.length c) X) (h1 : Mp.partsA T = .ok M) (h2 : M.map Vp.bareP = L.map Vp.bareP)
    (h3 : ∀ p ∈ L, p.kind ≤ 3) (h4 : T.length ≤ 99990) (h5 : L.length ≤ 100000) (h6 : ∀ p ∈ L, p.recipe.length ≤ 100000) (h7 : ∀ p ∈ L, Vp.Fl 100000 p) (h8 : ∀ p ∈ M, Vp.Fl 100000 p ∧ p.recipe.length ≤ 100000) (h9 : GM W) (h10 : ∀ p ∈ L, Vp.Lt (Vp.rowA p)) :
    Calls Tryd.prog 7 #[.slice a X.length c] W fun e w' => e = .returned (.tuple #[.string (str T), .int .i64 0]) ∧ Below W.heap.size W w' := by
  subst hX; subst hT
  exact HT W lo a c X M hP h1 h2 h3 h4 (by simpa using h5) h6 h7 h8 h9 h10
theorem call_of {W : World} {lo : Nat} {a : Option Addr} {c : Nat} {X : List PV} {L : List Mp.P} (hX : X.map PV.p = L) (hP : Ps W lo (.slice a X.length c) X) (h5 : L.length ≤ 100000) (h6 : ∀ p ∈ L, p.recipe.length ≤ 100000) :
    Calls Tryd.prog 9 #[.slice a X.length c] W fun e w' => ∃ a' c' Y, Y.map PV.p = L ∧ e = .returned (.slice a' Y.length c') ∧ Qs w' W.heap.size (.slice a' Y.length c') Y ∧ Below W.heap.size W w' := by
  subst hX
  exact LawOf_any W lo a c X hP (fun x hx => by have := h6 x.p (List.mem_map_of_mem hx); omega) (by simp at h5; omega)
theorem call_rtext {W : World} {lo : Nat} {a : Option Addr} {c : Nat} {Y : List PV} {L : List Mp.P} (hY : Y.map PV.p = L) (h : Qs W lo (.slice a Y.length c) Y) (h4 : (Vp.textA L).length ≤ 99990) (h5 : L.length ≤ 100000) (h6 : ∀ p ∈ L, p.recipe.length ≤ 100000) (h7 : ∀ p ∈ L, Vp.Fl 100000 p) :
    Calls Tryd.prog 8 #[.slice a Y.length c] W fun e w' => e = .returned (.string (str (Vp.textA L))) ∧ Below W.heap.size W w' := by
  subst hY
  exact RText_any W lo _ Y h (by simp at h5; omega) (fun x hx => by have := h6 x.p (List.mem_map_of_mem hx); omega) (fun x hx => Fl_Sz (h7 x.p (List.mem_map_of_mem hx))) (by omega)
theorem call_same {W : World} {lo : Nat} {v1 v2 : Value} {Y Z : List PV} {L M : List Mp.P} (hY : Y.map PV.p = L) (hZ : Z.map PV.p = M) (hLM : M.map Vp.bareP = L.map Vp.bareP) (h1 : Qs W lo v1 Y) (h2 : Qs W lo v2 Z) (h5 : L.length ≤ 100000) (h6 : ∀ p ∈ L, p.recipe.length ≤ 100000) :
    Calls Tryd.prog 10 #[v1, v2, .bool false] W fun e w' => e = .returned (.bool true) ∧ Below W.heap.size W w' := by
  subst hY; subst hZ
  refine same_any W lo v1 v2 Y Z h1 h2 ?_ (by simp at h5; omega) (fun x hx => by have := h6 x.p (List.mem_map_of_mem hx); omega)
  rw [List.map_map, List.map_map] at hLM
  exact hLM.symm
set_option maxHeartbeats 4000000 in
theorem law_some (HT : TextC) (HD : DollarC) (w : World) (hG : GM w) (s : ByteArray) (hs : s.size ≤ 3000) (hb : (by8 s).contains 92 = false) (L : List Mp.P) (hp : Mp.partsA (by8 s) = .ok L) : Calls Tryd.prog 3 #[.string s] w (TruePost w) := by
  have HL := Lib.hid fun W (h : Below w.heap.size w W) => lives_any HT HD W (hG.below h hG.lt)
  have HC := Lib.hid fun W => contains_is W s false (Lib.hid hb)
  have HO := Lib.hid fun W => Mw.Of_any W ⟨#[109]⟩ s (by omega)
  have HK := Lib.hid (known (s := by8 s) (by rw [by8_len]; exact hs) (by simpa using hb) hp)
  have HO2 := Lib.hid fun W => Mw.Of_any W ⟨#[109]⟩ (str (Vp.textA L)) (by rw [str_size]; exact HK.out.len)
  have hz : ¬ (3000 : Int) < (s.size : Int) := by omega
  rw [hp] at HO
  rw [by8_str, HK.out.again] at HO2
  have HTT := Lib.hid HT
  have HGM := Lib.hid hG
  clear HT HD hb hp hG
  go_enter Tryd.func3, Tryd.ntmps3
  go_wp2_with fail
  refine (HL.out _ (Below.refl _ _)).mono ?_
  rintro e w1 ⟨rfl, B1⟩
  go_wp2_with fail
  refine (HC.out _).mono ?_
  rintro e w1' ⟨rfl, rfl⟩
  go_wp2_with fail
  refine (HO.out _).mono ?_
  rintro e w2 ⟨⟨X1, a1, c1, hX1, rfl, hP1⟩, B2⟩
  have HX1 := Lib.hid hX1
  have HP1 := Lib.hid hP1
  have HB := Lib.hid (B1.trans (B2.mono B1.size))
  clear B1 B2 hX1 hP1
  have HF : Hid (∀ p ∈ Vp.nps 1 L, Vp.Fl 100000 p ∧ p.recipe.length ≤ 100000) := Lib.hid fun p hp => ⟨HK.out.fl2 p hp, HK.out.recs2 p hp⟩
  have HCN : Hid ((Vp.nps 1 L).length ≤ 100000) := Lib.hid (by rw [Vp.nps_len]; exact HK.out.count)
  go_wp2_with fail
  refine (call_text HTT.out HX1.out rfl (HP1.out.below ((Below.refl _ _).alloc (Nat.le_refl _) _)) HK.out.again HK.out.same HK.out.kind HK.out.len HK.out.count HK.out.recs HK.out.fl HF.out (HGM.out.below (HB.out.alloc HB.out.size _) HGM.out.lt) HK.out.lt).mono ?_
  rintro e w3 ⟨rfl, B3⟩
  have HP3 := Lib.hid ((HP1.out.below ((Below.refl _ _).alloc (Nat.le_refl _) _)).below B3)
  have HB3 := Lib.hid ((HB.out.alloc HB.out.size _).trans (B3.mono (HB.out.alloc HB.out.size _).size))
  clear B3 HP1
  go_wp2_with fail
  refine (HO2.out _).mono ?_
  rintro e w4 ⟨⟨X2, a2, c2, hX2, rfl, hP2⟩, B4⟩
  have HX2 := Lib.hid hX2
  have HP4 := Lib.hid (HP3.out.below B4)
  have HQ4 := Lib.hid hP2
  have HB4 := Lib.hid (HB3.out.trans (B4.mono HB3.out.size))
  clear B4 hX2 hP2 HP3
  go_wp2_with fail
  refine (call_text HTT.out HX2.out HK.out.text (HQ4.out.below ((Below.refl _ _).alloc (Nat.le_refl _) _)) HK.out.again rfl HK.out.kind2 HK.out.len HCN.out HK.out.recs2 HK.out.fl2 HF.out (HGM.out.below (HB4.out.alloc HB4.out.size _) HGM.out.lt) HK.out.lt2).mono ?_
  rintro e w5 ⟨rfl, B5⟩
  have e0 : w5.cell? ⟨w4.heap.size, 0, none⟩ = some (.int .i64 0) := (B5.cell (p := ⟨w4.heap.size, 0, none⟩) (by simp)).trans (cell_at (heap_alloc_last w4 _) rfl)
  have HP5 := Lib.hid ((HP4.out.below ((Below.refl _ _).alloc (Nat.le_refl _) _)).below B5)
  have HQ5 := Lib.hid ((HQ4.out.below ((Below.refl _ _).alloc (Nat.le_refl _) _)).below B5)
  have HB5 := Lib.hid ((HB4.out.alloc HB4.out.size _).trans (B5.mono (HB4.out.alloc HB4.out.size _).size))
  clear B5 HP4 HQ4 HTT HL HC HO HO2
  go_wp2_with fail
  refine (call_of HX1.out HP5.out HK.out.count HK.out.recs).mono ?_
  rintro e w6 ⟨b6, d6, Y6, hY6, rfl, hQ6, B6⟩
  have HY6 := Lib.hid hY6
  have HB6 := Lib.hid (HB5.out.trans (B6.mono HB5.out.size))
  have HP6 := Lib.hid (HP5.out.below B6)
  have HQ6 := Lib.hid (HQ5.out.below B6)
  have HR6 := Lib.hid hQ6
  clear B6 hY6 hQ6 HP5 HQ5 e0
  go_wp2_with fail
  refine (call_rtext HY6.out HR6.out HK.out.len HK.out.count HK.out.recs HK.out.fl).mono ?_
  rintro e w7 ⟨rfl, B7⟩
  have HB7 := Lib.hid (HB6.out.trans (B7.mono HB6.out.size))
  have HP7 := Lib.hid (HP6.out.below B7)
  have HQ7 := Lib.hid (HQ6.out.below B7)
  clear B7 HP6 HQ6 HR6 HY6
  go_wp2_with fail
  refine (call_of HX1.out HP7.out HK.out.count HK.out.recs).mono ?_
  rintro e w8 ⟨b8, d8, Y8, hY8, rfl, hQ8, B8⟩
  have HY8 := Lib.hid hY8
  have HB8 := Lib.hid (HB7.out.trans (B8.mono HB7.out.size))
  have HQ8 := Lib.hid (HQ7.out.below B8)
  have HR8 := Lib.hid hQ8
  clear B8 hY8 hQ8 HP7 HQ7
  go_wp2_with fail
  refine (call_of HX2.out HQ8.out HCN.out HK.out.recs2).mono ?_
  rintro e w9 ⟨b9, d9, Y9, hY9, rfl, hQ9, B9⟩
  have HY9 := Lib.hid hY9
  have HB9 := Lib.hid (HB8.out.trans (B9.mono HB8.out.size))
  have HR9 := Lib.hid (((HR8.out.below B9).mono (lo' := w.heap.size) HB7.out.size))
  have HS9 := Lib.hid (hQ9.mono (lo' := w.heap.size) HB8.out.size)
  clear B9 hY9 hQ9 HQ8 HR8
  go_wp2_with fail
  refine (call_same HY8.out HY9.out HK.out.same HR9.out HS9.out HK.out.count HK.out.recs).mono ?_
  rintro e w10 ⟨rfl, B10⟩
  go_wp2_with fail
  go_ret
  exact ⟨rfl, HB9.out.trans (B10.mono HB9.out.size)⟩

theorem ShowTexts_any (w : World) (hG : GM w) (s : ByteArray) : Calls Tryd.prog 3 #[.string s] w (TruePost w) := by
  by_cases hs : s.size ≤ 3000
  · cases hb : (by8 s).contains 92 with
    | true => exact law_slash textC dollarC w hG s hs hb
    | false =>
      cases hp : Mp.partsA (by8 s) with
      | error n => exact law_none textC dollarC w hG s hs hb n hp
      | ok L => exact law_some textC dollarC w hG s hs hb L hp
  · exact law_long textC dollarC w hG s (by omega)
end Go.Proofs.YtjjlafbdhpojpaaDoor.Vw
