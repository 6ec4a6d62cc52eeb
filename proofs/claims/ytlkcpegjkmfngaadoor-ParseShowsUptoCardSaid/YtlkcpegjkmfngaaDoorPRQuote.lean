/-
  flatironref05.Quote and Show.
-/
import Derived.Deep.RegionHeld3
import Derived.Test.YtlkcpegjkmfngaaDoorLShow2
import Derived.Test.YtlkcpegjkmfngaaDoorLRTokens
namespace Go.Proofs.YtlkcpegjkmfngaaDoor.Lx
open Go.RowKit Go.Proofs.YtlkcpegjkmfngaaDoor
set_option maxRecDepth 100000

def oddS : ByteArray := ⟨#[32, 9, 10, 59, 38, 124, 60, 62, 39, 34, 92]⟩
theorem odd_is (c : UInt8) : (by8 oddS).contains c = Lp.specB c := by
  show ([32, 9, 10, 59, 38, 124, 60, 62, 39, 34, 92] : List UInt8).contains c = _
  have e : ∀ a : UInt8, (c == a) = (a == c) := fun a => by rw [Bool.eq_iff_iff, beq_iff_eq, beq_iff_eq]; exact eq_comm
  simp only [List.contains_cons, List.contains_nil, Lp.specB, Lp.endB, Lp.blankB, Bool.or_false, Bool.or_assoc]
/-- What the loop knows. -/
def QRel (s : ByteArray) (vp vo vi : Value) : Prop :=
  ∃ (k : Nat) (p : Bool), vi = .int .i64 k ∧ vp = .bool p ∧ vo = .string (str (39 :: Lp.replA ((by8 s).take k))) ∧ k ≤ s.size ∧ Hid (p = (!(by8 s).isEmpty && Lp.plainB ((by8 s).take k)))
theorem plain_snoc (l : Bs) (c : UInt8) : Lp.plainB (l ++ [c]) = (Lp.plainB l && !Lp.specB c) := by simp [Lp.plainB]
theorem repl_snoc (l : Bs) (c : UInt8) : Lp.replA (l ++ [c]) = Lp.replA l ++ (if c = 39 then [39, 92, 39, 39] else [c]) := by simp [Lp.replA]

set_option maxHeartbeats 4000000 in
theorem RQuote_any (w : World) (s : ByteArray) (hs : s.size ≤ 1000000) : Calls Tryd.prog 37 #[.string s] w fun e w' => e = .returned (.string (str (Lp.quoteA (by8 s)))) ∧ w = w' := by
  have hemp : s.toList.isEmpty = (by8 s).isEmpty := by rw [Lib.toList_data]; rfl
  have hne : (s.toList != ([] : List UInt8)) = !(by8 s).isEmpty := by
    rw [Lib.toList_data]
    show ((by8 s) != []) = _
    cases by8 s <;> rfl
  go_enter Tryd.func37, Tryd.ntmps37
  go_wp2_with fail
  go_loop [3, 4, 5] (fun vp vo vi => QRel s vp vo vi) (fun _ _ vi => s.size - (intOf vi).toNat)
  case atStart => exact ⟨0, _, rfl, rfl, rfl, Nat.zero_le _, Lib.hid (by simp [Lp.plainB])⟩
  case round =>
    obtain ⟨k, p, rfl, rfl, rfl, hk, hp⟩ := hrel
    have hsz := str_size (39 :: Lp.replA ((by8 s).take k))
    have hrl := Lp.repl_len ((by8 s).take k)
    rw [List.length_take, by8_len] at hrl
    rw [List.length_cons] at hsz
    by_cases hlt : k < s.size
    · have htk := by8_snoc hlt
      have hone := one_is hlt
      have hs1 := str_size [s[k]]
      rw [List.length_singleton] at hs1
      have hH := has_any w oddS s[k] (Lp.specB s[k]) (by decide) (Lib.hid (odd_is _))
      by_cases h39 : s[k] = 39
      · have hb : ((s[k].toNat : Int) == 39) = true := by rw [h39]; rfl
        have hO : Hid (str (39 :: Lp.replA ((by8 s).take k)) ++ ⟨#[39, 92, 39]⟩ ++ str [s[k]] = str (39 :: Lp.replA ((by8 s).take (k + 1)))) := Lib.hid (by
          rw [htk, repl_snoc, if_pos h39, show (⟨#[39, 92, 39]⟩ : ByteArray) = str [39, 92, 39] from rfl, str_app, str_app, h39]
          simp)
        have hP : Hid (false = (!(by8 s).isEmpty && Lp.plainB ((by8 s).take (k + 1)))) := Lib.hid (by rw [htk, plain_snoc, h39]; simp [Lp.specB])
        have hsp : Lp.specB s[k] = true := by rw [h39]; rfl
        rw [hsp] at hH
        clear hp h39 htk hsp
        generalize str (39 :: Lp.replA ((by8 s).take k)) = q at *
        go_wp2_with (go_at_call 30; refine hH.mono ?_; rintro e w' ⟨rfl, rfl⟩)
        go_round
        case rel => exact ⟨k + 1, false, by go_num, rfl, by rw [hO.out], hlt, hP⟩
        case measure => simp [intOf]; omega
      · have hb : ((s[k].toNat : Int) == 39) = false := eq_false (b := 39) h39
        have hO : Hid (str (39 :: Lp.replA ((by8 s).take k)) ++ str [s[k]] = str (39 :: Lp.replA ((by8 s).take (k + 1)))) := Lib.hid (by
          rw [htk, repl_snoc, if_neg h39, str_app]
          simp)
        cases hsp : Lp.specB s[k] with
        | true =>
          have hP : Hid (false = (!(by8 s).isEmpty && Lp.plainB ((by8 s).take (k + 1)))) := Lib.hid (by rw [htk, plain_snoc, hsp]; simp)
          rw [hsp] at hH
          clear hp h39 htk hsp
          generalize str (39 :: Lp.replA ((by8 s).take k)) = q at *
          go_wp2_with (go_at_call 30; refine hH.mono ?_; rintro e w' ⟨rfl, rfl⟩)
          go_round
          case rel => exact ⟨k + 1, false, by go_num, rfl, by rw [hO.out], hlt, hP⟩
          case measure => simp [intOf]; omega
        | false =>
          have hP : Hid (p = (!(by8 s).isEmpty && Lp.plainB ((by8 s).take (k + 1)))) := Lib.hid (by rw [htk, plain_snoc, hsp, hp.out]; simp)
          rw [hsp] at hH
          clear hp h39 htk hsp
          generalize str (39 :: Lp.replA ((by8 s).take k)) = q at *
          go_wp2_with (go_at_call 30; refine hH.mono ?_; rintro e w' ⟨rfl, rfl⟩)
          go_round
          case rel => exact ⟨k + 1, p, by go_num, rfl, by rw [hO.out], hlt, hP⟩
          case measure => simp [intOf]; omega
    · obtain rfl : k = s.size := by omega
      have hall : (by8 s).take s.size = by8 s := List.take_of_length_le (by rw [by8_len]; exact Nat.le_refl _)
      have hp := hp.out
      rw [hall] at hp hsz hrl
      rw [hall]
      have hQ : Hid (str (Lp.quoteA (by8 s)) = if p = true then s else str (39 :: Lp.replA (by8 s)) ++ ⟨#[39]⟩) := Lib.hid (by
        unfold Lp.quoteA
        cases hp2 : p with
        | true =>
          rw [hp2] at hp
          rw [if_pos, if_pos rfl, str_by8]
          have h2 := hp.symm
          rw [Bool.and_eq_true] at h2
          refine ⟨fun e => ?_, h2.2⟩
          rw [e] at h2
          cases h2.1
        | false =>
          rw [hp2] at hp
          rw [if_neg, if_neg (by simp), show (⟨#[39]⟩ : ByteArray) = str [39] from rfl, str_app]
          rintro ⟨h3, h4⟩
          rw [h4] at hp
          cases hb : by8 s with
          | nil => exact h3 hb
          | cons _ _ => rw [hb] at hp; cases hp)
      clear hp
      generalize str (39 :: Lp.replA (by8 s)) = q at *
      cases p with
      | true =>
        go_wp2_with fail
        go_ret
        exact ⟨by rw [hQ.out]; rfl, rfl⟩
      | false =>
        go_wp2_with fail
        go_ret
        exact ⟨by rw [hQ.out]; rfl, rfl⟩

theorem showA_snoc {L : List Lp.T} (h : L ≠ []) (x : Lp.T) : Lp.showA (L ++ [x]) = Lp.showA L ++ 32 :: Lp.showT x := by
  induction L with
  | nil => exact absurd rfl h
  | cons y r ih =>
    cases r with
    | nil => rfl
    | cons z r' =>
      show Lp.showT y ++ 32 :: Lp.showA ((z :: r') ++ [x]) = (Lp.showT y ++ 32 :: Lp.showA (z :: r')) ++ _
      rw [ih (by simp)]
      simp
theorem showA_take (L : List Lp.T) {k : Nat} (h : k < L.length) : str (Lp.showA (L.take (k + 1))) = (if k = 0 then str (Lp.showA (L.take k)) else str (Lp.showA (L.take k)) ++ ⟨#[32]⟩) ++ str (Lp.showT L[k]) := by
  rw [List.take_succ_eq_append_getElem h]
  split
  · rename_i h0
    subst h0
    rw [str_app]; rfl
  · rename_i h0
    rw [showA_snoc (by intro e; have := congrArg List.length e; rw [List.length_take, List.length_nil] at this; omega), show (⟨#[32]⟩ : ByteArray) = str [32] from rfl, str_app, str_app]
    simp
theorem showA_pre (L : List Lp.T) (k : Nat) : (Lp.showA (L.take k)).length ≤ 4 * Lp.sumT L + 3 * L.length := by
  have h1 := Lp.show_len (L.take k)
  have h2 : Lp.sumT (L.take k) ≤ Lp.sumT L := by
    have e : Lp.sumT L = Lp.sumT (L.take k) + Lp.sumT (L.drop k) := by
      unfold Lp.sumT
      rw [← List.sum_append, ← List.map_append, List.take_append_drop]
    omega
  have h3 : (L.take k).length ≤ L.length := by rw [List.length_take]; omega
  omega

set_option maxHeartbeats 4000000 in
theorem RShow_any (w : World) (B : Nat) (a : Option Addr) (c : Nat) (L : List Lp.T) (hr : w.ownsRow B T2 2 (.slice a L.length c) L.length (tsC L)) (hl : L.length ≤ 100000) (hsum : Lp.sumT L ≤ 100000) :
    Calls Tryd.prog 25 #[.slice a L.length c] w fun e w' => e = .returned (.string (str (Lp.showA L))) ∧ Below w.heap.size w w' := by
  go_enter Tryd.func25, Tryd.ntmps25
  go_wp2_with fail
  go_loopw [3, 4] (fun vs vi wr => ∃ k : Nat, vi = .int .i64 k ∧ vs = .string (str (Lp.showA (L.take k))) ∧ k ≤ L.length ∧ Below w.heap.size w wr) (fun _ vi _ => L.length - (intOf vi).toNat)
  case atStart => exact ⟨0, rfl, rfl, Nat.zero_le _, Below.refl _ _⟩
  case round =>
    obtain ⟨k, rfl, rfl, hk, hB⟩ := hrel
    by_cases hlt : k < L.length
    · obtain ⟨g, rfl, hgc, hg, hcells⟩ := row_cells hr (by omega)
      obtain ⟨x1, x2⟩ := hcells k hlt
      have y1 : wr.cell? ⟨g, k * 2, none⟩ = some (.int .i64 L[k].k) := (hB.cell (p := ⟨g, k * 2, none⟩) hg).trans x1
      have y2 : wr.cell? ⟨g, k * 2 + 1, none⟩ = some (.string (str L[k].t)) := (hB.cell (p := ⟨g, k * 2 + 1, none⟩) hg).trans x2
      have hki : (k : Int) < L.length := by omega
      have hsz := str_size (Lp.showA (L.take k))
      have hpre := showA_pre L k
      have HT := Lib.hid (showA_take L hlt)
      have htl := Lp.sum_mem (List.getElem_mem hlt)
      have hq := RQuote_any wr (str L[k].t) (by rw [str_size]; omega)
      rw [by8_str] at hq
      have hql := Lp.quote_len L[k].t
      have hqs := str_size (Lp.quoteA L[k].t)
      have hml := mark_len L[k].k
      have hms := str_size (Lp.markT L[k].k)
      have hsh : Lp.showT L[k] = if 1 ≤ L[k].k ∧ L[k].k ≤ 6 then Lp.markT L[k].k else Lp.quoteA L[k].t := rfl
      have HS := Lib.hid hsh
      have hMk := Marks_any wr
      clear hcells x1 x2 hsh
      generalize L[k] = x at *
      obtain ⟨kk, t⟩ := x
      simp only at y1 y2 htl hq hql hqs hml hms HS
      have hgw : g < wr.heap.size := Nat.lt_of_lt_of_le hg hB.size
      by_cases hmk : 1 ≤ kk ∧ kk ≤ 6
      · have HS2 : Hid (Lp.showT ⟨kk, t⟩ = Lp.markT kk) := Lib.hid (by rw [HS.out, if_pos hmk])
        have e1 : (1 : Int) ≤ (kk : Int) := by omega
        have e2 : (kk : Int) ≤ 6 := by omega
        have e3 : (0 : Int) ≤ (kk : Int) - 1 := by omega
        have e4 : (kk : Int) - 1 < 6 := by omega
        have e5 : ((kk : Int) - 1).toNat = kk - 1 := by omega
        have e6 : IntKind.i64.wrap ((kk : Int) - 1) = (kk : Int) - 1 := IntWalk.i64_in _ (by omega)
        clear hq hql hqs htl HS
        by_cases h0 : k = 0
        · subst h0
          simp only [Nat.zero_mul, Nat.zero_add] at y1 y2
          generalize str (Lp.showA (L.take 0)) = q at *
          have hq2 : q.size ≤ 700000 := by omega
          clear hsz hpre
          go_wp2_with fail
          go_region_with (go_at_call 32; refine (Marks_any _).mono ?_; rintro e w2 ⟨b, rfl, hb1, hb2, hcs, hB2⟩; have m1 := hcs (kk - 1) (by omega); rw [Nat.sub_add_cancel hmk.1] at m1; have y1' : w2.cell? ⟨g, 0, none⟩ = some (.int .i64 kk) := (hB2.cell (p := ⟨g, 0, none⟩) hgw).trans y1)
          all_goals
            go_wp2_with fail
            go_roundw
            case rel => exact ⟨0 + 1, by go_num, (by rw [HT.out, HS2.out]; try rfl), hlt, hB.trans (Below.mono (Below.trans (Below.refl _ wr).drew hB2) hB.size)⟩
            case measure => simp [intOf]; omega
        · have k0 : (0 : Int) < (k : Int) := by omega
          rw [if_neg h0] at HT
          clear h0
          generalize str (Lp.showA (L.take k)) = q at *
          go_wp2_with fail
          go_region_with (go_at_call 32; refine (Marks_any _).mono ?_; rintro e w2 ⟨b, rfl, hb1, hb2, hcs, hB2⟩; have m1 := hcs (kk - 1) (by omega); rw [Nat.sub_add_cancel hmk.1] at m1; have y1' : w2.cell? ⟨g, k * 2, none⟩ = some (.int .i64 kk) := (hB2.cell (p := ⟨g, k * 2, none⟩) hgw).trans y1)
          all_goals
            go_wp2_with fail
            go_roundw
            case rel => exact ⟨k + 1, by go_num, (by rw [HT.out, HS2.out]; try rfl), hlt, hB.trans (Below.mono (Below.trans (Below.refl _ wr).drew hB2) hB.size)⟩
            case measure => simp [intOf]; omega
      · have HS2 : Hid (Lp.showT ⟨kk, t⟩ = Lp.quoteA t) := Lib.hid (by rw [HS.out, if_neg hmk])
        have g1 : Hid (decide ((1 : Int) ≤ (kk : Int)) = false ∨ decide ((1 : Int) ≤ (kk : Int)) = true ∧ decide ((kk : Int) ≤ 6) = false) := Lib.hid (by
          by_cases h1 : 1 ≤ kk
          · exact .inr ⟨decide_eq_true (by omega), decide_eq_false (by omega)⟩
          · exact .inl (decide_eq_false (by omega)))
        clear HS hMk hml hms hmk
        rcases g1.out with e1 | ⟨e1, e2⟩
        · clear g1
          have e3 := of_decide_eq_false e1
          by_cases h0 : k = 0
          · subst h0
            simp only [Nat.zero_mul, Nat.zero_add] at y1 y2
            generalize str (Lp.showA (L.take 0)) = q at *
            go_wp2_with (go_at_call 37; refine hq.mono ?_; rintro e w2 ⟨rfl, rfl⟩)
            go_roundw
            case rel => exact ⟨0 + 1, by go_num, (by rw [HT.out, HS2.out]; try rfl), hlt, hB⟩
            case measure => simp [intOf]; omega
          · have k0 : (0 : Int) < (k : Int) := by omega
            rw [if_neg h0] at HT
            clear h0
            generalize str (Lp.showA (L.take k)) = q at *
            go_wp2_with (go_at_call 37; refine hq.mono ?_; rintro e w2 ⟨rfl, rfl⟩)
            go_roundw
            case rel => exact ⟨k + 1, by go_num, (by rw [HT.out, HS2.out]; try rfl), hlt, hB⟩
            case measure => simp [intOf]; omega
        · clear g1
          have e3 := of_decide_eq_true e1
          have e4 := of_decide_eq_false e2
          by_cases h0 : k = 0
          · subst h0
            simp only [Nat.zero_mul, Nat.zero_add] at y1 y2
            generalize str (Lp.showA (L.take 0)) = q at *
            go_wp2_with (go_at_call 37; refine hq.mono ?_; rintro e w2 ⟨rfl, rfl⟩)
            go_roundw
            case rel => exact ⟨0 + 1, by go_num, (by rw [HT.out, HS2.out]; try rfl), hlt, hB⟩
            case measure => simp [intOf]; omega
          · have k0 : (0 : Int) < (k : Int) := by omega
            rw [if_neg h0] at HT
            clear h0
            generalize str (Lp.showA (L.take k)) = q at *
            go_wp2_with (go_at_call 37; refine hq.mono ?_; rintro e w2 ⟨rfl, rfl⟩)
            go_roundw
            case rel => exact ⟨k + 1, by go_num, (by rw [HT.out, HS2.out]; try rfl), hlt, hB⟩
            case measure => simp [intOf]; omega
    · obtain rfl : k = L.length := by omega
      rw [List.take_length]
      go_wp2_with fail
      go_ret
      exact ⟨rfl, hB⟩
end Go.Proofs.YtlkcpegjkmfngaaDoor.Lx
