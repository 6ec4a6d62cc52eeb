/-
  The small functions of package glob and of the document's answer for it: what they return, for every string that fits into memory.
-/
import Derived.WalkKit
import Derived.LoopTactic
import Derived.WalkSpells
import Derived.WalkLawsBesides
import Derived.Lib.Hide
import Derived.Lib.Walk
import Derived.Lib.Bytealg
import Derived.Lib.PathFns
import Derived.Lib.Split
import Derived.Outline
import Derived.Deep.DeepMust
import Derived.Deep.QuietTactic
import Derived.BigQuiet
import Derived.Test.YtdckeefhncdegaaDoorGlob
import Derived.Test.YtdckeefhncdegaaDoorProg
namespace Go.Proofs.YtdckeefhncdegaaDoor.Gm
open Go.RowKit Go.Proofs.YtdckeefhncdegaaDoor
set_option maxRecDepth 100000

abbrev Bs := List UInt8
def by8 (s : ByteArray) : Bs := s.data.toList
theorem by8_len (s : ByteArray) : (by8 s).length = s.size := (Lib.size_eq s).symm
theorem by8_drop (s : ByteArray) (n : Nat) : by8 (s.extract n s.size) = (by8 s).drop n := Lib.extract_to_end s n
theorem by8_take (s : ByteArray) (n : Nat) : by8 (s.extract 0 n) = (by8 s).take n := Lib.extract_from_zero s n
theorem by8_get {s : ByteArray} {k : Nat} (h : k < s.size) : (by8 s)[k]? = some s[k] := Lib.Pa.at_eq s k h
theorem by8_at {s : ByteArray} {k : Nat} (h : k < s.size) : (by8 s).drop k = s[k] :: (by8 s).drop (k + 1) := by
  have hl : k < (by8 s).length := by rw [by8_len]; exact h
  rw [List.drop_eq_getElem_cons hl]
  rfl
theorem by8_nil {s : ByteArray} (h : s.size = 0) : by8 s = [] := List.length_eq_zero_iff.1 (by rw [by8_len]; exact h)
theorem by8_ext {a b : ByteArray} (h : by8 a = by8 b) : a = b := by
  have : a.data = b.data := Array.toList_inj.1 h
  cases a; cases b; simp at this; subst this; rfl
theorem ret_bool {a b : Bool} (h : a = b) : Ending.returned (.bool a) = .returned (.bool b) := by rw [h]

theorem ret_int {a b : Int} (h : a = b) : Ending.returned (.int .i64 a) = .returned (.int .i64 b) := by rw [h]

/-- A callee that leaves the world alone, behind draws and draws of this region. -/
theorem quiet_at {P : Program} {f : FuncId} {args : Array Value} {w : World} {a n : Nat} {v : Value} (h : ∀ W : World, Calls P f args W fun e w' => e = .returned v ∧ w' = W) :
    Calls P f args (w.drewN (a + n)) fun e w'' => e = .returned v ∧ ∃ m, w'' = w.drewN (a + m) := (h _).mono fun _ _ ⟨he, hm⟩ => ⟨he, n, hm⟩
theorem below_drewN {B : Nat} {a w : World} (h : Below B a w) (n : Nat) : Below B a (w.drewN n) := ⟨h.os, h.tape, h.output, h.size, h.block⟩

theorem eq_true {a b : UInt8} (h : a = b) : (((a.toNat : Nat) : Int) == ((b.toNat : Nat) : Int)) = true := by rw [h]; exact beq_self_eq_true _
theorem eq_false {a b : UInt8} (h : ¬ a = b) : (((a.toNat : Nat) : Int) == ((b.toNat : Nat) : Int)) = false := by
  rw [beq_eq_false_iff_ne]; intro e; exact h (UInt8.toNat_inj.1 (by omega))

theorem listed_three (a d : UInt8) (r : Bs) (c : UInt8) : Gl.listed (a :: 45 :: d :: r) c = (decide (a ≤ c) && decide (c ≤ d) || Gl.listed r c) := rfl
theorem listed_one (a : UInt8) (r : Bs) (c : UInt8) (h : ∀ d r', r ≠ 45 :: d :: r') : Gl.listed (a :: r) c = (a == c || Gl.listed r c) := by
  match r, h with
  | [], _ => simp [Gl.listed]
  | [b], _ => simp [Gl.listed]
  | b :: d :: r, h =>
    have hb : ¬ b = 45 := fun e => h d r (by rw [e])
    rw [Gl.listed, if_neg hb]

theorem yes3 {a b d : UInt8} {r : Bool} (h1 : a.toNat ≤ b.toNat) (h2 : b.toNat ≤ d.toNat) : (decide (a ≤ b) && decide (b ≤ d) || r) = true := by
  rw [decide_eq_true (UInt8.le_iff_toNat_le.2 h1), decide_eq_true (UInt8.le_iff_toNat_le.2 h2)]; rfl
theorem no3a {a b d : UInt8} {r : Bool} (h1 : ¬ a.toNat ≤ b.toNat) : (decide (a ≤ b) && decide (b ≤ d) || r) = r := by
  rw [decide_eq_false (fun h => h1 (UInt8.le_iff_toNat_le.1 h))]; rfl
theorem no3b {a b d : UInt8} {r : Bool} (h1 : ¬ b.toNat ≤ d.toNat) : (decide (a ≤ b) && decide (b ≤ d) || r) = r := by
  rw [decide_eq_false (fun h => h1 (UInt8.le_iff_toNat_le.1 h)), Bool.and_false, Bool.false_or]
theorem yes1 {a b : UInt8} {r : Bool} (h1 : a.toNat ≤ b.toNat) (h2 : b.toNat ≤ a.toNat) : (a == b || r) = true := by
  rw [beq_iff_eq.2 (UInt8.toNat_inj.1 (by omega))]; rfl
theorem no1 {a b : UInt8} {r : Bool} (h1 : ¬ a.toNat = b.toNat) : (a == b || r) = r := by
  rw [beq_eq_false_iff_ne.2 (fun h => h1 (by rw [h]))]; rfl

set_option maxHeartbeats 1000000 in
theorem listed_any (w : World) (s : ByteArray) (c : UInt8) (hs : s.size ≤ 1000000) :
    Calls Tryd.prog 28 #[.string s, .int .u8 (c.toNat : Int)] w fun e w' => e = .returned (.bool (Gl.listed (by8 s) c)) ∧ w = w' := by
  go_enter Tryd.func28, Tryd.ntmps28
  go_wp2
  go_loop [0] (fun v => ∃ t : ByteArray, v = .string t ∧ t.size ≤ 1000000 ∧ Gl.listed (by8 t) c = Gl.listed (by8 s) c) (fun v => match v with | .string t => t.size | _ => 0)
  case atStart => exact ⟨s, rfl, hs, rfl⟩
  case round =>
    obtain ⟨t, rfl, ht, hl⟩ := hrel
    have HL := Lib.hid hl
    clear hl hs
    by_cases h0 : 0 < t.size
    · by_cases h3 : ∃ _ : 3 ≤ t.size, t[1] = 45
      · obtain ⟨h3, h45⟩ := h3
        have HE : Hid (Gl.listed (by8 t) c = (decide (t[0] ≤ c) && decide (c ≤ t[2]) || Gl.listed (by8 (t.extract 3 t.size)) c)) := Lib.hid (by
          have e : by8 t = t[0] :: 45 :: t[2] :: (by8 t).drop 3 := by
            have e0 := by8_at (s := t) (k := 0) (by omega)
            have e1 := by8_at (s := t) (k := 1) (by omega)
            have e2 := by8_at (s := t) (k := 2) (by omega)
            rw [List.drop_zero] at e0
            rw [e0, e1, e2, h45]; rfl
          rw [by8_drop, e, listed_three]; rfl)
        have hb : ((t[1].toNat : Int) == 45) = true := by rw [h45]; rfl
        clear h45
        go_wp2
        · have h1 : t[0].toNat ≤ c.toNat := by assumption
          have h2 : c.toNat ≤ t[2].toNat := by assumption
          go_ret
          exact ⟨ret_bool (by rw [← HL.out, HE.out, yes3 h1 h2]), rfl⟩
        · have h2 : ¬ c.toNat ≤ t[2].toNat := by assumption
          go_round
          case rel => exact ⟨_, rfl, by simp; omega, by rw [← HL.out, HE.out, no3b h2]⟩
          case measure => simp; omega
        · have h2 : ¬ t[0].toNat ≤ c.toNat := by assumption
          go_round
          case rel => exact ⟨_, rfl, by simp; omega, by rw [← HL.out, HE.out, no3a h2]⟩
          case measure => simp; omega
      · have HE : Hid (Gl.listed (by8 t) c = (t[0] == c || Gl.listed (by8 (t.extract 1 t.size)) c)) := Lib.hid (by
          have e0 := by8_at (s := t) (k := 0) (by omega)
          rw [List.drop_zero] at e0
          rw [by8_drop, e0, listed_one]
          · rfl
          · intro d r' e
            have hl : 3 ≤ t.size := by
              have := congrArg List.length e
              rw [List.length_drop, by8_len] at this; simp at this; omega
            refine h3 ⟨hl, ?_⟩
            rw [by8_at (by omega)] at e
            simpa using (List.cons.inj e).1)
        have h3' : Hid (∀ _ : 3 ≤ t.size, ¬ t[1] = 45) := Lib.hid (fun a b => h3 ⟨a, b⟩)
        clear h3
        by_cases h4 : 3 ≤ t.size
        · have hb : ((t[1].toNat : Int) == 45) = false := eq_false (b := 45) (h3'.out h4)
          go_wp2
          · have h1 : t[0].toNat ≤ c.toNat := by assumption
            have h2 : c.toNat ≤ t[0].toNat := by assumption
            go_ret
            exact ⟨ret_bool (by rw [← HL.out, HE.out, yes1 h1 h2]), rfl⟩
          · have h2 : ¬ c.toNat ≤ t[0].toNat := by assumption
            go_round
            case rel => exact ⟨_, rfl, by simp; omega, by rw [← HL.out, HE.out, no1 (by omega)]⟩
            case measure => simp; omega
          · have h2 : ¬ t[0].toNat ≤ c.toNat := by assumption
            go_round
            case rel => exact ⟨_, rfl, by simp; omega, by rw [← HL.out, HE.out, no1 (by omega)]⟩
            case measure => simp; omega
        · go_wp2
          · have h1 : t[0].toNat ≤ c.toNat := by assumption
            have h2 : c.toNat ≤ t[0].toNat := by assumption
            go_ret
            exact ⟨ret_bool (by rw [← HL.out, HE.out, yes1 h1 h2]), rfl⟩
          · have h2 : ¬ c.toNat ≤ t[0].toNat := by assumption
            go_round
            case rel => exact ⟨_, rfl, by simp; omega, by rw [← HL.out, HE.out, no1 (by omega)]⟩
            case measure => simp; omega
          · have h2 : ¬ t[0].toNat ≤ c.toNat := by assumption
            go_round
            case rel => exact ⟨_, rfl, by simp; omega, by rw [← HL.out, HE.out, no1 (by omega)]⟩
            case measure => simp; omega
    · go_wp2
      go_ret
      exact ⟨ret_bool (by rw [← HL.out, by8_nil (by omega)]; rfl), rfl⟩

set_option maxHeartbeats 1000000 in
theorem rlisted_any (w : World) (s : ByteArray) (c : UInt8) (hs : s.size ≤ 1000000) :
    Calls Tryd.prog 49 #[.string s, .int .u8 (c.toNat : Int)] w fun e w' => e = .returned (.bool (Gl.listed (by8 s) c)) ∧ w = w' := by
  go_enter Tryd.func49, Tryd.ntmps49
  go_wp2
  go_loop [5] (fun v => ∃ k : Nat, v = .int .i64 k ∧ k ≤ s.size ∧ Gl.listed ((by8 s).drop k) c = Gl.listed (by8 s) c) (fun v => s.size - (intOf v).toNat)
  case atStart => exact ⟨0, rfl, Nat.zero_le _, rfl⟩
  case round =>
    obtain ⟨k, rfl, hk, hl⟩ := hrel
    have HL := Lib.hid hl
    clear hl
    by_cases h0 : k < s.size
    · by_cases h3 : ∃ _ : k + 2 < s.size, s[k + 1] = 45
      · obtain ⟨h3, h45⟩ := h3
        have HE : Hid (Gl.listed ((by8 s).drop k) c = (decide (s[k] ≤ c) && decide (c ≤ s[k + 2]) || Gl.listed ((by8 s).drop (k + 3)) c)) := Lib.hid (by
          rw [by8_at h0, by8_at (show k + 1 < s.size by omega), by8_at h3, h45, listed_three])
        have hb : ((s[k + 1].toNat : Int) == 45) = true := by rw [h45]; rfl
        clear h45
        go_wp2
        · have h1 : s[k].toNat ≤ c.toNat := by assumption
          have h2 : c.toNat ≤ s[k + 2].toNat := by assumption
          go_ret
          exact ⟨ret_bool (by rw [← HL.out, HE.out, yes3 h1 h2]), rfl⟩
        · have h2 : ¬ c.toNat ≤ s[k + 2].toNat := by assumption
          go_round
          case rel => exact ⟨k + 3, by go_num, by omega, by rw [← HL.out, HE.out, no3b h2]⟩
          case measure => simp [intOf]; omega
        · have h2 : ¬ s[k].toNat ≤ c.toNat := by assumption
          go_round
          case rel => exact ⟨k + 3, by go_num, by omega, by rw [← HL.out, HE.out, no3a h2]⟩
          case measure => simp [intOf]; omega
      · have HE : Hid (Gl.listed ((by8 s).drop k) c = (s[k] == c || Gl.listed ((by8 s).drop (k + 1)) c)) := Lib.hid (by
          rw [by8_at h0, listed_one]
          intro d r' e
          have hl : k + 2 < s.size := by
            have := congrArg List.length e
            rw [List.length_drop, by8_len] at this; simp at this; omega
          refine h3 ⟨hl, ?_⟩
          rw [by8_at (by omega)] at e
          simpa using (List.cons.inj e).1)
        have h3' : Hid (∀ _ : k + 2 < s.size, ¬ s[k + 1] = 45) := Lib.hid (fun a b => h3 ⟨a, b⟩)
        clear h3
        by_cases hc : s[k] = c
        · have hcb := eq_true hc
          have HT : Hid (Gl.listed (by8 s) c = true) := Lib.hid (by rw [← HL.out, HE.out, beq_iff_eq.2 hc]; rfl)
          clear hc HE
          by_cases h4 : k + 2 < s.size
          · have hb : ((s[k + 1].toNat : Int) == 45) = false := eq_false (b := 45) (h3'.out h4)
            go_wp2
            go_ret
            exact ⟨ret_bool HT.out.symm, rfl⟩
          · go_wp2
            go_ret
            exact ⟨ret_bool HT.out.symm, rfl⟩
        · have hcb := eq_false hc
          have HT : Hid (Gl.listed ((by8 s).drop (k + 1)) c = Gl.listed (by8 s) c) := Lib.hid (by rw [← HL.out, HE.out, beq_eq_false_iff_ne.2 hc]; rfl)
          clear hc HE
          by_cases h4 : k + 2 < s.size
          · have hb : ((s[k + 1].toNat : Int) == 45) = false := eq_false (b := 45) (h3'.out h4)
            go_wp2
            go_round
            case rel => exact ⟨k + 1, by go_num, by omega, HT.out⟩
            case measure => simp [intOf]; omega
          · go_wp2
            go_round
            case rel => exact ⟨k + 1, by go_num, by omega, HT.out⟩
            case measure => simp [intOf]; omega
    · go_wp2
      go_ret
      exact ⟨ret_bool (by rw [← HL.out, List.drop_of_length_le (by rw [by8_len]; omega)]; rfl), rfl⟩

theorem head_is {s : ByteArray} (h : 0 < s.size) : (by8 s).head? = some s[0] := by
  rw [List.head?_eq_getElem?]; exact by8_get h
theorem tail_is (s : ByteArray) : (by8 s).tail = by8 (s.extract 1 s.size) := by rw [by8_drop, List.drop_one]

set_option maxHeartbeats 400000 in
theorem within_any (w : World) (s : ByteArray) (c : UInt8) (hs : s.size ≤ 1000000) :
    Calls Tryd.prog 34 #[.string s, .int .u8 (c.toNat : Int)] w fun e w' => e = .returned (.bool (Gl.within (by8 s) c)) ∧ w = w' := by
  by_cases h0 : 0 < s.size
  · by_cases h1 : s[0] = 33
    · have hb : ((s[0].toNat : Int) == 33) = true := by rw [h1]; rfl
      have HE : Hid (Gl.within (by8 s) c = !Gl.listed (by8 (s.extract 1 s.size)) c) := Lib.hid (by
        unfold Gl.within; rw [head_is h0, h1, if_pos rfl, tail_is])
      clear h1
      go_enter Tryd.func34, Tryd.ntmps34
      go_wp2_with (go_at_call 49; go_must (refine (rlisted_any _ _ c (by simp; omega)).mono ?_); rintro e w' ⟨rfl, rfl⟩)
      go_ret
      exact ⟨ret_bool HE.out.symm, rfl⟩
    · have hb : ((s[0].toNat : Int) == 33) = false := eq_false (b := 33) h1
      have HE : Hid (Gl.within (by8 s) c = Gl.listed (by8 s) c) := Lib.hid (by
        unfold Gl.within; rw [head_is h0, if_neg (by simpa using h1)])
      clear h1
      go_enter Tryd.func34, Tryd.ntmps34
      go_wp2_with (go_at_call 49; go_must (refine (rlisted_any _ _ c hs).mono ?_); rintro e w' ⟨rfl, rfl⟩)
      go_ret
      exact ⟨ret_bool HE.out.symm, rfl⟩
  · have HE : Hid (Gl.within (by8 s) c = Gl.listed (by8 s) c) := Lib.hid (by
      unfold Gl.within; rw [by8_nil (by omega)]; rfl)
    go_enter Tryd.func34, Tryd.ntmps34
    go_wp2_with (go_at_call 49; go_must (refine (rlisted_any _ _ c hs).mono ?_); rintro e w' ⟨rfl, rfl⟩)
    go_ret
    exact ⟨ret_bool HE.out.symm, rfl⟩

/-- Where the end of a bracket is, as the document's answer says it. -/
def endI (u : Bs) : Int := match Gl.endOf u with | some k => (k : Int) | none => -1

theorem bang_is {s : ByteArray} (h : 0 < s.size) : Gl.bang (by8 s) = if s[0] = 33 then 1 else 0 := by
  unfold Gl.bang; rw [head_is h]
  by_cases e : s[0] = 33 <;> simp [e]

theorem endOf_at {u : Bs} {k : Nat} (h1 : u[k]? = some 93) (h2 : Gl.bang u + 1 ≤ k) (h3 : ∀ j, Gl.bang u + 1 ≤ j → j < k → u[j]? ≠ some 93) : Gl.endOf u = some k := by
  unfold Gl.endOf
  have hl := (List.getElem?_eq_some_iff.1 h1).1
  rw [show (u.drop (Gl.bang u + 1)).findIdx? (· == 93) = some (k - (Gl.bang u + 1)) from List.findIdx?_eq_some_iff_getElem.2 ⟨by rw [List.length_drop]; omega, ?_, ?_⟩]
  · rw [Option.map_some]; congr 1; omega
  · rw [List.getElem_drop, beq_iff_eq]
    have := (List.getElem?_eq_some_iff.1 h1).2
    rw [← this]; congr 1; omega
  · intro j hj e
    rw [List.getElem_drop, beq_iff_eq] at e
    exact h3 (Gl.bang u + 1 + j) (by omega) (by omega) (by rw [List.getElem?_eq_getElem (by omega), e])
theorem endOf_none {u : Bs} (h3 : ∀ j, Gl.bang u + 1 ≤ j → u[j]? ≠ some 93) : Gl.endOf u = none := by
  unfold Gl.endOf
  rw [List.findIdx?_eq_none_iff.2, Option.map_none]
  intro x hx
  obtain ⟨j, hj, e⟩ := List.mem_iff_getElem.1 hx
  rw [beq_eq_false_iff_ne]
  intro e2
  rw [List.getElem_drop] at e
  rw [List.length_drop] at hj
  exact h3 (Gl.bang u + 1 + j) (by omega) (by rw [List.getElem?_eq_getElem (by omega), e, e2])

set_option maxHeartbeats 2000000 in
theorem end_any (w : World) (s : ByteArray) (hs : s.size ≤ 1000000) :
    Calls Tryd.prog 33 #[.string s] w fun e w' => e = .returned (.int .i64 (endI (by8 s))) ∧ w = w' := by
  by_cases h0 : 0 < s.size
  · have hbi := bang_is h0
    by_cases h1 : s[0] = 33
    · have hb : ((s[0].toNat : Int) == 33) = true := by rw [h1]; rfl
      rw [if_pos h1] at hbi
      have HB := Lib.hid hbi
      clear h1 hbi
      go_enter Tryd.func33, Tryd.ntmps33
      go_wp2
      go_loop [4] (fun v => ∃ k : Nat, v = .int .i64 k ∧ 1 ≤ k ∧ k ≤ s.size ∧ ∀ j, 1 + 1 ≤ j → j < k → (by8 s)[j]? ≠ some 93) (fun v => s.size - (intOf v).toNat)
      case atStart => exact ⟨1, rfl, Nat.le_refl _, h0, fun j h1 h2 => by omega⟩
      case round =>
        obtain ⟨k, rfl, hk0, hk, hno⟩ := hrel
        have HN := Lib.hid hno
        clear hno
        by_cases hlt : k < s.size
        · by_cases h93 : s[k] = 93
          · have hb3 : ((s[k].toNat : Int) == 93) = true := by rw [h93]; rfl
            have hg := Lib.hid (by8_get hlt)
            rw [h93] at hg
            clear h93
            by_cases hgt : 1 < k
            · have HE : Hid (endI (by8 s) = k) := Lib.hid (by
                unfold endI; rw [endOf_at hg.out (by rw [HB.out]; omega) (by rw [HB.out]; exact HN.out)])
              go_wp2
              go_ret
              exact ⟨ret_int HE.out.symm, rfl⟩
            · have hle : k ≤ 1 := by omega
              go_wp2
              go_round
              case rel => exact ⟨k + 1, by go_num, by omega, hlt, fun j h1 h2 => by omega⟩
              case measure => simp [intOf]; omega
          · have hb3 : ((s[k].toNat : Int) == 93) = false := eq_false (b := 93) h93
            have hg := Lib.hid h93
            clear h93
            go_wp2
            go_round
            case rel => exact ⟨k + 1, by go_num, by omega, hlt, fun j h1 h2 => by
              by_cases e : j = k
              · subst e; rw [by8_get hlt]; exact fun e => hg.out (Option.some.inj e)
              · exact HN.out j h1 (by omega)⟩
            case measure => simp [intOf]; omega
        · have HE : Hid (endI (by8 s) = -1) := Lib.hid (by
            unfold endI; rw [endOf_none]
            intro j h1 e
            rw [HB.out] at h1
            have := (List.getElem?_eq_some_iff.1 e).1
            rw [by8_len] at this
            exact HN.out j h1 (by omega) e)
          go_wp2
          go_ret
          exact ⟨ret_int HE.out.symm, rfl⟩
    · have hb : ((s[0].toNat : Int) == 33) = false := eq_false (b := 33) h1
      rw [if_neg h1] at hbi
      have HB := Lib.hid hbi
      clear h1 hbi
      go_enter Tryd.func33, Tryd.ntmps33
      go_wp2
      go_loop [4] (fun v => ∃ k : Nat, v = .int .i64 k ∧ 0 ≤ k ∧ k ≤ s.size ∧ ∀ j, 0 + 1 ≤ j → j < k → (by8 s)[j]? ≠ some 93) (fun v => s.size - (intOf v).toNat)
      case atStart => exact ⟨0, rfl, Nat.le_refl _, Nat.zero_le _, fun j h1 h2 => by omega⟩
      case round =>
        obtain ⟨k, rfl, hk0, hk, hno⟩ := hrel
        have HN := Lib.hid hno
        clear hno
        by_cases hlt : k < s.size
        · by_cases h93 : s[k] = 93
          · have hb3 : ((s[k].toNat : Int) == 93) = true := by rw [h93]; rfl
            have hg := Lib.hid (by8_get hlt)
            rw [h93] at hg
            clear h93
            by_cases hgt : 0 < k
            · have HE : Hid (endI (by8 s) = k) := Lib.hid (by
                unfold endI; rw [endOf_at hg.out (by rw [HB.out]; omega) (by rw [HB.out]; exact HN.out)])
              go_wp2
              go_ret
              exact ⟨ret_int HE.out.symm, rfl⟩
            · have hle : k ≤ 0 := by omega
              go_wp2
              go_round
              case rel => exact ⟨k + 1, by go_num, by omega, hlt, fun j h1 h2 => by omega⟩
              case measure => simp [intOf]; omega
          · have hb3 : ((s[k].toNat : Int) == 93) = false := eq_false (b := 93) h93
            have hg := Lib.hid h93
            clear h93
            go_wp2
            go_round
            case rel => exact ⟨k + 1, by go_num, by omega, hlt, fun j h1 h2 => by
              by_cases e : j = k
              · subst e; rw [by8_get hlt]; exact fun e => hg.out (Option.some.inj e)
              · exact HN.out j h1 (by omega)⟩
            case measure => simp [intOf]; omega
        · have HE : Hid (endI (by8 s) = -1) := Lib.hid (by
            unfold endI; rw [endOf_none]
            intro j h1 e
            rw [HB.out] at h1
            have := (List.getElem?_eq_some_iff.1 e).1
            rw [by8_len] at this
            exact HN.out j h1 (by omega) e)
          go_wp2
          go_ret
          exact ⟨ret_int HE.out.symm, rfl⟩
  · have HE : Hid (endI (by8 s) = -1) := Lib.hid (by rw [by8_nil (by omega)]; rfl)
    go_enter Tryd.func33, Tryd.ntmps33
    go_wp2
    go_loop [4] (fun v => v = .int .i64 0) (fun _ => 0)
    case atStart => exact rfl
    case round =>
      obtain rfl := hrel
      go_wp2
      go_ret
      exact ⟨ret_int HE.out.symm, rfl⟩
end Go.Proofs.YtdckeefhncdegaaDoor.Gm
