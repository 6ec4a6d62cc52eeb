/-
  flatironref05.step, Tokens.
-/
import Derived.Test.YtlkcpegjkmfngaaDoorLTokens
namespace Go.Proofs.YtlkcpegjkmfngaaDoor.Lx
open Go.RowKit Go.Proofs.YtlkcpegjkmfngaaDoor
set_option maxRecDepth 100000

/-- flatironref05.step at a quote or a backslash. -/
def stepV (c : UInt8) (n : Nat) : Value :=
  if c = 39 then .tuple #[.int .i64 1, .int .i64 2, .bool true]
  else if c = 34 then .tuple #[.int .i64 1, .int .i64 3, .bool true]
  else if c = 92 then .tuple #[.int .i64 2, .int .i64 1, .bool (decide (1 < n))]
  else .tuple #[.int .i64 1, .int .i64 1, .bool true]
theorem step_any (w : World) (s : ByteArray) (h0 : 0 < s.size) : Calls Tryd.prog 33 #[.string s] w fun e w' => e = .returned (stepV s[0] s.size) ∧ w = w' := by
  unfold stepV
  by_cases h1 : s[0] = 39
  · have hb : ((s[0].toNat : Int) == 39) = true := by rw [h1]; rfl
    rw [if_pos h1]
    clear h1
    go_enter Tryd.func33, Tryd.ntmps33
    go_wp2_with fail
    exact bodyPost_ret (v := .tuple #[.int .i64 1, .int .i64 2, .bool true]) (by simp [results, Tryd.results33, go_sem]) rfl ⟨rfl, rfl⟩
  · have hb : ((s[0].toNat : Int) == 39) = false := eq_false (b := 39) h1
    rw [if_neg h1]
    by_cases h2 : s[0] = 34
    · have hb2 : ((s[0].toNat : Int) == 34) = true := by rw [h2]; rfl
      rw [if_pos h2]
      clear h1 h2
      go_enter Tryd.func33, Tryd.ntmps33
      go_wp2_with fail
      exact bodyPost_ret (v := .tuple #[.int .i64 1, .int .i64 3, .bool true]) (by simp [results, Tryd.results33, go_sem]) rfl ⟨rfl, rfl⟩
    · have hb2 : ((s[0].toNat : Int) == 34) = false := eq_false (b := 34) h2
      rw [if_neg h2]
      by_cases h3 : s[0] = 92
      · have hb3 : ((s[0].toNat : Int) == 92) = true := by rw [h3]; rfl
        rw [if_pos h3]
        clear h1 h2 h3
        go_enter Tryd.func33, Tryd.ntmps33
        go_wp2_with fail
        exact bodyPost_ret (v := .tuple #[.int .i64 2, .int .i64 1, .bool (decide (1 < s.size))]) (by simp [results, Tryd.results33, go_sem]; omega) rfl ⟨rfl, rfl⟩
      · have hb3 : ((s[0].toNat : Int) == 92) = false := eq_false (b := 92) h3
        rw [if_neg h3]
        clear h1 h2 h3
        go_enter Tryd.func33, Tryd.ntmps33
        go_wp2_with fail
        exact bodyPost_ret (v := .tuple #[.int .i64 1, .int .i64 1, .bool true]) (by simp [results, Tryd.results33, go_sem]) rfl ⟨rfl, rfl⟩

abbrev T2 : TypeId := 59
theorem infoT2 : (Tryd.prog.info? T2).map (fun i => (i.zero, i.size, i.bytes)) = some (some (.agg #[.int .i64 0, .string ByteArray.empty]), 2, 24) := by kernel_rfl
def RTokPost (w : World) (o : Option (List Lp.T)) (e : Ending) (w' : World) : Prop :=
  (match o with
   | none => e = .returned (.tuple #[.slice none 0 0, .bool false])
   | some l => ∃ a c, e = .returned (.tuple #[.slice a l.length c, .bool true]) ∧ w'.ownsRow w.heap.size T2 2 (.slice a l.length c) l.length (tsC l)) ∧ Below w.heap.size w w'

theorem one_is {p : ByteArray} {k : Nat} (h : k < p.size) : p.extract k (k + 1) = str [p[k]] := by
  refine by8_ext ?_
  rw [by8_str]
  show (p.extract k (k + 1)).data.toList = _
  rw [ByteArray.data_extract, Array.toList_extract, List.extract_eq_take_drop, Nat.add_sub_cancel_left]
  show ((by8 p).drop k).take 1 = _
  rw [by8_at h]; rfl
theorem str_app (a b : Bs) : str a ++ str b = str (a ++ b) := by
  refine by8_ext ?_
  rw [by8_str]
  show (str a ++ str b).data.toList = _
  rw [ByteArray.data_append, Array.toList_append]; rfl

/-- What the loop's head knows. -/
def RtRel (w : World) (s : ByteArray) (vo vp vw vi : Value) (wr : World) : Prop :=
  ∃ (k p : Nat) (t : Bs) (out : List Lp.T) (a : Option Addr) (c : Nat), vi = .int .i64 k ∧ vp = .int .i64 p ∧ vw = .string (str t) ∧ vo = .slice a out.length c ∧ wr.ownsRow w.heap.size T2 2 (.slice a out.length c) out.length (tsC out) ∧ Below w.heap.size w wr ∧
    k ≤ s.size ∧ p ≤ 3 ∧ (p = 0 → t = []) ∧ Lp.tokA (by8 s) = (Lp.stA p t ((by8 s).drop k)).map (out ++ ·) ∧ out.length ≤ 2 * k ∧ t.length ≤ k

theorem RtRel.next {w wr : World} {s : ByteArray} {k p p' n : Nat} {t t' : Bs} {out : List Lp.T} {a : Option Addr} {c : Nat} {I P : Int} {S : ByteArray} (hcut : Lp.tokA (by8 s) = (Lp.stA p t ((by8 s).drop k)).map (out ++ ·))
    (hst : Lp.stA p t ((by8 s).drop k) = Lp.stA p' t' ((by8 s).drop (k + n))) (hr : wr.ownsRow w.heap.size T2 2 (.slice a out.length c) out.length (tsC out)) (hB : Below w.heap.size w wr) (hk : k + n ≤ s.size) (hp : p' ≤ 3) (h0 : p' = 0 → t' = []) (ho : out.length ≤ 2 * (k + n)) (ht : t'.length ≤ k + n)
    (hI : I = ((k + n : Nat) : Int)) (hP : P = (p' : Int)) (hS : S = str t') : RtRel w s (.slice a out.length c) (.int .i64 P) (.string S) (.int .i64 I) wr := by
  subst hI hP hS
  exact ⟨k + n, p', t', out, a, c, rfl, rfl, rfl, rfl, hr, hB, hk, hp, h0, by rw [hcut, hst], ho, ht⟩
theorem RtRel.mk' {w wr : World} {s : ByteArray} {k m : Nat} {out : List Lp.T} {a : Option Addr} {c : Nat} {I P : Int} {S : ByteArray} {xs : List Value} (hcut : Lp.tokA (by8 s) = (Lp.stA 0 [] ((by8 s).drop k)).map (out ++ ·))
    (hk : k ≤ s.size) (ho : out.length ≤ 2 * k) (hm : m = out.length) (hx : xs = tsC out) (hr : wr.ownsRow w.heap.size T2 2 (.slice a m c) m xs) (hB : Below w.heap.size w wr)
    (hI : I = ((k : Nat) : Int)) (hP : P = 0) (hS : S = str []) : RtRel w s (.slice a m c) (.int .i64 P) (.string S) (.int .i64 I) wr := by
  subst hI hP hS hm hx
  exact ⟨k, 0, [], out, a, c, rfl, rfl, rfl, rfl, hr, hB, hk, by omega, fun _ => rfl, hcut, ho, by simp⟩
theorem map_snoc (o : Option (List Lp.T)) (x : Lp.T) (out : List Lp.T) : (o.map (x :: ·)).map (out ++ ·) = o.map ((out ++ [x]) ++ ·) := by cases o <;> simp
theorem cut1 {s : ByteArray} {k : Nat} {t : Bs} {out : List Lp.T} (h : k < s.size) (he : Lp.endB s[k] = true) (hcut : Lp.tokA (by8 s) = (Lp.stA 1 t ((by8 s).drop k)).map (out ++ ·)) :
    Lp.tokA (by8 s) = (Lp.stA 0 [] ((by8 s).drop k)).map ((out ++ [⟨0, t⟩]) ++ ·) := by
  rw [hcut, by8_at h, Lp.st1_stop _ _ he, map_snoc]
theorem cutm {s : ByteArray} {k m : Nat} {t : Bs} {out : List Lp.T} (h : k < s.size) (hm : Lp.markA ((by8 s).drop k) = m) (h0 : m ≠ 0) (hcut : Lp.tokA (by8 s) = (Lp.stA 0 t ((by8 s).drop k)).map (out ++ ·)) :
    Lp.tokA (by8 s) = (Lp.stA 0 [] ((by8 s).drop (k + (Lp.markT m).length))).map ((out ++ [⟨m, []⟩]) ++ ·) := by
  have hat := by8_at h
  rw [hcut]
  generalize (by8 s).drop (k + 1) = r at hat
  have e : (by8 s).drop (k + (Lp.markT m).length) = ((by8 s).drop k).drop (Lp.markT m).length := by rw [List.drop_drop]
  rw [e]
  generalize (by8 s).drop k = l at *
  subst hat
  rw [Lp.st0_mark t (by rw [hm]; exact h0), hm, map_snoc]
theorem cutb {s : ByteArray} {k : Nat} {t : Bs} {out : List Lp.T} (h : k < s.size) (he : Lp.endB s[k] = true) (hm : Lp.markA ((by8 s).drop k) = 0) (hc : ¬ (s[k] = 38 ∨ s[k] = 124)) (hcut : Lp.tokA (by8 s) = (Lp.stA 0 t ((by8 s).drop k)).map (out ++ ·)) :
    Lp.tokA (by8 s) = (Lp.stA 0 [] ((by8 s).drop (k + 1))).map (out ++ ·) := by
  have hat := by8_at h
  rw [hcut]
  rw [hat] at hm ⊢
  rw [Lp.st0_blank t [] hm he hc]
theorem cutx {s : ByteArray} {k : Nat} {t : Bs} {out : List Lp.T} (h : k < s.size) (hm : Lp.markA ((by8 s).drop k) = 0) (hc : s[k] = 38 ∨ s[k] = 124) (hcut : Lp.tokA (by8 s) = (Lp.stA 0 t ((by8 s).drop k)).map (out ++ ·)) :
    Lp.tokA (by8 s) = none := by
  have hat := by8_at h
  rw [hcut]
  rw [hat] at hm ⊢
  rw [Lp.st0_bad t hm hc]; rfl
theorem stop_le {p : Nat} {t : Bs} {c : UInt8} {r : Bs} (hp : p ≤ 1) (h0 : p = 0 → t = []) (he : Lp.endB c = false) : Lp.stA p t (c :: r) = Lp.stA 1 t (c :: r) := by
  match p, hp with
  | 0, _ => rw [h0 rfl]; exact Lp.st01 r he
  | 1, _ => rfl
theorem step_at (W : World) {s : ByteArray} {k : Nat} (h : k < s.size) : Calls Tryd.prog 33 #[.string (s.extract k s.size)] W fun e w' => e = .returned (stepV s[k] (s.size - k)) ∧ W = w' := by
  have hsz : (s.extract k s.size).size = s.size - k := by simp
  have h0 : 0 < (s.extract k s.size).size := by omega
  have h1 := step_any W (s.extract k s.size) h0
  have e : (s.extract k s.size)[0] = s[k] := by
    have a1 := by8_at h0
    have a2 := by8_at h
    rw [by8_drop, List.drop_zero, a2] at a1
    exact (List.cons.inj a1).1.symm
  rw [e, hsz] at h1
  exact h1
theorem mark_in {s : ByteArray} {k m : Nat} (hm : Lp.markA ((by8 s).drop k) = m) (h0 : m ≠ 0) : 1 ≤ (Lp.markT m).length ∧ k + (Lp.markT m).length ≤ s.size := by
  have := Lp.mark_pos (s := (by8 s).drop k) (by rw [hm]; exact h0)
  rw [hm, List.length_drop, by8_len] at this
  omega

set_option maxHeartbeats 8000000 in
theorem RTokens_any (w : World) (s : ByteArray) (hs : s.size ≤ 100000) : Calls Tryd.prog 17 #[.string s] w (RTokPost w (Lp.tokA (by8 s))) := by
  obtain ⟨i0, hi, hz0, hz1, hz2⟩ := info_parts infoT2
  go_enter Tryd.func17, Tryd.ntmps17
  go_wp2_with fail
  go_loopw [4, 5, 6, 7] (fun vo vp vw vi wr => RtRel w s vo vp vw vi wr) (fun _ _ _ vi _ => s.size - (intOf vi).toNat)
  case atStart => exact ⟨0, 0, [], [], none, 0, rfl, rfl, rfl, rfl, World.ownsRow_nil _ _ _ _, Below.refl _ _, Nat.zero_le _, by omega, fun _ => rfl, by rw [List.drop_zero]; show _ = (Lp.tokA _).map _; simp, Nat.zero_le _, Nat.zero_le _⟩
  case round =>
    obtain ⟨k, p, t, out, a, c, rfl, rfl, rfl, rfl, hr, hB, hk, hp, h0, hcut, hol, htl⟩ := hrel
    by_cases hlt : k < s.size
    · have hat := by8_at hlt
      have hone := one_is hlt
      have hS : Hid (str t ++ s.extract k (k + 1) = str (t ++ [s[k]])) := Lib.hid (by rw [hone, str_app])
      have hsz1 : (str t).size = t.length := str_size t
      have hsz2 : (s.extract k (k + 1)).size = 1 := by rw [hone]; rfl
      have hhas := has_any wr endsS s[k] (Lp.endB s[k]) (by decide) (Lib.hid (ends_is _))
      clear hone
      by_cases hp2 : p = 2
      · subst hp2
        by_cases hc39 : s[k] = 39
        · have hb : ((s[k].toNat : Int) == 39) = true := by rw [hc39]; rfl
          have HN := Lib.hid fun I P S => @RtRel.next w wr s k 2 1 1 t (t) out a c I P S hcut (by rw [hat, hc39, Lp.st2_end]) hr hB (by omega) (by omega) (by omega) (by omega) (by first | omega | (simp; omega))
          clear hcut hat hc39
          go_wp2_with fail
          refine hhas.mono ?_
          rintro e w' ⟨rfl, rfl⟩
          go_wp2_with fail
          go_roundw
          case rel => exact HN.out _ _ _ (by go_num) (by go_num) rfl
          case measure => simp [intOf]; omega
        · have hb : ((s[k].toNat : Int) == 39) = false := eq_false (b := 39) hc39
          have HN := Lib.hid fun I P S => @RtRel.next w wr s k 2 2 1 t (t ++ [s[k]]) out a c I P S hcut (by rw [hat, Lp.st2_more _ _ hc39]) hr hB (by omega) (by omega) (by omega) (by omega) (by first | omega | (simp; omega))
          clear hcut hat hc39
          go_wp2_with fail
          refine hhas.mono ?_
          rintro e w' ⟨rfl, rfl⟩
          go_wp2_with fail
          go_roundw
          case rel => exact HN.out _ _ _ (by go_num) (by go_num) hS.out
          case measure => simp [intOf]; omega
      · by_cases hp3 : p = 3
        · subst hp3
          by_cases hc34 : s[k] = 34
          · have hb : ((s[k].toNat : Int) == 34) = true := by rw [hc34]; rfl
            have HN := Lib.hid fun I P S => @RtRel.next w wr s k 3 1 1 t (t) out a c I P S hcut (by rw [hat, hc34, Lp.st3_end]) hr hB (by omega) (by omega) (by omega) (by omega) (by first | omega | (simp; omega))
            clear hcut hat hc34
            go_wp2_with fail
            refine hhas.mono ?_
            rintro e w' ⟨rfl, rfl⟩
            go_wp2_with fail
            go_roundw
            case rel => exact HN.out _ _ _ (by go_num) (by go_num) rfl
            case measure => simp [intOf]; omega
          · have hb : ((s[k].toNat : Int) == 34) = false := eq_false (b := 34) hc34
            by_cases hc92 : s[k] = 92
            · have hb2 : ((s[k].toNat : Int) == 92) = true := by rw [hc92]; rfl
              by_cases hlt1 : k + 1 < s.size
              · have hi1 : (k : Int) + 1 < (s.size : Int) := by omega
                have hi2 : ((k : Int) + 1).toNat = k + 1 := by omega
                have hi0 : (0 : Int) ≤ (k : Int) + 1 := by omega
                have hat1 := by8_at hlt1
                by_cases hd34 : s[k + 1] = 34
                · have hone1 := one_is hlt1
                  have hS1 : Hid (str t ++ s.extract (k + 1) (k + 1 + 1) = str (t ++ [s[k + 1]])) := Lib.hid (by rw [hone1, str_app])
                  have hsz3 : (s.extract (k + 1) (k + 1 + 1)).size = 1 := by rw [hone1]; rfl
                  clear hone1
                  have hb3 : ((s[k + 1].toNat : Int) == 34) = true := by rw [hd34]; rfl
                  have HN := Lib.hid fun I P S => @RtRel.next w wr s k 3 3 2 t (t ++ [s[k + 1]]) out a c I P S hcut (by rw [hat, hc92, hat1, Lp.st3_esc _ _ (.inl hd34)]) hr hB (by omega) (by omega) (by omega) (by omega) (by first | omega | (simp; omega))
                  clear hcut hat hat1 hc34 hc92 hd34
                  go_wp2_with fail
                  refine hhas.mono ?_
                  rintro e w' ⟨rfl, rfl⟩
                  go_wp2_with fail
                  go_roundw
                  case rel => exact HN.out _ _ _ (by go_num) (by go_num) hS1.out
                  case measure => simp [intOf]; omega
                · have hb3 : ((s[k + 1].toNat : Int) == 34) = false := eq_false (b := 34) hd34
                  by_cases hd92 : s[k + 1] = 92
                  · have hone1 := one_is hlt1
                    have hS1 : Hid (str t ++ s.extract (k + 1) (k + 1 + 1) = str (t ++ [s[k + 1]])) := Lib.hid (by rw [hone1, str_app])
                    have hsz3 : (s.extract (k + 1) (k + 1 + 1)).size = 1 := by rw [hone1]; rfl
                    clear hone1
                    have hb4 : ((s[k + 1].toNat : Int) == 92) = true := by rw [hd92]; rfl
                    have HN := Lib.hid fun I P S => @RtRel.next w wr s k 3 3 2 t (t ++ [s[k + 1]]) out a c I P S hcut (by rw [hat, hc92, hat1, Lp.st3_esc _ _ (.inr hd92)]) hr hB (by omega) (by omega) (by omega) (by omega) (by first | omega | (simp; omega))
                    clear hcut hat hat1 hc34 hc92 hd34 hd92
                    go_wp2_with fail
                    refine hhas.mono ?_
                    rintro e w' ⟨rfl, rfl⟩
                    go_wp2_with fail
                    go_roundw
                    case rel => exact HN.out _ _ _ (by go_num) (by go_num) hS1.out
                    case measure => simp [intOf]; omega
                  · have hb4 : ((s[k + 1].toNat : Int) == 92) = false := eq_false (b := 92) hd92
                    have HN := Lib.hid fun I P S => @RtRel.next w wr s k 3 3 1 t (t ++ [s[k]]) out a c I P S hcut (by rw [hat, hc92, hat1, Lp.st3_back _ _ (fun h => h.elim hd34 hd92), ← hat1]) hr hB (by omega) (by omega) (by omega) (by omega) (by first | omega | (simp; omega))
                    clear hcut hat hat1 hc34 hc92 hd34 hd92
                    go_wp2_with fail
                    refine hhas.mono ?_
                    rintro e w' ⟨rfl, rfl⟩
                    go_wp2_with fail
                    go_roundw
                    case rel => exact HN.out _ _ _ (by go_num) (by go_num) hS.out
                    case measure => simp [intOf]; omega
              · have hi1 : ¬ (k : Int) + 1 < (s.size : Int) := by omega
                have hi3 : decide ((k : Int) + 1 < (s.size : Int)) = false := decide_eq_false hi1
                have hnil : (by8 s).drop (k + 1) = [] := List.drop_eq_nil_of_le (by rw [by8_len]; omega)
                have HN := Lib.hid fun I P S => @RtRel.next w wr s k 3 3 1 t (t ++ [s[k]]) out a c I P S hcut (by rw [hat, hc92, hnil, Lp.st3_last]) hr hB (by omega) (by omega) (by omega) (by omega) (by first | omega | (simp; omega))
                clear hcut hat hc34 hc92 hnil
                go_wp2_with fail
                refine hhas.mono ?_
                rintro e w' ⟨rfl, rfl⟩
                go_wp2_with fail
                go_roundw
                case rel => exact HN.out _ _ _ (by go_num) (by go_num) hS.out
                case measure => simp [intOf]; omega
            · have hb2 : ((s[k].toNat : Int) == 92) = false := eq_false (b := 92) hc92
              have HN := Lib.hid fun I P S => @RtRel.next w wr s k 3 3 1 t (t ++ [s[k]]) out a c I P S hcut (by rw [hat, Lp.st3_more _ _ hc34 hc92]) hr hB (by omega) (by omega) (by omega) (by omega) (by first | omega | (simp; omega))
              clear hcut hat hc34 hc92
              go_wp2_with fail
              refine hhas.mono ?_
              rintro e w' ⟨rfl, rfl⟩
              go_wp2_with fail
              go_roundw
              case rel => exact HN.out _ _ _ (by go_num) (by go_num) hS.out
              case measure => simp [intOf]; omega
        · have hp1 : p ≤ 1 := by omega
          have hq2 : ((p : Int) == 2) = false := by rw [beq_eq_false_iff_ne]; omega
          have hq3 : ((p : Int) == 3) = false := by rw [beq_eq_false_iff_ne]; omega
          cases he : Lp.endB s[k] with
          | true =>
            rw [he] at hhas
            have hmk := fun W => Rmark_any W (s.extract k s.size) (by simp; omega)
            rw [by8_drop] at hmk
            have hle6 := Lp.mark_le ((by8 s).drop k)
            obtain ⟨m, hm⟩ : ∃ m, Lp.markA ((by8 s).drop k) = m := ⟨_, rfl⟩
            rw [hm] at hmk hle6
            clear hat
            match p, hp1 with
            | 0, _ =>
              have ht := h0 rfl
              subst ht
              have hcut1 := hcut
              have hlt1 : (out).length ≤ 2 * k + 1 := by first | omega | (simp; omega)
              cases m with
              | zero =>
                by_cases hc : s[k] = 38 ∨ s[k] = 124
                · have HE : Hid (Lp.tokA (by8 s) = none) := Lib.hid (cutx hlt hm hc hcut1)
                  rcases hc with hc38 | hc124
                  · have hb : ((s[k].toNat : Int) == 38) = true := by rw [hc38]; rfl
                    clear hcut hcut1 hc38 he hm
                    go_wp2_with fail
                    refine hhas.mono ?_
                    rintro e w' ⟨rfl, rfl⟩
                    go_wp2_with (first
                      | (go_at_call 31; refine (hmk _).mono ?_; rintro e w4 ⟨rfl, hB4⟩; have hr4 := owns_below hr hB4; have hBy := hB.trans (hB4.mono hB.size)))
                    exact bodyPost_ret (v := .tuple #[.slice none 0 0, .bool false]) (by simp [results, Tryd.results17, go_sem]) rfl ⟨by rw [HE.out], hBy⟩
                  · have hb : ((s[k].toNat : Int) == 38) = false := by rw [hc124]; rfl
                    have hb2 : ((s[k].toNat : Int) == 124) = true := by rw [hc124]; rfl
                    clear hcut hcut1 hc124 he hm
                    go_wp2_with fail
                    refine hhas.mono ?_
                    rintro e w' ⟨rfl, rfl⟩
                    go_wp2_with (first
                      | (go_at_call 31; refine (hmk _).mono ?_; rintro e w4 ⟨rfl, hB4⟩; have hr4 := owns_below hr hB4; have hBy := hB.trans (hB4.mono hB.size)))
                    exact bodyPost_ret (v := .tuple #[.slice none 0 0, .bool false]) (by simp [results, Tryd.results17, go_sem]) rfl ⟨by rw [HE.out], hBy⟩
                · have hb : ((s[k].toNat : Int) == 38) = false := eq_false (b := 38) (fun e => hc (.inl e))
                  have hb2 : ((s[k].toNat : Int) == 124) = false := eq_false (b := 124) (fun e => hc (.inr e))
                  have HN := Lib.hid fun (wq : World) (aq : Option Addr) (cq : Nat) I P S => @RtRel.mk' w wq s (k + 1) (out.length) out aq cq I P S (tsC out) (cutb hlt he hm hc hcut1) hlt (by omega) rfl rfl
                  clear hcut hcut1 hc he hm
                  go_wp2_with fail
                  refine hhas.mono ?_
                  rintro e w' ⟨rfl, rfl⟩
                  go_wp2_with (first
                    | (go_at_call 31; refine (hmk _).mono ?_; rintro e w4 ⟨rfl, hB4⟩; have hr4 := owns_below hr hB4; have hBy := hB.trans (hB4.mono hB.size)))
                  go_roundw
                  case rel => exact HN.out _ _ _ _ _ _ hr4 hBy (by go_num) (by go_num) rfl
                  case measure => simp [intOf]; omega
              | succ j =>
                have hin := mark_in hm (by omega)
                obtain ⟨hn1, hn2⟩ := hin
                have hj6 : j < 6 := by omega
                have hszj : (str (Lp.markT (j + 1))).size = (Lp.markT (j + 1)).length := str_size _
                have HN := Lib.hid fun (wq : World) (aq : Option Addr) (cq : Nat) I P S => @RtRel.mk' w wq s (k + (Lp.markT (j + 1)).length) (out.length + 1) (out ++ [⟨j + 1, []⟩]) aq cq I P S ((tsC out) ++ [.int .i64 ((j : Int) + 1), .string ⟨#[]⟩]) (cutm hlt hm (by omega) hcut1) hn2 (by simp; omega) (by simp) (by simp [tsC, tC]; rfl)
                have hz1' : (((j : Int) + 1) == 0) = false := by rw [beq_eq_false_iff_ne]; omega
                have hz2' : ¬ ((j : Int) + 1) = 0 := by omega
                have hz3 : (0 : Int) < (j : Int) + 1 := by omega
                have hw : IntKind.i64.wrap (j : Int) = j := by rw [IntWalk.i64_in _ (by omega)]
                clear hcut hcut1 he hm
                generalize (Lp.markT (j + 1)).length = n at *
                go_wp2_with fail
                refine hhas.mono ?_
                rintro e w' ⟨rfl, rfl⟩
                go_wp2_with (first
                  | (go_at_call 32; refine (Marks_any _).mono ?_; rintro e w6 ⟨bm, rfl, hbm1, hbm2, hcs6, hB6⟩; have hcj := hcs6 j hj6; clear hcs6; have hr6 := owns_below hown2 hB6; have hBz := hB2.trans (hB6.mono hB2.size))
                  | (at_builtin; refine wpList_append_own _ rfl _ _ 52 rfl w.heap.size T2 i0 (.agg #[.int .i64 0, .string ByteArray.empty]) 2 24 Tryd.underlying52 hi hz0 hz1 hz2 rfl (by decide) _ _ _ rfl (hr4.alloc _) ⟨w4.heap.size, 0, none⟩ 1 1 [.int .i64 ((j : Int) + 1), .string ⟨#[]⟩] rfl rfl (two_at _ rfl _ _ _) (by simp [Value.oneCell']) (by unfold maxLen; omega) (by omega) (by have := hBy.size; simp; omega) ?_; intro v2 w2 hown2 hgrow2 _; obtain ⟨a2, c2, rfl⟩ := owns_slice hown2; have hB2 := (hBy.alloc hBy.size _).grown hgrow2 (hBy.alloc hBy.size _).size fun j ej => (hr4.lt j ej).1)
                  | (go_at_call 31; refine (hmk _).mono ?_; rintro e w4 ⟨rfl, hB4⟩; have hr4 := owns_below hr hB4; have hBy := hB.trans (hB4.mono hB.size)))
                go_roundw
                case rel => exact HN.out _ _ _ _ _ _ hr6 hBz (by go_num) (by go_num) rfl
                case measure => simp [intOf]; omega
            | 1, _ =>
              have hcut1 := cut1 hlt he hcut
              have hlt1 : ((out ++ [(⟨0, t⟩ : Lp.T)])).length ≤ 2 * k + 1 := by first | omega | (simp; omega)
              cases m with
              | zero =>
                by_cases hc : s[k] = 38 ∨ s[k] = 124
                · have HE : Hid (Lp.tokA (by8 s) = none) := Lib.hid (cutx hlt hm hc hcut1)
                  rcases hc with hc38 | hc124
                  · have hb : ((s[k].toNat : Int) == 38) = true := by rw [hc38]; rfl
                    clear hcut hcut1 hc38 he hm
                    go_wp2_with fail
                    refine hhas.mono ?_
                    rintro e w' ⟨rfl, rfl⟩
                    go_wp2_with (first
                      | (go_at_call 31; refine (hmk _).mono ?_; rintro e w4 ⟨rfl, hB4⟩; have hr4 := owns_below hown1 hB4; have hBy := hB1.trans (hB4.mono hB1.size))
                      | (at_builtin; refine wpList_append_own _ rfl _ _ 52 rfl w.heap.size T2 i0 (.agg #[.int .i64 0, .string ByteArray.empty]) 2 24 Tryd.underlying52 hi hz0 hz1 hz2 rfl (by decide) _ _ _ rfl (hr.alloc _) ⟨wr.heap.size, 0, none⟩ 1 1 [.int .i64 0, .string (str t)] rfl rfl (two_at _ rfl _ _ _) (by simp [Value.oneCell']) (by unfold maxLen; omega) (by omega) (by have := hB.size; simp; omega) ?_; intro v1 w1 hown1 hgrow1 _; obtain ⟨a1, c1, rfl⟩ := owns_slice hown1; have hB1 := (hB.alloc hB.size _).grown hgrow1 (hB.alloc hB.size _).size fun j ej => (hr.lt j ej).1))
                    exact bodyPost_ret (v := .tuple #[.slice none 0 0, .bool false]) (by simp [results, Tryd.results17, go_sem]) rfl ⟨by rw [HE.out], hBy⟩
                  · have hb : ((s[k].toNat : Int) == 38) = false := by rw [hc124]; rfl
                    have hb2 : ((s[k].toNat : Int) == 124) = true := by rw [hc124]; rfl
                    clear hcut hcut1 hc124 he hm
                    go_wp2_with fail
                    refine hhas.mono ?_
                    rintro e w' ⟨rfl, rfl⟩
                    go_wp2_with (first
                      | (go_at_call 31; refine (hmk _).mono ?_; rintro e w4 ⟨rfl, hB4⟩; have hr4 := owns_below hown1 hB4; have hBy := hB1.trans (hB4.mono hB1.size))
                      | (at_builtin; refine wpList_append_own _ rfl _ _ 52 rfl w.heap.size T2 i0 (.agg #[.int .i64 0, .string ByteArray.empty]) 2 24 Tryd.underlying52 hi hz0 hz1 hz2 rfl (by decide) _ _ _ rfl (hr.alloc _) ⟨wr.heap.size, 0, none⟩ 1 1 [.int .i64 0, .string (str t)] rfl rfl (two_at _ rfl _ _ _) (by simp [Value.oneCell']) (by unfold maxLen; omega) (by omega) (by have := hB.size; simp; omega) ?_; intro v1 w1 hown1 hgrow1 _; obtain ⟨a1, c1, rfl⟩ := owns_slice hown1; have hB1 := (hB.alloc hB.size _).grown hgrow1 (hB.alloc hB.size _).size fun j ej => (hr.lt j ej).1))
                    exact bodyPost_ret (v := .tuple #[.slice none 0 0, .bool false]) (by simp [results, Tryd.results17, go_sem]) rfl ⟨by rw [HE.out], hBy⟩
                · have hb : ((s[k].toNat : Int) == 38) = false := eq_false (b := 38) (fun e => hc (.inl e))
                  have hb2 : ((s[k].toNat : Int) == 124) = false := eq_false (b := 124) (fun e => hc (.inr e))
                  have HN := Lib.hid fun (wq : World) (aq : Option Addr) (cq : Nat) I P S => @RtRel.mk' w wq s (k + 1) (out.length + 1) (out ++ [(⟨0, t⟩ : Lp.T)]) aq cq I P S (tsC out ++ [.int .i64 0, .string (str t)]) (cutb hlt he hm hc hcut1) hlt (by omega) (by simp) (by rw [tsC_snoc]; rfl)
                  clear hcut hcut1 hc he hm
                  go_wp2_with fail
                  refine hhas.mono ?_
                  rintro e w' ⟨rfl, rfl⟩
                  go_wp2_with (first
                    | (go_at_call 31; refine (hmk _).mono ?_; rintro e w4 ⟨rfl, hB4⟩; have hr4 := owns_below hown1 hB4; have hBy := hB1.trans (hB4.mono hB1.size))
                    | (at_builtin; refine wpList_append_own _ rfl _ _ 52 rfl w.heap.size T2 i0 (.agg #[.int .i64 0, .string ByteArray.empty]) 2 24 Tryd.underlying52 hi hz0 hz1 hz2 rfl (by decide) _ _ _ rfl (hr.alloc _) ⟨wr.heap.size, 0, none⟩ 1 1 [.int .i64 0, .string (str t)] rfl rfl (two_at _ rfl _ _ _) (by simp [Value.oneCell']) (by unfold maxLen; omega) (by omega) (by have := hB.size; simp; omega) ?_; intro v1 w1 hown1 hgrow1 _; obtain ⟨a1, c1, rfl⟩ := owns_slice hown1; have hB1 := (hB.alloc hB.size _).grown hgrow1 (hB.alloc hB.size _).size fun j ej => (hr.lt j ej).1))
                  go_roundw
                  case rel => exact HN.out _ _ _ _ _ _ hr4 hBy (by go_num) (by go_num) rfl
                  case measure => simp [intOf]; omega
              | succ j =>
                have hin := mark_in hm (by omega)
                obtain ⟨hn1, hn2⟩ := hin
                have hj6 : j < 6 := by omega
                have hszj : (str (Lp.markT (j + 1))).size = (Lp.markT (j + 1)).length := str_size _
                have HN := Lib.hid fun (wq : World) (aq : Option Addr) (cq : Nat) I P S => @RtRel.mk' w wq s (k + (Lp.markT (j + 1)).length) (out.length + 1 + 1) ((out ++ [(⟨0, t⟩ : Lp.T)]) ++ [⟨j + 1, []⟩]) aq cq I P S ((tsC out ++ [.int .i64 0, .string (str t)]) ++ [.int .i64 ((j : Int) + 1), .string ⟨#[]⟩]) (cutm hlt hm (by omega) hcut1) hn2 (by simp; omega) (by simp) (by simp [tsC, tC]; rfl)
                have hz1' : (((j : Int) + 1) == 0) = false := by rw [beq_eq_false_iff_ne]; omega
                have hz2' : ¬ ((j : Int) + 1) = 0 := by omega
                have hz3 : (0 : Int) < (j : Int) + 1 := by omega
                have hw : IntKind.i64.wrap (j : Int) = j := by rw [IntWalk.i64_in _ (by omega)]
                clear hcut hcut1 he hm
                generalize (Lp.markT (j + 1)).length = n at *
                go_wp2_with fail
                refine hhas.mono ?_
                rintro e w' ⟨rfl, rfl⟩
                go_wp2_with (first
                  | (go_at_call 32; refine (Marks_any _).mono ?_; rintro e w6 ⟨bm, rfl, hbm1, hbm2, hcs6, hB6⟩; have hcj := hcs6 j hj6; clear hcs6; have hr6 := owns_below hown2 hB6; have hBz := hB2.trans (hB6.mono hB2.size))
                  | (at_builtin; refine wpList_append_own _ rfl _ _ 52 rfl w.heap.size T2 i0 (.agg #[.int .i64 0, .string ByteArray.empty]) 2 24 Tryd.underlying52 hi hz0 hz1 hz2 rfl (by decide) _ _ _ rfl (hr4.alloc _) ⟨w4.heap.size, 0, none⟩ 1 1 [.int .i64 ((j : Int) + 1), .string ⟨#[]⟩] rfl rfl (two_at _ rfl _ _ _) (by simp [Value.oneCell']) (by unfold maxLen; omega) (by omega) (by have := hBy.size; simp; omega) ?_; intro v2 w2 hown2 hgrow2 _; obtain ⟨a2, c2, rfl⟩ := owns_slice hown2; have hB2 := (hBy.alloc hBy.size _).grown hgrow2 (hBy.alloc hBy.size _).size fun j ej => (hr4.lt j ej).1)
                  | (go_at_call 31; refine (hmk _).mono ?_; rintro e w4 ⟨rfl, hB4⟩; have hr4 := owns_below hown1 hB4; have hBy := hB1.trans (hB4.mono hB1.size))
                  | (at_builtin; refine wpList_append_own _ rfl _ _ 52 rfl w.heap.size T2 i0 (.agg #[.int .i64 0, .string ByteArray.empty]) 2 24 Tryd.underlying52 hi hz0 hz1 hz2 rfl (by decide) _ _ _ rfl (hr.alloc _) ⟨wr.heap.size, 0, none⟩ 1 1 [.int .i64 0, .string (str t)] rfl rfl (two_at _ rfl _ _ _) (by simp [Value.oneCell']) (by unfold maxLen; omega) (by omega) (by have := hB.size; simp; omega) ?_; intro v1 w1 hown1 hgrow1 _; obtain ⟨a1, c1, rfl⟩ := owns_slice hown1; have hB1 := (hB.alloc hB.size _).grown hgrow1 (hB.alloc hB.size _).size fun j ej => (hr.lt j ej).1))
                go_roundw
                case rel => exact HN.out _ _ _ _ _ _ hr6 hBz (by go_num) (by go_num) rfl
                case measure => simp [intOf]; omega
          | false =>
            rw [he] at hhas
            have hstep := step_at wr hlt
            unfold stepV at hstep
            by_cases hc39 : s[k] = 39
            · rw [if_pos hc39] at hstep
              have HN := Lib.hid fun I P S => @RtRel.next w wr s k p 2 1 t (t) out a c I P S hcut (by rw [hat, stop_le hp1 h0 he, hc39, Lp.st1_single]) hr hB (by omega) (by omega) (by omega) (by omega) (by first | omega | (simp; omega))
              clear hcut hp3 hp2 h0 hat hc39 he
              go_wp2_with fail
              refine hhas.mono ?_
              rintro e w' ⟨rfl, rfl⟩
              go_wp2_with fail
              refine hstep.mono ?_
              rintro e w' ⟨rfl, rfl⟩
              go_wp2_with fail
              go_roundw
              case rel => exact HN.out _ _ _ (by go_num) (by go_num) rfl
              case measure => simp [intOf]; omega
            · rw [if_neg hc39] at hstep
              by_cases hc34 : s[k] = 34
              · rw [if_pos hc34] at hstep
                have HN := Lib.hid fun I P S => @RtRel.next w wr s k p 3 1 t (t) out a c I P S hcut (by rw [hat, stop_le hp1 h0 he, hc34, Lp.st1_double]) hr hB (by omega) (by omega) (by omega) (by omega) (by first | omega | (simp; omega))
                clear hcut hp3 hp2 h0 hat hc39 hc34 he
                go_wp2_with fail
                refine hhas.mono ?_
                rintro e w' ⟨rfl, rfl⟩
                go_wp2_with fail
                refine hstep.mono ?_
                rintro e w' ⟨rfl, rfl⟩
                go_wp2_with fail
                go_roundw
                case rel => exact HN.out _ _ _ (by go_num) (by go_num) rfl
                case measure => simp [intOf]; omega
              · rw [if_neg hc34] at hstep
                by_cases hc92 : s[k] = 92
                · rw [if_pos hc92] at hstep
                  by_cases hlt1 : k + 1 < s.size
                  · rw [decide_eq_true (by omega : 1 < s.size - k)] at hstep
                    have hat1 := by8_at hlt1
                    have hone1 := one_is hlt1
                    have hS1 : Hid (str t ++ s.extract (k + 1) (k + 1 + 1) = str (t ++ [s[k + 1]])) := Lib.hid (by rw [hone1, str_app])
                    have hsz3 : (s.extract (k + 1) (k + 1 + 1)).size = 1 := by rw [hone1]; rfl
                    clear hone1
                    have j1 : ((k : Int) + 2 - 1).toNat = k + 1 := by omega
                    have j2 : ((k : Int) + 2).toNat = k + 1 + 1 := by omega
                    have j3 : (0 : Int) ≤ (k : Int) + 2 - 1 := by omega
                    have j4 : (k : Int) + 2 - 1 ≤ (k : Int) + 2 := by omega
                    have j5 : (k : Int) + 2 ≤ (s.size : Int) := by omega
                    have HN := Lib.hid fun I P S => @RtRel.next w wr s k p 1 2 t (t ++ [s[k + 1]]) out a c I P S hcut (by rw [hat, stop_le hp1 h0 he, hc92, hat1, Lp.st1_esc]) hr hB (by omega) (by omega) (by omega) (by omega) (by first | omega | (simp; omega))
                    clear hcut hp3 hp2 h0 hat hat1 hc39 hc34 hc92 he
                    go_wp2_with fail
                    refine hhas.mono ?_
                    rintro e w' ⟨rfl, rfl⟩
                    go_wp2_with fail
                    refine hstep.mono ?_
                    rintro e w' ⟨rfl, rfl⟩
                    go_wp2_with fail
                    go_roundw
                    case rel => exact HN.out _ _ _ (by go_num) (by go_num) hS1.out
                    case measure => simp [intOf]; omega
                  · rw [decide_eq_false (by omega : ¬ 1 < s.size - k)] at hstep
                    have hnil : (by8 s).drop (k + 1) = [] := List.drop_eq_nil_of_le (by rw [by8_len]; omega)
                    have HE : Hid (Lp.tokA (by8 s) = none) := Lib.hid (by rw [hcut, hat, stop_le hp1 h0 he, hc92, hnil, Lp.st1_bad]; rfl)
                    clear hcut hp3 hp2 h0 hat hc39 hc34 hc92 he
                    go_wp2_with fail
                    refine hhas.mono ?_
                    rintro e w' ⟨rfl, rfl⟩
                    go_wp2_with fail
                    refine hstep.mono ?_
                    rintro e w' ⟨rfl, rfl⟩
                    go_wp2_with fail
                    exact bodyPost_ret (v := .tuple #[.slice none 0 0, .bool false]) (by simp [results, Tryd.results17, go_sem]) rfl ⟨by rw [HE.out], hB⟩
                · rw [if_neg hc92] at hstep
                  have HN := Lib.hid fun I P S => @RtRel.next w wr s k p 1 1 t (t ++ [s[k]]) out a c I P S hcut (by rw [hat, stop_le hp1 h0 he, Lp.st1_more _ _ he hc39 hc34 hc92]) hr hB (by omega) (by omega) (by omega) (by omega) (by first | omega | (simp; omega))
                  clear hcut hp3 hp2 h0 hat hc39 hc34 hc92 he
                  go_wp2_with fail
                  refine hhas.mono ?_
                  rintro e w' ⟨rfl, rfl⟩
                  go_wp2_with fail
                  refine hstep.mono ?_
                  rintro e w' ⟨rfl, rfl⟩
                  go_wp2_with fail
                  go_roundw
                  case rel => exact HN.out _ _ _ (by go_num) (by go_num) hS.out
                  case measure => simp [intOf]; omega
    · obtain rfl : k = s.size := by omega
      have hnil : (by8 s).drop s.size = [] := List.drop_eq_nil_of_le (by rw [by8_len]; omega)
      rw [hnil] at hcut
      match p, hp with
      | 0, _ =>
        have HE : Hid (Lp.tokA (by8 s) = some out) := Lib.hid (by rw [hcut, Lp.st_end0]; simp)
        clear hcut hnil
        go_wp2_with fail
        exact bodyPost_ret (v := .tuple #[.slice a out.length c, .bool true]) (by simp [results, Tryd.results17, go_sem]) rfl ⟨by rw [HE.out]; exact ⟨a, c, rfl, hr⟩, hB⟩
      | 1, _ =>
        have HE : Hid (Lp.tokA (by8 s) = some (out ++ [⟨0, t⟩])) := Lib.hid (by rw [hcut, Lp.st_end1]; simp)
        clear hcut hnil
        go_wp2_with (at_builtin; refine wpList_append_own _ rfl _ _ 52 rfl w.heap.size T2 i0 (.agg #[.int .i64 0, .string ByteArray.empty]) 2 24 Tryd.underlying52 hi hz0 hz1 hz2 rfl (by decide) _ _ _ rfl (hr.alloc _) ⟨wr.heap.size, 0, none⟩ 1 1 [.int .i64 0, .string (str t)] rfl rfl (two_at _ rfl _ _ _) (by simp [Value.oneCell']) (by unfold maxLen; omega) (by omega) (by have := hB.size; simp; omega) ?_; intro v1 w1 hown1 hgrow1 _; obtain ⟨a1, c1, rfl⟩ := owns_slice hown1; have hB1 := (hB.alloc hB.size _).grown hgrow1 (hB.alloc hB.size _).size fun j ej => (hr.lt j ej).1)
        exact bodyPost_ret (v := .tuple #[.slice a1 (out.length + 1) c1, .bool true]) (by simp [results, Tryd.results17, go_sem]) rfl ⟨by rw [HE.out]; exact ⟨a1, c1, by rw [List.length_append]; rfl, by rw [List.length_append, tsC_snoc]; exact hown1⟩, hB1⟩
      | 2, _ =>
        have HE : Hid (Lp.tokA (by8 s) = none) := Lib.hid (by rw [hcut, Lp.st_end2]; rfl)
        clear hcut hnil
        go_wp2_with fail
        exact bodyPost_ret (v := .tuple #[.slice none 0 0, .bool false]) (by simp [results, Tryd.results17, go_sem]) rfl ⟨by rw [HE.out], hB⟩
      | 3, _ =>
        have HE : Hid (Lp.tokA (by8 s) = none) := Lib.hid (by rw [hcut, Lp.st_end3]; rfl)
        clear hcut hnil
        go_wp2_with fail
        exact bodyPost_ret (v := .tuple #[.slice none 0 0, .bool false]) (by simp [results, Tryd.results17, go_sem]) rfl ⟨by rw [HE.out], hB⟩
end Go.Proofs.YtlkcpegjkmfngaaDoor.Lx
