/-
  lex.mark, skip, first.
  lex.Tokens: the tokens of a line.
-/
import Derived.Lib.SlTrimSet
import Derived.Test.YteommneijlelkaaGreatDoorQLOpen
import Derived.Test.YteommneijlelkaaGreatDoorQLWord
namespace Go.Proofs.YteommneijlelkaaGreatDoor.Lx
open Go.RowKit Go.Proofs.YteommneijlelkaaGreatDoor
set_option maxRecDepth 100000

abbrev GM : Nat := 0
/-- The package's variables: the texts of the marks; a number of the library's. -/
structure Glob (w : World) : Prop where
  marks : ∀ k, k < 7 → w.cell? ⟨0, k, none⟩ = some (.string (str (Lp.markT k)))
  max : ∃ m, w.cell? ⟨1, 0, none⟩ = some (.int .i64 m)
theorem cell_lt {w : World} {p : Addr} {v : Value} (h : w.cell? p = some v) : p.block < w.heap.size := by
  rcases Nat.lt_or_ge p.block w.heap.size with h1 | h1
  · exact h1
  · rw [World.cell?, Array.getElem?_eq_none h1] at h; cases h
theorem Glob.below {w w' : World} (h : Glob w) (hB : Below w.heap.size w w') : Glob w' := by
  refine ⟨fun k hk => ?_, ?_⟩
  · have := h.marks k hk
    exact (hB.cell (p := ⟨0, k, none⟩) (cell_lt this)).trans this
  · obtain ⟨m, hm⟩ := h.max
    exact ⟨m, (hB.cell (p := ⟨1, 0, none⟩) (cell_lt hm)).trans hm⟩

theorem HasPrefix_is (s p : ByteArray) (b : Bool) (h : Hid ((by8 p).isPrefixOf (by8 s) = b)) (w : World) : Calls Tryz.prog 38 #[.string s, .string p] w fun e w' => e = .returned (.bool b) ∧ w = w' :=
  (Tryz.strings_HasPrefix s p w).mono fun e w' ⟨he, hw⟩ => ⟨by rw [he, ← h.out]; rfl, hw.symm⟩

set_option maxHeartbeats 4000000 in
theorem mark_any (w : World) (s : ByteArray) (hG : Glob w) : Calls Tryz.prog 72 #[.string s] w fun e w' => e = .returned (.int .i64 (Lp.markA (by8 s))) ∧ Below w.heap.size w w' := by
  rw [← Lp.best_mark]
  have HC := Lib.hid hG
  clear hG
  go_enter Tryz.func72, Tryz.ntmps72
  go_wp2_with fail
  go_loopw [3, 4] (fun v3 v4 wr => ∃ k : Nat, k ≤ 6 ∧ v4 = .int .i64 ((k : Int) + 1) ∧ v3 = .int .i64 (Lp.bestA k (by8 s)) ∧ Below w.heap.size w wr) (fun _ v _ => 7 - (intOf v).toNat)
  case atStart => exact ⟨0, by omega, rfl, rfl, Below.refl _ _⟩
  case round =>
    obtain ⟨k, hk, rfl, rfl, hBr⟩ := hrel
    by_cases hlt : k < 6
    · have hle := best_le k (by8 s)
      have hGr := HC.out.below hBr
      have hc := hGr.marks (k + 1) (by omega)
      have hcb := hGr.marks (Lp.bestA k (by8 s)) (by omega)
      have hsz : (str (Lp.markT (k + 1))).size = (Lp.markT (k + 1)).length := str_size _
      have hszb : (str (Lp.markT (Lp.bestA k (by8 s)))).size = (Lp.markT (Lp.bestA k (by8 s))).length := str_size _
      have hm2 := mark_len (k + 1)
      have hmb := mark_len (Lp.bestA k (by8 s))
      have i0 : (0 : Int) ≤ (k : Int) + 1 := by omega
      have i1 : (k : Int) + 1 < 7 := by omega
      have i2 : ((k : Int) + 1).toNat = k + 1 := by omega
      have i3 : ((Lp.bestA k (by8 s) : Nat) : Int) < 7 := by omega
      clear hGr
      cases hpt : (Lp.markT (k + 1)).isPrefixOf (by8 s) with
      | true =>
        have HP := fun W => HasPrefix_is s (str (Lp.markT (k + 1))) true (Lib.hid (by rw [by8_str]; exact hpt)) W
        by_cases hlen : (Lp.markT (Lp.bestA k (by8 s))).length < (Lp.markT (k + 1)).length
        · have HS : Hid (Lp.bestA (k + 1) (by8 s) = k + 1) := Lib.hid (best_yes hpt hlen)
          clear hpt
          generalize str (Lp.markT (k + 1)) = mk at *
          generalize (Lp.markT (k + 1)).length = n at *
          generalize str (Lp.markT (Lp.bestA k (by8 s))) = mj at *
          generalize (Lp.markT (Lp.bestA k (by8 s))).length = nj at *
          generalize Lp.bestA k (by8 s) = best at *
          subst hsz
          subst hszb
          have hd : decide (mj.size < mk.size) = true := decide_eq_true hlen
          go_wp2_with fail
          go_quiet ((go_at_call 38; exact Calls.quiet_of_same ((HP _).mono fun _ _ h => ⟨h.1, h.2.symm⟩)))
          go_wp2_with fail
          go_roundw
          case rel => exact ⟨k + 1, hlt, by go_num, by rw [HS.out]; go_num, below_drewN hBr _⟩
          case measure => simp [intOf]; omega
        · have HS : Hid (Lp.bestA (k + 1) (by8 s) = Lp.bestA k (by8 s)) := Lib.hid (best_no fun h => hlen h.2)
          clear hpt
          generalize str (Lp.markT (k + 1)) = mk at *
          generalize (Lp.markT (k + 1)).length = n at *
          generalize str (Lp.markT (Lp.bestA k (by8 s))) = mj at *
          generalize (Lp.markT (Lp.bestA k (by8 s))).length = nj at *
          generalize Lp.bestA k (by8 s) = best at *
          subst hsz
          subst hszb
          have hd : decide (mj.size < mk.size) = false := decide_eq_false hlen
          go_wp2_with fail
          go_quiet ((go_at_call 38; exact Calls.quiet_of_same ((HP _).mono fun _ _ h => ⟨h.1, h.2.symm⟩)))
          go_wp2_with fail
          go_roundw
          case rel => exact ⟨k + 1, hlt, by go_num, by rw [HS.out], below_drewN hBr _⟩
          case measure => simp [intOf]; omega
      | false =>
        have HP := fun W => HasPrefix_is s (str (Lp.markT (k + 1))) false (Lib.hid (by rw [by8_str]; exact hpt)) W
        have HS : Hid (Lp.bestA (k + 1) (by8 s) = Lp.bestA k (by8 s)) := Lib.hid (best_no fun h => by rw [hpt] at h; cases h.1)
        clear hpt
        generalize str (Lp.markT (k + 1)) = mk at *
        generalize str (Lp.markT (Lp.bestA k (by8 s))) = mj at *
        generalize Lp.bestA k (by8 s) = best at *
        go_wp2_with fail
        go_quiet ((go_at_call 38; exact Calls.quiet_of_same ((HP _).mono fun _ _ h => ⟨h.1, h.2.symm⟩)))
        go_wp2_with fail
        go_roundw
        case rel => exact ⟨k + 1, hlt, by go_num, by rw [HS.out], below_drewN hBr _⟩
        case measure => simp [intOf]; omega
    · obtain rfl : k = 6 := by omega
      go_wp2_with fail
      go_ret
      exact ⟨rfl, hBr⟩

theorem infoA : (Tryz.prog.info? (Tryz.laysTrimLeft_ren.t 116)).map (fun i => (i.zero, i.size)) = some (some (.agg (Array.replicate 256 (.bool false))), 256) := by kernel_rfl
theorem skip_is (s : ByteArray) : (⟨(Lib.trimLeftS s.data.toList [32, 9, 10]).toArray⟩ : ByteArray) = str (Lp.skipA (by8 s)) := by
  show str (Lib.trimLeftS (by8 s) [32, 9, 10]) = _
  unfold Lib.trimLeftS Lp.skipA
  congr 2
  funext c
  simp only [List.contains_cons, List.contains_nil, Bool.or_false, Lp.blankB]
theorem skip_any (w : World) (s : ByteArray) : Calls Tryz.prog 44 #[.string s] w fun e w' => e = .returned (.string (str (Lp.skipA (by8 s)))) ∧ Below w.heap.size w w' := by
  go_enter Tryz.func44, Tryz.ntmps44
  go_wp2_with fail
  refine (Any.strings_TrimLeft_laid Tryz.laysTrimLeft infoA s ⟨#[32, 9, 10]⟩ w (by decide) (fun j b h => by
    match j, h with
    | 0, h => obtain rfl := Option.some.inj h; decide
    | 1, h => obtain rfl := Option.some.inj h; decide
    | 2, h => obtain rfl := Option.some.inj h; decide)).mono ?_
  rintro e w' ⟨rfl, hB⟩
  go_wp2_with fail
  go_ret
  exact ⟨by rw [← skip_is]; rfl, hB⟩

def firstV : Option (Lp.T × Bs) → Value
  | none => .tuple #[.agg #[.int .i64 0, .string ⟨#[]⟩], .string ⟨#[]⟩, .bool false]
  | some p => .tuple #[.agg #[.int .i64 p.1.k, .string (str p.1.t)], .string (str p.2), .bool true]
def FirstPost (w : World) (o : Option (Lp.T × Bs)) (e : Ending) (w' : World) : Prop := e = .returned (firstV o) ∧ Below w.heap.size w w'

set_option maxHeartbeats 2000000 in
theorem first_any (w : World) (s : ByteArray) (hs : s.size ≤ 100000) (h0 : 0 < s.size) (hG : Glob w) : Calls Tryz.prog 45 #[.string s] w (FirstPost w (Lp.firstA (by8 s))) := by
  have HM := Lib.hid fun (W : World) (hB : Below w.heap.size w W) => mark_any W s (hG.below hB)
  have HG := Lib.hid hG
  have hle := Lp.mark_le (by8 s)
  have hB0 := fun o => (Below.refl w.heap.size w).alloc (Nat.le_refl _) o
  have HH := Lib.hid fun (W : World) (B : Below (w.heap.size + 1) (w.alloc (.cells #[.int .i64 0, .string ⟨#[]⟩] 116)) W) => (B.block w.heap.size (by omega)).trans (heap_new w (.cells #[.int .i64 0, .string ⟨#[]⟩] 116) rfl)
  by_cases hm : Lp.markA (by8 s) = 0
  · have hcons : by8 s = s[0] :: (by8 s).drop 1 := by have := by8_at h0; rwa [List.drop_zero] at this
    cases he : Lp.endB s[0] with
    | true =>
      have HF : Hid (Lp.firstA (by8 s) = none) := Lib.hid (by
        unfold Lp.firstA
        rw [if_neg (fun h => h hm)]
        generalize (by8 s).drop 1 = r at hcons
        rw [hcons]
        exact if_pos he)
      have HA := Lib.hid fun W => among_any W endsS s[0]
      rw [ends_is, he] at HA
      clear hcons
      go_enter Tryz.func45, Tryz.ntmps45
      go_wp2_with fail
      refine (HM.out _ (hB0 _)).mono ?_
      rintro e w1 ⟨rfl, hB1⟩
      have hB := (hB0 (.cells #[.int .i64 0, .string ⟨#[]⟩] 116)).trans (hB1.mono (by simp))
      have H0 := HH.out w1 (by simpa using hB1)
      have z0 := frozen_at H0 0
      have z1 := frozen_at H0 1
      have c0 : w1.cell? ⟨w.heap.size, 0, none⟩ = some (.int .i64 0) := cell_at H0 rfl
      have c1 : w1.cell? ⟨w.heap.size, 1, none⟩ = some (.string ⟨#[]⟩) := cell_at H0 rfl
      have hlt0 : w.heap.size < w1.heap.size := (Array.getElem?_eq_some_iff.1 H0).1
      rw [hm]
      go_wp2_with fail
      refine (HA.out _).mono ?_
      rintro e w' ⟨rfl, rfl⟩
      obtain ⟨s0, s1⟩ := set_two H0 (.int .i64 0) (.string ⟨#[]⟩)
      go_wp2_with fail
      exact bodyPost_ret (v := firstV none) (by simp [results, Tryz.results45, go_sem, firstV, s0, s1]) rfl ⟨by rw [HF.out], ((hB.setCell (Nat.le_refl _) _).setCell (Nat.le_refl _) _)⟩
    | false =>
      have HF : Hid (firstV (Lp.firstA (by8 s)) = wordV (Lp.wordA Lp.word0 (by8 s))) := Lib.hid (by
        unfold Lp.firstA
        rw [if_neg (fun h => h hm)]
        generalize (by8 s).drop 1 = r at hcons
        rw [hcons]
        show firstV (if Lp.endB s[0] = true then none else _) = _
        rw [if_neg (by rw [he]; simp)]
        cases Lp.wordA Lp.word0 (s[0] :: r) with
        | none => rfl
        | some p => rfl)
      have HA := Lib.hid fun W => among_any W endsS s[0]
      rw [ends_is, he] at HA
      clear hcons
      go_enter Tryz.func45, Tryz.ntmps45
      go_wp2_with fail
      refine (HM.out _ (hB0 _)).mono ?_
      rintro e w1 ⟨rfl, hB1⟩
      have hB := (hB0 (.cells #[.int .i64 0, .string ⟨#[]⟩] 116)).trans (hB1.mono (by simp))
      have H0 := HH.out w1 (by simpa using hB1)
      have hlt0 : w.heap.size < w1.heap.size := (Array.getElem?_eq_some_iff.1 H0).1
      have hw := firstWord_any w1 s hs
      rw [hm]
      go_wp2_with fail
      refine (HA.out _).mono ?_
      rintro e w' ⟨rfl, rfl⟩
      go_wp2_with fail
      refine hw.mono ?_
      rintro e w2 ⟨rfl, hB2⟩
      have H2 := (hB2.block _ hlt0).trans H0
      have z0 := frozen_at H2 0
      have z1 := frozen_at H2 1
      have c0 : w2.cell? ⟨w.heap.size, 0, none⟩ = some (.int .i64 0) := cell_at H2 rfl
      have c1 : w2.cell? ⟨w.heap.size, 1, none⟩ = some (.string ⟨#[]⟩) := cell_at H2 rfl
      have hlt2 : w.heap.size < w2.heap.size := (Array.getElem?_eq_some_iff.1 H2).1
      generalize Lp.wordA Lp.word0 (by8 s) = o at *
      cases o with
      | none =>
        obtain ⟨s0, s1⟩ := set_two H2 (.int .i64 0) (.string ⟨#[]⟩)
        unfold wordV
        go_wp2_with fail
        exact bodyPost_ret (v := wordV none) (by simp [results, Tryz.results45, go_sem, wordV, s0, s1]) rfl ⟨by rw [HF.out], (((hB.trans (hB2.mono hB.size)).setCell (Nat.le_refl _) _).setCell (Nat.le_refl _) _)⟩
      | some p =>
        obtain ⟨s0, s1⟩ := set_two H2 (.int .i64 0) (.string (str p.1))
        unfold wordV
        go_wp2_with fail
        exact bodyPost_ret (v := wordV (some p)) (by simp [results, Tryz.results45, go_sem, wordV, s0, s1]) rfl ⟨by rw [HF.out], (((hB.trans (hB2.mono hB.size)).setCell (Nat.le_refl _) _).setCell (Nat.le_refl _) _)⟩
  · have hpos := Lp.mark_pos hm
    rw [by8_len] at hpos
    have HF : Hid (Lp.firstA (by8 s) = some (⟨Lp.markA (by8 s), []⟩, (by8 s).drop (Lp.markT (Lp.markA (by8 s))).length)) := Lib.hid (by unfold Lp.firstA; exact if_pos hm)
    go_enter Tryz.func45, Tryz.ntmps45
    go_wp2_with fail
    refine (HM.out _ (hB0 _)).mono ?_
    rintro e w1 ⟨rfl, hB1⟩
    have hB := (hB0 (.cells #[.int .i64 0, .string ⟨#[]⟩] 116)).trans (hB1.mono (by simp))
    have H0 := HH.out w1 (by simpa using hB1)
    have hG1 := HG.out.below hB
    have hc := hG1.marks (Lp.markA (by8 s)) (by omega)
    have hsz : (str (Lp.markT (Lp.markA (by8 s)))).size = (Lp.markT (Lp.markA (by8 s))).length := str_size _
    generalize (Lp.markT (Lp.markA (by8 s))).length = n at *
    generalize str (Lp.markT (Lp.markA (by8 s))) = mk at *
    generalize Lp.markA (by8 s) = k at *
    subst hsz
    have z0 := frozen_at H0 0
    have z1 := frozen_at H0 1
    have c0 : w1.cell? ⟨w.heap.size, 0, none⟩ = some (.int .i64 0) := cell_at H0 rfl
    have c1 : w1.cell? ⟨w.heap.size, 1, none⟩ = some (.string ⟨#[]⟩) := cell_at H0 rfl
    have hlt0 : w.heap.size < w1.heap.size := (Array.getElem?_eq_some_iff.1 H0).1
    have k0 : ((k : Int) == 0) = false := by rw [beq_eq_false_iff_ne]; omega
    have k1 : (k : Int) < 7 := by omega
    have k2 : (mk.size : Int) ≤ s.size := by omega
    have hpos1 := hpos.1
    have hpos2 := hpos.2.1
    clear hpos hG1 hm
    go_wp2_with fail
    have hne : w.heap.size ≠ 0 := by have := cell_lt (hG.marks 0 (by omega)); simp at this; omega
    have hcs : ∀ u v, ((w1.setCell ⟨w.heap.size, 0, none⟩ u).setCell ⟨w.heap.size, 1, none⟩ v).cell? ⟨0, k, none⟩ = some (.string mk) := fun u v => by
      rw [World.cell?_setCell_far _ _ _ _ hne, World.cell?_setCell_far _ _ _ _ hne]; exact hc
    have hcs1 := hcs (.int .i64 k) (.string ⟨#[]⟩)
    obtain ⟨s0, s1⟩ := set_two H0 (.int .i64 k) (.string ⟨#[]⟩)
    go_region
    all_goals go_wp2_with fail
    all_goals exact bodyPost_ret (v := firstV (some (⟨k, []⟩, (by8 s).drop mk.size))) (by simp [results, Tryz.results45, go_sem, firstV, s0, s1, str_drop]; rfl) rfl ⟨by rw [HF.out], (((hB.setCell (Nat.le_refl _) _).setCell (Nat.le_refl _) _).drew)⟩
end Go.Proofs.YteommneijlelkaaGreatDoor.Lx
namespace Go.Proofs.YteommneijlelkaaGreatDoor.Lx
open Go.RowKit Go.Proofs.YteommneijlelkaaGreatDoor
set_option maxRecDepth 100000

def szOf : Value → Nat
  | .string s => s.size
  | _ => 0
/-- What Tokens returns. -/
def TokPost (w : World) (o : Option (List Lp.T)) (e : Ending) (w' : World) : Prop :=
  (match o with
   | none => e = .returned (.tuple #[.slice none 0 0, .int .i64 6])
   | some l => ∃ a c, e = .returned (.tuple #[.slice a l.length c, .int .i64 0]) ∧ w'.ownsRow w.heap.size TT 2 (.slice a l.length c) l.length (tsC l)) ∧ Below w.heap.size w w'

def TokRel (w : World) (s : ByteArray) (v l : Value) (wr : World) : Prop :=
  ∃ (r : Bs) (out : List Lp.T) (a : Option Addr) (c : Nat), v = .string (str r) ∧ l = .slice a out.length c ∧ wr.ownsRow w.heap.size TT 2 (.slice a out.length c) out.length (tsC out) ∧ Below w.heap.size w wr ∧
    Lp.skipA r = r ∧ Lp.tokA (by8 s) = (Lp.tokA r).map (out ++ ·) ∧ out.length + r.length ≤ s.size

theorem TokRel.next {w w1 : World} {s : ByteArray} {r r' : Bs} {out : List Lp.T} {t : Lp.T} {a : Option Addr} {c : Nat} (hcut : Lp.tokA (by8 s) = (Lp.tokA r).map (out ++ ·)) (hsk : Lp.skipA r = r) (hne : r ≠ []) (hlen : out.length + r.length ≤ s.size) (hf : Lp.firstA r = some (t, r'))
    (ho : w1.ownsRow w.heap.size TT 2 (.slice a (out.length + 1) c) (out.length + 1) (tsC out ++ [.int .i64 t.k, .string (str t.t)])) (hB : Below w.heap.size w w1) :
    TokRel w s (.string (str (Lp.skipA r'))) (.slice a (out.length + 1) c) w1 := by
  refine ⟨Lp.skipA r', out ++ [t], a, c, rfl, by simp, by rw [List.length_append, tsC_snoc]; exact ho, hB, Lp.skip_skip _, ?_, ?_⟩
  · rw [hcut, Lp.tok_skip, Lp.tok_good (s := r) (t := t) (r := r') (by rw [hsk]; exact hne) (by rw [hsk]; exact hf)]
    cases Lp.tokA r' with
    | none => rfl
    | some m => simp
  · have h1 := Lp.first_len hf
    have h2 := Lp.skip_len r'
    simp only at h1
    rw [List.length_append, List.length_singleton]; omega

set_option maxHeartbeats 4000000 in
theorem Tokens_any (w : World) (s : ByteArray) (hs : s.size ≤ 100000) (hG : Glob w) : Calls Tryz.prog 21 #[.string s] w (TokPost w (Lp.tokA (by8 s))) := by
  obtain ⟨i0, hi, hz0, hz1, hz2⟩ := info_parts infoT
  have HG := Lib.hid hG
  clear hG
  have hsk0 := Lp.skip_len (by8 s)
  rw [by8_len] at hsk0
  go_enter Tryz.func21, Tryz.ntmps21
  go_wp2_with fail
  refine (skip_any w s).mono ?_
  rintro e w1 ⟨rfl, hB1⟩
  go_wp2_with fail
  go_loopw [0, 4] (fun v l wr => TokRel w s v l wr) (fun v _ _ => szOf v)
  case atStart => exact ⟨Lp.skipA (by8 s), [], none, 0, rfl, rfl, World.ownsRow_nil _ _ _ _, hB1, Lp.skip_skip _, by rw [Lp.tok_skip]; simp, by simpa using hsk0⟩
  case round =>
    obtain ⟨r, out, a, c, rfl, rfl, hr, hB, hsk, hcut, hlen⟩ := hrel
    by_cases hne : r = []
    · have HE : Hid (Lp.tokA (by8 s) = some out) := Lib.hid (by rw [hcut, hne]; simp [Lp.tokA, Lp.tokF])
      have hst : (str r).toList.isEmpty = true := by
        rw [Lib.toList_data]
        show (by8 (str r)).isEmpty = true
        rw [by8_str, hne]; rfl
      clear hcut hne hsk
      go_wp2_with fail
      exact bodyPost_ret (v := .tuple #[.slice a out.length c, .int .i64 0]) (by simp [results, Tryz.results21, go_sem]) rfl ⟨by rw [HE.out]; exact ⟨a, c, rfl, hr⟩, hB⟩
    · have hsr : (str r).size = r.length := str_size r
      have hpos : 0 < r.length := List.length_pos_iff.2 hne
      have hst : (str r).toList.isEmpty = false := by
        rw [Lib.toList_data]
        show (by8 (str r)).isEmpty = false
        rw [by8_str]
        simpa using hne
      have hF := first_any wr (str r) (by omega) (by omega) (HG.out.below hB)
      rw [by8_str] at hF
      cases hf : Lp.firstA r with
      | none =>
        have HE : Hid (Lp.tokA (by8 s) = none) := Lib.hid (by rw [hcut, Lp.tok_bad (by rw [hsk]; exact hne) (by rw [hsk]; exact hf)]; rfl)
        rw [hf] at hF
        clear hcut hne hsk hf
        go_wp2_with fail
        refine hF.mono ?_
        rintro e w2 ⟨rfl, hB2⟩
        unfold firstV
        go_wp2_with fail
        exact bodyPost_ret (v := .tuple #[.slice none 0 0, .int .i64 6]) (by simp [results, Tryz.results21, go_sem]) rfl ⟨by rw [HE.out], (hB.trans (hB2.mono hB.size)).alloc (by have := hB.size; have := hB2.size; omega) _⟩
      | some p =>
        obtain ⟨t, r'⟩ := p
        rw [hf] at hF
        have HN := Lib.hid fun (w1 : World) (a : Option Addr) (c : Nat) => @TokRel.next w w1 s r r' out t a c hcut hsk hne hlen hf
        clear hcut hne hsk
        go_wp2_with fail
        refine hF.mono ?_
        rintro e w2 ⟨rfl, hB2⟩
        unfold firstV
        have hr2 := owns_below hr hB2
        have hB3 := hB.trans (hB2.mono hB.size)
        have hB4 := fun o => hB3.alloc hB3.size o
        have hsk2 := skip_any
        have htr : r'.length < r.length := Lp.first_len hf
        go_wp2_with (first
          | (at_builtin; refine wpList_append_own _ rfl _ _ 70 rfl w.heap.size TT i0 (.agg #[.int .i64 0, .string ByteArray.empty]) 2 24 Tryz.underlying70 hi hz0 hz1 hz2 rfl (by decide) _ _ _ rfl ((hr2.alloc _).alloc _) ⟨w2.heap.size + 1, 0, none⟩ 1 1 [.int .i64 t.k, .string (str t.t)] rfl rfl (two_at _ (by simp) _ _ _) (by simp [Value.oneCell']) (by unfold maxLen; omega) (by omega) (by have := hB3.size; simp; omega) ?_; intro v' w3 hown' hgrow _; obtain ⟨a2, c2, rfl⟩ := owns_slice hown'; have hB5 := (((hB4 _).alloc (hB4 _).size _).grown hgrow ((hB4 _).alloc (hB4 _).size _).size fun j ej => (hr2.lt j ej).1))
          | (go_at_call 44; refine (hsk2 _ _).mono ?_; rintro e w4 ⟨rfl, hB6⟩; have hB7 := hB5.trans (hB6.mono hB5.size)))
        go_roundw
        case rel => rw [by8_str]; exact HN.out _ _ _ (owns_below hown' hB6) hB7
        case measure =>
          rw [by8_str]
          have h1 := Lp.skip_len r'
          simp only [szOf, str_size]
          omega
end Go.Proofs.YteommneijlelkaaGreatDoor.Lx
