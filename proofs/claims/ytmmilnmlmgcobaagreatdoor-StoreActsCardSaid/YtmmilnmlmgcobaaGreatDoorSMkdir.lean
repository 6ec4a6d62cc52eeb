/-
  (*Store).mkdir and Mkdir.
-/
import Derived.Test.YtmmilnmlmgcobaaGreatDoorSWrite
namespace Go.Proofs.YtmmilnmlmgcobaaGreatDoor.Sw
open Go.RowKit Go.Proofs.YtmmilnmlmgcobaaGreatDoor Go.Maps
set_option maxRecDepth 100000

/-- A directory, in one that exists. -/
def mk1 (s : St) (p : List UInt8) (old : Bool) : St × Int :=
  match getR s.L p with
  | some f => if f.d = true ∧ old = true then (s, 0) else (s, 4)
  | none => if placeA s.L p ≠ 0 then (s, placeA s.L p) else putA s ⟨p, [], 0, true⟩

set_option maxHeartbeats 1000000 in
theorem mk1_any (w : World) {sb bm : Nat} {s : St} (p : ByteArray) (old : Bool) (hS : StoreAt w sb bm s.L s.c) (hF : Fine s) (hp : p.size ≤ 1000000) :
    Calls Tryz.prog 50 #[.pointer (some ⟨sb, 0, none⟩), .string p, .bool old] w (OpPost w sb bm (mk1 s (bs p) old)) := by
  have hpm : p.size ≤ maxLen := by unfold maxLen; omega
  cases hg : getR s.L (bs p) with
  | none =>
    have hG := Lib.hid hg
    obtain ⟨n, hn⟩ : ∃ n, Hid (placeA s.L (bs p) = n) := ⟨_, Lib.hid rfl⟩
    by_cases h0 : n = 0
    · subst h0
      have HE : Hid (mk1 s (bs p) old = putA s ⟨bs p, [], 0, true⟩) := Lib.hid (by
        unfold mk1; rw [hg]; show (if placeA s.L (bs p) ≠ 0 then _ else _) = _; rw [if_neg (by simp [hn.out])])
      clear hg
      go_enter Tryz.func50, Tryz.ntmps50
      go_wp2_with fail
      refine (Get_no _ p hS hpm hG).mono ?_
      rintro e w1 ⟨rfl, B1⟩
      have hS1 := (hS.below B1).alloc
      unfold fV
      go_wp2_with (go_at_call 47; go_must (refine (place_any _ p 0 (hS1 _) hp hn).mono ?_); rintro e w2 ⟨rfl, B2⟩)
      go_wp2_with fail
      refine (put_bytes _ p ⟨#[]⟩ 0 true ((hS1 _).below B2) hF hpm).mono ?_
      rintro e w3 ⟨rfl, hS3, hK3⟩
      go_wp2
      go_ret
      rw [HE.out]
      exact ⟨rfl, hS3, (((Kept.of_below B1).alloc _).below B2).trans hK3⟩
    · have HE : Hid (mk1 s (bs p) old = (s, n)) := Lib.hid (by
        unfold mk1; rw [hg]; show (if placeA s.L (bs p) ≠ 0 then _ else _) = _; rw [hn.out, if_pos h0])
      have h0' : (n == 0) = false := by simpa using h0
      clear hg
      go_enter Tryz.func50, Tryz.ntmps50
      go_wp2_with fail
      refine (Get_no _ p hS hpm hG).mono ?_
      rintro e w1 ⟨rfl, B1⟩
      have hS1 := (hS.below B1).alloc
      unfold fV
      go_wp2_with (go_at_call 47; go_must (refine (place_any _ p n (hS1 _) hp hn).mono ?_); rintro e w2 ⟨rfl, B2⟩)
      go_ret
      rw [HE.out]
      exact ⟨rfl, (hS1 _).below B2, ((Kept.of_below B1).alloc _).below B2⟩
  | some f =>
    have hG := Lib.hid hg
    have HE : Hid (mk1 s (bs p) old = if f.d = true ∧ old = true then (s, 0) else (s, 4)) := Lib.hid (by unfold mk1; rw [hg])
    clear hg
    obtain ⟨fp, ft, fc, fd⟩ := f
    cases fd <;> cases old
    all_goals
      go_enter Tryz.func50, Tryz.ntmps50
      go_wp2_with fail
      refine (Get_yes _ p hS hpm hG).mono ?_
      rintro e w1 ⟨rfl, B1⟩
      have hS1 := (hS.below B1).alloc
      unfold fV
      go_wp2
      go_ret
      rw [HE.out]
      exact ⟨rfl, hS1 _, (Kept.of_below B1).alloc _⟩

theorem place_room {L : List F} {p : List UInt8} (h : placeA L p = 0) : (Sp.get L p).isSome ∨ L.length < 4096 := by
  unfold placeA at h
  split at h
  · cases h
  · split at h
    · cases h
    · split at h
      · cases h
      · split at h
        · cases h
        · split at h
          · cases h
          · rename_i h5
            cases hq : Sp.get L p with
            | some f => exact .inl rfl
            | none => exact .inr (by rw [hq] at h5; simp at h5; omega)

theorem Fine.mk1 {s : St} (h : Fine s) {p : List UInt8} (hp : p.length ≤ 100000) (old : Bool) : Fine (mk1 s p old).1 := by
  unfold Sw.mk1
  split
  · split <;> exact h
  · split
    · exact h
    · rename_i h0
      exact h.put (by simp) hp (place_room (by simpa using h0))

/-- The directories that a path is in, from the top down. -/
def heads : List UInt8 → List UInt8 → List (List UInt8)
  | _, [] => []
  | pre, c :: r => if c = 47 then pre :: heads (pre ++ [c]) r else heads (pre ++ [c]) r
def mkAll (s : St) : List (List UInt8) → St × Int
  | [] => (s, 0)
  | q :: r => if (mk1 s q true).2 ≠ 0 then mk1 s q true else mkAll (mk1 s q true).1 r
theorem mkAll_cons (s : St) (q : List UInt8) (r : List (List UInt8)) : mkAll s (q :: r) = if (mk1 s q true).2 ≠ 0 then mk1 s q true else mkAll (mk1 s q true).1 r := rfl
def mkdirA (s : St) (p : List UInt8) (all : Bool) : St × Int :=
  if isPath p = false then (s, 1) else if all = false then mk1 s p false else
  if (mkAll s (heads [] p)).2 ≠ 0 then mkAll s (heads [] p) else mk1 (mkAll s (heads [] p)).1 p true

theorem heads_at {p : ByteArray} {k : Nat} (h : k < p.size) : heads ((bs p).take k) ((bs p).drop k) = if p[k] = 47 then (bs p).take k :: heads ((bs p).take (k + 1)) ((bs p).drop (k + 1)) else heads ((bs p).take (k + 1)) ((bs p).drop (k + 1)) := by
  have h1 : k < (bs p).length := by rw [bs_len]; exact h
  have h2 : (bs p).drop k = p[k] :: (bs p).drop (k + 1) := by rw [List.drop_eq_getElem_cons h1]; rfl
  have h3 : (bs p).take (k + 1) = (bs p).take k ++ [p[k]] := by rw [List.take_succ_eq_append_getElem h1]; rfl
  rw [h2, h3]; rfl

theorem eq_t {a b : UInt8} (h : a = b) : (((a.toNat : Nat) : Int) == ((b.toNat : Nat) : Int)) = true := by rw [h]; exact beq_self_eq_true _
theorem eq_f {a b : UInt8} (h : ¬ a = b) : (((a.toNat : Nat) : Int) == ((b.toNat : Nat) : Int)) = false := by
  rw [beq_eq_false_iff_ne]; intro e; exact h (UInt8.toNat_inj.1 (by omega))
theorem bs_take (p : ByteArray) (k : Nat) : bs (p.extract 0 k) = (bs p).take k := (Lib.extract_from_zero p k)

theorem Mkdir_nil (w : World) (p : ByteArray) (all : Bool) :
    Calls Tryz.prog 14 #[.pointer none, .string p, .bool all] w fun e w' => e = .returned (.int .i64 1) ∧ w = w' := by
  go_enter Tryz.func14, Tryz.ntmps14
  go_wp2
  go_ret
  exact ⟨rfl, rfl⟩

def MkRel (w : World) (sb bm : Nat) (s : St) (p : ByteArray) (i : Value) (wr : World) : Prop :=
  ∃ (k : Nat) (t : St), i = .int .i64 k ∧ k ≤ p.size ∧ StoreAt wr sb bm t.L t.c ∧ Fine t ∧ Kept [sb, bm] w wr ∧ mkAll s (heads [] (bs p)) = mkAll t (heads ((bs p).take k) ((bs p).drop k))

set_option maxHeartbeats 1000000 in
theorem Mkdir_all (w : World) {sb bm : Nat} {s : St} (p : ByteArray) (hS : StoreAt w sb bm s.L s.c) (hF : Fine s) (hp : p.size ≤ 100000) (hc : Hid (isPath (bs p) = true)) :
    Calls Tryz.prog 14 #[.pointer (some ⟨sb, 0, none⟩), .string p, .bool true] w (OpPost w sb bm (mkdirA s (bs p) true)) := by
  go_enter Tryz.func14, Tryz.ntmps14
  go_wp2_with (go_at_call 49; go_must (refine (clean_is _ p true (by omega) hc).mono ?_); rintro e w1 ⟨rfl, B1⟩)
  go_loopw [18] (fun i wr => MkRel w sb bm s p i wr) (fun i _ => p.size - (intOf i).toNat)
  case atStart => exact ⟨0, s, rfl, Nat.zero_le _, hS.below B1, hF, .of_below B1, rfl⟩
  case round =>
    obtain ⟨k, t, rfl, hk, hT, hFt, hK, hrun⟩ := hrel
    by_cases hlt : k < p.size
    · rw [heads_at hlt] at hrun
      by_cases h47 : p[k] = 47
      · have hb : ((p[k].toNat : Int) == 47) = true := eq_t (b := 47) h47
        rw [if_pos h47] at hrun
        clear h47
        obtain ⟨q, hq⟩ : ∃ q, q = p.extract 0 k := ⟨_, rfl⟩
        have hqb : bs q = (bs p).take k := by rw [hq, bs_take]
        have hqs : q.size ≤ 100000 := by have := congrArg List.length hqb; rw [bs_len, List.length_take, bs_len] at this; omega
        have hcon := mk1_any wr q true hT hFt (by omega)
        have hFn := hFt.mk1 (p := bs q) (by rw [bs_len]; exact hqs) true
        rw [← hqb] at hrun
        obtain ⟨⟨t', n⟩, hr⟩ : ∃ r, mk1 t (bs q) true = r := ⟨_, rfl⟩
        rw [mkAll_cons] at hrun
        rw [hr] at hcon hFn hrun
        rw [hq] at hcon
        have HC := Lib.hid hcon
        have HR := Lib.hid hrun
        clear hcon hrun hr hqb hq hqs q
        by_cases hn : n = 0
        · subst hn
          go_wp2_with (go_at_call 50; go_must (refine HC.out.mono ?_); rintro e w2 ⟨rfl, hS2, hK2⟩)
          go_roundw
          case rel => exact ⟨k + 1, t', by go_num, by omega, hS2, hFn, hK.trans hK2, HR.out.trans (if_neg (by simp))⟩
          case measure => simp [intOf]; omega
        · have hn' : (n == 0) = false := by simpa using hn
          have HE : Hid (mkdirA s (bs p) true = (t', n)) := Lib.hid (by
            have h1 : mkAll s (heads [] (bs p)) = (t', n) := by rw [HR.out]; exact if_pos hn
            unfold mkdirA; rw [if_neg (by simp [hc.out]), if_neg (by simp), h1, if_pos hn])
          clear hn
          go_wp2_with (go_at_call 50; go_must (refine HC.out.mono ?_); rintro e w2 ⟨rfl, hS2, hK2⟩)
          go_ret
          rw [HE.out]
          exact ⟨rfl, hS2, hK.trans hK2⟩
      · have hb : ((p[k].toNat : Int) == 47) = false := eq_f (b := 47) h47
        rw [if_neg h47] at hrun
        have HR := Lib.hid hrun
        clear h47 hrun
        go_wp2
        go_roundw
        case rel => exact ⟨k + 1, t, by go_num, by omega, hT, hFt, hK, HR.out⟩
        case measure => simp [intOf]; omega
    · obtain rfl : k = p.size := by omega
      have h1 : mkAll s (heads [] (bs p)) = (t, 0) := by
        rw [hrun, List.drop_of_length_le (by rw [bs_len]; exact Nat.le_refl _)]; rfl
      have HE : Hid (mkdirA s (bs p) true = mk1 t (bs p) true) := Lib.hid (by
        unfold mkdirA; rw [if_neg (by simp [hc.out]), if_neg (by simp), h1, if_neg (by simp)])
      clear hrun h1
      have HC := Lib.hid (mk1_any wr p true hT hFt (by omega))
      go_wp2_with (go_at_call 50; go_must (refine HC.out.mono ?_); rintro e w2 ⟨rfl, hS2, hK2⟩)
      go_ret
      rw [HE.out]
      exact ⟨rfl, hS2, hK.trans hK2⟩

set_option maxHeartbeats 1000000 in
theorem Mkdir_one (w : World) {sb bm : Nat} {s : St} (p : ByteArray) (hS : StoreAt w sb bm s.L s.c) (hF : Fine s) (hp : p.size ≤ 100000) (hc : Hid (isPath (bs p) = true)) :
    Calls Tryz.prog 14 #[.pointer (some ⟨sb, 0, none⟩), .string p, .bool false] w (OpPost w sb bm (mkdirA s (bs p) false)) := by
  have HE : Hid (mkdirA s (bs p) false = mk1 s (bs p) false) := Lib.hid (by unfold mkdirA; rw [if_neg (by simp [hc.out]), if_pos rfl])
  go_enter Tryz.func14, Tryz.ntmps14
  go_wp2_with (go_at_call 49; go_must (refine (clean_is _ p true (by omega) hc).mono ?_); rintro e w1 ⟨rfl, B1⟩)
  go_loop [18] (fun i => ∃ k : Nat, i = .int .i64 k ∧ k ≤ p.size) (fun i => p.size - (intOf i).toNat)
  case atStart => exact ⟨0, rfl, Nat.zero_le _⟩
  case round =>
    obtain ⟨k, rfl, hk⟩ := hrel
    by_cases hlt : k < p.size
    · go_wp2
      go_round
      case rel => exact ⟨k + 1, by go_num, by omega⟩
      case measure => simp [intOf]; omega
    · obtain rfl : k = p.size := by omega
      have HC := Lib.hid (mk1_any w1 p false (hS.below B1) hF (by omega))
      go_wp2_with (go_at_call 50; go_must (refine HC.out.mono ?_); rintro e w2 ⟨rfl, hS2, hK2⟩)
      go_ret
      rw [HE.out]
      exact ⟨rfl, hS2, (Kept.of_below B1).trans hK2⟩

theorem Mkdir_any (w : World) {sb bm : Nat} {s : St} (p : ByteArray) (all : Bool) (hS : StoreAt w sb bm s.L s.c) (hF : Fine s) (hp : p.size ≤ 100000) :
    Calls Tryz.prog 14 #[.pointer (some ⟨sb, 0, none⟩), .string p, .bool all] w (OpPost w sb bm (mkdirA s (bs p) all)) := by
  cases hc : isPath (bs p) with
  | true =>
    cases all with
    | true => exact Mkdir_all w p hS hF hp (Lib.hid hc)
    | false => exact Mkdir_one w p hS hF hp (Lib.hid hc)
  | false =>
    have hC := Lib.hid hc
    have HE : Hid (mkdirA s (bs p) all = (s, 1)) := Lib.hid (by unfold mkdirA; rw [if_pos hc])
    clear hc
    go_enter Tryz.func14, Tryz.ntmps14
    go_wp2_with (go_at_call 49; go_must (refine (clean_is _ p false (by omega) hC).mono ?_); rintro e w1 ⟨rfl, B1⟩)
    go_ret
    rw [HE.out]
    exact ⟨rfl, hS.below B1, .of_below B1⟩
end Go.Proofs.YtmmilnmlmgcobaaGreatDoor.Sw
