/-
  (*Store).mkdir and Mkdir.
  (*Store).Move; every call leaves a store as every store is.
-/
import Derived.Test.YtaolccibflniiaaGreatDoorQSWrite
import Derived.Test.YtaolccibflniiaaGreatDoorQSRemove
namespace Go.Proofs.YtaolccibflniiaaGreatDoor.Sw
open Go.RowKit Go.Proofs.YtaolccibflniiaaGreatDoor Go.Maps
set_option maxRecDepth 100000

/-- A directory, in one that exists. -/
def mk1 (s : St) (p : List UInt8) (old : Bool) : St × Int :=
  match getR s.L p with
  | some f => if f.d = true ∧ old = true then (s, 0) else (s, 4)
  | none => if placeA s.L p ≠ 0 then (s, placeA s.L p) else putA s ⟨p, [], 0, true⟩

set_option maxHeartbeats 1000000 in
theorem mk1_any (w : World) {sb bm : Nat} {s : St} (p : ByteArray) (old : Bool) (hS : StoreAt w sb bm s.L s.c) (hF : Fine s) (hp : p.size ≤ 1000000) :
    Calls Tryz.prog 173 #[.pointer (some ⟨sb, 0, none⟩), .string p, .bool old] w (OpPost w sb bm (mk1 s (bs p) old)) := by
  have hpm : p.size ≤ maxLen := by unfold maxLen; omega
  cases hg : getR s.L (bs p) with
  | none =>
    have hG := Lib.hid hg
    obtain ⟨n, hn⟩ : ∃ n, Hid (placeA s.L (bs p) = n) := ⟨_, Lib.hid rfl⟩
    by_cases h0 : n = 0
    · subst h0
      have HE : Hid (mk1 s (bs p) old = putA s ⟨bs p, [], 0, true⟩) := Lib.hid (by
        unfold mk1; rw [hg]; show (if placeA s.L (bs p) ≠ 0 then _ else _) = _; rw [if_neg (by simp [hn.out])])
      clear hg
      go_enter Tryz.func173, Tryz.ntmps173
      go_wp2_with fail
      refine (Get_no _ p hS hpm hG).mono ?_
      rintro e w1 ⟨rfl, B1⟩
      have hS1 := (hS.below B1).alloc
      unfold fV
      go_wp2_with (go_at_call 162; go_must (refine (place_any _ p 0 (hS1 _) hp hn).mono ?_); rintro e w2 ⟨rfl, B2⟩)
      go_wp2_with fail
      refine (put_bytes _ p ⟨#[]⟩ 0 true ((hS1 _).below B2) hF hpm).mono ?_
      rintro e w3 ⟨rfl, hS3, hK3⟩
      go_wp2
      go_ret
      rw [HE.out]
      exact ⟨rfl, hS3, (((Kept.of_below B1).alloc _).below B2).trans hK3⟩
    · have HE : Hid (mk1 s (bs p) old = (s, n)) := Lib.hid (by
        unfold mk1; rw [hg]; show (if placeA s.L (bs p) ≠ 0 then _ else _) = _; rw [hn.out, if_pos h0])
      have h0' : (n == 0) = false := by simpa using h0
      clear hg
      go_enter Tryz.func173, Tryz.ntmps173
      go_wp2_with fail
      refine (Get_no _ p hS hpm hG).mono ?_
      rintro e w1 ⟨rfl, B1⟩
      have hS1 := (hS.below B1).alloc
      unfold fV
      go_wp2_with (go_at_call 162; go_must (refine (place_any _ p n (hS1 _) hp hn).mono ?_); rintro e w2 ⟨rfl, B2⟩)
      go_ret
      rw [HE.out]
      exact ⟨rfl, (hS1 _).below B2, ((Kept.of_below B1).alloc _).below B2⟩
  | some f =>
    have hG := Lib.hid hg
    have HE : Hid (mk1 s (bs p) old = if f.d = true ∧ old = true then (s, 0) else (s, 4)) := Lib.hid (by unfold mk1; rw [hg])
    clear hg
    obtain ⟨fp, ft, fc, fd⟩ := f
    cases fd <;> cases old
    all_goals
      go_enter Tryz.func173, Tryz.ntmps173
      go_wp2_with fail
      refine (Get_yes _ p hS hpm hG).mono ?_
      rintro e w1 ⟨rfl, B1⟩
      have hS1 := (hS.below B1).alloc
      unfold fV
      go_wp2
      go_ret
      rw [HE.out]
      exact ⟨rfl, hS1 _, (Kept.of_below B1).alloc _⟩

theorem place_room {L : List F} {p : List UInt8} (h : placeA L p = 0) : (Sp.get L p).isSome ∨ L.length < 4096 := by
  unfold placeA at h
  split at h
  · cases h
  · split at h
    · cases h
    · split at h
      · cases h
      · split at h
        · cases h
        · split at h
          · cases h
          · rename_i h5
            cases hq : Sp.get L p with
            | some f => exact .inl rfl
            | none => exact .inr (by rw [hq] at h5; simp at h5; omega)

theorem Fine.mk1 {s : St} (h : Fine s) {p : List UInt8} (hp : p.length ≤ 100000) (old : Bool) : Fine (mk1 s p old).1 := by
  unfold Sw.mk1
  split
  · split <;> exact h
  · split
    · exact h
    · rename_i h0
      exact h.put (by simp) hp (place_room (by simpa using h0))

/-- The directories that a path is in, from the top down. -/
def heads : List UInt8 → List UInt8 → List (List UInt8)
  | _, [] => []
  | pre, c :: r => if c = 47 then pre :: heads (pre ++ [c]) r else heads (pre ++ [c]) r
def mkAll (s : St) : List (List UInt8) → St × Int
  | [] => (s, 0)
  | q :: r => if (mk1 s q true).2 ≠ 0 then mk1 s q true else mkAll (mk1 s q true).1 r
theorem mkAll_cons (s : St) (q : List UInt8) (r : List (List UInt8)) : mkAll s (q :: r) = if (mk1 s q true).2 ≠ 0 then mk1 s q true else mkAll (mk1 s q true).1 r := rfl
def mkdirA (s : St) (p : List UInt8) (all : Bool) : St × Int :=
  if isPath p = false then (s, 1) else if all = false then mk1 s p false else
  if (mkAll s (heads [] p)).2 ≠ 0 then mkAll s (heads [] p) else mk1 (mkAll s (heads [] p)).1 p true

theorem heads_at {p : ByteArray} {k : Nat} (h : k < p.size) : heads ((bs p).take k) ((bs p).drop k) = if p[k] = 47 then (bs p).take k :: heads ((bs p).take (k + 1)) ((bs p).drop (k + 1)) else heads ((bs p).take (k + 1)) ((bs p).drop (k + 1)) := by
  have h1 : k < (bs p).length := by rw [bs_len]; exact h
  have h2 : (bs p).drop k = p[k] :: (bs p).drop (k + 1) := by rw [List.drop_eq_getElem_cons h1]; rfl
  have h3 : (bs p).take (k + 1) = (bs p).take k ++ [p[k]] := by rw [List.take_succ_eq_append_getElem h1]; rfl
  rw [h2, h3]; rfl

theorem eq_t {a b : UInt8} (h : a = b) : (((a.toNat : Nat) : Int) == ((b.toNat : Nat) : Int)) = true := by rw [h]; exact beq_self_eq_true _
theorem eq_f {a b : UInt8} (h : ¬ a = b) : (((a.toNat : Nat) : Int) == ((b.toNat : Nat) : Int)) = false := by
  rw [beq_eq_false_iff_ne]; intro e; exact h (UInt8.toNat_inj.1 (by omega))
theorem bs_take (p : ByteArray) (k : Nat) : bs (p.extract 0 k) = (bs p).take k := (Lib.extract_from_zero p k)

theorem Mkdir_nil (w : World) (p : ByteArray) (all : Bool) :
    Calls Tryz.prog 131 #[.pointer none, .string p, .bool all] w fun e w' => e = .returned (.int .i64 1) ∧ w = w' := by
  go_enter Tryz.func131, Tryz.ntmps131
  go_wp2
  go_ret
  exact ⟨rfl, rfl⟩

def MkRel (w : World) (sb bm : Nat) (s : St) (p : ByteArray) (i : Value) (wr : World) : Prop :=
  ∃ (k : Nat) (t : St), i = .int .i64 k ∧ k ≤ p.size ∧ StoreAt wr sb bm t.L t.c ∧ Fine t ∧ Kept [sb, bm] w wr ∧ mkAll s (heads [] (bs p)) = mkAll t (heads ((bs p).take k) ((bs p).drop k))

set_option maxHeartbeats 1000000 in
theorem Mkdir_all (w : World) {sb bm : Nat} {s : St} (p : ByteArray) (hS : StoreAt w sb bm s.L s.c) (hF : Fine s) (hp : p.size ≤ 100000) (hc : Hid (isPath (bs p) = true)) :
    Calls Tryz.prog 131 #[.pointer (some ⟨sb, 0, none⟩), .string p, .bool true] w (OpPost w sb bm (mkdirA s (bs p) true)) := by
  go_enter Tryz.func131, Tryz.ntmps131
  go_wp2_with (go_at_call 46; go_must (refine (clean_is _ p true (by omega) hc).mono ?_); rintro e w1 ⟨rfl, B1⟩)
  go_loopw [18] (fun i wr => MkRel w sb bm s p i wr) (fun i _ => p.size - (intOf i).toNat)
  case atStart => exact ⟨0, s, rfl, Nat.zero_le _, hS.below B1, hF, .of_below B1, rfl⟩
  case round =>
    obtain ⟨k, t, rfl, hk, hT, hFt, hK, hrun⟩ := hrel
    by_cases hlt : k < p.size
    · rw [heads_at hlt] at hrun
      by_cases h47 : p[k] = 47
      · have hb : ((p[k].toNat : Int) == 47) = true := eq_t (b := 47) h47
        rw [if_pos h47] at hrun
        clear h47
        obtain ⟨q, hq⟩ : ∃ q, q = p.extract 0 k := ⟨_, rfl⟩
        have hqb : bs q = (bs p).take k := by rw [hq, bs_take]
        have hqs : q.size ≤ 100000 := by have := congrArg List.length hqb; rw [bs_len, List.length_take, bs_len] at this; omega
        have hcon := mk1_any wr q true hT hFt (by omega)
        have hFn := hFt.mk1 (p := bs q) (by rw [bs_len]; exact hqs) true
        rw [← hqb] at hrun
        obtain ⟨⟨t', n⟩, hr⟩ : ∃ r, mk1 t (bs q) true = r := ⟨_, rfl⟩
        rw [mkAll_cons] at hrun
        rw [hr] at hcon hFn hrun
        rw [hq] at hcon
        have HC := Lib.hid hcon
        have HR := Lib.hid hrun
        clear hcon hrun hr hqb hq hqs q
        by_cases hn : n = 0
        · subst hn
          go_wp2_with (go_at_call 173; go_must (refine HC.out.mono ?_); rintro e w2 ⟨rfl, hS2, hK2⟩)
          go_roundw
          case rel => exact ⟨k + 1, t', by go_num, by omega, hS2, hFn, hK.trans hK2, HR.out.trans (if_neg (by simp))⟩
          case measure => simp [intOf]; omega
        · have hn' : (n == 0) = false := by simpa using hn
          have HE : Hid (mkdirA s (bs p) true = (t', n)) := Lib.hid (by
            have h1 : mkAll s (heads [] (bs p)) = (t', n) := by rw [HR.out]; exact if_pos hn
            unfold mkdirA; rw [if_neg (by simp [hc.out]), if_neg (by simp), h1, if_pos hn])
          clear hn
          go_wp2_with (go_at_call 173; go_must (refine HC.out.mono ?_); rintro e w2 ⟨rfl, hS2, hK2⟩)
          go_ret
          rw [HE.out]
          exact ⟨rfl, hS2, hK.trans hK2⟩
      · have hb : ((p[k].toNat : Int) == 47) = false := eq_f (b := 47) h47
        rw [if_neg h47] at hrun
        have HR := Lib.hid hrun
        clear h47 hrun
        go_wp2
        go_roundw
        case rel => exact ⟨k + 1, t, by go_num, by omega, hT, hFt, hK, HR.out⟩
        case measure => simp [intOf]; omega
    · obtain rfl : k = p.size := by omega
      have h1 : mkAll s (heads [] (bs p)) = (t, 0) := by
        rw [hrun, List.drop_of_length_le (by rw [bs_len]; exact Nat.le_refl _)]; rfl
      have HE : Hid (mkdirA s (bs p) true = mk1 t (bs p) true) := Lib.hid (by
        unfold mkdirA; rw [if_neg (by simp [hc.out]), if_neg (by simp), h1, if_neg (by simp)])
      clear hrun h1
      have HC := Lib.hid (mk1_any wr p true hT hFt (by omega))
      go_wp2_with (go_at_call 173; go_must (refine HC.out.mono ?_); rintro e w2 ⟨rfl, hS2, hK2⟩)
      go_ret
      rw [HE.out]
      exact ⟨rfl, hS2, hK.trans hK2⟩

set_option maxHeartbeats 1000000 in
theorem Mkdir_one (w : World) {sb bm : Nat} {s : St} (p : ByteArray) (hS : StoreAt w sb bm s.L s.c) (hF : Fine s) (hp : p.size ≤ 100000) (hc : Hid (isPath (bs p) = true)) :
    Calls Tryz.prog 131 #[.pointer (some ⟨sb, 0, none⟩), .string p, .bool false] w (OpPost w sb bm (mkdirA s (bs p) false)) := by
  have HE : Hid (mkdirA s (bs p) false = mk1 s (bs p) false) := Lib.hid (by unfold mkdirA; rw [if_neg (by simp [hc.out]), if_pos rfl])
  go_enter Tryz.func131, Tryz.ntmps131
  go_wp2_with (go_at_call 46; go_must (refine (clean_is _ p true (by omega) hc).mono ?_); rintro e w1 ⟨rfl, B1⟩)
  go_loop [18] (fun i => ∃ k : Nat, i = .int .i64 k ∧ k ≤ p.size) (fun i => p.size - (intOf i).toNat)
  case atStart => exact ⟨0, rfl, Nat.zero_le _⟩
  case round =>
    obtain ⟨k, rfl, hk⟩ := hrel
    by_cases hlt : k < p.size
    · go_wp2
      go_round
      case rel => exact ⟨k + 1, by go_num, by omega⟩
      case measure => simp [intOf]; omega
    · obtain rfl : k = p.size := by omega
      have HC := Lib.hid (mk1_any w1 p false (hS.below B1) hF (by omega))
      go_wp2_with (go_at_call 173; go_must (refine HC.out.mono ?_); rintro e w2 ⟨rfl, hS2, hK2⟩)
      go_ret
      rw [HE.out]
      exact ⟨rfl, hS2, (Kept.of_below B1).trans hK2⟩

theorem Mkdir_any (w : World) {sb bm : Nat} {s : St} (p : ByteArray) (all : Bool) (hS : StoreAt w sb bm s.L s.c) (hF : Fine s) (hp : p.size ≤ 100000) :
    Calls Tryz.prog 131 #[.pointer (some ⟨sb, 0, none⟩), .string p, .bool all] w (OpPost w sb bm (mkdirA s (bs p) all)) := by
  cases hc : isPath (bs p) with
  | true =>
    cases all with
    | true => exact Mkdir_all w p hS hF hp (Lib.hid hc)
    | false => exact Mkdir_one w p hS hF hp (Lib.hid hc)
  | false =>
    have hC := Lib.hid hc
    have HE : Hid (mkdirA s (bs p) all = (s, 1)) := Lib.hid (by unfold mkdirA; rw [if_pos hc])
    clear hc
    go_enter Tryz.func131, Tryz.ntmps131
    go_wp2_with (go_at_call 46; go_must (refine (clean_is _ p false (by omega) hC).mono ?_); rintro e w1 ⟨rfl, B1⟩)
    go_ret
    rw [HE.out]
    exact ⟨rfl, hS.below B1, .of_below B1⟩
end Go.Proofs.YtaolccibflniiaaGreatDoor.Sw
namespace Go.Proofs.YtaolccibflniiaaGreatDoor.Sw
open Go.RowKit Go.Proofs.YtaolccibflniiaaGreatDoor Go.Maps
set_option maxRecDepth 100000

theorem Fine.write {s : St} (h : Fine s) {p t : List UInt8} (hp : p.length ≤ 100000) (more : Bool) : Fine (writeA s p t more).1 := by
  by_cases h0 : placeA s.L p = 0
  · rw [writeA_ok h0]
    have hm : ∀ (d : Bool) (old : List UInt8), Fine (if d = true then (s, (4 : Int)) else if 1048576 < old.length + t.length then (s, 12) else putA s ⟨p, old ++ t, 0, false⟩).1 := fun d old => by
      split
      · exact h
      · split
        · exact h
        · rename_i h2
          exact h.put (f := ⟨p, old ++ t, 0, false⟩) (by show (old ++ t).length ≤ _; rw [List.length_append]; omega) hp (place_room h0)
    exact hm _ _
  · rw [writeA_bad h0]; exact h

theorem Fine.touch {s : St} (h : Fine s) {p : List UInt8} (hp : p.length ≤ 100000) : Fine (touchA s p).1 := by
  unfold touchA
  split
  · exact h.write hp false
  · rename_i f hf
    split
    · rename_i h2
      have hg : Sp.get s.L p = some f := by rw [← getR_ne h2.2]; exact hf
      obtain ⟨m1, m2⟩ := (Sp.get_some h.sorted).1 hg
      exact h.put (h.text f m1) (h.path f m1) (.inl (by rw [m2, hg]; rfl))
    · exact h.write hp false

theorem Fine.mkAll : ∀ (l : List (List UInt8)) {s : St}, Fine s → (∀ q ∈ l, q.length ≤ 100000) → Fine (mkAll s l).1
  | [], _, h, _ => h
  | q :: r, s, h, hl => by
    rw [mkAll_cons]
    have h1 := h.mk1 (hl q (by simp)) true
    split
    · exact h1
    · exact Fine.mkAll r h1 fun x hx => hl x (by simp [hx])
theorem heads_len : ∀ (r pre : List UInt8), ∀ q ∈ heads pre r, q.length ≤ pre.length + r.length
  | [], pre, q, h => by simp [heads] at h
  | c :: r, pre, q, h => by
    unfold heads at h
    have ih := heads_len r (pre ++ [c])
    split at h
    · rcases List.mem_cons.1 h with rfl | h
      · simp
      · have := ih q h; simp at this ⊢; omega
    · have := ih q h; simp at this ⊢; omega
theorem Fine.mkdir {s : St} (h : Fine s) {p : List UInt8} (hp : p.length ≤ 100000) (all : Bool) : Fine (mkdirA s p all).1 := by
  have h1 := Fine.mkAll (heads [] p) h fun q hq => by have := heads_len p [] q hq; simp at this; omega
  unfold mkdirA
  split
  · exact h
  · split
    · exact h.mk1 hp false
    · split
      · exact h1
      · exact h1.mk1 hp true

theorem Fine.remove {s : St} (h : Fine s) (p : List UInt8) (all : Bool) : Fine (removeA s p all).1 := by
  unfold removeA
  split
  · exact h
  · split
    · exact h
    · split
      · exact h
      · refine ⟨sorted_filter h.sorted _, h.c0, h.c1, Nat.le_trans (List.length_filter_le _ _) h.len, fun f hf => h.text f (List.mem_filter.1 hf).1, fun f hf => h.path f (List.mem_filter.1 hf).1⟩

def moveA (s : St) (a b : List UInt8) : St × Int :=
  if (readA (getR s.L a)).2 ≠ 0 then (s, (readA (getR s.L a)).2) else if a = b then (s, 1) else
  if (writeA s b (readA (getR s.L a)).1 false).2 ≠ 0 then writeA s b (readA (getR s.L a)).1 false else removeA (writeA s b (readA (getR s.L a)).1 false).1 a false
theorem Fine.move {s : St} (h : Fine s) {a b : List UInt8} (hb : b.length ≤ 100000) : Fine (moveA s a b).1 := by
  have h1 := h.write (t := (readA (getR s.L a)).1) hb false
  unfold moveA
  split
  · exact h
  · split
    · exact h
    · split
      · exact h1
      · exact h1.remove a false

theorem read_len {s : St} (h : Fine s) (p : List UInt8) : (readA (getR s.L p)).1.length ≤ 1048576 := by
  cases hg : getR s.L p with
  | none => simp [readA]
  | some f =>
    have := getR_text h hg
    unfold readA
    simp only
    split
    · simp
    · exact this

set_option maxHeartbeats 2000000 in
theorem Move_any (w : World) {sb bm : Nat} {s : St} (p q : ByteArray) (hS : StoreAt w sb bm s.L s.c) (hF : Fine s) (hp : p.size ≤ 100000) (hq : q.size ≤ 100000) :
    Calls Tryz.prog 124 #[.pointer (some ⟨sb, 0, none⟩), .string p, .string q] w (OpPost w sb bm (moveA s (bs p) (bs q))) := by
  have hpm : p.size ≤ maxLen := by unfold maxLen; omega
  have hR := Read_any w p _ hS hpm (Lib.hid rfl)
  have hrl := read_len hF (bs p)
  obtain ⟨⟨t, n⟩, hr⟩ : ∃ r, readA (getR s.L (bs p)) = r := ⟨_, rfl⟩
  rw [hr] at hR hrl
  simp only at hrl
  have hmv : moveA s (bs p) (bs q) = if n ≠ 0 then (s, n) else if bs p = bs q then (s, 1) else
    if (writeA s (bs q) t false).2 ≠ 0 then writeA s (bs q) t false else removeA (writeA s (bs q) t false).1 (bs p) false := by unfold moveA; rw [hr]
  have HR := Lib.hid hR
  clear hR hr
  by_cases h0 : n = 0
  · subst h0
    rw [if_neg (by simp)] at hmv
    by_cases hpq : (p.toList == q.toList) = true
    · rw [if_pos (by rw [Lib.toList_data, Lib.toList_data] at hpq; exact eq_of_beq hpq)] at hmv
      have HE := Lib.hid hmv
      clear hmv
      go_enter Tryz.func124, Tryz.ntmps124
      go_wp2_with (go_at_call 118; go_must (refine HR.out.mono ?_); rintro e w1 ⟨rfl, B1⟩)
      go_ret
      rw [HE.out]
      exact ⟨rfl, hS.below B1, .of_below B1⟩
    · have hpq' : (p.toList == q.toList) = false := by simpa using hpq
      rw [if_neg (by intro e; rw [Lib.toList_data, Lib.toList_data] at hpq; exact hpq (beq_iff_eq.2 e))] at hmv
      have hW := fun w1 (B1 : Below w.heap.size w w1) => Write_any w1 q (str t) false (hS.below B1) hF (by omega) (by rw [str_len]; omega)
      rw [bs_str] at hW
      have hF2 := hF.write (p := bs q) (t := t) (by rw [bs_len]; exact hq) false
      obtain ⟨⟨u, m⟩, hu⟩ : ∃ r, writeA s (bs q) t false = r := ⟨_, rfl⟩
      rw [hu] at hW hmv hF2
      simp only at hmv hF2
      have HW := Lib.hid hW
      clear hW hu hpq
      by_cases hm : m = 0
      · subst hm
        rw [if_neg (by simp)] at hmv
        have HE := Lib.hid hmv
        clear hmv
        go_enter Tryz.func124, Tryz.ntmps124
        go_wp2_with (go_at_call 118; go_must (refine HR.out.mono ?_); rintro e w1 ⟨rfl, B1⟩)
        go_wp2_with (go_at_call 122; go_must (refine (HW.out _ B1).mono ?_); rintro e w2 ⟨rfl, hS2, hK2⟩)
        have HM := Lib.hid (Remove_any w2 p false hS2 hF2 (by omega))
        go_wp2_with (go_at_call 129; go_must (refine HM.out.mono ?_); rintro e w3 ⟨rfl, hS3, hK3⟩)
        go_ret
        rw [HE.out]
        exact ⟨rfl, hS3, ((Kept.of_below B1).trans hK2).trans hK3⟩
      · rw [if_pos hm] at hmv
        have hm' : (m == 0) = false := by simpa using hm
        have HE := Lib.hid hmv
        clear hmv
        go_enter Tryz.func124, Tryz.ntmps124
        go_wp2_with (go_at_call 118; go_must (refine HR.out.mono ?_); rintro e w1 ⟨rfl, B1⟩)
        go_wp2_with (go_at_call 122; go_must (refine (HW.out _ B1).mono ?_); rintro e w2 ⟨rfl, hS2, hK2⟩)
        go_ret
        rw [HE.out]
        exact ⟨rfl, hS2, (Kept.of_below B1).trans hK2⟩
  · rw [if_pos h0] at hmv
    have h0' : (n == 0) = false := by simpa using h0
    have HE := Lib.hid hmv
    clear hmv
    go_enter Tryz.func124, Tryz.ntmps124
    go_wp2_with (go_at_call 118; go_must (refine HR.out.mono ?_); rintro e w1 ⟨rfl, B1⟩)
    go_ret
    rw [HE.out]
    exact ⟨rfl, hS.below B1, .of_below B1⟩
end Go.Proofs.YtaolccibflniiaaGreatDoor.Sw
