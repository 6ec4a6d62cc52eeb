/-
  flags and has: which words are flags, which letters they have.
-/
import Derived.Lib.SlTrimSet
import Derived.Deep.RegionHeld3
import Derived.Test.YtaolccibflniiaaGreatDoorQHDo1
namespace Go.Proofs.YtaolccibflniiaaGreatDoor.Hx
open Go.RowKit Go.Proofs.YtaolccibflniiaaGreatDoor Go.Maps Go.Proofs.YtaolccibflniiaaGreatDoor.Sw
set_option maxRecDepth 100000

/-! ### slices.ContainsFunc of strings -/
section
variable {rb sb bm : Nat} {l : List Bs}
theorem any_drop {p : Bs → Bool} {n : Nat} (h : n < l.length) : (l.drop n).any p = (p l[n] || (l.drop (n + 1)).any p) := by rw [List.drop_eq_getElem_cons h, List.any_cons]
set_option maxHeartbeats 1000000 in
theorem IndexFunc_any (w : World) (p : Bs → Bool) (g : Nat) (lb : Array Value) (eg : ∀ args w, (callFunc g args).run Tryz.prog w = .ok (.enter g args) w) (a : Option Addr) (c : Nat) (hv : Ws w rb sb bm (.slice a l.length c) l) (hrb : rb < w.heap.size) (hll : l.length ≤ 1000000)
    (hdo : ∀ W x, x ∈ l → Below w.heap.size w W → Calls Tryz.prog g (#[.string (str x)] ++ lb) W fun e w' => e = .returned (.bool (p x)) ∧ Below W.heap.size W w') :
    Calls Tryz.prog 206 #[.slice a l.length c, .func (.func g) #[] lb] w fun e w' => ∃ r : Int, e = .returned (.int .i64 r) ∧ decide (0 ≤ r) = l.any p ∧ Below w.heap.size w w' := by
  have HV := Lib.hid hv
  have HD := Lib.hid hdo
  clear hv hdo
  go_enter Tryz.func206, Tryz.ntmps206
  go_wp2_with fail
  go_loopw [8] (fun i wr => ∃ n : Nat, n ≤ l.length ∧ i = .int .i64 n ∧ l.any p = (l.drop n).any p ∧ Below w.heap.size w wr) (fun i _ => l.length - (intOf i).toNat)
  case atStart => exact ⟨0, Nat.zero_le _, rfl, rfl, Below.refl _ _⟩
  case round =>
    obtain ⟨n, hn, rfl, he, hB⟩ := hrel
    by_cases hlt : n < l.length
    · obtain ⟨b, o, rfl, hcp, hb, hx⟩ := Ws.cell (HV.out.below hB hrb) (by omega)
      have x0 := hx n hlt
      rw [any_drop hlt] at he
      have hm := List.getElem_mem hlt
      obtain ⟨y, hy⟩ : ∃ y, l[n] = y := ⟨_, rfl⟩
      rw [hy] at he hm x0
      have HC := Lib.hid (HD.out wr y hm hB)
      obtain ⟨q, hq⟩ : ∃ q, p y = q := ⟨_, rfl⟩
      rw [hq] at HC he
      cases q with
      | true =>
        have HE := Lib.hid he
        clear he hx hy hm hq
        go_wp2_with fail
        refine HC.out.mono ?_
        rintro e w1 ⟨rfl, B1⟩
        go_wp2_with fail
        go_ret
        exact ⟨n, rfl, by rw [HE.out]; simp, hB.trans (B1.mono hB.size)⟩
      | false =>
        have HE := Lib.hid he
        clear he hx hy hm hq
        go_wp2_with fail
        refine HC.out.mono ?_
        rintro e w1 ⟨rfl, B1⟩
        go_wp2_with fail
        go_roundw
        case rel => exact ⟨n + 1, hlt, by go_num, by rw [HE.out]; rfl, hB.trans (B1.mono hB.size)⟩
        case measure => simp [intOf]; omega
    · obtain rfl : n = l.length := by omega
      rw [List.drop_length] at he
      have HE := Lib.hid he
      clear he
      go_wp2_with fail
      go_ret
      exact ⟨-1, rfl, by rw [HE.out]; rfl, hB⟩
theorem ContainsFunc_any (w : World) (p : Bs → Bool) (g : Nat) (lb : Array Value) (eg : ∀ args w, (callFunc g args).run Tryz.prog w = .ok (.enter g args) w) (a : Option Addr) (c : Nat) (hv : Ws w rb sb bm (.slice a l.length c) l) (hrb : rb < w.heap.size) (hll : l.length ≤ 1000000)
    (hdo : ∀ W x, x ∈ l → Below w.heap.size w W → Calls Tryz.prog g (#[.string (str x)] ++ lb) W fun e w' => e = .returned (.bool (p x)) ∧ Below W.heap.size W w') :
    Calls Tryz.prog 164 #[.slice a l.length c, .func (.func g) #[] lb] w fun e w' => e = .returned (.bool (l.any p)) ∧ Below w.heap.size w w' := by
  have HI := Lib.hid (IndexFunc_any w p g lb eg a c hv hrb hll hdo)
  clear hv hdo
  go_enter Tryz.func164, Tryz.ntmps164
  go_wp2_with (go_at_call 206; refine HI.out.mono ?_; rintro e w1 ⟨r, rfl, hr, B1⟩)
  go_ret
  exact ⟨by rw [← hr]; rfl, B1⟩
end

/-! ### has -/
theorem has1_any (w : World) (x : ByteArray) (c : UInt8) (pb : Nat) (hc : w.cell? ⟨pb, 0, none⟩ = some (.string ⟨#[c]⟩)) :
    Calls Tryz.prog 167 #[.string x, .pointer (some ⟨pb, 0, none⟩)] w fun e w' => e = .returned (.bool (decide (0 ≤ Lib.indexByte x.data.toList c))) ∧ w = w' := by
  go_enter Tryz.func167, Tryz.ntmps167
  go_wp2_with (go_at_call 168; refine (Tryz.strings_Contains_one x c _).mono ?_; rintro e w1 ⟨rfl, rfl⟩)
  go_ret
  exact ⟨rfl, rfl⟩
theorem idx_contains (x : Bs) (c : UInt8) : decide (0 ≤ Lib.indexByte x c) = x.contains c := by
  rw [Bool.eq_iff_iff, decide_eq_true_eq, List.contains_iff_mem]
  have hge := Lib.indexByte_ge x c
  constructor
  · intro h
    obtain ⟨n, hn⟩ : ∃ n : Nat, Lib.indexByte x c = n := ⟨_, (Int.toNat_of_nonneg h).symm⟩
    exact List.mem_of_getElem? (Lib.indexByte_some hn).1
  · intro h
    apply Classical.byContradiction
    intro h2
    obtain ⟨k, hk⟩ := List.mem_iff_getElem?.1 h
    exact Lib.indexByte_none (by omega) k hk
theorem dw_nil {α : Type} (p : α → Bool) : ∀ l : List α, l.dropWhile p = [] ↔ ∀ x ∈ l, p x = true
  | [] => by simp
  | x :: l => by
    have ih := dw_nil p l
    by_cases h : p x = true
    · rw [List.dropWhile_cons_of_pos h, ih]
      simp [h]
    · rw [List.dropWhile_cons_of_neg h]
      simp [h]
theorem trimS_nil (l cs : List UInt8) : (Lib.trimS l cs == []) = l.all (cs.contains ·) := by
  unfold Lib.trimS Lib.trimLeftS Lib.trimRightS
  rw [Bool.eq_iff_iff, beq_iff_eq, List.all_eq_true, dw_nil]
  constructor
  · intro h x hx
    have hx2 : x ∈ l.reverse.takeWhile (cs.contains ·) ++ l.reverse.dropWhile (cs.contains ·) := by rw [List.takeWhile_append_dropWhile]; exact List.mem_reverse.2 hx
    rcases List.mem_append.1 hx2 with h1 | h1
    · exact List.all_eq_true.1 List.all_takeWhile x h1
    · exact h x (List.mem_reverse.2 h1)
  · intro h x hx
    exact h x (List.mem_reverse.1 ((List.dropWhile_sublist _).subset (List.mem_reverse.1 hx)))
section
variable {rb sb bm : Nat} {l : List Bs}
theorem has_any (w : World) (v : Value) (c : UInt8) (hv : Ws w rb sb bm v l) (hrb : rb < w.heap.size) (hll : l.length ≤ 1000000) :
    Calls Tryz.prog 126 #[v, .string ⟨#[c]⟩] w fun e w' => e = .returned (.bool (l.any (·.contains c))) ∧ Below w.heap.size w w' := by
  obtain ⟨a, cp, rfl, hc⟩ := Px.Rg.shape hv
  have hB0 := (Below.refl w.heap.size w).alloc (Nat.le_refl _) (.cells #[.string ⟨#[c]⟩] 9)
  have hz := heap_new w (.cells #[.string ⟨#[c]⟩] 9) rfl
  have HC := ContainsFunc_any (w.alloc (.cells #[.string ⟨#[c]⟩] 9)) (fun x => x.contains c) 167 #[.pointer (some ⟨w.heap.size, 0, none⟩)] (enters_of Tryz.func167 (by kernel_rfl) rfl) a cp (hv.below hB0 hrb) (by simp; omega) hll (by
    intro W x _ hB
    have hc : W.cell? ⟨w.heap.size, 0, none⟩ = some (.string ⟨#[c]⟩) := (hB.cell (p := ⟨w.heap.size, 0, none⟩) (by simp)).trans (cell_at hz rfl)
    refine (has1_any W (str x) c w.heap.size hc).mono ?_
    rintro e w' ⟨rfl, rfl⟩
    refine ⟨?_, Below.refl _ _⟩
    show Ending.returned (.bool (decide (0 ≤ Lib.indexByte x c))) = _
    rw [idx_contains])
  obtain ⟨q, hq⟩ : ∃ q, l.any (·.contains c) = q := ⟨_, rfl⟩
  rw [hq] at HC ⊢
  clear hv hq
  go_enter Tryz.func126, Tryz.ntmps126
  go_wp2_with (go_at_call 164; refine HC.mono ?_; rintro e w1 ⟨rfl, B1⟩)
  go_ret
  exact ⟨rfl, hB0.trans (B1.mono (by simp))⟩

/-! ### flags -/
theorem infoA2 : (Tryz.prog.info? (Tryz.laysTrim_ren.t 116)).map (fun i => (i.zero, i.size)) = some (some (.agg (Array.replicate 256 (.bool false))), 256) := by kernel_rfl
theorem flags1_any (w : World) (x : Bs) (d e : UInt8) (r : Bs) (cs : Bs) (hx : x = d :: e :: r) (pb : Nat) (hc : w.cell? ⟨pb, 0, none⟩ = some (.string (str cs))) (hcs : cs.length ≤ 1000) (ha : cs.all (fun b => decide (b.toNat < 128)) = true) (hl : x.length ≤ 1000000) :
    Calls Tryz.prog 165 #[.string (str x), .pointer (some ⟨pb, 0, none⟩)] w fun en w' => en = .returned (.bool (!(x.drop 1).all (cs.contains ·))) ∧ Below w.heap.size w w' := by
  have hsz : (1 : Int) < (str x).size := by rw [← bs_len, bs_str, hx]; simp; omega
  have hsn : 1 ≤ (str x).size := by omega
  have hs1 : (1 : Int) ≤ ((str x).size : Int) := by omega
  have hbig : (str x).size ≤ 1000000 := by rw [← bs_len, bs_str]; exact hl
  have D0 : Below w.heap.size w w.drew := (Below.refl _ _).drew
  have hex : (str x).extract 1 (str x).size = str (x.drop 1) := by
    apply ByteArray.ext
    apply Array.toList_inj.1
    have := Lib.extract_to_end (str x) 1
    exact this
  have hT := Any.strings_Trim_laid Tryz.laysTrim infoA2 (str (x.drop 1)) (str cs) w.drew (by rw [← bs_len, bs_str, List.length_drop]; omega) (by rw [← bs_len, bs_str]; omega) (ascii_of_all ha)
  obtain ⟨q, hq⟩ : ∃ q, (x.drop 1).all (cs.contains ·) = q := ⟨_, rfl⟩
  have hq1 : ((⟨(Lib.trimS (str (x.drop 1)).data.toList (str cs).data.toList).toArray⟩ : ByteArray).toList != []) = !q := by
    rw [Lib.toList_data, bne, ← hq, ← trimS_nil]; rfl
  rw [hq]
  obtain ⟨tr, htr⟩ : ∃ tr, (⟨(Lib.trimS (str (x.drop 1)).data.toList (str cs).data.toList).toArray⟩ : ByteArray) = tr := ⟨_, rfl⟩
  rw [htr] at hT hq1
  rw [← hex] at hT
  have HT := Lib.hid hT
  have S0 : w.drew.cell? ⟨pb, 0, none⟩ = some (.string (str cs)) := hc
  have hlt : pb < w.heap.size := by have := World.block_lt_of_cell? _ _ hc; simpa using this
  have HQ : Hid ((!tr.toList.isEmpty) = !q) := Lib.hid (by rw [← hq1]; cases tr.toList <;> rfl)
  clear hT hx hq hex htr hq1
  go_enter Tryz.func165, Tryz.ntmps165
  go_wp2_with fail
  go_region_held3 (fun w' => w'.cell? ⟨pb, 0, none⟩ = some (.string (str cs)))
    (first | exact S0 | exact S1)
    (first
      | (go_at_call 166; refine HT.out.mono ?_; rintro e w1 ⟨rfl, B1⟩; have S1 : w1.cell? ⟨pb, 0, none⟩ = some (.string (str cs)) := (B1.cell (p := ⟨pb, 0, none⟩) hlt).trans S0))
  all_goals go_wp2_with fail
  all_goals go_ret
  all_goals exact ⟨by show Ending.returned (.bool (!tr.toList.isEmpty)) = _; rw [HQ.out], D0.trans B1⟩

theorem flagB_is (x : Bs) : Hp.flagB x = true ↔ ∃ e r, x = 45 :: e :: r := by
  unfold Hp.flagB
  split
  · rename_i e r; simp
  · rename_i h; simp; intro e r hx; exact h e r hx
theorem Ws.take {w : World} {a : Option Addr} {c n : Nat} (h : Ws w rb sb bm (.slice a l.length c) l) (hn : n ≤ l.length) : Ws w rb sb bm (.slice a n c) (l.take n) := by
  obtain ⟨a', c', hv, hc, h⟩ := h
  cases hv
  have e : (l.take n).length = n := by rw [List.length_take]; omega
  refine ⟨a, c, by rw [e], by omega, ?_⟩
  rw [e]
  rcases h with h | ⟨b, o, ha, hp, hx⟩
  · left; omega
  · refine .inr ⟨b, o, ha, hp, fun j u hj => hx j u ?_⟩
    have : (Px.strsC (l.take n)) = (Px.strsC l).take n := by simp [Px.strsC, List.map_take]
    rw [this, List.getElem?_take] at hj
    split at hj
    · exact hj
    · cases hj
theorem Ws.drop {w : World} {b o c n : Nat} (h : Ws w rb sb bm (.slice (some ⟨b, o, none⟩) l.length c) l) (hn : n ≤ l.length) (a : Option Addr) (ha : n = c ∨ a = some ⟨b, o + n, none⟩) : Ws w rb sb bm (.slice a (l.length - n) (c - n)) (l.drop n) := by
  obtain ⟨a', c', hv, hc, h⟩ := h
  cases hv
  have e : (l.drop n).length = l.length - n := List.length_drop
  refine ⟨a, c - n, by rw [e], by omega, ?_⟩
  rw [e]
  rcases h with h | ⟨b', o', ha', hp, hx⟩
  · left; omega
  · cases ha'
    rcases ha with h1 | h1
    · left; omega
    · refine .inr ⟨b, o + n, h1, hp, fun j u hj => ?_⟩
      have : (Px.strsC (l.drop n)) = (Px.strsC l).drop n := by simp [Px.strsC, List.map_drop]
      rw [this, List.getElem?_drop] at hj
      rw [Nat.add_assoc]
      exact hx _ u hj
/-- What flags returns. -/
def FlagsPost (w : World) (rb sb bm : Nat) (cs : Bs) (L : List Bs) (e : Ending) (w' : World) : Prop :=
  ∃ v1 v2, e = .returned (.tuple #[v1, v2, .bool ((L.takeWhile Hp.flagB).all fun x => (x.drop 1).all (cs.contains ·))]) ∧ Ws w' rb sb bm v1 (L.takeWhile Hp.flagB) ∧ Ws w' rb sb bm v2 (L.dropWhile Hp.flagB) ∧ Below w.heap.size w w'
theorem take_prefix {p : Bs → Bool} {n : Nat} (hn : n ≤ l.length) (h : ∀ j (hj : j < l.length), j < n → p l[j] = true) (h2 : ∀ hj : n < l.length, p l[n] = false) : l.takeWhile p = l.take n ∧ l.dropWhile p = l.drop n := by
  induction l generalizing n with
  | nil => simp at hn; subst hn; simp
  | cons x r ih =>
    cases n with
    | zero =>
      have := h2 (by simp)
      simp at this
      simp [this]
    | succ n =>
      have h0 := h 0 (by simp) (by omega)
      simp at h0
      obtain ⟨a, b⟩ := ih (n := n) (by simpa using hn) (fun j hj hjn => by have := h (j + 1) (by simpa using hj) (by omega); simpa using this) (fun hj => by have := h2 (by simpa using hj); simpa using this)
      simp [h0, a, b]

set_option maxHeartbeats 2000000 in
theorem flags_any (w : World) (v : Value) (cs : Bs) (hv : Ws w rb sb bm v l) (hrb : rb < w.heap.size) (hll : l.length ≤ 1000000) (hl : ∀ x ∈ l, x.length ≤ 1000000) (hcs : cs.length ≤ 1000) (ha : cs.all (fun b => decide (b.toNat < 128)) = true) :
    Calls Tryz.prog 125 #[v, .string (str cs)] w (FlagsPost w rb sb bm cs l) := by
  obtain ⟨a, c, rfl, hc⟩ := Px.Rg.shape hv
  have hB0 := (Below.refl w.heap.size w).alloc (Nat.le_refl _) (.cells #[.string (str cs)] 9)
  have hz := heap_new w (.cells #[.string (str cs)] 9) rfl
  have HV := Lib.hid (hv.below hB0 hrb)
  have hrb1 : rb < (w.alloc (.cells #[.string (str cs)] 9)).heap.size := by simp; omega
  have hn1 : w.heap.size < (w.alloc (.cells #[.string (str cs)] 9)).heap.size := by simp
  have HL := Lib.hid hl
  clear hv hl
  go_enter Tryz.func125, Tryz.ntmps125
  go_wp2_with fail
  generalize (w.alloc (.cells #[.string (str cs)] 9)) = w1 at *
  go_loop [7] (fun v => ∃ n : Nat, v = .int .i64 n ∧ n ≤ l.length ∧ ∀ j (hj : j < l.length), j < n → Hp.flagB l[j] = true) (fun v => l.length - (intOf v).toNat)
  case atStart => exact ⟨0, rfl, Nat.zero_le _, fun j _ h => absurd h (Nat.not_lt_zero _)⟩
  case round =>
    obtain ⟨n, rfl, hn, hp⟩ := hrel
    have HP := Lib.hid hp
    clear hp
    by_cases hgo : ∃ h : n < l.length, Hp.flagB l[n] = true
    · obtain ⟨hlt, hf⟩ := hgo
      obtain ⟨b, o, rfl, hcp, hb, hx⟩ := Ws.cell HV.out (by omega)
      have x0 := hx n hlt
      have HN : Hid (∀ j (hj : j < l.length), j < n + 1 → Hp.flagB l[j] = true) := Lib.hid fun j hj hjn => by
        by_cases e : j = n
        · subst e; exact hf
        · exact HP.out j hj (by omega)
      obtain ⟨e, r, hy⟩ := (flagB_is _).1 hf
      rw [hy] at x0
      have hsz : (1 : Int) < (str (45 :: e :: r)).size := by rw [← bs_len, bs_str]; simp; omega
      have h0 : 0 < (str (45 :: e :: r)).size := by omega
      have hb0 : (((str (45 :: e :: r))[0].toNat : Int) == 45) = true := rfl
      clear hx hf hy hz
      go_wp2_with fail
      go_round
      case rel => exact ⟨n + 1, by go_num, hlt, HN.out⟩
      case measure => simp [intOf]; omega
    · have hT : l.takeWhile Hp.flagB = l.take n ∧ l.dropWhile Hp.flagB = l.drop n := take_prefix hn HP.out (fun hj => by
        cases h : Hp.flagB l[n] with
        | false => rfl
        | true => exact absurd ⟨hj, h⟩ hgo)
      have hlen : (l.take n).length = n := by rw [List.length_take]; omega
      have hC := ContainsFunc_any (l := l.take n) w1 (fun x => !(x.drop 1).all (cs.contains ·)) 165 #[.pointer (some ⟨w.heap.size, 0, none⟩)] (enters_of Tryz.func165 (by kernel_rfl) rfl) a c (by rw [hlen]; exact HV.out.take hn) hrb1 (by omega) (by
        intro W x hx hB
        have hc : W.cell? ⟨w.heap.size, 0, none⟩ = some (.string (str cs)) := (hB.cell (p := ⟨w.heap.size, 0, none⟩) hn1).trans (cell_at hz rfl)
        obtain ⟨j, hj, rfl⟩ := List.getElem_of_mem hx
        rw [List.getElem_take]
        obtain ⟨e, r, hy⟩ := (flagB_is _).1 (HP.out j (by omega) (by omega))
        exact flags1_any W _ 45 e r cs hy _ hc hcs ha (HL.out _ (List.getElem_mem _)))
      obtain ⟨q, hq⟩ : ∃ q, ((l.take n).any fun x => !(x.drop 1).all (cs.contains ·)) = q := ⟨_, rfl⟩
      rw [hq, hlen] at hC
      have HC := Lib.hid hC
      have HQ : Hid (((l.takeWhile Hp.flagB).all fun x => (x.drop 1).all (cs.contains ·)) = !q) := Lib.hid (by rw [hT.1, ← hq, List.not_any_eq_all_not]; simp)
      have HT := Lib.hid hT
      have HE : Hid (∀ (w2 : World) (a2 : Option Addr) (c1 m cp : Nat), c1 = c → m = l.length - n → cp = c - n → Below w1.heap.size w1 w2 → (0 < l.length → ∀ b o, a = some ⟨b, o, none⟩ → n = c ∨ a2 = some ⟨b, o + n, none⟩) → FlagsPost w rb sb bm cs l (.returned (.tuple #[.slice a n c1, .slice a2 m cp, .bool (!q)])) w2) := Lib.hid fun w2 a2 c1 m cp h1 hm hcp hB h2 => by
        subst h1 hm hcp
        refine ⟨_, _, by rw [HQ.out], ?_, ?_, hB0.trans (hB.mono hB0.size)⟩
        · rw [HT.out.1]; exact (HV.out.below hB hrb1).take hn
        · rw [HT.out.2]
          by_cases hl0 : 0 < l.length
          · obtain ⟨b, o, rfl, _⟩ := Ws.cell HV.out hl0
            exact (HV.out.below hB hrb1).drop hn a2 (h2 hl0 b o rfl)
          · obtain rfl : l = [] := List.eq_nil_of_length_eq_zero (by omega)
            simp at hn
            subst hn
            exact ⟨a2, _, rfl, by simp, .inl rfl⟩
      clear hT hC hq hlen hz
      by_cases hlt : n < l.length
      · obtain ⟨b, o, rfl, hcp, hb, hx⟩ := Ws.cell HV.out (by omega)
        have x0 := hx n hlt
        obtain ⟨y, hy⟩ : ∃ y, l[n] = y := ⟨_, rfl⟩
        have hny : Hp.flagB y = false := by
          cases h : Hp.flagB y with
          | false => rfl
          | true => exact absurd ⟨hlt, hy ▸ h⟩ hgo
        rw [hy] at x0
        clear hx hy hgo
        rcases y with _ | ⟨ch, _ | ⟨e, r⟩⟩
        · have hsz : ¬ (1 : Int) < (str []).size := by decide
          go_wp2_with (go_at_call 164; refine HC.out.mono ?_; rintro e w2 ⟨rfl, B2⟩)
          go_region
          all_goals go_wp2_with fail
          all_goals go_ret3
          all_goals refine HE.out _ _ _ _ _ ?_ ?_ ?_ B2.drew (fun _ b' o' e => by cases e; first | exact .inr rfl | (left; omega))
          all_goals first | rfl | omega | simp
        · have hsz : ¬ (1 : Int) < (str [ch]).size := by rw [← bs_len, bs_str]; simp
          go_wp2_with (go_at_call 164; refine HC.out.mono ?_; rintro e w2 ⟨rfl, B2⟩)
          go_region
          all_goals go_wp2_with fail
          all_goals go_ret3
          all_goals refine HE.out _ _ _ _ _ ?_ ?_ ?_ B2.drew (fun _ b' o' e => by cases e; first | exact .inr rfl | (left; omega))
          all_goals first | rfl | omega | simp
        · have hsz : (1 : Int) < (str (ch :: e :: r)).size := by rw [← bs_len, bs_str]; simp; omega
          have h0 : 0 < (str (ch :: e :: r)).size := by omega
          have hch : ch ≠ 45 := fun e1 => by subst e1; cases hny
          have hb0 : (((str (ch :: e :: r))[0].toNat : Int) == 45) = false := by
            rw [beq_eq_false_iff_ne]
            intro e1
            exact hch (UInt8.toNat_inj.1 (by have e2 : (str (ch :: e :: r))[0] = ch := rfl; rw [e2] at e1; have e3 : (45 : UInt8).toNat = 45 := rfl; omega))
          go_wp2_with (go_at_call 164; refine HC.out.mono ?_; rintro e w2 ⟨rfl, B2⟩)
          go_region
          all_goals go_wp2_with fail
          all_goals go_ret3
          all_goals refine HE.out _ _ _ _ _ ?_ ?_ ?_ B2.drew (fun _ b' o' e => by cases e; first | exact .inr rfl | (left; omega))
          all_goals first | rfl | omega | simp
      · obtain rfl : n = l.length := by omega
        by_cases hl0 : 0 < l.length
        · obtain ⟨b, o, rfl, hcp, hb, _⟩ := Ws.cell HV.out hl0
          clear hgo
          go_wp2_with (go_at_call 164; refine HC.out.mono ?_; rintro e w2 ⟨rfl, B2⟩)
          go_region
          all_goals go_wp2_with fail
          all_goals go_ret3
          all_goals refine HE.out _ _ _ _ _ ?_ ?_ ?_ B2.drew (fun _ b' o' e => by cases e; first | exact .inr rfl | (left; omega))
          all_goals first | rfl | omega | simp
        · have hl1 : l.length = 0 := by omega
          clear hgo
          rw [hl1] at *
          have h0 := Nat.lt_irrefl 0
          rcases a with _ | ⟨b, o, p⟩
          · go_wp2_with (go_at_call 164; refine HC.out.mono ?_; rintro e w2 ⟨rfl, B2⟩)
            go_region
            all_goals go_wp2_with fail
            all_goals go_ret3
            all_goals refine HE.out _ _ _ _ _ ?_ ?_ ?_ B2.drew (fun h => absurd h hl0)
            all_goals first | rfl | omega | simp
          · go_wp2_with (go_at_call 164; refine HC.out.mono ?_; rintro e w2 ⟨rfl, B2⟩)
            go_region
            all_goals go_wp2_with fail
            all_goals go_ret3
            all_goals refine HE.out _ _ _ _ _ ?_ ?_ ?_ B2.drew (fun h => absurd h hl0)
            all_goals first | rfl | omega | simp
end
end Go.Proofs.YtaolccibflniiaaGreatDoor.Hx
