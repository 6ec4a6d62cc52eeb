/-
  true, false, echo, cd, test.
-/
import Derived.Test.YteommneijlelkaaGreatDoorQHRedir
namespace Go.Proofs.YteommneijlelkaaGreatDoor.Hx
open Go.RowKit Go.Proofs.YteommneijlelkaaGreatDoor Go.Maps Go.Proofs.YteommneijlelkaaGreatDoor.Sw
set_option maxRecDepth 100000

/-- What a command leaves. -/
def DoPost (w : World) (rb sb bm : Nat) (st ran : Int) (pv bv : Value) (r : Hp.K × Nat) (e : Ending) (w' : World) : Prop :=
  (if r.1.code = 0 then e = .returned (.int .i64 r.2) ∧ RunAt w' rb sb bm r.1 st ran pv bv else e = endE r.1.code ∧ ∃ i o, RunAt w' rb sb bm ⟨r.1.s, r.1.d, r.1.code, i, o⟩ st ran pv bv) ∧ Kept [rb, sb, bm] w w'
/-- The words of a command. -/
def Ws (w : World) (rb sb bm : Nat) (v : Value) (l : List Bs) : Prop := Px.Rg w (Old rb sb bm) v l.length (Px.strsC l)
section
variable {w w' : World} {rb sb bm : Nat} {k : Hp.K} {st ran : Int} {pv bv v : Value} {l : List Bs}
theorem DoPost.ok {r : Hp.K × Nat} (h0 : r.1.code = 0) (hR : RunAt w' rb sb bm r.1 st ran pv bv) (hK : Kept [rb, sb, bm] w w') : DoPost w rb sb bm st ran pv bv r (.returned (.int .i64 r.2)) w' := ⟨by rw [if_pos h0]; exact ⟨rfl, hR⟩, hK⟩
theorem Ws.kept {X : List Nat} (h : Ws w rb sb bm v l) (hK : Kept X w w') (hX : ∀ i ∈ X, i = sb ∨ i = bm ∨ rb ≤ i) (hl : rb < w.heap.size) : Ws w' rb sb bm v l := h.keep (kept_old hK hX hl)
theorem Ws.below (h : Ws w rb sb bm v l) (hB : Below w.heap.size w w') (hl : rb < w.heap.size) : Ws w' rb sb bm v l := h.kept (.of_below (X := []) hB) (by simp) hl
theorem Ws.cell {a : Option Addr} {c : Nat} (h : Ws w rb sb bm (.slice a l.length c) l) (hn : 0 < l.length) : ∃ b o, a = some ⟨b, o, none⟩ ∧ l.length ≤ c ∧ b < rb ∧ ∀ j (hj : j < l.length), w.cell? ⟨b, o + j, none⟩ = some (.string (str l[j])) := by
  obtain ⟨b, o, ha, hc, hp, hx⟩ := Px.strs_cells h hn
  exact ⟨b, o, ha, hc, hp.1, fun j hj => hx j hj⟩
theorem Ws.tail {b o c : Nat} {x : Bs} {r : List Bs} (h : Ws w rb sb bm (.slice (some ⟨b, o, none⟩) (r.length + 1) c) (x :: r)) (a : Option Addr) (ha : c = 1 ∨ a = some ⟨b, o + 1, none⟩) : Ws w rb sb bm (.slice a r.length (c - 1)) r := by
  obtain ⟨a', c', hv, hc, h⟩ := h
  cases hv
  have hc : r.length + 1 ≤ c := hc
  refine ⟨a, c - 1, rfl, by omega, ?_⟩
  rcases h with h | ⟨b', o', ha', hp, hx⟩
  · cases h
  · cases ha'
    rcases ha with e | e
    · left; omega
    · refine .inr ⟨b, o + 1, e, hp, fun j u hj => ?_⟩
      have := hx (j + 1) u (by simpa [Px.strsC] using hj)
      rw [show o + 1 + j = o + (j + 1) by omega]; exact this

theorem join_spaced : ∀ l : List Bs, Lib.join l [32] = Hp.spaced l
  | [] => rfl
  | [x] => by simp [Lib.join, Hp.spaced]
  | x :: y :: r => by
    have := join_spaced (y :: r)
    simp [Lib.join, Hp.spaced] at this ⊢
    rw [← this]
theorem Join_ws (w : World) {a : Option Addr} {c : Nat} (h : Ws w rb sb bm (.slice a l.length c) l) (hrb : rb < w.heap.size) (hl : Hp.wtL l ≤ 1000000) :
    Calls Tryz.prog 118 #[.slice a l.length c, .string ⟨#[32]⟩] w fun e w' => e = .returned (.string (str (Hp.spaced l))) ∧ Below w.heap.size w w' := by
  by_cases h0 : l = []
  · subst h0
    refine (Tryz.strings_Join_none a c ⟨#[32]⟩ w).mono ?_
    rintro e w' ⟨rfl, rfl⟩
    exact ⟨rfl, Below.refl _ _⟩
  · obtain ⟨b, o, rfl, hc, hb, hx⟩ := h.cell (List.length_pos_iff.2 h0)
    have hlen : (l.map str).length = l.length := by simp
    have hm : (l.map str).map (·.data.toList) = l := by rw [List.map_map]; exact (List.map_congr_left (fun x _ => rfl)).trans (List.map_id l)
    have hlen2 : l.length ≤ Hp.wtL l := by
      clear hx hlen hm hl h0 h hc
      induction l with
      | nil => simp
      | cons x r ih => have e : Hp.wtL (x :: r) = (x.length + 2) + Hp.wtL r := rfl; rw [List.length_cons]; omega
    have := Tryz.strings_Join b o c (l.map str) ⟨#[32]⟩ w (fun j x hj => by
        simp only [List.getElem?_map, Option.map_eq_some_iff] at hj
        obtain ⟨y, hy, rfl⟩ := hj
        obtain ⟨hj1, rfl⟩ := List.getElem?_eq_some_iff.1 hy
        exact hx j hj1) (by omega) (by rw [hlen]; omega) (by rw [hlen]; exact hc) (by
        rw [hm]
        show (Lib.join l [32]).length ≤ _
        rw [join_spaced]; have := Hp.spaced_len l; omega)
    rw [hlen, hm] at this
    refine this.mono ?_
    rintro e w' ⟨rfl, hB⟩
    refine ⟨?_, hB⟩
    show Ending.returned (.string (str (Lib.join l [32]))) = _
    rw [join_spaced]

theorem str_app (a b : Bs) : str a ++ str b = str (a ++ b) := by
  apply ByteArray.ext
  rw [ByteArray.data_append]
  simp [str]
theorem echo_nl {k : Hp.K} {l : List Bs} (h : ∀ r, l ≠ [45, 110] :: r) : Hp.echoA k l = (⟨k.s, k.d, k.code, k.inp, Hp.spaced l ++ [10]⟩, 0) := by
  unfold Hp.echoA
  split
  · rename_i r; exact absurd rfl (h r)
  · rfl

theorem succeed_any (w : World) (k : Hp.K) (v : Value) (h0 : k.code = 0) (hR : RunAt w rb sb bm k st ran pv bv) : Calls Tryz.prog 76 #[.pointer (some ⟨rb, 0, none⟩), v] w (DoPost w rb sb bm st ran pv bv (k, 0)) := by
  go_enter Tryz.func76, Tryz.ntmps76
  go_wp2
  go_ret
  exact .ok (r := (k, 0)) h0 hR (.refl _ _)
theorem fail_any (w : World) (k : Hp.K) (v : Value) (h0 : k.code = 0) (hR : RunAt w rb sb bm k st ran pv bv) : Calls Tryz.prog 77 #[.pointer (some ⟨rb, 0, none⟩), v] w (DoPost w rb sb bm st ran pv bv (k, 1)) := by
  go_enter Tryz.func77, Tryz.ntmps77
  go_wp2
  go_ret
  exact .ok (r := (k, 1)) h0 hR (.refl _ _)

set_option maxHeartbeats 1000000 in
theorem echo_any (w : World) (k : Hp.K) (v : Value) (l : List Bs) (h0 : k.code = 0) (hR : RunAt w rb sb bm k st ran pv bv) (hv : Ws w rb sb bm v l) (hl : Hp.wtL l ≤ 100000) :
    Calls Tryz.prog 78 #[.pointer (some ⟨rb, 0, none⟩), v] w (DoPost w rb sb bm st ran pv bv (Hp.echoA k l)) := by
  obtain ⟨c0, c1, c3, c4, c8, c9⟩ := hR.cells
  have hlt := hR.lt
  have f9 := hR.frozen 9
  obtain ⟨a, c, rfl, hc⟩ := Px.Rg.shape hv
  rcases l with _ | ⟨x, r⟩
  · have hJ := Join_ws (l := []) w hv hlt (by simp [Hp.wtL])
    have hsz : (str (Hp.spaced [])).size ≤ 100000 := by decide
    have HR := Lib.hid hR
    clear hv hR
    go_enter Tryz.func78, Tryz.ntmps78
    go_wp2_with (go_at_call 118; refine hJ.mono ?_; rintro e w1 ⟨rfl, B1⟩; have hR1 := HR.out.below B1; obtain ⟨c0, c1, c3, c4, c8, c9⟩ := hR1.cells; have f9 := hR1.frozen 9; have hlt1 := hR1.lt)
    rw [show (⟨#[10]⟩ : ByteArray) = str [10] from rfl, str_app]
    go_ret
    rw [echo_nl (by simp)]
    exact .ok (r := (⟨k.s, k.d, k.code, k.inp, Hp.spaced [] ++ [10]⟩, 0)) h0 (hR1.set9 _) (kept_set (.of_below B1) (by simp) _)
  · obtain ⟨b, o, rfl, _, hb, hx⟩ := Ws.cell hv (by simp)
    have e0 : w.cell? ⟨b, o, none⟩ = some (.string (str x)) := hx 0 (by simp)
    have HR := Lib.hid hR
    have hcl : (r.length + 1 : Nat) ≤ c := hc
    by_cases hn : x = [45, 110]
    · subst hn
      have q : ((str [45, 110]).toList == [45, 110]) = true := by rw [Lib.toList_data]; rfl
      have HT := Lib.hid fun (a : Option Addr) (ha : c = 1 ∨ a = some ⟨b, o + 1, none⟩) => Ws.tail hv a ha
      have hw1 : Hp.wtL r ≤ 100000 := by have e : Hp.wtL ([45, 110] :: r) = (2 + 2) + Hp.wtL r := rfl; omega
      have hsz : (str (Hp.spaced r)).size ≤ 100000 := by rw [← bs_len, bs_str]; have := Hp.spaced_len r; omega
      clear hv hR hx
      go_enter Tryz.func78, Tryz.ntmps78
      go_wp2_with (go_at_call 118; refine (Join_ws w (HT.out _ (by by_cases h : c = 1 <;> simp [h])) hlt (by omega)).mono ?_; rintro e w1 ⟨rfl, B1⟩; have hR1 := HR.out.below B1; obtain ⟨c0, c1, c3, c4, c8, c9⟩ := hR1.cells; have f9 := hR1.frozen 9; have hlt1 := hR1.lt)
      all_goals rw [show (⟨#[]⟩ : ByteArray) = str [] from rfl, str_app, List.append_nil]
      all_goals go_ret
      all_goals exact .ok (r := (⟨k.s, k.d, k.code, k.inp, Hp.spaced r⟩, 0)) h0 (hR1.set9 _) (kept_set (.of_below B1) (by simp) _)
    · have q : ((str x).toList == [45, 110]) = false := by rw [Lib.toList_data, beq_eq_false_iff_ne]; exact hn
      have hJ := Join_ws w hv hlt (by omega)
      have hsz : (str (Hp.spaced (x :: r))).size ≤ 100000 := by rw [← bs_len, bs_str]; have := Hp.spaced_len (x :: r); omega
      have HE : Hid (Hp.echoA k (x :: r) = (⟨k.s, k.d, k.code, k.inp, Hp.spaced (x :: r) ++ [10]⟩, 0)) := Lib.hid (echo_nl (fun r' e => hn (by cases e; rfl)))
      clear hv hR hx hn
      go_enter Tryz.func78, Tryz.ntmps78
      go_wp2_with (go_at_call 118; refine hJ.mono ?_; rintro e w1 ⟨rfl, B1⟩; have hR1 := HR.out.below B1; obtain ⟨c0, c1, c3, c4, c8, c9⟩ := hR1.cells; have f9 := hR1.frozen 9; have hlt1 := hR1.lt)
      rw [show (⟨#[10]⟩ : ByteArray) = str [10] from rfl, str_app]
      go_ret
      rw [HE.out]
      exact .ok (r := (⟨k.s, k.d, k.code, k.inp, Hp.spaced (x :: r) ++ [10]⟩, 0)) h0 (hR1.set9 _) (kept_set (.of_below B1) (by simp) _)

theorem wtL_one {x : Bs} : Hp.wtL [x] = x.length + 2 := rfl
theorem cd_not {k : Hp.K} {l : List Bs} (h : l.length ≠ 1) : Hp.cdA k l = (k, 1) := by
  rcases l with _ | ⟨x, _ | ⟨y, r⟩⟩
  · rfl
  · exact absurd rfl h
  · rfl
set_option maxHeartbeats 1000000 in
theorem cd_any (w : World) (k : Hp.K) (v : Value) (l : List Bs) (h0 : k.code = 0) (hR : RunAt w rb sb bm k st ran pv bv) (hd : k.d.length ≤ 100000) (hv : Ws w rb sb bm v l) (hl : Hp.wtL l ≤ 100000) :
    Calls Tryz.prog 86 #[.pointer (some ⟨rb, 0, none⟩), v] w (DoPost w rb sb bm st ran pv bv (Hp.cdA k l)) := by
  have hlt := hR.lt
  obtain ⟨a, c, rfl, hc⟩ := Px.Rg.shape hv
  by_cases h1 : l.length = 1
  · obtain ⟨x, rfl⟩ := List.length_eq_one_iff.1 h1
    obtain ⟨b, o, rfl, _, hb, hx⟩ := Ws.cell hv (by simp)
    have e0 : w.cell? ⟨b, o, none⟩ = some (.string (str x)) := hx 0 (by simp)
    have hc1 : 1 ≤ c := hc
    have HR := Lib.hid hR
    have hsx : (str x).size ≤ 1000000000 := by rw [← bs_len, bs_str]; rw [wtL_one] at hl; omega
    clear hv hx h1 hc
    cases hj : Hp.joinP k.d x with
    | none =>
      have HJ : Hid (Hp.joinP k.d (bs (str x)) = none) := Lib.hid hj
      have HE : Hid (Hp.cdA k [x] = (k, 1)) := Lib.hid (by unfold Hp.cdA; simp only; rw [hj])
      clear hj
      go_enter Tryz.func86, Tryz.ntmps86
      go_wp2_with (go_at_call 137; refine (path_no _ (str x) HR.out hd hsx HJ).mono ?_; rintro e w1 ⟨rfl, B1⟩; have hR1 := HR.out.below B1)
      go_ret
      rw [HE.out]
      exact .ok (r := (k, 1)) h0 hR1 (.of_below B1)
    | some p =>
      have hpl := Hp.joinP_len hj
      rw [wtL_one] at hl
      have HJ : Hid (Hp.joinP k.d (bs (str x)) = some p) := Lib.hid hj
      have hps : (str p).size ≤ maxLen := by rw [← bs_len, bs_str]; unfold maxLen; omega
      obtain ⟨g, hg⟩ : ∃ g, ((getR k.s.L p).map (·.d)).getD false = g := ⟨_, rfl⟩
      have HG : Hid (((getR k.s.L (bs (str p))).map (·.d)).getD false = g) := Lib.hid hg
      cases g with
      | false =>
        have HE : Hid (Hp.cdA k [x] = (k, 1)) := Lib.hid (by unfold Hp.cdA; simp only; rw [hj]; simp only; rw [hg]; rfl)
        clear hj hg
        go_enter Tryz.func86, Tryz.ntmps86
        go_wp2_with (first
          | (go_at_call 137; refine (path_yes _ (str x) p HR.out hd hsx HJ).mono ?_; rintro e w1 ⟨rfl, B1⟩; have hR1 := HR.out.below B1)
          | (go_at_call 24; refine (directory_any _ (str p) false hR1 hps HG).mono ?_; rintro e w2 ⟨rfl, B2⟩; have hR2 := hR1.below B2))
        go_ret
        rw [HE.out]
        exact .ok (r := (k, 1)) h0 hR2 ((Kept.of_below B1).below B2)
      | true =>
        have HE : Hid (Hp.cdA k [x] = (⟨k.s, p, k.code, k.inp, k.outp⟩, 0)) := Lib.hid (by unfold Hp.cdA; simp only; rw [hj]; simp only; rw [hg]; rfl)
        clear hj hg
        go_enter Tryz.func86, Tryz.ntmps86
        go_wp2_with (first
          | (go_at_call 137; refine (path_yes _ (str x) p HR.out hd hsx HJ).mono ?_; rintro e w1 ⟨rfl, B1⟩; have hR1 := HR.out.below B1)
          | (go_at_call 24; refine (directory_any _ (str p) true hR1 hps HG).mono ?_; rintro e w2 ⟨rfl, B2⟩; have hR2 := hR1.below B2; obtain ⟨c0, c1, c3, c4, c8, c9⟩ := hR2.cells; have f4 := hR2.frozen 4; have hlt2 := hR2.lt))
        go_ret
        rw [HE.out]
        exact .ok (r := (⟨k.s, p, k.code, k.inp, k.outp⟩, 0)) h0 (hR2.set4 p) (kept_set ((Kept.of_below B1).below B2) (by simp) _)
  · have q : ((l.length : Int) != 1) = true := by simp; omega
    have HE := Lib.hid (cd_not (k := k) h1)
    have HR := Lib.hid hR
    clear hv hR h1
    go_enter Tryz.func86, Tryz.ntmps86
    go_wp2_with fail
    go_ret
    rw [HE.out]
    exact .ok (r := (k, 1)) h0 HR.out (.refl _ _)
end
end Go.Proofs.YteommneijlelkaaGreatDoor.Hx
