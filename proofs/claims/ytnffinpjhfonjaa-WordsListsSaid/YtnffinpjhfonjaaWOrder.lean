/-
  flatironref04.order: places in a list, by the words there, then by themselves.
-/
import Derived.Test.YtnffinpjhfonjaaWUniq
import Derived.Test.YtnffinpjhfonjaaWReads
import Derived.Test.YtnffinpjhfonjaaWFollow
namespace Go.Proofs.Ytnffinpjhfonjaa.Ww
open Go.RowKit Go.Proofs.Ytnffinpjhfonjaa
set_option maxRecDepth 100000

abbrev IT : TypeId := 3
theorem infoI : (Try.prog.info? IT).map (fun i => (i.zero, i.size, i.bytes)) = some (some (.int .i64 0), 1, 8) := by kernel_rfl
def sliceLen : Value → Nat
  | .slice _ n _ => n
  | _ => 0

/-- Some slice that reads as places. -/
def OrdPost (w : World) (o : List Nat) (e : Ending) (w' : World) : Prop := ∃ v, e = .returned v ∧ Rd w' w'.heap.size v (intsC o) ∧ Below w.heap.size w w'

/-- A slice that is not nil. -/
def At (v : Value) (n : Nat) : Prop := ∃ b o c, v = .slice (some ⟨b, o, none⟩) n c
theorem At.ite {b o c n : Nat} : At (.slice (if c = 1 then some ⟨b, o, none⟩ else some ⟨b, o + 1, none⟩) n (c - 1)) n := by
  by_cases h : c = 1
  · rw [if_pos h]; exact ⟨_, _, _, rfl⟩
  · rw [if_neg h]; exact ⟨_, _, _, rfl⟩

/-- What the loop's head knows. -/
def MgRel (w2 : World) (l : List ByteArray) (M : List Nat) (va vb vo : Value) (wr : World) : Prop :=
  ∃ (p q r : List Nat) (a : Option Addr) (c : Nat), Rd wr w2.heap.size va (intsC p) ∧ Rd wr w2.heap.size vb (intsC q) ∧ vo = .slice a r.length c ∧ wr.ownsRow w2.heap.size IT 1 (.slice a r.length c) r.length (intsC r) ∧
    r ++ Wp.mrg (Wp.at8 l) p q = M ∧ (∀ x ∈ p, x < l.length) ∧ (∀ x ∈ q, x < l.length) ∧ r.length + p.length + q.length ≤ l.length ∧ Below w2.heap.size w2 wr ∧ At va p.length ∧ At vb q.length

theorem Rd.ints_open {w : World} {B : Nat} {v : Value} {x : Nat} {p : List Nat} (h : Rd w B v (intsC (x :: p))) : ∃ b o c, v = .slice (some ⟨b, o, none⟩) (p.length + 1) c ∧ p.length + 1 ≤ c ∧ b < B ∧ w.cell? ⟨b, o, none⟩ = some (.int .i64 (x : Int)) := by
  obtain ⟨b, o, c, hv, hc, hb, hx⟩ := h.open_ (by simp [intsC])
  rw [intsC_len] at hv hc
  exact ⟨b, o, c, hv, hc, hb, hx 0 _ rfl⟩
theorem Rd.ints_tail {w : World} {B : Nat} {b o c n : Nat} {x : Nat} {p : List Nat} (h : Rd w B (.slice (some ⟨b, o, none⟩) n c) (intsC (x :: p))) :
    Rd w B (.slice (if c = 1 then some ⟨b, o, none⟩ else some ⟨b, o + 1, none⟩) p.length (c - 1)) (intsC p) := by
  have := h.tail_ (x := .int .i64 (x : Int)) (xs := intsC p)
  rw [intsC_len] at this
  by_cases hc : c = 1
  · rw [if_pos hc]
    rcases this.2 with h' | h'
    · omega
    · have hp : p = [] := by simpa [intsC] using h'
      subst hp
      exact Rd.nil _ _ _ _
  · rw [if_neg hc]; exact this.1
theorem Rd.cells_at {w : World} {B : Nat} {v : Value} {xs : List Value} {b o n c : Nat} (h : Rd w B v xs) (hv : v = .slice (some ⟨b, o, none⟩) n c) : ∀ j u, xs[j]? = some u → w.cell? ((⟨b, o, none⟩ : Addr).add j) = some u := by
  subst hv
  obtain ⟨a, c', hv, _, h⟩ := h
  intro j u hj
  have hne : xs ≠ [] := fun e => by rw [e] at hj; cases hj
  obtain ⟨b', o', ha, _, hx⟩ := h hne
  cases hv
  cases ha
  rw [Addr.add_lit]
  exact hx j u hj
theorem Rd.ints_end {w : World} {B : Nat} {v : Value} {l : List ByteArray} {M p q r : List Nat} (h : Rd w B v (intsC r ++ intsC p ++ intsC q)) (hM : r ++ Wp.mrg (Wp.at8 l) p q = M) (hpq : p = [] ∨ q = []) : Rd w B v (intsC M) := by
  have e : r ++ p ++ q = M := by
    rcases hpq with rfl | rfl
    · rw [← hM, List.append_nil, Wp.mrg_left]
    · rw [← hM, Wp.mrg_nil, List.append_nil]
  rw [← e]
  simpa [intsC] using h
theorem ints_one (l : List Nat) : ∀ u ∈ intsC l, u.oneCell' = true := by
  intro u hu
  obtain ⟨_, _, rfl⟩ := List.mem_map.1 hu
  rfl
theorem intsC_snoc (l : List Nat) (x : Nat) : intsC (l ++ [x]) = intsC l ++ [Value.int .i64 (x : Int)] := by simp [intsC]

theorem MgRel.left {w2 wr w3 : World} {l : List ByteArray} {M : List Nat} {x y : Nat} {p q r : List Nat} {b o cp n : Nat} {vb : Value} {a2 : Option Addr} {c2 : Nat}
    (hp : Rd wr w2.heap.size (.slice (some ⟨b, o, none⟩) n cp) (intsC (x :: p))) (hq : Rd wr w2.heap.size vb (intsC (y :: q))) (hM : r ++ Wp.mrg (Wp.at8 l) (x :: p) (y :: q) = M) (hle : Wp.le (Wp.at8 l x) (Wp.at8 l y) = true)
    (hpl : ∀ z ∈ x :: p, z < l.length) (hql : ∀ z ∈ y :: q, z < l.length) (hlen : r.length + (p.length + 1) + (q.length + 1) ≤ l.length) (hB : Below w2.heap.size w2 wr)
    (ho : w3.ownsRow w2.heap.size IT 1 (.slice a2 (r.length + 1) c2) (r.length + 1) (intsC r ++ [.int .i64 (x : Int)])) (h3 : Below w2.heap.size wr w3) (hb2 : At vb (q.length + 1)) :
    MgRel w2 l M (.slice (if cp = 1 then some ⟨b, o, none⟩ else some ⟨b, o + 1, none⟩) p.length (cp - 1)) vb (.slice a2 (r.length + 1) c2) w3 := by
  have e : (r ++ [x]).length = r.length + 1 := by simp
  refine ⟨p, y :: q, r ++ [x], a2, c2, hp.ints_tail.below h3, hq.below h3, by rw [e], by rw [e, intsC_snoc]; exact ho, ?_, fun z hz => hpl z (by simp [hz]), hql, by simp; omega, hB.trans h3, At.ite, hb2⟩
  rw [← hM, Wp.mrg_yes hle, List.append_assoc]; rfl
theorem MgRel.right {w2 wr w3 : World} {l : List ByteArray} {M : List Nat} {x y : Nat} {p q r : List Nat} {b o cq n : Nat} {va : Value} {a2 : Option Addr} {c2 : Nat}
    (hp : Rd wr w2.heap.size va (intsC (x :: p))) (hq : Rd wr w2.heap.size (.slice (some ⟨b, o, none⟩) n cq) (intsC (y :: q))) (hM : r ++ Wp.mrg (Wp.at8 l) (x :: p) (y :: q) = M) (hle : Wp.le (Wp.at8 l x) (Wp.at8 l y) = false)
    (hpl : ∀ z ∈ x :: p, z < l.length) (hql : ∀ z ∈ y :: q, z < l.length) (hlen : r.length + (p.length + 1) + (q.length + 1) ≤ l.length) (hB : Below w2.heap.size w2 wr)
    (ho : w3.ownsRow w2.heap.size IT 1 (.slice a2 (r.length + 1) c2) (r.length + 1) (intsC r ++ [.int .i64 (y : Int)])) (h3 : Below w2.heap.size wr w3) (hb2 : At va (p.length + 1)) :
    MgRel w2 l M va (.slice (if cq = 1 then some ⟨b, o, none⟩ else some ⟨b, o + 1, none⟩) q.length (cq - 1)) (.slice a2 (r.length + 1) c2) w3 := by
  have e : (r ++ [y]).length = r.length + 1 := by simp
  refine ⟨x :: p, q, r ++ [y], a2, c2, hp.below h3, hq.ints_tail.below h3, by rw [e], by rw [e, intsC_snoc]; exact ho, ?_, hpl, fun z hz => hql z (by simp [hz]), by simp; omega, hB.trans h3, hb2, At.ite⟩
  rw [← hM, Wp.mrg_no hle, List.append_assoc]; rfl

structure Drewn (w wd : World) : Prop where
  below : ∀ {B : Nat} {W : World}, Below B W w → Below B W wd
  cell : ∀ {a : Addr} {u : Value}, w.cell? a = some u → wd.cell? a = some u
  frozen : ∀ {a : Addr} {u : Bool}, w.frozen? a = u → wd.frozen? a = u
  own : ∀ {base : Nat} {e : TypeId} {size : Nat} {v : Value} {n : Nat} {xs : List Value}, w.ownsRow base e size v n xs → wd.ownsRow base e size v n xs
  rd : ∀ {B : Nat} {v : Value} {xs : List Value}, Rd w B v xs → Rd wd B v xs
theorem drew_facts {w : World} (n : Nat) : Drewn w (w.drewN n) := ⟨fun h => below_drewN h n, fun h => h, fun h => h, fun h => h, fun h => h⟩

set_option maxHeartbeats 4000000 in
theorem order_small (l : List ByteArray) (f t : Nat) (w : World) (v : Value) (hft : f ≤ t) (htl : t ≤ l.length) (h2 : t - f < 2) :
    Calls Try.prog 15 #[v, .int .i64 (f : Int), .int .i64 (t : Int)] w (OrdPost w (if f = t then [] else [f])) := by
  have hlt : (t : Int) - (f : Int) < 2 := by omega
  by_cases e : f = t
  · rw [if_pos e]
    subst e
    have hz : ((f : Int) == (f : Int)) = true := beq_self_eq_true _
    have HP : Hid (OrdPost w [] (.returned (.slice none 0 0)) w) := Lib.hid ⟨_, rfl, Rd.nil _ _ _ _, Below.refl _ _⟩
    go_enter Try.func15, Try.ntmps15
    go_wp2_with fail
    go_ret
    exact HP.out
  · have hz : ((f : Int) == (t : Int)) = false := beq_eq_false_iff_ne.2 (by omega)
    rw [if_neg e]
    clear e
    go_enter Try.func15, Try.ntmps15
    go_wp2_with fail
    go_ret
    refine ⟨_, rfl, ?_, (Below.refl _ _).alloc (Nat.le_refl _) _⟩
    refine ⟨_, _, rfl, Nat.le_refl _, fun _ => ⟨w.heap.size, 0, rfl, by simp, fun j u hj => ?_⟩⟩
    rw [World.cell?_alloc_at _ _ _ _ (by simp)]
    match j, hj with
    | 0, hj => simpa [intsC] using hj

set_option maxHeartbeats 4000000 in
theorem order_any (l : List ByteArray) (hl : l.length ≤ 100000) : ∀ (n f t : Nat) (w : World) (v : Value), f ≤ t → t ≤ l.length → t - f ≤ n + 1 → Rd w w.heap.size v (strsC l) →
    Calls Try.prog 15 #[v, .int .i64 (f : Int), .int .i64 (t : Int)] w (OrdPost w (Wp.ord (Wp.at8 l) n f t)) := by
  intro n
  induction n with
  | zero =>
    intro f t w v hft htl hn hr
    exact order_small l f t w v hft htl (by omega)
  | succ n ih =>
    intro f t w v hft htl hn hr
    by_cases h2 : t - f < 2
    · rw [Wp.ord, if_pos h2]
      exact order_small l f t w v hft htl h2
    · obtain ⟨h, hh⟩ : ∃ h : Nat, h = (f + t) / 2 := ⟨_, rfl⟩
      have hq : ((f : Int) + (t : Int)) / 2 = (h : Int) := by omega
      have h1 : f < h := by omega
      have h3 : h < t := by omega
      have HO : Hid (Wp.ord (Wp.at8 l) (n + 1) f t = Wp.mrg (Wp.at8 l) (Wp.ord (Wp.at8 l) n f h) (Wp.ord (Wp.at8 l) n h t)) := Lib.hid (by rw [Wp.ord, if_neg h2, hh])
      have hlt : ¬ ((t : Int) - (f : Int) < 2) := by omega
      obtain ⟨_, m1, l1⟩ := Wp.ord_all (Wp.at8 l) n f h (by omega) (by omega)
      obtain ⟨_, m2, l2⟩ := Wp.ord_all (Wp.at8 l) n h t (by omega) (by omega)
      obtain ⟨A, hA⟩ : ∃ A, Wp.ord (Wp.at8 l) n f h = A := ⟨_, rfl⟩
      obtain ⟨B, hB⟩ : ∃ B, Wp.ord (Wp.at8 l) n h t = B := ⟨_, rfl⟩
      rw [hA] at m1 l1 HO
      rw [hB] at m2 l2 HO
      have M1 := Lib.hid m1
      have M2 := Lib.hid m2
      have L1 := Lib.hid l1
      have L2 := Lib.hid l2
      have IA := Lib.hid (ih f h w v (by omega) (by omega) (by omega) hr)
      have IB := Lib.hid fun w1 => ih h t w1 v (by omega) (by omega) (by omega)
      rw [hA] at IA
      rw [hB] at IB
      have HR := Lib.hid hr
      clear ih hr m1 m2 l1 l2 hA hB hh
      rw [HO.out]
      obtain ⟨i0, hi, hz0, hz1, hz2⟩ := info_parts infoI
      go_enter Try.func15, Try.ntmps15
      go_wp2_with fail
      refine IA.out.mono ?_
      rintro e w1 ⟨va, rfl, ra, B1⟩
      have RA := Lib.hid ra
      clear ra
      go_wp2_with fail
      refine (IB.out w1 ((HR.out.below B1).more B1.size)).mono ?_
      rintro e w2 ⟨vb, rfl, rb, B2⟩
      have RB := Lib.hid rb
      clear rb
      go_wp2_with fail
      go_loopw [7, 8, 9] (fun va vb vo wr => MgRel w2 l (Wp.mrg (Wp.at8 l) A B) va vb vo wr) (fun va vb _ _ => sliceLen va + sliceLen vb)
      case atStart =>
        refine ⟨A, B, [], none, 0, (RA.out.below B2).more B2.size, RB.out, rfl, World.ownsRow_nil _ _ _ _, rfl, fun x hx => ?_, fun x hx => ?_, ?_, Below.refl _ _, ?_, ?_⟩
        · have := (M1.out x).1 hx; omega
        · have := (M2.out x).1 hx; omega
        · have := L1.out; have := L2.out; simp; omega
        · obtain ⟨b, o, c, hv, _⟩ := RA.out.open_ (by rw [intsC_len, L1.out]; omega)
          exact ⟨b, o, c, by rw [hv, intsC_len]⟩
        · obtain ⟨b, o, c, hv, _⟩ := RB.out.open_ (by rw [intsC_len, L2.out]; omega)
          exact ⟨b, o, c, by rw [hv, intsC_len]⟩
      case round =>
        obtain ⟨p, q, r, a, c, hp, hq', rfl, hrow, hM, hpl, hql, hlen, hB, hap, haq⟩ := hrel
        cases p with
        | nil =>
          obtain ⟨bp, op_, cp, rfl⟩ := hap
          obtain ⟨bq, oq, cq, rfl⟩ := haq
          have HM := Lib.hid hM
          have HP := Lib.hid hp
          have HQ := Lib.hid hq'
          clear hM hp hq' hpl hql
          simp only [List.length_nil] at hlen
          go_wp2_with (first
            | (at_builtin; refine wpList_append_own _ rfl _ _ 38 rfl w2.heap.size IT i0 (.int .i64 0) 1 8 Try.underlying38 hi hz0 hz1 hz2 rfl (by decide) _ _ _ rfl hown1 ⟨bq, oq, none⟩ _ _ (intsC q) rfl (by rw [intsC_len]; simp) ((HQ.out.below hb1).cells_at rfl) (ints_one _) (by unfold maxLen; simp; omega) (by simp; omega) (by have := hB.size; have := hb1.size; omega) ?_; intro v'' w4 hown2 hgrow2 _)
            | (at_builtin; refine wpList_append_own _ rfl _ _ 38 rfl w2.heap.size IT i0 (.int .i64 0) 1 8 Try.underlying38 hi hz0 hz1 hz2 rfl (by decide) _ _ _ rfl hrow ⟨bp, op_, none⟩ _ _ (intsC []) rfl (by rw [intsC_len]; simp) (HP.out.cells_at rfl) (ints_one _) (by unfold maxLen; simp; omega) (by simp; omega) hB.size ?_; intro v' w3 hown1 hgrow1 _; have hb1 := (Below.refl w2.heap.size wr).grown hgrow1 hB.size fun j ej => (hrow.lt j ej).1))
          go_ret
          exact ⟨_, rfl, (Rd.of_own hown2).ints_end HM.out (by simp), (B1.trans (B2.mono B1.size)).trans ((hB.trans (hb1.grown hgrow2 (by have := hB.size; have := hb1.size; omega) fun j ej => (hown1.lt j ej).1)).mono (by have := B1.size; have := B2.size; omega))⟩
        | cons x p =>
          cases q with
          | nil =>
            obtain ⟨bp, op_, cp, rfl⟩ := hap
            obtain ⟨bq, oq, cq, rfl⟩ := haq
            have HM := Lib.hid hM
            have HP := Lib.hid hp
            have HQ := Lib.hid hq'
            clear hM hp hq' hpl hql
            simp only [List.length_cons, List.length_nil] at hlen
            go_wp2_with (first
              | (at_builtin; refine wpList_append_own _ rfl _ _ 38 rfl w2.heap.size IT i0 (.int .i64 0) 1 8 Try.underlying38 hi hz0 hz1 hz2 rfl (by decide) _ _ _ rfl hown1 ⟨bq, oq, none⟩ _ _ (intsC []) rfl (by rw [intsC_len]; simp) ((HQ.out.below hb1).cells_at rfl) (ints_one _) (by unfold maxLen; simp; omega) (by simp; omega) (by have := hB.size; have := hb1.size; omega) ?_; intro v'' w4 hown2 hgrow2 _)
              | (at_builtin; refine wpList_append_own _ rfl _ _ 38 rfl w2.heap.size IT i0 (.int .i64 0) 1 8 Try.underlying38 hi hz0 hz1 hz2 rfl (by decide) _ _ _ rfl hrow ⟨bp, op_, none⟩ _ _ (intsC (x :: p)) rfl (by rw [intsC_len]; simp) (HP.out.cells_at rfl) (ints_one _) (by unfold maxLen; simp; omega) (by simp; omega) hB.size ?_; intro v' w3 hown1 hgrow1 _; have hb1 := (Below.refl w2.heap.size wr).grown hgrow1 hB.size fun j ej => (hrow.lt j ej).1))
            go_ret
            exact ⟨_, rfl, (Rd.of_own hown2).ints_end HM.out (by simp), (B1.trans (B2.mono B1.size)).trans ((hB.trans (hb1.grown hgrow2 (by have := hB.size; have := hb1.size; omega) fun j ej => (hown1.lt j ej).1)).mono (by have := B1.size; have := B2.size; omega))⟩
          | cons y q =>
            obtain ⟨bp, op_, cp, rfl, hcp, hbp, hxc⟩ := hp.ints_open
            obtain ⟨bq, oq, cq, rfl, hcq, hbq, hyc⟩ := hq'.ints_open
            have hxl := hpl x (by simp)
            have hyl := hql y (by simp)
            obtain ⟨bl, ol, cl, hv, hcl, hbl, hxs⟩ := HR.out.open_ (by rw [strsC_len]; omega)
            rw [strsC_len] at hv hcl
            subst hv
            have hlx : wr.cell? ⟨bl, ol + x, none⟩ = some (.string l[x]) := (hB.cell (p := ⟨bl, ol + x, none⟩) (Nat.lt_of_lt_of_le (Nat.lt_of_lt_of_le hbl B1.size) B2.size)).trans ((B2.cell (p := ⟨bl, ol + x, none⟩) (Nat.lt_of_lt_of_le hbl B1.size)).trans ((B1.cell (p := ⟨bl, ol + x, none⟩) hbl).trans (hxs x _ (strsC_get l hxl))))
            have hly : wr.cell? ⟨bl, ol + y, none⟩ = some (.string l[y]) := (hB.cell (p := ⟨bl, ol + y, none⟩) (Nat.lt_of_lt_of_le (Nat.lt_of_lt_of_le hbl B1.size) B2.size)).trans ((B2.cell (p := ⟨bl, ol + y, none⟩) (Nat.lt_of_lt_of_le hbl B1.size)).trans ((B1.cell (p := ⟨bl, ol + y, none⟩) hbl).trans (hxs y _ (strsC_get l hyl))))
            have HP := Lib.hid hp
            have HQ := Lib.hid hq'
            have HM := Lib.hid hM
            have HPL := Lib.hid hpl
            have HQL := Lib.hid hql
            have hix : (x : Int) < (l.length : Int) := by omega
            have hiy : (y : Int) < (l.length : Int) := by omega
            simp only [List.length_cons] at hlen
            clear hp hq' hM hpl hql hxs
            cases hle : Wp.le (Wp.at8 l x) (Wp.at8 l y) with
            | true =>
              have hcmp : (Op.bytesLess l[x].toList l[y].toList || l[x].toList == l[y].toList) = true := by
                rw [Lib.toList_data, Lib.toList_data, ← Wp.at8_eq hxl, ← Wp.at8_eq hyl]; exact hle
              have HN := Lib.hid fun w3 a2 c2 => @MgRel.left w2 wr w3 l (Wp.mrg (Wp.at8 l) A B) x y p q r bp op_ cp _ _ a2 c2 HP.out HQ.out HM.out hle HPL.out HQL.out hlen hB
              clear hle
              go_wp2_with fail
              go_quiet (fail)
              rename_i nq
              have hd := drew_facts (w := wr) nq
              generalize wr.drewN nq = wd at hd ⊢
              have hrow := hd.own hrow
              have hB1 := hd.below hB
              have hB2 := hd.below (Below.refl w2.heap.size wr)
              have he1 := hd.cell hxc
              go_wp2_with (at_builtin; refine wpList_append_own _ rfl _ _ 38 rfl w2.heap.size IT i0 (.int .i64 0) 1 8 Try.underlying38 hi hz0 hz1 hz2 rfl (by decide) _ _ _ rfl (hrow.alloc _) ⟨wd.heap.size, 0, none⟩ 1 1 [.int .i64 (x : Int)] rfl rfl (one_new _ _ _) (by simp [Value.oneCell']) (by unfold maxLen; omega) (by omega) (by have := hB1.size; simp; omega) ?_; intro v' w3 hown' hgrow _; obtain ⟨a2, c2, rfl⟩ := owns_slice hown')
              go_roundw
              case rel => exact HN.out _ _ _ hown' ((hB2.alloc hB1.size _).grown hgrow (by have := hB1.size; simp; omega) fun j ej => (hrow.lt j ej).1) ⟨_, _, _, rfl⟩
              case measure => simp [sliceLen] <;> omega
            | false =>
              have hcmp : (Op.bytesLess l[x].toList l[y].toList || l[x].toList == l[y].toList) = false := by
                rw [Lib.toList_data, Lib.toList_data, ← Wp.at8_eq hxl, ← Wp.at8_eq hyl]; exact hle
              have HN := Lib.hid fun w3 a2 c2 => @MgRel.right w2 wr w3 l (Wp.mrg (Wp.at8 l) A B) x y p q r bq oq cq _ _ a2 c2 HP.out HQ.out HM.out hle HPL.out HQL.out hlen hB
              clear hle
              go_wp2_with fail
              go_quiet (fail)
              rename_i nq
              have hd := drew_facts (w := wr) nq
              generalize wr.drewN nq = wd at hd ⊢
              have hrow := hd.own hrow
              have hB1 := hd.below hB
              have hB2 := hd.below (Below.refl w2.heap.size wr)
              have he1 := hd.cell hyc
              go_wp2_with (at_builtin; refine wpList_append_own _ rfl _ _ 38 rfl w2.heap.size IT i0 (.int .i64 0) 1 8 Try.underlying38 hi hz0 hz1 hz2 rfl (by decide) _ _ _ rfl (hrow.alloc _) ⟨wd.heap.size, 0, none⟩ 1 1 [.int .i64 (y : Int)] rfl rfl (one_new _ _ _) (by simp [Value.oneCell']) (by unfold maxLen; omega) (by omega) (by have := hB1.size; simp; omega) ?_; intro v' w3 hown' hgrow _; obtain ⟨a2, c2, rfl⟩ := owns_slice hown')
              go_roundw
              case rel => exact HN.out _ _ _ hown' ((hB2.alloc hB1.size _).grown hgrow (by have := hB1.size; simp; omega) fun j ej => (hrow.lt j ej).1) ⟨_, _, _, rfl⟩
              case measure => simp [sliceLen] <;> omega
end Go.Proofs.Ytnffinpjhfonjaa.Ww
