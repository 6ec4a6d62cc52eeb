/-
  A fresh cell.
  flatironref04.order: places in a list, by the words there, then by themselves.
  flatironref04.Unique: each word once.
-/
import Derived.Test.YtenokbceamcekaaGreatDoorQWReads
import Derived.OwnWalk
import Derived.Maps.AppendAt
import Derived.Laws.OwnMore
import Derived.Test.YtenokbceamcekaaGreatDoorQWUniq
import Derived.StillTailTactics
namespace Go.Proofs.YtenokbceamcekaaGreatDoor.Ww
open Go.RowKit Go.Proofs.YtenokbceamcekaaGreatDoor
set_option maxRecDepth 100000

theorem one_new (wr : World) (x : Value) (T : TypeId) : ∀ (j : Nat) (u : Value), [x][j]? = some u → (wr.alloc (.cells #[x] T)).cell? ((⟨wr.heap.size, 0, none⟩ : Addr).add j) = some u := by
  intro j u hj
  rw [Addr.add_lit, World.cell?_alloc_at _ _ _ _ (by simp)]
  match j, hj with
  | 0, hj => simpa using hj
end Go.Proofs.YtenokbceamcekaaGreatDoor.Ww
namespace Go.Proofs.YtenokbceamcekaaGreatDoor.Ww
open Go.RowKit Go.Proofs.YtenokbceamcekaaGreatDoor
set_option maxRecDepth 100000

abbrev IT : TypeId := 3
theorem infoI : (Tryz.prog.info? IT).map (fun i => (i.zero, i.size, i.bytes)) = some (some (.int .i64 0), 1, 8) := by kernel_rfl
def sliceLen : Value → Nat
  | .slice _ n _ => n
  | _ => 0

/-- Some slice that reads as places. -/
def OrdPost (w : World) (o : List Nat) (e : Ending) (w' : World) : Prop := ∃ v, e = .returned v ∧ Rd w' w'.heap.size v (intsC o) ∧ Below w.heap.size w w'

/-- A slice that is not nil. -/
def At (v : Value) (n : Nat) : Prop := ∃ b o c, v = .slice (some ⟨b, o, none⟩) n c
theorem At.ite {b o c n : Nat} : At (.slice (if c = 1 then some ⟨b, o, none⟩ else some ⟨b, o + 1, none⟩) n (c - 1)) n := by
  by_cases h : c = 1
  · rw [if_pos h]; exact ⟨_, _, _, rfl⟩
  · rw [if_neg h]; exact ⟨_, _, _, rfl⟩

/-- What the loop's head knows. -/
def MgRel (w2 : World) (l : List ByteArray) (M : List Nat) (va vb vo : Value) (wr : World) : Prop :=
  ∃ (p q r : List Nat) (a : Option Addr) (c : Nat), Rd wr w2.heap.size va (intsC p) ∧ Rd wr w2.heap.size vb (intsC q) ∧ vo = .slice a r.length c ∧ wr.ownsRow w2.heap.size IT 1 (.slice a r.length c) r.length (intsC r) ∧
    r ++ Wp.mrg (Wp.at8 l) p q = M ∧ (∀ x ∈ p, x < l.length) ∧ (∀ x ∈ q, x < l.length) ∧ r.length + p.length + q.length ≤ l.length ∧ Below w2.heap.size w2 wr ∧ At va p.length ∧ At vb q.length

theorem Rd.ints_open {w : World} {B : Nat} {v : Value} {x : Nat} {p : List Nat} (h : Rd w B v (intsC (x :: p))) : ∃ b o c, v = .slice (some ⟨b, o, none⟩) (p.length + 1) c ∧ p.length + 1 ≤ c ∧ b < B ∧ w.cell? ⟨b, o, none⟩ = some (.int .i64 (x : Int)) := by
  obtain ⟨b, o, c, hv, hc, hb, hx⟩ := h.open_ (by simp [intsC])
  rw [intsC_len] at hv hc
  exact ⟨b, o, c, hv, hc, hb, hx 0 _ rfl⟩
theorem Rd.ints_tail {w : World} {B : Nat} {b o c n : Nat} {x : Nat} {p : List Nat} (h : Rd w B (.slice (some ⟨b, o, none⟩) n c) (intsC (x :: p))) :
    Rd w B (.slice (if c = 1 then some ⟨b, o, none⟩ else some ⟨b, o + 1, none⟩) p.length (c - 1)) (intsC p) := by
  have := h.tail_ (x := .int .i64 (x : Int)) (xs := intsC p)
  rw [intsC_len] at this
  by_cases hc : c = 1
  · rw [if_pos hc]
    rcases this.2 with h' | h'
    · omega
    · have hp : p = [] := by simpa [intsC] using h'
      subst hp
      exact Rd.nil _ _ _ _
  · rw [if_neg hc]; exact this.1
theorem Rd.cells_at {w : World} {B : Nat} {v : Value} {xs : List Value} {b o n c : Nat} (h : Rd w B v xs) (hv : v = .slice (some ⟨b, o, none⟩) n c) : ∀ j u, xs[j]? = some u → w.cell? ((⟨b, o, none⟩ : Addr).add j) = some u := by
  subst hv
  obtain ⟨a, c', hv, _, h⟩ := h
  intro j u hj
  have hne : xs ≠ [] := fun e => by rw [e] at hj; cases hj
  obtain ⟨b', o', ha, _, hx⟩ := h hne
  cases hv
  cases ha
  rw [Addr.add_lit]
  exact hx j u hj
theorem Rd.ints_end {w : World} {B : Nat} {v : Value} {l : List ByteArray} {M p q r : List Nat} (h : Rd w B v (intsC r ++ intsC p ++ intsC q)) (hM : r ++ Wp.mrg (Wp.at8 l) p q = M) (hpq : p = [] ∨ q = []) : Rd w B v (intsC M) := by
  have e : r ++ p ++ q = M := by
    rcases hpq with rfl | rfl
    · rw [← hM, List.append_nil, Wp.mrg_left]
    · rw [← hM, Wp.mrg_nil, List.append_nil]
  rw [← e]
  simpa [intsC] using h
theorem ints_one (l : List Nat) : ∀ u ∈ intsC l, u.oneCell' = true := by
  intro u hu
  obtain ⟨_, _, rfl⟩ := List.mem_map.1 hu
  rfl
theorem intsC_snoc (l : List Nat) (x : Nat) : intsC (l ++ [x]) = intsC l ++ [Value.int .i64 (x : Int)] := by simp [intsC]

theorem MgRel.left {w2 wr w3 : World} {l : List ByteArray} {M : List Nat} {x y : Nat} {p q r : List Nat} {b o cp n : Nat} {vb : Value} {a2 : Option Addr} {c2 : Nat}
    (hp : Rd wr w2.heap.size (.slice (some ⟨b, o, none⟩) n cp) (intsC (x :: p))) (hq : Rd wr w2.heap.size vb (intsC (y :: q))) (hM : r ++ Wp.mrg (Wp.at8 l) (x :: p) (y :: q) = M) (hle : Wp.le (Wp.at8 l x) (Wp.at8 l y) = true)
    (hpl : ∀ z ∈ x :: p, z < l.length) (hql : ∀ z ∈ y :: q, z < l.length) (hlen : r.length + (p.length + 1) + (q.length + 1) ≤ l.length) (hB : Below w2.heap.size w2 wr)
    (ho : w3.ownsRow w2.heap.size IT 1 (.slice a2 (r.length + 1) c2) (r.length + 1) (intsC r ++ [.int .i64 (x : Int)])) (h3 : Below w2.heap.size wr w3) (hb2 : At vb (q.length + 1)) :
    MgRel w2 l M (.slice (if cp = 1 then some ⟨b, o, none⟩ else some ⟨b, o + 1, none⟩) p.length (cp - 1)) vb (.slice a2 (r.length + 1) c2) w3 := by
  have e : (r ++ [x]).length = r.length + 1 := by simp
  refine ⟨p, y :: q, r ++ [x], a2, c2, hp.ints_tail.below h3, hq.below h3, by rw [e], by rw [e, intsC_snoc]; exact ho, ?_, fun z hz => hpl z (by simp [hz]), hql, by simp; omega, hB.trans h3, At.ite, hb2⟩
  rw [← hM, Wp.mrg_yes hle, List.append_assoc]; rfl
theorem MgRel.right {w2 wr w3 : World} {l : List ByteArray} {M : List Nat} {x y : Nat} {p q r : List Nat} {b o cq n : Nat} {va : Value} {a2 : Option Addr} {c2 : Nat}
    (hp : Rd wr w2.heap.size va (intsC (x :: p))) (hq : Rd wr w2.heap.size (.slice (some ⟨b, o, none⟩) n cq) (intsC (y :: q))) (hM : r ++ Wp.mrg (Wp.at8 l) (x :: p) (y :: q) = M) (hle : Wp.le (Wp.at8 l x) (Wp.at8 l y) = false)
    (hpl : ∀ z ∈ x :: p, z < l.length) (hql : ∀ z ∈ y :: q, z < l.length) (hlen : r.length + (p.length + 1) + (q.length + 1) ≤ l.length) (hB : Below w2.heap.size w2 wr)
    (ho : w3.ownsRow w2.heap.size IT 1 (.slice a2 (r.length + 1) c2) (r.length + 1) (intsC r ++ [.int .i64 (y : Int)])) (h3 : Below w2.heap.size wr w3) (hb2 : At va (p.length + 1)) :
    MgRel w2 l M va (.slice (if cq = 1 then some ⟨b, o, none⟩ else some ⟨b, o + 1, none⟩) q.length (cq - 1)) (.slice a2 (r.length + 1) c2) w3 := by
  have e : (r ++ [y]).length = r.length + 1 := by simp
  refine ⟨x :: p, q, r ++ [y], a2, c2, hp.below h3, hq.ints_tail.below h3, by rw [e], by rw [e, intsC_snoc]; exact ho, ?_, hpl, fun z hz => hql z (by simp [hz]), by simp; omega, hB.trans h3, hb2, At.ite⟩
  rw [← hM, Wp.mrg_no hle, List.append_assoc]; rfl

structure Drewn (w wd : World) : Prop where
  below : ∀ {B : Nat} {W : World}, Below B W w → Below B W wd
  cell : ∀ {a : Addr} {u : Value}, w.cell? a = some u → wd.cell? a = some u
  frozen : ∀ {a : Addr} {u : Bool}, w.frozen? a = u → wd.frozen? a = u
  own : ∀ {base : Nat} {e : TypeId} {size : Nat} {v : Value} {n : Nat} {xs : List Value}, w.ownsRow base e size v n xs → wd.ownsRow base e size v n xs
  rd : ∀ {B : Nat} {v : Value} {xs : List Value}, Rd w B v xs → Rd wd B v xs
theorem drew_facts {w : World} (n : Nat) : Drewn w (w.drewN n) := ⟨fun h => below_drewN h n, fun h => h, fun h => h, fun h => h, fun h => h⟩

set_option maxHeartbeats 4000000 in
theorem order_small (l : List ByteArray) (f t : Nat) (w : World) (v : Value) (hft : f ≤ t) (htl : t ≤ l.length) (h2 : t - f < 2) :
    Calls Tryz.prog 22 #[v, .int .i64 (f : Int), .int .i64 (t : Int)] w (OrdPost w (if f = t then [] else [f])) := by
  have hlt : (t : Int) - (f : Int) < 2 := by omega
  by_cases e : f = t
  · rw [if_pos e]
    subst e
    have hz : ((f : Int) == (f : Int)) = true := beq_self_eq_true _
    have HP : Hid (OrdPost w [] (.returned (.slice none 0 0)) w) := Lib.hid ⟨_, rfl, Rd.nil _ _ _ _, Below.refl _ _⟩
    go_enter Tryz.func22, Tryz.ntmps22
    go_wp2_with fail
    go_ret
    exact HP.out
  · have hz : ((f : Int) == (t : Int)) = false := beq_eq_false_iff_ne.2 (by omega)
    rw [if_neg e]
    clear e
    go_enter Tryz.func22, Tryz.ntmps22
    go_wp2_with fail
    go_ret
    refine ⟨_, rfl, ?_, (Below.refl _ _).alloc (Nat.le_refl _) _⟩
    refine ⟨_, _, rfl, Nat.le_refl _, fun _ => ⟨w.heap.size, 0, rfl, by simp, fun j u hj => ?_⟩⟩
    rw [World.cell?_alloc_at _ _ _ _ (by simp)]
    match j, hj with
    | 0, hj => simpa [intsC] using hj

set_option maxHeartbeats 4000000 in
theorem order_any (l : List ByteArray) (hl : l.length ≤ 100000) : ∀ (n f t : Nat) (w : World) (v : Value), f ≤ t → t ≤ l.length → t - f ≤ n + 1 → Rd w w.heap.size v (strsC l) →
    Calls Tryz.prog 22 #[v, .int .i64 (f : Int), .int .i64 (t : Int)] w (OrdPost w (Wp.ord (Wp.at8 l) n f t)) := by
  intro n
  induction n with
  | zero =>
    intro f t w v hft htl hn hr
    exact order_small l f t w v hft htl (by omega)
  | succ n ih =>
    intro f t w v hft htl hn hr
    by_cases h2 : t - f < 2
    · rw [Wp.ord, if_pos h2]
      exact order_small l f t w v hft htl h2
    · obtain ⟨h, hh⟩ : ∃ h : Nat, h = (f + t) / 2 := ⟨_, rfl⟩
      have hq : ((f : Int) + (t : Int)) / 2 = (h : Int) := by omega
      have h1 : f < h := by omega
      have h3 : h < t := by omega
      have HO : Hid (Wp.ord (Wp.at8 l) (n + 1) f t = Wp.mrg (Wp.at8 l) (Wp.ord (Wp.at8 l) n f h) (Wp.ord (Wp.at8 l) n h t)) := Lib.hid (by rw [Wp.ord, if_neg h2, hh])
      have hlt : ¬ ((t : Int) - (f : Int) < 2) := by omega
      obtain ⟨_, m1, l1⟩ := Wp.ord_all (Wp.at8 l) n f h (by omega) (by omega)
      obtain ⟨_, m2, l2⟩ := Wp.ord_all (Wp.at8 l) n h t (by omega) (by omega)
      obtain ⟨A, hA⟩ : ∃ A, Wp.ord (Wp.at8 l) n f h = A := ⟨_, rfl⟩
      obtain ⟨B, hB⟩ : ∃ B, Wp.ord (Wp.at8 l) n h t = B := ⟨_, rfl⟩
      rw [hA] at m1 l1 HO
      rw [hB] at m2 l2 HO
      have M1 := Lib.hid m1
      have M2 := Lib.hid m2
      have L1 := Lib.hid l1
      have L2 := Lib.hid l2
      have IA := Lib.hid (ih f h w v (by omega) (by omega) (by omega) hr)
      have IB := Lib.hid fun w1 => ih h t w1 v (by omega) (by omega) (by omega)
      rw [hA] at IA
      rw [hB] at IB
      have HR := Lib.hid hr
      clear ih hr m1 m2 l1 l2 hA hB hh
      rw [HO.out]
      obtain ⟨i0, hi, hz0, hz1, hz2⟩ := info_parts infoI
      go_enter Tryz.func22, Tryz.ntmps22
      go_wp2_with fail
      refine IA.out.mono ?_
      rintro e w1 ⟨va, rfl, ra, B1⟩
      have RA := Lib.hid ra
      clear ra
      go_wp2_with fail
      refine (IB.out w1 ((HR.out.below B1).more B1.size)).mono ?_
      rintro e w2 ⟨vb, rfl, rb, B2⟩
      have RB := Lib.hid rb
      clear rb
      go_wp2_with fail
      go_loopw [7, 8, 9] (fun va vb vo wr => MgRel w2 l (Wp.mrg (Wp.at8 l) A B) va vb vo wr) (fun va vb _ _ => sliceLen va + sliceLen vb)
      case atStart =>
        refine ⟨A, B, [], none, 0, (RA.out.below B2).more B2.size, RB.out, rfl, World.ownsRow_nil _ _ _ _, rfl, fun x hx => ?_, fun x hx => ?_, ?_, Below.refl _ _, ?_, ?_⟩
        · have := (M1.out x).1 hx; omega
        · have := (M2.out x).1 hx; omega
        · have := L1.out; have := L2.out; simp; omega
        · obtain ⟨b, o, c, hv, _⟩ := RA.out.open_ (by rw [intsC_len, L1.out]; omega)
          exact ⟨b, o, c, by rw [hv, intsC_len]⟩
        · obtain ⟨b, o, c, hv, _⟩ := RB.out.open_ (by rw [intsC_len, L2.out]; omega)
          exact ⟨b, o, c, by rw [hv, intsC_len]⟩
      case round =>
        obtain ⟨p, q, r, a, c, hp, hq', rfl, hrow, hM, hpl, hql, hlen, hB, hap, haq⟩ := hrel
        cases p with
        | nil =>
          obtain ⟨bp, op_, cp, rfl⟩ := hap
          obtain ⟨bq, oq, cq, rfl⟩ := haq
          have HM := Lib.hid hM
          have HP := Lib.hid hp
          have HQ := Lib.hid hq'
          clear hM hp hq' hpl hql
          simp only [List.length_nil] at hlen
          go_wp2_with (first
            | (at_builtin; refine wpList_append_own _ rfl _ _ 49 rfl w2.heap.size IT i0 (.int .i64 0) 1 8 Tryz.underlying49 hi hz0 hz1 hz2 rfl (by decide) _ _ _ rfl hown1 ⟨bq, oq, none⟩ _ _ (intsC q) rfl (by rw [intsC_len]; simp) ((HQ.out.below hb1).cells_at rfl) (ints_one _) (by unfold maxLen; simp; omega) (by simp; omega) (by have := hB.size; have := hb1.size; omega) ?_; intro v'' w4 hown2 hgrow2 _)
            | (at_builtin; refine wpList_append_own _ rfl _ _ 49 rfl w2.heap.size IT i0 (.int .i64 0) 1 8 Tryz.underlying49 hi hz0 hz1 hz2 rfl (by decide) _ _ _ rfl hrow ⟨bp, op_, none⟩ _ _ (intsC []) rfl (by rw [intsC_len]; simp) (HP.out.cells_at rfl) (ints_one _) (by unfold maxLen; simp; omega) (by simp; omega) hB.size ?_; intro v' w3 hown1 hgrow1 _; have hb1 := (Below.refl w2.heap.size wr).grown hgrow1 hB.size fun j ej => (hrow.lt j ej).1))
          go_ret
          exact ⟨_, rfl, (Rd.of_own hown2).ints_end HM.out (by simp), (B1.trans (B2.mono B1.size)).trans ((hB.trans (hb1.grown hgrow2 (by have := hB.size; have := hb1.size; omega) fun j ej => (hown1.lt j ej).1)).mono (by have := B1.size; have := B2.size; omega))⟩
        | cons x p =>
          cases q with
          | nil =>
            obtain ⟨bp, op_, cp, rfl⟩ := hap
            obtain ⟨bq, oq, cq, rfl⟩ := haq
            have HM := Lib.hid hM
            have HP := Lib.hid hp
            have HQ := Lib.hid hq'
            clear hM hp hq' hpl hql
            simp only [List.length_cons, List.length_nil] at hlen
            go_wp2_with (first
              | (at_builtin; refine wpList_append_own _ rfl _ _ 49 rfl w2.heap.size IT i0 (.int .i64 0) 1 8 Tryz.underlying49 hi hz0 hz1 hz2 rfl (by decide) _ _ _ rfl hown1 ⟨bq, oq, none⟩ _ _ (intsC []) rfl (by rw [intsC_len]; simp) ((HQ.out.below hb1).cells_at rfl) (ints_one _) (by unfold maxLen; simp; omega) (by simp; omega) (by have := hB.size; have := hb1.size; omega) ?_; intro v'' w4 hown2 hgrow2 _)
              | (at_builtin; refine wpList_append_own _ rfl _ _ 49 rfl w2.heap.size IT i0 (.int .i64 0) 1 8 Tryz.underlying49 hi hz0 hz1 hz2 rfl (by decide) _ _ _ rfl hrow ⟨bp, op_, none⟩ _ _ (intsC (x :: p)) rfl (by rw [intsC_len]; simp) (HP.out.cells_at rfl) (ints_one _) (by unfold maxLen; simp; omega) (by simp; omega) hB.size ?_; intro v' w3 hown1 hgrow1 _; have hb1 := (Below.refl w2.heap.size wr).grown hgrow1 hB.size fun j ej => (hrow.lt j ej).1))
            go_ret
            exact ⟨_, rfl, (Rd.of_own hown2).ints_end HM.out (by simp), (B1.trans (B2.mono B1.size)).trans ((hB.trans (hb1.grown hgrow2 (by have := hB.size; have := hb1.size; omega) fun j ej => (hown1.lt j ej).1)).mono (by have := B1.size; have := B2.size; omega))⟩
          | cons y q =>
            obtain ⟨bp, op_, cp, rfl, hcp, hbp, hxc⟩ := hp.ints_open
            obtain ⟨bq, oq, cq, rfl, hcq, hbq, hyc⟩ := hq'.ints_open
            have hxl := hpl x (by simp)
            have hyl := hql y (by simp)
            obtain ⟨bl, ol, cl, hv, hcl, hbl, hxs⟩ := HR.out.open_ (by rw [strsC_len]; omega)
            rw [strsC_len] at hv hcl
            subst hv
            have hlx : wr.cell? ⟨bl, ol + x, none⟩ = some (.string l[x]) := (hB.cell (p := ⟨bl, ol + x, none⟩) (Nat.lt_of_lt_of_le (Nat.lt_of_lt_of_le hbl B1.size) B2.size)).trans ((B2.cell (p := ⟨bl, ol + x, none⟩) (Nat.lt_of_lt_of_le hbl B1.size)).trans ((B1.cell (p := ⟨bl, ol + x, none⟩) hbl).trans (hxs x _ (strsC_get l hxl))))
            have hly : wr.cell? ⟨bl, ol + y, none⟩ = some (.string l[y]) := (hB.cell (p := ⟨bl, ol + y, none⟩) (Nat.lt_of_lt_of_le (Nat.lt_of_lt_of_le hbl B1.size) B2.size)).trans ((B2.cell (p := ⟨bl, ol + y, none⟩) (Nat.lt_of_lt_of_le hbl B1.size)).trans ((B1.cell (p := ⟨bl, ol + y, none⟩) hbl).trans (hxs y _ (strsC_get l hyl))))
            have HP := Lib.hid hp
            have HQ := Lib.hid hq'
            have HM := Lib.hid hM
            have HPL := Lib.hid hpl
            have HQL := Lib.hid hql
            have hix : (x : Int) < (l.length : Int) := by omega
            have hiy : (y : Int) < (l.length : Int) := by omega
            simp only [List.length_cons] at hlen
            clear hp hq' hM hpl hql hxs
            cases hle : Wp.le (Wp.at8 l x) (Wp.at8 l y) with
            | true =>
              have hcmp : (Op.bytesLess l[x].toList l[y].toList || l[x].toList == l[y].toList) = true := by
                rw [Lib.toList_data, Lib.toList_data, ← Wp.at8_eq hxl, ← Wp.at8_eq hyl]; exact hle
              have HN := Lib.hid fun w3 a2 c2 => @MgRel.left w2 wr w3 l (Wp.mrg (Wp.at8 l) A B) x y p q r bp op_ cp _ _ a2 c2 HP.out HQ.out HM.out hle HPL.out HQL.out hlen hB
              clear hle
              go_wp2_with fail
              go_quiet (fail)
              rename_i nq
              have hd := drew_facts (w := wr) nq
              generalize wr.drewN nq = wd at hd ⊢
              have hrow := hd.own hrow
              have hB1 := hd.below hB
              have hB2 := hd.below (Below.refl w2.heap.size wr)
              have he1 := hd.cell hxc
              go_wp2_with (at_builtin; refine wpList_append_own _ rfl _ _ 49 rfl w2.heap.size IT i0 (.int .i64 0) 1 8 Tryz.underlying49 hi hz0 hz1 hz2 rfl (by decide) _ _ _ rfl (hrow.alloc _) ⟨wd.heap.size, 0, none⟩ 1 1 [.int .i64 (x : Int)] rfl rfl (one_new _ _ _) (by simp [Value.oneCell']) (by unfold maxLen; omega) (by omega) (by have := hB1.size; simp; omega) ?_; intro v' w3 hown' hgrow _; obtain ⟨a2, c2, rfl⟩ := owns_slice hown')
              go_roundw
              case rel => exact HN.out _ _ _ hown' ((hB2.alloc hB1.size _).grown hgrow (by have := hB1.size; simp; omega) fun j ej => (hrow.lt j ej).1) ⟨_, _, _, rfl⟩
              case measure => simp [sliceLen] <;> omega
            | false =>
              have hcmp : (Op.bytesLess l[x].toList l[y].toList || l[x].toList == l[y].toList) = false := by
                rw [Lib.toList_data, Lib.toList_data, ← Wp.at8_eq hxl, ← Wp.at8_eq hyl]; exact hle
              have HN := Lib.hid fun w3 a2 c2 => @MgRel.right w2 wr w3 l (Wp.mrg (Wp.at8 l) A B) x y p q r bq oq cq _ _ a2 c2 HP.out HQ.out HM.out hle HPL.out HQL.out hlen hB
              clear hle
              go_wp2_with fail
              go_quiet (fail)
              rename_i nq
              have hd := drew_facts (w := wr) nq
              generalize wr.drewN nq = wd at hd ⊢
              have hrow := hd.own hrow
              have hB1 := hd.below hB
              have hB2 := hd.below (Below.refl w2.heap.size wr)
              have he1 := hd.cell hyc
              go_wp2_with (at_builtin; refine wpList_append_own _ rfl _ _ 49 rfl w2.heap.size IT i0 (.int .i64 0) 1 8 Tryz.underlying49 hi hz0 hz1 hz2 rfl (by decide) _ _ _ rfl (hrow.alloc _) ⟨wd.heap.size, 0, none⟩ 1 1 [.int .i64 (y : Int)] rfl rfl (one_new _ _ _) (by simp [Value.oneCell']) (by unfold maxLen; omega) (by omega) (by have := hB1.size; simp; omega) ?_; intro v' w3 hown' hgrow _; obtain ⟨a2, c2, rfl⟩ := owns_slice hown')
              go_roundw
              case rel => exact HN.out _ _ _ hown' ((hB2.alloc hB1.size _).grown hgrow (by have := hB1.size; simp; omega) fun j ej => (hrow.lt j ej).1) ⟨_, _, _, rfl⟩
              case measure => simp [sliceLen] <;> omega
end Go.Proofs.YtenokbceamcekaaGreatDoor.Ww
namespace Go.Proofs.YtenokbceamcekaaGreatDoor.Ww
open Go.RowKit Go.Proofs.YtenokbceamcekaaGreatDoor
set_option maxRecDepth 100000

abbrev STr : TypeId := 9
theorem infoSr : (Tryz.prog.info? STr).map (fun i => (i.zero, i.size, i.bytes)) = some (some (.string ByteArray.empty), 1, 16) := by kernel_rfl
theorem strsC_snocr (l : List ByteArray) (x : ByteArray) : strsC (l ++ [x]) = strsC l ++ [Value.string x] := by simp [strsC]
abbrev BT : TypeId := 4
theorem infoB : (Tryz.prog.info? BT).map (fun i => (i.zero, i.size, i.bytes)) = some (some (.bool false), 1, 1) := by kernel_rfl
def boolsC (l : List Bool) : List Value := l.map Value.bool
theorem boolsC_len (l : List Bool) : (boolsC l).length = l.length := by simp [boolsC]
theorem boolsC_set (l : List Bool) (j : Nat) (b : Bool) : boolsC (l.set j b) = (boolsC l).set j (.bool b) := by simp [boolsC, List.map_set]

abbrev ordL (l : List ByteArray) : List Nat := Wp.ord (Wp.at8 l) l.length 0 l.length
abbrev agnL (l : List ByteArray) (k : Nat) : List Bool := Wp.agn (Wp.at8 l) l.length (ordL l) k

theorem getD_of {o : List Nat} {i x : Nat} (h : i < o.length) (hx : o[i] = x) : o.getD i 0 = x := by
  subst hx; simp [List.getD, h]

/-- What the first loop's head knows. -/
def R1 (w1 : World) (l : List ByteArray) (g : Nat) (i : Value) (wr : World) : Prop :=
  ∃ k : Nat, 1 ≤ k ∧ (k ≤ 1 ∨ k ≤ l.length) ∧ i = .int .i64 k ∧ wr.ownsRow w1.heap.size BT 1 (.slice (some ⟨g, 0, none⟩) l.length l.length) l.length (boolsC (agnL l k)) ∧ Below w1.heap.size w1 wr
theorem R1.next {w1 wr : World} {l : List ByteArray} {g k x : Nat} (b : Bool) (hk : k < l.length) (hk1 : 1 ≤ k) (hx : (ordL l).getD k 0 = x) (hb : (Wp.at8 l ((ordL l).getD k 0) == Wp.at8 l ((ordL l).getD (k - 1) 0)) = b) (hg : w1.heap.size ≤ g)
    (hr : wr.ownsRow w1.heap.size BT 1 (.slice (some ⟨g, 0, none⟩) l.length l.length) l.length (boolsC (agnL l k))) (hB : Below w1.heap.size w1 wr) :
    R1 w1 l g (.int .i64 ((k : Int) + 1)) (wr.setCell ⟨g, x, none⟩ (.bool b)) := by
  obtain ⟨m, rfl⟩ : ∃ m, k = m + 1 := ⟨k - 1, by omega⟩
  refine ⟨m + 2, by omega, .inr (by omega), by go_num, ?_, hB.setCell (by simpa using hg) _⟩
  have := (hr.stored x (.bool b)).1
  rwa [← boolsC_set, show (agnL l (m + 1)).set x b = agnL l (m + 2) by rw [← hx, ← hb]; rfl] at this

theorem marks_agn {l : List ByteArray} {k : Nat} (hk1 : 1 ≤ k) (hk2 : k ≤ 1 ∨ k ≤ l.length) (h : l.length ≤ k) : agnL l k = Wp.marks l := by
  have key : ∀ m, m = l.length → agnL l k = agnL l m := by
    intro m hm
    rcases Nat.lt_or_ge 0 m with h0 | h0
    · rw [show k = m by omega]
    · obtain rfl : m = 0 := by omega
      obtain rfl : k = 1 := by omega
      rfl
  rw [key (ordL l).length (Wp.ord_len l)]
  rfl

/-- What the second loop's head knows. -/
def R2 (w1 : World) (l : List ByteArray) (g : Nat) (v i : Value) (wr : World) : Prop :=
  ∃ (k : Nat) (a : Option Addr) (c : Nat), k ≤ l.length ∧ i = .int .i64 k ∧ v = .slice a (Wp.uniq (l.take k)).length c ∧ wr.ownsRow (g + 1) STr 1 (.slice a (Wp.uniq (l.take k)).length c) (Wp.uniq (l.take k)).length (strsC (Wp.uniq (l.take k))) ∧
    g + 1 ≤ wr.heap.size ∧ (∀ j u, (boolsC (Wp.marks l))[j]? = some u → wr.cell? ⟨g, j, none⟩ = some u) ∧ w1.heap.size ≤ g ∧ Below w1.heap.size w1 wr

theorem R2.skip {w1 wr : World} {l : List ByteArray} {g k : Nat} {a : Option Addr} {c : Nat} (hk : k < l.length) (hu : Wp.uniq (l.take (k + 1)) = Wp.uniq (l.take k))
    (hr : wr.ownsRow (g + 1) STr 1 (.slice a (Wp.uniq (l.take k)).length c) (Wp.uniq (l.take k)).length (strsC (Wp.uniq (l.take k)))) (hs : g + 1 ≤ wr.heap.size)
    (hm : ∀ j u, (boolsC (Wp.marks l))[j]? = some u → wr.cell? ⟨g, j, none⟩ = some u) (hg : w1.heap.size ≤ g) (hB : Below w1.heap.size w1 wr) :
    R2 w1 l g (.slice a (Wp.uniq (l.take k)).length c) (.int .i64 ((k : Int) + 1)) wr :=
  ⟨k + 1, a, c, hk, by go_num, by rw [hu], by rw [hu]; exact hr, hs, hm, hg, hB⟩
theorem R2.app {w1 wr w3 : World} {l : List ByteArray} {g k : Nat} {a2 : Option Addr} {c2 : Nat} (hk : k < l.length) (hu : Wp.uniq (l.take (k + 1)) = Wp.uniq (l.take k) ++ [l[k]])
    (hs : g + 1 ≤ wr.heap.size) (hm : ∀ j u, (boolsC (Wp.marks l))[j]? = some u → wr.cell? ⟨g, j, none⟩ = some u) (hg : w1.heap.size ≤ g) (hB : Below w1.heap.size w1 wr)
    (hr : w3.ownsRow (g + 1) STr 1 (.slice a2 ((Wp.uniq (l.take k)).length + 1) c2) ((Wp.uniq (l.take k)).length + 1) (strsC (Wp.uniq (l.take k)) ++ [.string l[k]])) (h3 : Below (g + 1) wr w3) :
    R2 w1 l g (.slice a2 ((Wp.uniq (l.take k)).length + 1) c2) (.int .i64 ((k : Int) + 1)) w3 := by
  have el : (Wp.uniq (l.take (k + 1))).length = (Wp.uniq (l.take k)).length + 1 := by rw [hu]; simp
  exact ⟨k + 1, a2, c2, hk, by go_num, by rw [el], by rw [el, hu, strsC_snocr]; exact hr, Nat.le_trans hs h3.size, fun j u hj => (h3.cell (p := ⟨g, j, none⟩) (Nat.lt_succ_self g)).trans (hm j u hj), hg, hB.trans (h3.mono (by omega))⟩

set_option maxHeartbeats 4000000 in
theorem RUnique_any (w : World) (v : Value) (l : List ByteArray) (hr : Rd w w.heap.size v (strsC l)) (hl : l.length ≤ 100000) :
    Calls Tryz.prog 14 #[v] w fun e w' => ∃ a c, e = .returned (.slice a (Wp.uniq l).length c) ∧ Rd w' w'.heap.size (.slice a (Wp.uniq l).length c) (strsC (Wp.uniq l)) ∧ Below w.heap.size w w' := by
  obtain ⟨i0, hi, hz0, hz1, hz2⟩ := info_parts infoB
  obtain ⟨j0, hj, hy0, hy1, hy2⟩ := info_parts infoSr
  have HR := Lib.hid hr
  obtain ⟨a0, c0, rfl, hc0⟩ := hr.shape
  clear hr
  rw [strsC_len] at *
  go_enter Tryz.func14, Tryz.ntmps14
  go_wp2_with fail
  refine (order_any l hl l.length 0 l.length w _ (Nat.zero_le _) (Nat.le_refl _) (by omega) HR.out).mono ?_
  rintro e w1 ⟨vo, rfl, ro, B1⟩
  have RO := Lib.hid ro
  obtain ⟨ao, co, rfl, hco⟩ := ro.shape
  rw [intsC_len, Wp.ord_len] at *
  clear ro
  go_wp2_with (refine wpList_make_full _ rfl _ _ _ rfl w1.heap.size BT i0 (.bool false) 1 Tryz.underlying51 hi hz0 hz1 .i64 .i64 _ _ l.length rfl rfl rfl rfl (by rw [hz2]; omega) (by unfold maxLen; omega) (Nat.le_refl _) ?_; intro w2 hown hgrow)
  have H0 : Hid (R1 w1 l w1.heap.size (.int .i64 1) w2) := Lib.hid ⟨1, Nat.le_refl _, .inl (Nat.le_refl _), rfl, by
    have e : (madeCells (Value.bool false).cells (l.length * 1)).toList = boolsC (agnL l 1) := by
      rw [Nat.mul_one]
      exact (toList_madeCells_one _ _).trans (by simp [agnL, Wp.agn, boolsC])
    rw [← e]; exact hown, ⟨hgrow.os, hgrow.tape, hgrow.output, hgrow.size, fun k hk => hgrow.block k hk (by simp)⟩⟩
  clear hown hgrow
  go_loopw [5] (fun i wr => R1 w1 l w1.heap.size i wr) (fun i _ => l.length - (intOf i).toNat)
  case atStart => exact H0.out
  case round =>
    obtain ⟨k, hk1, hk2, rfl, hr, hB⟩ := hrel
    clear H0
    by_cases hlt : k < l.length
    · obtain ⟨m, rfl⟩ : ∃ m, k = m + 1 := ⟨k - 1, by omega⟩
      have hol : (ordL l).length = l.length := Wp.ord_len l
      obtain ⟨x, hx⟩ : ∃ x, (ordL l)[m + 1]'(by omega) = x := ⟨_, rfl⟩
      obtain ⟨y, hy⟩ : ∃ y, (ordL l)[m]'(by omega) = y := ⟨_, rfl⟩
      have hxl : x < l.length := (Wp.ord_mem l x).1 (hx ▸ List.getElem_mem _)
      have hyl : y < l.length := (Wp.ord_mem l y).1 (hy ▸ List.getElem_mem _)
      have gx : (ordL l).getD (m + 1) 0 = x := getD_of _ hx
      have gy : (ordL l).getD m 0 = y := getD_of _ hy
      obtain ⟨bo, oo, c1, hv1, hc1, hb1, hx1⟩ := RO.out.open_ (by rw [intsC_len, Wp.ord_len]; omega)
      rw [intsC_len, Wp.ord_len] at hv1 hc1
      obtain ⟨rfl, _, rfl⟩ := (Value.slice.injEq ..).mp hv1
      obtain ⟨bl, ol, c2, hv2, hc2, hb2, hx2⟩ := HR.out.open_ (by rw [strsC_len]; omega)
      rw [strsC_len] at hv2 hc2
      obtain ⟨rfl, _, rfl⟩ := (Value.slice.injEq ..).mp hv2
      have d1 : wr.cell? ⟨bo, oo + (m + 1), none⟩ = some (.int .i64 (x : Int)) := (hB.cell (p := ⟨bo, oo + (m + 1), none⟩) hb1).trans (hx1 _ _ (by rw [intsC_get _ (by rw [Wp.ord_len]; omega), hx]))
      have d2 : wr.cell? ⟨bo, oo + m, none⟩ = some (.int .i64 (y : Int)) := (hB.cell (p := ⟨bo, oo + m, none⟩) hb1).trans (hx1 _ _ (by rw [intsC_get _ (by rw [Wp.ord_len]; omega), hy]))
      have d3 : wr.cell? ⟨bl, ol + x, none⟩ = some (.string l[x]) := (hB.cell (p := ⟨bl, ol + x, none⟩) (Nat.lt_of_lt_of_le hb2 B1.size)).trans ((B1.cell (p := ⟨bl, ol + x, none⟩) hb2).trans (hx2 _ _ (strsC_get l hxl)))
      have d4 : wr.cell? ⟨bl, ol + y, none⟩ = some (.string l[y]) := (hB.cell (p := ⟨bl, ol + y, none⟩) (Nat.lt_of_lt_of_le hb2 B1.size)).trans ((B1.cell (p := ⟨bl, ol + y, none⟩) hb2).trans (hx2 _ _ (strsC_get l hyl)))
      obtain ⟨bv, hbv⟩ : ∃ bv, (l[x].toList == l[y].toList) = bv := ⟨_, rfl⟩
      obtain ⟨u, d5⟩ : ∃ u, wr.cell? ⟨w1.heap.size, x, none⟩ = some u := by
        rw [hr.cellAt x (by omega)]
        exact ⟨_, List.getElem?_eq_getElem (by rw [boolsC_len, Wp.agn_len]; exact hxl)⟩
      have d6 := hr.frozenAt x
      have HN := Lib.hid fun wd (hd : Drewn wr wd) => @R1.next w1 wd l w1.heap.size (m + 1) x bv hlt hk1 gx (by
        rw [gx, show m + 1 - 1 = m from rfl, gy, Wp.at8_eq hxl, Wp.at8_eq hyl, ← hbv, Lib.toList_data, Lib.toList_data]) (Nat.le_refl _) (hd.own hr) (hd.below hB)
      have hix : (x : Int) < (l.length : Int) := by omega
      have hiy : (y : Int) < (l.length : Int) := by omega
      have hw : IntKind.i64.wrap (m : Int) = m := IntWalk.i64_in _ (by omega)
      have hm1 : (0 : Int) ≤ (m : Int) + 1 := by omega
      have hm2 : (m : Int) + 1 < (l.length : Int) := by omega
      have hm3 : ((m : Int) + 1).toNat = m + 1 := by omega
      have hm4 : (m : Int) < (l.length : Int) := by omega
      clear hx hy gx gy hx1 hx2 hv1 hv2 hr hol
      go_wp2_with fail
      go_still_tail 22, (by kernel_rfl)
      change wpList _ _ _ _ _ wr.drew
      clear hm1 hm2 hm3 hm4 hw
      have hd : Drewn wr wr.drew := drew_facts 1
      generalize wr.drew = wd at hd ⊢
      have e5 := hd.cell d5
      have e6 := hd.frozen d6
      have hN := Lib.hid (HN.out wd hd)
      go_wp2_with fail
      go_roundw
      case rel => exact hN.out
      case measure => simp [intOf]; omega
    · have hR := Lib.hid (hr.cells (g := w1.heap.size) rfl)
      have hM := Lib.hid (marks_agn hk1 hk2 (Nat.le_of_not_lt hlt))
      have hS : w1.heap.size + 1 ≤ wr.heap.size := (hr.lt w1.heap.size rfl).2
      have H2 : Hid (R2 w1 l w1.heap.size (.slice none 0 0) (.int .i64 0) wr) := Lib.hid ⟨0, none, 0, Nat.zero_le _, rfl, rfl, World.ownsRow_nil _ _ _ _, hS, fun j u hj => by
        have := hR.out j u (by rw [hM.out]; exact hj)
        simpa [Addr.add_lit] using this, Nat.le_refl _, hB⟩
      clear hr
      go_wp2_with fail
      go_loopw [6, 7] (fun v i wr => R2 w1 l w1.heap.size v i wr) (fun _ i _ => l.length - (intOf i).toNat)
      case atStart => exact H2.out
      case round =>
        obtain ⟨k, a, c, hk, rfl, rfl, hrow, hs, hm, hg, hB⟩ := hrel
        clear H2 hM hR
        by_cases hlt : k < l.length
        · obtain ⟨b, hb, hu⟩ := Wp.marks_next hlt
          have hcb := hm k (.bool b) (by simp [boolsC, hb])
          obtain ⟨bl, ol, c2, hv2, hc2, hb2, hx2⟩ := HR.out.open_ (by rw [strsC_len]; omega)
          rw [strsC_len] at hv2 hc2
          obtain ⟨rfl, _, rfl⟩ := (Value.slice.injEq ..).mp hv2
          have d3 : wr.cell? ⟨bl, ol + k, none⟩ = some (.string l[k]) := (hB.cell (p := ⟨bl, ol + k, none⟩) (Nat.lt_of_lt_of_le hb2 B1.size)).trans ((B1.cell (p := ⟨bl, ol + k, none⟩) hb2).trans (hx2 _ _ (strsC_get l hlt)))
          have hul : (Wp.uniq (l.take k)).length ≤ k := by have := Wp.uniq_len (l.take k); rw [List.length_take] at this; omega
          clear hb hx2 hv2
          cases b with
          | true =>
            have HN := Lib.hid (R2.skip hlt (by rw [hu, if_pos rfl]) hrow hs hm hg hB)
            clear hu hm
            go_wp2_with fail
            go_roundw
            case rel => exact HN.out
            case measure => simp [intOf]; omega
          | false =>
            have HN := Lib.hid fun w3 a2 c2 => @R2.app w1 wr w3 l w1.heap.size k a2 c2 hlt (by rw [hu, if_neg (by decide)]) hs hm hg hB
            clear hu hm
            go_wp2_with (at_builtin; refine wpList_append_own _ rfl _ _ 22 rfl (w1.heap.size + 1) STr j0 (.string ByteArray.empty) 1 16 Tryz.underlying22 hj hy0 hy1 hy2 rfl (by decide) _ _ _ rfl (hrow.alloc _) ⟨wr.heap.size, 0, none⟩ 1 1 [.string l[k]] rfl rfl (cell_one_new _ _ _) (by simp [Value.oneCell']) (by unfold maxLen; omega) (by omega) (by simp; omega) ?_; intro v' w3 hown' hgrow2 _; obtain ⟨a2, c2, rfl⟩ := owns_slice hown')
            go_roundw
            case rel => exact HN.out _ _ _ hown' (((Below.refl (w1.heap.size + 1) wr).alloc hs _).grown hgrow2 (by simp; omega) fun j ej => (hrow.lt j ej).1)
            case measure => simp [intOf]; omega
        · obtain rfl : k = l.length := by omega
          rw [List.take_of_length_le (Nat.le_refl _)] at hrow
          have HW := Lib.hid (Rd.of_own hrow)
          rw [List.take_of_length_le (Nat.le_refl _)]
          clear hrow hm
          go_wp2_with fail
          go_ret
          exact ⟨_, _, rfl, HW.out, B1.trans (hB.mono B1.size)⟩
end Go.Proofs.YtenokbceamcekaaGreatDoor.Ww
