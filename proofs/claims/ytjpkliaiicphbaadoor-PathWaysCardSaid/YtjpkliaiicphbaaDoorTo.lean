/-
  path.parts and path.To, for every two strings that fit into memory.
-/
import Derived.Laws.OwnMore
import Derived.Deep.AppendLies
import Derived.Deep.QuietTactic
import Derived.BigQuiet
import Derived.Test.YtjpkliaiicphbaaDoorRepeat
namespace Go.Proofs.YtjpkliaiicphbaaDoor
open Go.RowKit
set_option maxRecDepth 100000

/-- The parts that path.To sees. -/
def partsP (s : List UInt8) : List (List UInt8) := if s = [46] then [] else Pt.pieces s

theorem indexB_slash (s : ByteArray) : Lib.indexB s ⟨#[47]⟩ = Lib.indexByte (bs s) 47 := Lib.index_one (bs s) 47

theorem splitB_pieces : ∀ (k : Nat) (s : ByteArray), Lib.countB s ⟨#[47]⟩ = k → (Lib.splitB ⟨#[47]⟩ 0 k s).map bs = Pt.pieces (bs s) := by
  intro k
  induction k with
  | zero =>
    intro s h
    rcases Lib.indexB_cases s ⟨#[47]⟩ with e | ⟨i, e, _⟩
    · rw [Lib.splitB_miss _ _ _ _ e, pieces_index_none (by rw [← indexB_slash]; exact e)]; rfl
    · rw [Lib.countB_hit s _ i (by decide) e] at h; omega
  | succ k ih =>
    intro s h
    rcases Lib.indexB_cases s ⟨#[47]⟩ with e | ⟨i, e, _⟩
    · rw [Lib.countB_miss s _ e] at h; omega
    · rw [Lib.countB_hit s _ i (by decide) e] at h
      rw [Lib.splitB_hit _ _ _ _ i e, List.map_cons]
      have h2 := ih (s.extract (i + (⟨#[47]⟩ : ByteArray).size) s.size) (by omega)
      rw [h2]
      exact (pieces_index_some (by rw [← indexB_slash]; exact e)).2.symm

theorem splitB_len (s : ByteArray) : (Lib.splitB ⟨#[47]⟩ 0 (Lib.countB s ⟨#[47]⟩) s).length = Lib.countB s ⟨#[47]⟩ + 1 := Lib.splitB_all _ (by decide) 0 _ s rfl

/-- What parts hands back. -/
def PartsPost (w : World) (s : ByteArray) (e : Ending) (w' : World) : Prop :=
  ∃ (ps : List ByteArray) (a : Option Addr) (c : Nat), e = .returned (.slice a ps.length c) ∧ ps.map bs = partsP (bs s) ∧ w'.ownsRow w.heap.size 9 1 (.slice a ps.length c) ps.length (strC ps) ∧ Below w.heap.size w w'

set_option maxHeartbeats 400000 in
theorem parts_any (w : World) (m : Int) (hm : w.cell? ⟨0, 0, none⟩ = some (.int .i64 m)) (s : ByteArray) (hs : s.size ≤ 1000000) :
    Calls Tryd.prog 19 #[.string s] w (PartsPost w s) := by
  have HM := Lib.hid hm
  clear hm
  by_cases h : (s.toList == [46]) = true
  · have HE := Lib.hid (bs_is h)
    go_enter Tryd.func19, Tryd.ntmps19
    go_wp2
    go_ret
    exact ⟨[], none, 0, rfl, by rw [HE.out]; rfl, World.ownsRow_nil _ _ _ _, Below.refl _ _⟩
  · have h' : (s.toList == [46]) = false := by simpa using h
    clear h
    have HE := Lib.hid (bs_not h')
    obtain ⟨ps, hps⟩ : ∃ ps, Hid (Lib.splitB ⟨#[47]⟩ 0 (Lib.countB s ⟨#[47]⟩) s = ps) := ⟨_, Lib.hid rfl⟩
    have hl : Hid (Lib.countB s ⟨#[47]⟩ + 1 = ps.length) := Lib.hid (by rw [← hps.out, splitB_len])
    have hc : Calls Tryd.prog 26 #[.string s, .string ⟨#[47]⟩] w fun e w' => e = .returned (.slice (some ⟨w.heap.size, 0, none⟩) ps.length ps.length) ∧ w.alloc (.cells (strC ps).toArray 9) = w' := by
      refine (Tryd.strings_Split s ⟨#[47]⟩ m w (by omega) HM.out (by decide)).mono ?_
      rw [hl.out, hps.out]
      exact fun e w' ⟨a, b⟩ => ⟨a, b.symm⟩
    have HC := Lib.hid hc
    clear hc
    go_enter Tryd.func19, Tryd.ntmps19
    go_wp2_with (go_at_call 26; refine HC.out.mono ?_; rintro e w' ⟨rfl, rfl⟩)
    go_ret
    refine ⟨ps, _, _, rfl, ?_, ?_, (Below.refl _ _).alloc (Nat.le_refl _) _⟩
    · rw [← hps.out, splitB_pieces _ s rfl, partsP, if_neg HE.out]
    · have hps2 : ps.length ≤ maxLen := by
        have h1 := splitB_pieces _ s rfl
        rw [hps.out] at h1
        have h2 := len_cost (ps.map bs)
        rw [h1, cost_pieces, bs_len, ← h1, List.length_map] at h2
        unfold maxLen; omega
      exact ⟨by rw [strC_len, Nat.mul_one], .inr ⟨w.heap.size, _, _, rfl, Nat.le_refl _, World.alloc_heap_new w _, Nat.le_refl _, hps2, by simp [strC], by rw [Nat.mul_one, List.take_of_length_le (by rw [strC_len]; exact Nat.le_refl _)]⟩⟩

/-- How many parts both begin with. -/
def common : List (List UInt8) → List (List UInt8) → Nat
  | a :: l, b :: r => if a = b then common l r + 1 else 0
  | _, _ => 0
/-- The parts of the way. -/
def wayParts (a b : List (List UInt8)) : List (List UInt8) := List.replicate (b.length - common a b) [46, 46] ++ a.drop (common a b)
def way (p q : List UInt8) : List UInt8 := if wayParts (partsP p) (partsP q) = [] then [46] else Pt.inter (wayParts (partsP p) (partsP q))

theorem common_le : ∀ (a b : List (List UInt8)), common a b ≤ a.length ∧ common a b ≤ b.length
  | [], b => by simp [common]
  | a :: l, [] => by simp [common]
  | a :: l, b :: r => by
    have := common_le l r
    unfold common
    split <;> simp <;> omega

theorem run_append_src {P : Program} (w : World) (base : Nat) (t ty e : TypeId) (i : TypeInfo) (z : Value) (bytes : Nat) (ht : P.underlying t = some (.slice e)) (hi : P.info? e = some i) (hz : i.zero = some z)
    (hsize : i.size = 1) (hby : i.bytes = bytes) (hzs : z.cells.size = 1)
    (v : Value) (n : Nat) (xs : List Value) (hown : w.ownsRow base e 1 v n xs) (ap : Option Addr) (m c : Nat) (news : List Value) (hl : news.length = m)
    (hsrc : (ap = none ∧ m = 0 ∧ c = 0) ∨ ∃ ad, ap = some ad ∧ ∀ j u, news[j]? = some u → w.cell? (ad.add j) = some u) (h1 : ∀ u ∈ news, u.oneCell' = true)
    (h63 : n + m ≤ maxLen) (hbytes : (n + m) * bytes ≤ 140737488355328) (hbase : base ≤ w.heap.size) :
    ∃ v' w', (Builtin.append_ #[t, t] ty #[v, .slice ap m c]).run P w = .ok v' w' ∧ w'.ownsRow base e 1 v' (n + m) (xs ++ news) ∧ w.grownBy w' v.ownBlock := by
  rcases hsrc with ⟨rfl, rfl, rfl⟩ | ⟨ad, rfl, hc⟩
  · obtain rfl := List.eq_nil_of_length_eq_zero hl
    exact ⟨v, w, run_append_owned_none (P := P) (w := w) base t ty e i 1 ht hi v n xs hown, by simpa using hown, rfl, rfl, rfl, Nat.le_refl _, fun _ _ _ => rfl⟩
  · obtain ⟨v', w', a, b, c, _⟩ := run_append_own (P := P) w base t ty e i z 1 bytes ht hi hz hsize hby hzs (by decide) v n xs hown ad m c news (by omega) hc h1 h63 hbytes hbase
    exact ⟨v', w', a, b, c⟩

/-- The same as one step of a statement whose order is open. -/
theorem step_append_src {P : Program} {ops : Array Oper} {o : Oper} {a : Act} {w : World} {K : Act → World → Prop} {Q : Exit → Act → World → Prop} {E : Prop} (hgd : o.guard = none) (s x : Operand) (t : TypeId)
    (ho : o.op = .call { callee := .builtin .append, args := #[s, x], argTypes := #[t, t] })
    (base : Nat) (e : TypeId) (i : TypeInfo) (z : Value) (bytes : Nat) (ht : P.underlying t = some (.slice e)) (hi : P.info? e = some i) (hz : i.zero = some z)
    (hsize : i.size = 1) (hby : i.bytes = bytes) (hzs : z.cells.size = 1)
    (v : Value) (n : Nat) (xs : List Value) (hs : a.eval s = v) (hown : w.ownsRow base e 1 v n xs) (ap : Option Addr) (m c : Nat) (news : List Value) (hx : a.eval x = .slice ap m c) (hl : news.length = m)
    (hsrc : (ap = none ∧ m = 0 ∧ c = 0) ∨ ∃ ad, ap = some ad ∧ ∀ j u, news[j]? = some u → w.cell? (ad.add j) = some u) (h1 : ∀ u ∈ news, u.oneCell' = true)
    (h63 : n + m ≤ maxLen) (hbytes : (n + m) * bytes ≤ 140737488355328) (hbase : base ≤ w.heap.size)
    (h : ∀ v' w', w'.ownsRow base e 1 v' (n + m) (xs ++ news) → w.grownBy w' v.ownBlock → K (a.put o.dst v') w') :
    if Region.wanted o (yielded ops a.tmps) = true then Oper.wp P o a w K Q else E := by
  rw [if_pos (by simp [Region.wanted, hgd])]
  obtain ⟨v', w', run, own, grew⟩ := run_append_src (P := P) w base t o.type e i z bytes ht hi hz hsize hby hzs v n xs hown ap m c news hl hsrc h1 h63 hbytes hbase
  unfold Oper.wp
  simp [execOp, ho, resolve, invoke, builtin, hs, hx, run, Result.andThen]
  exact h v' w' own grew

theorem common_nil_right (a : List (List UInt8)) : common a [] = 0 := by cases a <;> rfl
theorem common_step {a b : List (List UInt8)} {k : Nat} {x y : List UInt8} {l r : List (List UInt8)} (ha : a.drop k = x :: l) (hb : b.drop k = y :: r) : common (a.drop k) (b.drop k) = if x = y then common l r + 1 else 0 := by
  rw [ha, hb]; rfl

theorem drop_map_cons {ss : List ByteArray} {k : Nat} (h : k < ss.length) : (ss.map bs).drop k = bs (ss[k]?.getD ByteArray.empty) :: (ss.map bs).drop (k + 1) := by
  rw [← List.map_drop, drop_cons h, List.map_cons, List.map_drop]

theorem owns_heap {w w' : World} {base e size n : Nat} {v : Value} {xs : List Value} (hh : w'.heap = w.heap) (h : w.ownsRow base e size v n xs) : w'.ownsRow base e size v n xs := by
  unfold World.ownsRow at *
  rw [hh]; exact h

/-- A cell of a slice that holds strings. -/
theorem cell_str {w : World} {base g c : Nat} {ps : List ByteArray} (h : w.ownsRow base 9 1 (.slice (some ⟨g, 0, none⟩) ps.length c) ps.length (strC ps)) {j : Nat} (hj : j < ps.length) :
    w.cell? ⟨g, j, none⟩ = some (.string (ps[j]?.getD ByteArray.empty)) := by
  have := h.cells (g := g) rfl j (.string (ps[j]?.getD ByteArray.empty)) (by rw [strC, List.getElem?_map, List.getElem?_eq_getElem hj]; rfl)
  rw [Addr.add_lit, Nat.zero_add] at this
  exact this

theorem partsP_cost (s : List UInt8) : cost (partsP s) ≤ s.length + 1 := by
  unfold partsP
  split
  · simp [cost]
  · rw [cost_pieces]; exact Nat.le_refl _
theorem parts_tot {ps : List ByteArray} {s : ByteArray} (h : ps.map bs = partsP (bs s)) : tot ps ≤ s.size + 1 := by
  rw [tot_cost, h]
  have := partsP_cost (bs s)
  rwa [bs_len] at this

theorem join_inter : ∀ (l : List (List UInt8)), Lib.join l [47] = Pt.inter l
  | [] => rfl
  | [x] => by simp [Lib.join, Pt.inter]
  | x :: y :: r => by
    have := join_inter (y :: r)
    rw [Pt.inter, ← this]
    simp [Lib.join]
theorem inter_len : ∀ (l : List (List UInt8)), (Pt.inter l).length ≤ cost l
  | [] => Nat.zero_le _
  | [x] => by simp [Pt.inter, cost]
  | x :: y :: r => by
    have := inter_len (y :: r)
    have h3 : cost (x :: y :: r) = (x.length + 1) + cost (y :: r) := by simp [cost]
    rw [Pt.inter, List.length_append, List.length_cons, h3]; omega

theorem owns_base {w : World} {base base' e size n : Nat} {v : Value} {xs : List Value} (hb : base' ≤ base) (h : w.ownsRow base e size v n xs) : w.ownsRow base' e size v n xs := by
  refine ⟨h.1, ?_⟩
  rcases h.2 with h0 | ⟨g, cap, cur, hv, hbg, r⟩
  · exact .inl h0
  · exact .inr ⟨g, cap, cur, hv, Nat.le_trans hb hbg, r⟩
theorem strC_one {ss : List ByteArray} {u : Value} (h : u ∈ strC ss) : u.oneCell' = true := by
  obtain ⟨s, _, rfl⟩ := List.mem_map.1 h
  rfl
/-- What is behind place k of a slice. -/
theorem src_of {w : World} {base k c : Nat} {a : Option Addr} {ta : List ByteArray} (h : w.ownsRow base 9 1 (.slice a ta.length c) ta.length (strC ta)) (hk : k ≤ ta.length) :
    ((if c = k then a else Option.map (fun x => x.add k) a) = none ∧ ta.length - k = 0 ∧ c - k = 0) ∨ ∃ ad, (if c = k then a else Option.map (fun x => x.add k) a) = some ad ∧ ∀ j u, (strC (ta.drop k))[j]? = some u → w.cell? (ad.add j) = some u := by
  rcases h.2 with ⟨e, h0⟩ | ⟨g, cap, cur, e, _, _, h1, _⟩
  · simp only [Value.slice.injEq] at e
    obtain ⟨rfl, _, rfl⟩ := e
    exact .inl ⟨by split <;> rfl, by omega, by omega⟩
  · cases e
    right
    by_cases hc : c = k
    · rw [if_pos hc]
      refine ⟨_, rfl, fun j u hu => ?_⟩
      have := (List.getElem?_eq_some_iff.1 hu).1
      rw [strC_len, List.length_drop] at this
      omega
    · rw [if_neg hc]
      refine ⟨_, rfl, fun j u hu => ?_⟩
      have := h.cells (g := g) rfl (k + j) u (by rw [← hu, strC, strC, List.map_drop, List.getElem?_drop])
      show w.cell? (((⟨g, 0, none⟩ : Addr).add k).add j) = some u
      rw [Addr.add_lit] at this ⊢
      rw [Addr.add_lit, show 0 + k + j = 0 + (k + j) by omega]
      exact this
theorem src_of' {w : World} {base k c g : Nat} {ta : List ByteArray} (h : w.ownsRow base 9 1 (.slice (some ⟨g, 0, none⟩) ta.length c) ta.length (strC ta)) (hk : k ≤ ta.length) :
    ((if c = k then some ⟨g, 0, none⟩ else some ⟨g, k, none⟩ : Option Addr) = none ∧ ta.length - k = 0 ∧ c - k = 0) ∨ ∃ ad, (if c = k then some ⟨g, 0, none⟩ else some ⟨g, k, none⟩ : Option Addr) = some ad ∧ ∀ j u, (strC (ta.drop k))[j]? = some u → w.cell? (ad.add j) = some u := by
  have := src_of h hk
  simpa [Addr.add_lit] using this

/-- Two points. -/
abbrev up : ByteArray := ⟨#[46, 46]⟩
theorem Repeat_int (w : World) (g0 c0 m : Nat) (n : Int) (hn : n = m) (hlt : g0 < w.heap.size) (hc : w.cell? ⟨g0, 0, none⟩ = some (.string up)) (hm : m ≤ 1000000) :
    Calls Tryd.prog 20 #[.slice (some ⟨g0, 0, none⟩) 1 c0, .int .i64 n] w fun e w' => ∃ g, e = .returned (.slice (some ⟨g, 0, none⟩) m m) ∧
      w'.ownsRow w.heap.size 9 1 (.slice (some ⟨g, 0, none⟩) m m) m (strC (List.replicate m up)) ∧ Below w.heap.size w w' := by
  subst hn
  exact Repeat_any w g0 0 c0 m up hlt hc hm

theorem way_of {ta tb out : List ByteArray} {a b : List (List UInt8)} {k mm : Nat} (ha : ta.map bs = a) (hb : tb.map bs = b) (hk : common (ta.map bs) (tb.map bs) = k) (hm : mm + k = tb.length) (ho : List.replicate mm up ++ ta.drop k = out) : out.map bs = wayParts a b := by
  subst ha hb ho
  unfold wayParts
  rw [hk, List.length_map, show tb.length - k = mm by omega, List.map_append, List.map_replicate, List.map_drop]
  rfl
theorem tot_append (a b : List ByteArray) : tot (a ++ b) = tot a + tot b := by simp [tot]
theorem tot_way (mm k : Nat) (ta : List ByteArray) (h1 : mm ≤ 1000000) (h2 : tot ta ≤ 1000000) : tot (List.replicate mm up ++ ta.drop k) ≤ 10000000 := by
  have e1 : tot (List.replicate mm up) = mm * 3 := by simp [tot, up]; rfl
  have e2 : tot ta = tot (ta.take k) + tot (ta.drop k) := by rw [← tot_append, List.take_append_drop]
  rw [tot_append, e1]
  omega
theorem joinStr (w : World) (base : Nat) (a : Option Addr) (n c : Nat) (out : List ByteArray) (ho : w.ownsRow base 9 1 (.slice a n c) n (strC out)) (hn : out.length = n) (hpos : 0 < n) (htt : tot out ≤ 10000000) :
    Calls Tryd.prog 21 #[.slice a n c, .string ⟨#[47]⟩] w fun e w' => e = .returned (.string (str (Pt.inter (out.map bs)))) ∧ Below w.heap.size w w' := by
  subst hn
  obtain ⟨g, c', e, hc, _⟩ := owns_some ho hpos
  cases e
  have hg : g < w.heap.size := (ho.lt g rfl).2
  have hl := inter_len (out.map bs)
  have hj : Lib.join (out.map (·.data.toList)) (⟨#[47]⟩ : ByteArray).data.toList = Pt.inter (out.map bs) := join_inter _
  rw [← tot_cost] at hl
  have := Tryd.strings_Join g 0 c out ⟨#[47]⟩ w (fun j x hx => by
    have hj := (List.getElem?_eq_some_iff.1 hx).1
    have h2 := cell_str ho hj
    rw [hx] at h2
    rw [Nat.zero_add]
    exact h2) hg (by have := len_tot out; omega) hc (by rw [hj]; omega)
  rw [hj] at this
  exact this

set_option maxHeartbeats 1000000 in
theorem To_any (w : World) (m : Int) (hm : w.cell? ⟨0, 0, none⟩ = some (.int .i64 m)) (hw0 : 0 < w.heap.size) (p q : ByteArray) (hp : p.size ≤ 900000) (hq : q.size ≤ 900000) :
    Calls Tryd.prog 9 #[.string p, .string q] w fun e w' => e = .returned (.string (str (way (bs p) (bs q)))) ∧ Below w.heap.size w w' := by
  have HM := Lib.hid hm
  clear hm
  obtain ⟨i0, hi, hz0, hz1, hz2⟩ := info_parts infoS
  go_enter Tryd.func9, Tryd.ntmps9
  go_wp2_with fail
  refine (parts_any _ m HM.out p (by omega)).mono ?_
  rintro e w1 ⟨ta, a1, c1, rfl, hta, o1, B1⟩
  have HM1 : w1.cell? ⟨0, 0, none⟩ = some (.int .i64 m) := (B1.cell (p := ⟨0, 0, none⟩) hw0).trans HM.out
  have hw1 := B1.size
  go_wp2_with fail
  refine (parts_any _ m HM1 q (by omega)).mono ?_
  rintro e w2 ⟨tb, a2, c2, rfl, htb, o2, B2⟩
  have o1' := owns_below o1 B2
  have HTA := Lib.hid hta
  have HTB := Lib.hid htb
  have B12 : Below w.heap.size w w2 := B1.trans (B2.mono hw1)
  have lta := parts_tot hta
  have ltb := parts_tot htb
  have nta := len_tot ta
  have ntb := len_tot tb
  clear hta htb HM1 o1 B1
  go_wp2_with fail
  go_loopw [7] (fun i wr => ∃ k : Nat, i = .int .i64 k ∧ k ≤ ta.length ∧ k ≤ tb.length ∧ common ((ta.map bs).drop k) ((tb.map bs).drop k) + k = common (ta.map bs) (tb.map bs) ∧ wr.heap = w2.heap ∧ Below w.heap.size w wr) (fun i _ => ta.length - (intOf i).toNat)
  case atStart => exact ⟨0, rfl, Nat.zero_le _, Nat.zero_le _, rfl, rfl, B12⟩
  case round =>
    obtain ⟨k, rfl, hka, hkb, hcm, hheap, hB⟩ := hrel
    have r1 := owns_heap hheap o1'
    have r2 := owns_heap hheap o2
    have HH := Lib.hid hheap
    have HCM := Lib.hid hcm
    clear hheap hcm o1' o2
    by_cases h1 : k < ta.length
    · by_cases h2 : k < tb.length
      · obtain ⟨g1, c1', e1, _, _⟩ := owns_some r1 (by omega)
        cases e1
        obtain ⟨g2, c2', e2, _, _⟩ := owns_some r2 (by omega)
        cases e2
        have d1 := cell_str r1 h1
        have d2 := cell_str r2 h2
        have hcm := HCM.out
        rw [common_step (drop_map_cons h1) (drop_map_cons h2)] at hcm
        generalize ta[k]?.getD ByteArray.empty = x at *
        generalize tb[k]?.getD ByteArray.empty = y at *
        have i1 : (k : Int) < ta.length := by omega
        have i2 : (k : Int) < tb.length := by omega
        by_cases h3 : (x.toList == y.toList) = true
        · have hxy : bs x = bs y := by have := eq_of_beq h3; rw [Lib.toList_data, Lib.toList_data] at this; exact this
          rw [if_pos hxy] at hcm
          have HC2 := Lib.hid hcm
          clear hcm HCM hxy
          go_wp2
          go_quiet (fail)
          go_wp2
          go_roundw
          case rel => exact ⟨k + 1, by go_num, h1, h2, by have := HC2.out; omega, HH.out, below_drewN hB nq⟩
          case measure => simp [intOf] <;> omega
        · have h3' : (x.toList == y.toList) = false := by simpa using h3
          have hxy : ¬ bs x = bs y := fun e => by rw [Lib.toList_data, Lib.toList_data] at h3; exact h3 (beq_iff_eq.2 e)
          rw [if_neg hxy] at hcm
          have HE : Hid (common (ta.map bs) (tb.map bs) = k) := Lib.hid (by rw [← hcm, Nat.zero_add])
          clear hcm HCM h1 h2 h3 hxy
          go_wp2
          go_quiet (fail)
          go_wp2_with fail
          have r1' : (wr.drewN nq).ownsRow _ _ _ _ _ _ := owns_heap rfl r1
          have hB' := below_drewN hB nq
          generalize wr.drewN nq = W at *
          clear r1 r2 HH hB
          obtain ⟨mm, hmm, hmm2⟩ : ∃ mm : Nat, Hid (IntKind.i64.wrap ((tb.length : Int) - (k : Int)) = (mm : Int)) ∧ mm ≤ tb.length := ⟨tb.length - k, Lib.hid (by rw [IntWalk.i64_in _ (by omega)]; omega), by omega⟩
          have hml : Hid (mm + k = tb.length) := Lib.hid (by have := hmm.out; rw [IntWalk.i64_in _ (by omega)] at this; omega)
          have hup : Hid ((W.alloc (.cells #[.string up] 9)).drew.cell? ⟨W.heap.size, 0, none⟩ = some (.string up)) := Lib.hid (Boxed.new W 9 (.string up)).cell
          go_region_law (first
            | (go_simp; go_at_call 20; go_must (refine (Repeat_int _ W.heap.size 1 mm (IntKind.i64.wrap ((tb.length : Int) - (k : Int))) hmm.out (by simp) hup.out (by omega)).mono ?_); rintro e w3 ⟨g3, rfl, o3, B3⟩; have o3' := owns_base (show w.heap.size ≤ _ by have := hB'.size; simp; omega) o3; have r3 := owns_below (owns_heap (w' := (W.alloc (.cells #[.string up] 9)).drew) rfl (r1'.alloc (.cells #[.string up] 9))) B3; have hB3 := ((hB'.alloc hB'.size (.cells #[.string up] 9)).drew).trans (B3.mono (show w.heap.size ≤ _ by have := hB'.size; simp; omega)); have hs3 := Lib.hid (src_of' r3 hka))
            | (refine step_append_src rfl (.tmp 41) (.tmp 44) 22 rfl w.heap.size 9 i0 (.string ByteArray.empty) 16 Tryd.underlying22 hi hz0 hz1 hz2 rfl (.slice (some ⟨g3, 0, none⟩) mm mm) mm (strC (List.replicate mm up)) (by simp [go_sem]) o3' _ (ta.length - k) (c1 - k) (strC (ta.drop k)) (by simp [go_sem]) (by rw [strC_len, List.length_drop]) hs3.out (fun u hu => strC_one hu) (by unfold maxLen; omega) (by omega) hB3.size ?_; intro v4 w4 o4 G4))
          obtain ⟨a4, c4, rfl⟩ := owns_slice o4
          obtain ⟨n4, hn4⟩ : ∃ n4, Hid (mm + (ta.length - k) = n4) := ⟨_, Lib.hid rfl⟩
          obtain ⟨out, hout⟩ : ∃ out, Hid (List.replicate mm up ++ ta.drop k = out) := ⟨_, Lib.hid rfl⟩
          rw [hn4.out, show strC (List.replicate mm up) ++ strC (ta.drop k) = strC out by rw [← hout.out]; simp [strC]] at o4
          rw [hn4.out]
          have hB4 := hB3.grown G4 hB3.size (fun j ej => (o3'.lt j ej).1)
          have hlen : Hid (out.length = n4) := Lib.hid (by rw [← hout.out, ← hn4.out, List.length_append, List.length_replicate, List.length_drop])
          have hmap : Hid (out.map bs = wayParts (partsP (bs p)) (partsP (bs q))) := Lib.hid (way_of HTA.out HTB.out HE.out hml.out hout.out)
          have htt : tot out ≤ 10000000 := by rw [← hout.out]; exact tot_way mm k ta (by omega) (by omega)
          clear o3 o3' r3 hs3 G4 B3 hB3 r1' hmm hml
          by_cases hz : n4 = 0
          · have hz' : ((n4 : Int) == 0) = true := by rw [hz]; rfl
            have HW : Hid (way (bs p) (bs q) = [46]) := Lib.hid (by
              unfold way
              rw [← hmap.out, if_pos]
              rw [List.map_eq_nil_iff]
              exact List.eq_nil_of_length_eq_zero (by rw [hlen.out]; exact hz))
            clear hz
            go_simp
            go_wp2
            all_goals
              go_ret
              exact ⟨by rw [HW.out]; rfl, hB4⟩
          · have hz' : ((n4 : Int) == 0) = false := by rw [beq_eq_false_iff_ne]; omega
            have HW : Hid (way (bs p) (bs q) = Pt.inter (out.map bs)) := Lib.hid (by
              unfold way
              rw [← hmap.out, if_neg]
              rw [List.map_eq_nil_iff]
              intro e
              rw [e] at hlen
              exact hz hlen.out.symm)
            go_simp
            go_wp2_with (go_at_call 21; go_must (refine (joinStr _ _ _ _ _ out o4 hlen.out (by omega) htt).mono ?_); rintro e w5 ⟨rfl, B5⟩)
            all_goals
              go_ret
              exact ⟨by rw [HW.out]; rfl, hB4.trans (B5.mono hB4.size)⟩
      · have i1 : decide (k < ta.length) = true := by simp; omega
        have i2 : decide (k < tb.length) = false := by simp; omega
        have HE : Hid (common (ta.map bs) (tb.map bs) = k) := Lib.hid (by
          have e2 : (tb.map bs).drop k = [] := List.drop_of_length_le (by rw [List.length_map]; omega)
          rw [← HCM.out, e2, common_nil_right, Nat.zero_add])
        clear HCM h1 h2
        go_wp2
        go_quiet (fail)
        go_wp2_with fail
        have r1' : (wr.drewN nq).ownsRow _ _ _ _ _ _ := owns_heap rfl r1
        have hB' := below_drewN hB nq
        generalize wr.drewN nq = W at *
        clear r1 r2 HH hB
        obtain ⟨mm, hmm, hmm2⟩ : ∃ mm : Nat, Hid (IntKind.i64.wrap ((tb.length : Int) - (k : Int)) = (mm : Int)) ∧ mm ≤ tb.length := ⟨tb.length - k, Lib.hid (by rw [IntWalk.i64_in _ (by omega)]; omega), by omega⟩
        have hml : Hid (mm + k = tb.length) := Lib.hid (by have := hmm.out; rw [IntWalk.i64_in _ (by omega)] at this; omega)
        have hup : Hid ((W.alloc (.cells #[.string up] 9)).drew.cell? ⟨W.heap.size, 0, none⟩ = some (.string up)) := Lib.hid (Boxed.new W 9 (.string up)).cell
        go_region_law (first
          | (go_simp; go_at_call 20; go_must (refine (Repeat_int _ W.heap.size 1 mm (IntKind.i64.wrap ((tb.length : Int) - (k : Int))) hmm.out (by simp) hup.out (by omega)).mono ?_); rintro e w3 ⟨g3, rfl, o3, B3⟩; have o3' := owns_base (show w.heap.size ≤ _ by have := hB'.size; simp; omega) o3; have r3 := owns_below (owns_heap (w' := (W.alloc (.cells #[.string up] 9)).drew) rfl (r1'.alloc (.cells #[.string up] 9))) B3; have hB3 := ((hB'.alloc hB'.size (.cells #[.string up] 9)).drew).trans (B3.mono (show w.heap.size ≤ _ by have := hB'.size; simp; omega)); have hs3 := Lib.hid (src_of r3 hka))
          | (refine step_append_src rfl (.tmp 41) (.tmp 44) 22 rfl w.heap.size 9 i0 (.string ByteArray.empty) 16 Tryd.underlying22 hi hz0 hz1 hz2 rfl (.slice (some ⟨g3, 0, none⟩) mm mm) mm (strC (List.replicate mm up)) (by simp [go_sem]) o3' _ (ta.length - k) (c1 - k) (strC (ta.drop k)) (by simp [go_sem]) (by rw [strC_len, List.length_drop]) hs3.out (fun u hu => strC_one hu) (by unfold maxLen; omega) (by omega) hB3.size ?_; intro v4 w4 o4 G4))
        obtain ⟨a4, c4, rfl⟩ := owns_slice o4
        obtain ⟨n4, hn4⟩ : ∃ n4, Hid (mm + (ta.length - k) = n4) := ⟨_, Lib.hid rfl⟩
        obtain ⟨out, hout⟩ : ∃ out, Hid (List.replicate mm up ++ ta.drop k = out) := ⟨_, Lib.hid rfl⟩
        rw [hn4.out, show strC (List.replicate mm up) ++ strC (ta.drop k) = strC out by rw [← hout.out]; simp [strC]] at o4
        rw [hn4.out]
        have hB4 := hB3.grown G4 hB3.size (fun j ej => (o3'.lt j ej).1)
        have hlen : Hid (out.length = n4) := Lib.hid (by rw [← hout.out, ← hn4.out, List.length_append, List.length_replicate, List.length_drop])
        have hmap : Hid (out.map bs = wayParts (partsP (bs p)) (partsP (bs q))) := Lib.hid (way_of HTA.out HTB.out HE.out hml.out hout.out)
        have htt : tot out ≤ 10000000 := by rw [← hout.out]; exact tot_way mm k ta (by omega) (by omega)
        clear o3 o3' r3 hs3 G4 B3 hB3 r1' hmm hml
        by_cases hz : n4 = 0
        · have hz' : ((n4 : Int) == 0) = true := by rw [hz]; rfl
          have HW : Hid (way (bs p) (bs q) = [46]) := Lib.hid (by
            unfold way
            rw [← hmap.out, if_pos]
            rw [List.map_eq_nil_iff]
            exact List.eq_nil_of_length_eq_zero (by rw [hlen.out]; exact hz))
          clear hz
          go_simp
          go_wp2
          all_goals
            go_ret
            exact ⟨by rw [HW.out]; rfl, hB4⟩
        · have hz' : ((n4 : Int) == 0) = false := by rw [beq_eq_false_iff_ne]; omega
          have HW : Hid (way (bs p) (bs q) = Pt.inter (out.map bs)) := Lib.hid (by
            unfold way
            rw [← hmap.out, if_neg]
            rw [List.map_eq_nil_iff]
            intro e
            rw [e] at hlen
            exact hz hlen.out.symm)
          go_simp
          go_wp2_with (go_at_call 21; go_must (refine (joinStr _ _ _ _ _ out o4 hlen.out (by omega) htt).mono ?_); rintro e w5 ⟨rfl, B5⟩)
          all_goals
            go_ret
            exact ⟨by rw [HW.out]; rfl, hB4.trans (B5.mono hB4.size)⟩
    · have i1 : decide (k < ta.length) = false := by simp; omega
      have HE : Hid (common (ta.map bs) (tb.map bs) = k) := Lib.hid (by
        rw [← HCM.out, List.drop_of_length_le (by rw [List.length_map]; omega)]
        show 0 + k = k
        omega)
      clear HCM h1
      go_wp2
      go_quiet (fail)
      go_wp2_with fail
      have r1' : (wr.drewN nq).ownsRow _ _ _ _ _ _ := owns_heap rfl r1
      have hB' := below_drewN hB nq
      generalize wr.drewN nq = W at *
      clear r1 r2 HH hB
      obtain ⟨mm, hmm, hmm2⟩ : ∃ mm : Nat, Hid (IntKind.i64.wrap ((tb.length : Int) - (k : Int)) = (mm : Int)) ∧ mm ≤ tb.length := ⟨tb.length - k, Lib.hid (by rw [IntWalk.i64_in _ (by omega)]; omega), by omega⟩
      have hml : Hid (mm + k = tb.length) := Lib.hid (by have := hmm.out; rw [IntWalk.i64_in _ (by omega)] at this; omega)
      have hup : Hid ((W.alloc (.cells #[.string up] 9)).drew.cell? ⟨W.heap.size, 0, none⟩ = some (.string up)) := Lib.hid (Boxed.new W 9 (.string up)).cell
      go_region_law (first
        | (go_simp; go_at_call 20; go_must (refine (Repeat_int _ W.heap.size 1 mm (IntKind.i64.wrap ((tb.length : Int) - (k : Int))) hmm.out (by simp) hup.out (by omega)).mono ?_); rintro e w3 ⟨g3, rfl, o3, B3⟩; have o3' := owns_base (show w.heap.size ≤ _ by have := hB'.size; simp; omega) o3; have r3 := owns_below (owns_heap (w' := (W.alloc (.cells #[.string up] 9)).drew) rfl (r1'.alloc (.cells #[.string up] 9))) B3; have hB3 := ((hB'.alloc hB'.size (.cells #[.string up] 9)).drew).trans (B3.mono (show w.heap.size ≤ _ by have := hB'.size; simp; omega)); have hs3 := Lib.hid (src_of r3 hka))
        | (refine step_append_src rfl (.tmp 41) (.tmp 44) 22 rfl w.heap.size 9 i0 (.string ByteArray.empty) 16 Tryd.underlying22 hi hz0 hz1 hz2 rfl (.slice (some ⟨g3, 0, none⟩) mm mm) mm (strC (List.replicate mm up)) (by simp [go_sem]) o3' _ (ta.length - k) (c1 - k) (strC (ta.drop k)) (by simp [go_sem]) (by rw [strC_len, List.length_drop]) hs3.out (fun u hu => strC_one hu) (by unfold maxLen; omega) (by omega) hB3.size ?_; intro v4 w4 o4 G4))
      obtain ⟨a4, c4, rfl⟩ := owns_slice o4
      obtain ⟨n4, hn4⟩ : ∃ n4, Hid (mm + (ta.length - k) = n4) := ⟨_, Lib.hid rfl⟩
      obtain ⟨out, hout⟩ : ∃ out, Hid (List.replicate mm up ++ ta.drop k = out) := ⟨_, Lib.hid rfl⟩
      rw [hn4.out, show strC (List.replicate mm up) ++ strC (ta.drop k) = strC out by rw [← hout.out]; simp [strC]] at o4
      rw [hn4.out]
      have hB4 := hB3.grown G4 hB3.size (fun j ej => (o3'.lt j ej).1)
      have hlen : Hid (out.length = n4) := Lib.hid (by rw [← hout.out, ← hn4.out, List.length_append, List.length_replicate, List.length_drop])
      have hmap : Hid (out.map bs = wayParts (partsP (bs p)) (partsP (bs q))) := Lib.hid (way_of HTA.out HTB.out HE.out hml.out hout.out)
      have htt : tot out ≤ 10000000 := by rw [← hout.out]; exact tot_way mm k ta (by omega) (by omega)
      clear o3 o3' r3 hs3 G4 B3 hB3 r1' hmm hml
      by_cases hz : n4 = 0
      · have hz' : ((n4 : Int) == 0) = true := by rw [hz]; rfl
        have HW : Hid (way (bs p) (bs q) = [46]) := Lib.hid (by
          unfold way
          rw [← hmap.out, if_pos]
          rw [List.map_eq_nil_iff]
          exact List.eq_nil_of_length_eq_zero (by rw [hlen.out]; exact hz))
        clear hz
        go_simp
        go_wp2
        all_goals
          go_ret
          exact ⟨by rw [HW.out]; rfl, hB4⟩
      · have hz' : ((n4 : Int) == 0) = false := by rw [beq_eq_false_iff_ne]; omega
        have HW : Hid (way (bs p) (bs q) = Pt.inter (out.map bs)) := Lib.hid (by
          unfold way
          rw [← hmap.out, if_neg]
          rw [List.map_eq_nil_iff]
          intro e
          rw [e] at hlen
          exact hz hlen.out.symm)
        go_simp
        go_wp2_with (go_at_call 21; go_must (refine (joinStr _ _ _ _ _ out o4 hlen.out (by omega) htt).mono ?_); rintro e w5 ⟨rfl, B5⟩)
        all_goals
          go_ret
          exact ⟨by rw [HW.out]; rfl, hB4.trans (B5.mono hB4.size)⟩
end Go.Proofs.YtjpkliaiicphbaaDoor
