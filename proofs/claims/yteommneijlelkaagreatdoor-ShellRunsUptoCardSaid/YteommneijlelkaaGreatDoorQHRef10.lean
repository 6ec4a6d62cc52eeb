/-
  flatironref04.Join: words with one blank between.
  The reference's echo and flags.
  The reference's flags.
-/
import Derived.Lib.AppendStr
import Derived.Test.YteommneijlelkaaGreatDoorQWReads
import Derived.Test.YteommneijlelkaaGreatDoorQHRedir
import Derived.Test.YteommneijlelkaaGreatDoorQHRef3
import Derived.Test.YteommneijlelkaaGreatDoorQHDo1
import Derived.Deep.QuietTactic
namespace Go.Proofs.YteommneijlelkaaGreatDoor.Hx
open Go.RowKit Go.Proofs.YteommneijlelkaaGreatDoor Go.Maps Go.Proofs.YteommneijlelkaaGreatDoor.Sw
set_option maxRecDepth 100000

def jbC (l : Bs) : List Value := l.map fun b => Value.int .u8 (b.toNat : Int)
theorem jbC_app (a b : Bs) : jbC (a ++ b) = jbC a ++ jbC b := by simp [jbC]
theorem spaced_snoc : ∀ (l : List Bs) (x : Bs), l ≠ [] → Hp.spaced (l ++ [x]) = Hp.spaced l ++ 32 :: x
  | [], _, h => absurd rfl h
  | [y], x, _ => by simp [Hp.spaced]
  | y :: z :: r, x, _ => by
    have ih := spaced_snoc (z :: r) x (by simp)
    show y ++ 32 :: Hp.spaced ((z :: r) ++ [x]) = (y ++ 32 :: Hp.spaced (z :: r)) ++ 32 :: x
    rw [ih]; simp
theorem spaced_next {l : List Bs} {k : Nat} (h : k < l.length) (h0 : 0 < k) : Hp.spaced (l.take (k + 1)) = Hp.spaced (l.take k) ++ [32] ++ l[k] := by
  rw [List.take_succ_eq_append_getElem h, spaced_snoc _ _ (by intro e; have := congrArg List.length e; rw [List.length_take, List.length_nil] at this; omega)]
  simp
theorem wtL_take (l : List Bs) (k : Nat) : Hp.wtL (l.take k) ≤ Hp.wtL l := by
  unfold Hp.wtL
  conv => rhs; rw [← List.take_append_drop k l, List.map_append, List.sum_append]
  omega
theorem spaced_take (l : List Bs) (k : Nat) : (Hp.spaced (l.take k)).length ≤ Hp.wtL l := Nat.le_trans (Hp.spaced_len _) (wtL_take l k)

/-- What the loop's head knows. -/
def JnRel (w : World) (l : List Bs) (v i : Value) (wr : World) : Prop :=
  ∃ (k : Nat) (q : Bs) (a : Option Addr) (c : Nat), k ≤ l.length ∧ i = .int .i64 k ∧ v = .slice a q.length c ∧ q = Hp.spaced (l.take k) ∧
    wr.ownsRow w.heap.size U8 1 (.slice a q.length c) q.length (jbC q) ∧ Below w.heap.size w wr
theorem JnRel.next {w w1 : World} {l : List Bs} {k m : Nat} {q' : Bs} {a : Option Addr} {c : Nat} (hk : k < l.length) (hq : q' = Hp.spaced (l.take (k + 1))) (hm : q'.length = m)
    (hr : w1.ownsRow w.heap.size U8 1 (.slice a m c) m (jbC q')) (hB : Below w.heap.size w w1) : JnRel w l (.slice a m c) (.int .i64 ((k : Int) + 1)) w1 := by
  subst hm
  exact ⟨k + 1, q', a, c, hk, by go_num, rfl, hq, hr, hB⟩

set_option maxHeartbeats 2000000 in
theorem rjoin_any (w : World) (v : Value) (l : List Bs) (P : Nat → Prop) (hP : ∀ b, P b → b < w.heap.size) (hr : Px.Rg w P v l.length (Px.strsC l)) (hl : Hp.wtL l ≤ 100000) :
    Calls Tryz.prog 141 #[v] w fun e w' => e = .returned (.string (str (Hp.spaced l))) ∧ Below w.heap.size w w' := by
  obtain ⟨i0, hi, hz0, hz1, hz2⟩ := info_parts infoU
  have HR := Lib.hid hr
  obtain ⟨a0, c0, rfl, hc0⟩ := hr.shape
  have hll : l.length ≤ 100000 := by
    have : 2 * l.length ≤ Hp.wtL l := by
      unfold Hp.wtL
      clear hl HR hr hc0
      induction l with
      | nil => simp
      | cons x r ih => simp at *; omega
    omega
  have HSP := Lib.hid (spaced_take l)
  have HWT := Lib.hid fun (y : Bs) (hy : y ∈ l) => show y.length ≤ 100000 by have := Hp.wtL_mem hy; omega
  clear hr
  go_enter Tryz.func141, Tryz.ntmps141
  go_wp2
  go_loopw [3, 4] (fun v i wr => JnRel w l v i wr) (fun _ i _ => l.length - (intOf i).toNat)
  case atStart => exact ⟨0, [], none, 0, Nat.zero_le _, rfl, rfl, by rw [List.take_zero]; rfl, World.ownsRow_nil _ _ _ _, Below.refl _ _⟩
  case round =>
    obtain ⟨k, q, a, c, hk, rfl, rfl, hq, hrow, hB⟩ := hrel
    have hql : q.length ≤ 100000 := by rw [hq]; exact Nat.le_trans (HSP.out k) hl
    by_cases hlt : k < l.length
    · obtain ⟨b, o, ha, hc', hb, hx⟩ := HR.out.at_ (by omega)
      subst ha
      have hb' := hP b hb
      have hcx : wr.cell? ⟨b, o + k, none⟩ = some (.string (str l[k])) := (hB.cell (p := ⟨b, o + k, none⟩) hb').trans (hx k _ (Px.strsC_get hlt))
      have hsz0 := HWT.out _ (List.getElem_mem hlt)
      have hsz : (str l[k]).size ≤ 100000 := by rw [← bs_len, bs_str]; exact hsz0
      have hszd : (str l[k]).data.toList.length = (str l[k]).size := (Lib.size_eq _).symm
      have hki : (k : Int) < (l.length : Int) := by omega
      clear hx hsz0
      by_cases h0 : 0 < k
      · have hk00 : (0 : Int) < (k : Int) := by omega
        have HQ : Hid (q ++ [32] ++ (str l[k]).data.toList = Hp.spaced (l.take (k + 1)) ∧ (q ++ [32] ++ (str l[k]).data.toList).length = q.length + 1 + (str l[k]).size) := Lib.hid ⟨by rw [hq, spaced_next hlt h0]; rfl, by rw [List.length_append, List.length_append, hszd]; rfl⟩
        have hcx1 : ∀ o1, (wr.alloc o1).cell? ⟨b, o + k, none⟩ = some (.string (str l[k])) := fun o1 => ((hB.alloc hB.size o1).cell (p := ⟨b, o + k, none⟩) hb').trans ((hB.cell (p := ⟨b, o + k, none⟩) hb').symm.trans hcx)
        clear hq hszd
        go_wp2_with (first
          | (at_builtin; refine wpList_append_own _ rfl _ _ 84 rfl w.heap.size U8 i0 (.int .u8 0) 1 1 Tryz.underlying84 hi hz0 hz1 hz2 rfl (by decide) _ _ _ rfl (hrow.alloc _) ⟨wr.heap.size, 0, none⟩ 1 1 [.int .u8 32] rfl rfl (Px.one_at _ rfl _ _) (by simp [Value.oneCell']) (by unfold maxLen; omega) (by omega) (by have := hB.size; simp; omega) ?_; intro v' w1 hown' hgrow' _; have hB1 := (hB.alloc hB.size (.cells #[.int .u8 32] U8)).grown hgrow' (by have := hB.size; simp; omega) (fun j ej => (hrow.lt j ej).1); have hcx2 : w1.cell? ⟨b, o + k, none⟩ = some (.string (str l[k])) := (hB1.cell (p := ⟨b, o + k, none⟩) hb').trans ((hB.cell (p := ⟨b, o + k, none⟩) hb').symm.trans hcx); obtain ⟨a2, c2, rfl⟩ := owns_slice hown')
          | (at_builtin; refine Lib.wpList_append_own_string _ rfl _ _ 84 9 rfl w.heap.size U8 i0 Tryz.underlying84 Tryz.underlying9 hi hz0 hz1 hz2 _ _ _ rfl hown' (str l[k]) rfl (by unfold maxLen; omega) (by omega) hB1.size ?_; intro v'' w2 hown2 hgrow2 _; obtain ⟨a3, c3, rfl⟩ := owns_slice hown2))
        go_roundw
        case rel =>
          refine JnRel.next hlt HQ.out.1 HQ.out.2 ?_ (hB1.grown hgrow2 hB1.size fun j ej => (hown'.lt j ej).1)
          rw [jbC_app, jbC_app]
          exact hown2
        case measure => simp [intOf]; omega
      · obtain rfl : k = 0 := by omega
        have HQ : Hid ((str l[0]).data.toList = Hp.spaced (l.take (0 + 1)) ∧ (str l[0]).data.toList.length = 0 + (str l[0]).size) := Lib.hid ⟨by rw [List.take_succ_eq_append_getElem hlt, List.take_zero]; rfl, by rw [hszd, Nat.zero_add]⟩
        have hq0 : q = [] := by rw [hq, List.take_zero]; rfl
        rw [Nat.add_zero] at hcx
        subst hq0
        clear hq hszd
        go_wp2_with (at_builtin; refine Lib.wpList_append_own_string _ rfl _ _ 84 9 rfl w.heap.size U8 i0 Tryz.underlying84 Tryz.underlying9 hi hz0 hz1 hz2 _ _ _ rfl hrow (str l[0]) rfl (by unfold maxLen; simp; omega) (by simp; omega) hB.size ?_; intro v'' w2 hown2 hgrow2 _; obtain ⟨a3, c3, rfl⟩ := owns_slice hown2)
        go_roundw
        case rel => exact JnRel.next hlt HQ.out.1 (by rw [HQ.out.2]; exact Nat.zero_add _) (by simpa [jbC, Lib.strCells] using hown2) (hB.grown hgrow2 hB.size fun j ej => (hrow.lt j ej).1)
        case measure => simp [intOf]; omega
    · obtain rfl : k = l.length := by omega
      rw [List.take_of_length_le (Nat.le_refl _)] at hq
      have HE : Hid (str (Hp.spaced l) = ⟨q.toArray⟩) := Lib.hid (by rw [hq]; rfl)
      have hki : ¬ (l.length : Int) < (l.length : Int) := by omega
      by_cases h0 : 0 < q.length
      · obtain ⟨g, rfl, _⟩ := Ww.owns_addr hrow h0
        have hconv := run_convert_bytes_back (P := Tryz.prog) wr 84 9 5 ⟨g, 0, none⟩ c q Tryz.underlying84 Tryz.underlying5 Tryz.underlying9
          (fun j hj => by
            have := Ww.owns_cell hrow (j := j) (u := .int .u8 (q[j].toNat : Int)) (by simp [jbC, hj])
            rw [Addr.add_lit, Nat.zero_add]
            exact this)
        clear hq hrow
        go_wp2
        go_ret
        exact ⟨by rw [HE.out]; rfl, hB⟩
      · have h1 : q = [] := List.eq_nil_of_length_eq_zero (by omega)
        subst h1
        have hconv : ∀ a, (convert 84 9 (.slice a 0 c)).run Tryz.prog wr = .ok (.string ⟨#[]⟩) wr := fun a => by
          rw [run_convert_bytes_string wr _ _ 5 a 0 c Tryz.underlying84 Tryz.underlying5 Tryz.underlying9]
          cases a <;> simp [Conv.bytesToString] <;> rfl
        have hconv1 := hconv a
        clear hq hrow hconv
        go_wp2
        go_ret
        exact ⟨by rw [HE.out]; rfl, hB⟩
end Go.Proofs.YteommneijlelkaaGreatDoor.Hx
namespace Go.Proofs.YteommneijlelkaaGreatDoor.Hx
open Go.RowKit Go.Proofs.YteommneijlelkaaGreatDoor Go.Maps Go.Proofs.YteommneijlelkaaGreatDoor.Sw
set_option maxRecDepth 100000
section
variable {qb N : Nat} {v x : Value} {k : Hp.K} {st ran : Int} {out : Bs} {l : List Bs}

theorem RWs.drop {w : World} {b o c : Nat} (h : RWs w qb N (.slice (some ⟨b, o, none⟩) l.length c) l) (n : Nat) (hn : n ≤ l.length) (a : Option Addr) (ha : c = n ∨ a = some ⟨b, o + n, none⟩) : RWs w qb N (.slice a (l.length - n) (c - n)) (l.drop n) := by
  obtain ⟨a', c', hv, hc, h⟩ := h
  cases hv
  have e : (l.drop n).length = l.length - n := List.length_drop
  refine ⟨a, c - n, by rw [e], by rw [e]; omega, ?_⟩
  rw [e]
  rcases h with h | ⟨b', o', ha', hp, hx⟩
  · left; omega
  · cases ha'
    rcases ha with e1 | e1
    · left; omega
    · refine .inr ⟨b, o + n, e1, hp, fun j u hj => ?_⟩
      have := hx (n + j) u (by
        rw [Px.strsC, List.getElem?_map, List.getElem?_drop] at hj
        rw [Px.strsC, List.getElem?_map]; exact hj)
      rw [show o + n + j = o + (n + j) by omega]; exact this
theorem recho_nl {l : List Bs} (h : ∀ r, l ≠ [45, 110] :: r) : Hp.echoA k l = (⟨k.s, k.d, k.code, k.inp, Hp.spaced l ++ [10]⟩, 0) := by
  unfold Hp.echoA
  split
  · exact absurd rfl (h _)
  · rfl

set_option maxHeartbeats 1000000 in
theorem recho_any (w : World) (hR : RefAt w qb v k st ran out) (hN : N ≤ w.heap.size) (hx : RWs w qb N x l) (hl : Hp.wtL l ≤ 100000) :
    Calls Tryz.prog 95 #[.pointer (some ⟨qb, 0, none⟩), x] w (RefPost w qb st ran out (Hp.echoA k l)) := by
  have hlt := hR.lt
  obtain ⟨va, vn, vc, rfl⟩ := hR.files.shape
  obtain ⟨a, c, rfl, hc⟩ := Px.Rg.shape hx
  have hPb : ∀ b, (b < N ∧ b ≠ qb) → b < w.heap.size := fun b hb => Nat.lt_of_lt_of_le hb.1 hN
  rcases l with _ | ⟨y, r⟩
  · have hJ := Lib.hid (rjoin_any w _ [] _ hPb hx (by simp [Hp.wtL]))
    have hsz : (str (Hp.spaced [])).size ≤ 100000 := by decide
    have HR := Lib.hid hR
    clear hx hR
    go_enter Tryz.func95, Tryz.ntmps95
    go_wp2_with fail
    refine hJ.out.mono ?_
    rintro e w1 ⟨rfl, B1⟩
    have hR1 := HR.out.below B1
    obtain ⟨c0, c1, c2, c3, c4, c5, c6, c7, c8⟩ := hR1.cells
    have f8 := hR1.frozen 8
    have hlt1 := hR1.lt
    go_wp2_with fail
    rw [show (⟨#[10]⟩ : ByteArray) = str [10] from rfl, str_app]
    go_ret
    exact ⟨rfl, ⟨_, hR1.setOutp (Hp.spaced [] ++ [10])⟩, kept_set (.of_below B1) (by simp) _⟩
  · obtain ⟨b, o, rfl, _, hb, hy⟩ := RWs.cell hx (by simp)
    have e0 : w.cell? ⟨b, o, none⟩ = some (.string (str y)) := hy 0 (by simp)
    have HR := Lib.hid hR
    have hcl : (r.length + 1 : Nat) ≤ c := hc
    by_cases hn : y = [45, 110]
    · subst hn
      have q : ((str [45, 110]).toList == [45, 110]) = true := by rw [Lib.toList_data]; rfl
      have HT := Lib.hid fun (a : Option Addr) (ha : c = 1 ∨ a = some ⟨b, o + 1, none⟩) => show RWs w qb N (.slice a r.length (c - 1)) r from RWs.drop hx 1 (by simp) a ha
      have hw1 : Hp.wtL r ≤ 100000 := by have e : Hp.wtL ([45, 110] :: r) = (2 + 2) + Hp.wtL r := rfl; omega
      have hsz : (str (Hp.spaced r)).size ≤ 100000 := by rw [← bs_len, bs_str]; have := Hp.spaced_len r; omega
      clear hx hR hy
      go_enter Tryz.func95, Tryz.ntmps95
      go_wp2_with (go_at_call 141; refine (rjoin_any w _ r _ hPb (HT.out _ (by by_cases h : c = 1 <;> simp [h])) (by omega)).mono ?_; rintro e w1 ⟨rfl, B1⟩; have hR1 := HR.out.below B1; obtain ⟨c0, c1, c2, c3, c4, c5, c6, c7, c8⟩ := hR1.cells; have f8 := hR1.frozen 8; have hlt1 := hR1.lt)
      all_goals go_ret
      all_goals exact ⟨rfl, ⟨_, hR1.setOutp (Hp.spaced r)⟩, kept_set (.of_below B1) (by simp) _⟩
    · have q : ((str y).toList == [45, 110]) = false := by rw [Lib.toList_data, beq_eq_false_iff_ne]; exact hn
      have hJ := Lib.hid (rjoin_any w _ (y :: r) _ hPb hx (by omega))
      have hsz : (str (Hp.spaced (y :: r))).size ≤ 100000 := by rw [← bs_len, bs_str]; have := Hp.spaced_len (y :: r); omega
      have HE : Hid (Hp.echoA k (y :: r) = (⟨k.s, k.d, k.code, k.inp, Hp.spaced (y :: r) ++ [10]⟩, 0)) := Lib.hid (recho_nl (fun r' e => hn (by cases e; rfl)))
      clear hx hR hy hn
      go_enter Tryz.func95, Tryz.ntmps95
      go_wp2_with fail
      refine hJ.out.mono ?_
      rintro e w1 ⟨rfl, B1⟩
      have hR1 := HR.out.below B1
      obtain ⟨c0, c1, c2, c3, c4, c5, c6, c7, c8⟩ := hR1.cells
      have f8 := hR1.frozen 8
      have hlt1 := hR1.lt
      go_wp2_with fail
      rw [show (⟨#[10]⟩ : ByteArray) = str [10] from rfl, str_app]
      go_ret
      rw [HE.out]
      exact ⟨rfl, ⟨_, hR1.setOutp (Hp.spaced (y :: r) ++ [10])⟩, kept_set (.of_below B1) (by simp) _⟩
end
end Go.Proofs.YteommneijlelkaaGreatDoor.Hx
namespace Go.Proofs.YteommneijlelkaaGreatDoor.Hx
open Go.RowKit Go.Proofs.YteommneijlelkaaGreatDoor Go.Maps Go.Proofs.YteommneijlelkaaGreatDoor.Sw
set_option maxRecDepth 100000
section
variable {qb N : Nat} {v x : Value} {k : Hp.K} {st ran : Int} {out : Bs} {l : List Bs}

theorem flags_cons {y : Bs} {r : List Bs} (h : Hp.flagB y = true) : Hp.flagsOf (y :: r) = y.drop 1 ++ Hp.flagsOf r ∧ Hp.restOf (y :: r) = Hp.restOf r := by
  unfold Hp.flagsOf Hp.restOf
  rw [List.takeWhile_cons_of_pos h, List.dropWhile_cons_of_pos h, List.flatMap_cons]
  exact ⟨rfl, rfl⟩
theorem flags_stop {y : Bs} {r : List Bs} (h : Hp.flagB y = false) : Hp.flagsOf (y :: r) = [] ∧ Hp.restOf (y :: r) = y :: r := by
  unfold Hp.flagsOf Hp.restOf
  rw [List.takeWhile_cons_of_neg (by rw [h]; exact Bool.false_ne_true), List.dropWhile_cons_of_neg (by rw [h]; exact Bool.false_ne_true)]
  exact ⟨rfl, rfl⟩
theorem flags_len : ∀ l : List Bs, (Hp.flagsOf l).length ≤ Hp.wtL l
  | [] => Nat.zero_le _
  | y :: r => by
    have ih := flags_len r
    have e : Hp.wtL (y :: r) = (y.length + 2) + Hp.wtL r := rfl
    cases h : Hp.flagB y with
    | true => rw [(flags_cons h).1, List.length_append, List.length_drop, e]; omega
    | false => rw [(flags_stop h).1]; exact Nat.zero_le _
theorem rflagB_is {y : Bs} (h : 1 < y.length) : Hp.flagB y = decide (y[0] = 45) := by
  match y, h with
  | c :: d :: r, _ =>
    show Hp.flagB (c :: d :: r) = decide (c = 45)
    by_cases hc : c = 45
    · subst hc; rfl
    · rw [decide_eq_false hc]
      unfold Hp.flagB
      split
      · rename_i heq; injection heq with h1 _; exact absurd h1 hc
      · rfl
theorem flagB_short {y : Bs} (h : ¬ 1 < y.length) : Hp.flagB y = false := by
  match y, h with
  | [], _ => rfl
  | [c], _ => unfold Hp.flagB; split <;> simp_all
  | _ :: _ :: _, h => exact absurd (by simp) h

theorem rws_end {w : World} (a : Option Addr) (c : Nat) : RWs w qb N (.slice a 0 c) (l.drop l.length) := by rw [List.drop_length]; exact Px.Rg.nil _ _ _ _ _
/-- What flags returns. -/
def RFlagsPost (w : World) (qb N : Nat) (letters : ByteArray) (l : List Bs) (e : Ending) (w' : World) : Prop :=
  (match (Hp.flagsOf l).all (Ww.hasB letters) with
    | true => ∃ x, e = .returned (.tuple #[.string (str (Hp.flagsOf l)), x, .bool true]) ∧ RWs w qb N x (Hp.restOf l)
    | false => e = .returned (.tuple #[.string ⟨#[]⟩, .slice none 0 0, .bool false])) ∧ Below w.heap.size w w'

set_option maxHeartbeats 4000000 in
theorem rflags_some (w : World) (letters : ByteArray) (b o c : Nat) (hx : RWs w qb N (.slice (some ⟨b, o, none⟩) l.length c) l) (hne : 0 < l.length) (hcl : l.length ≤ c) (hle : letters.size ≤ 1000000) (hl : Hp.wtL l ≤ 100000) :
    Calls Tryz.prog 144 #[.slice (some ⟨b, o, none⟩) l.length c, .string letters] w (RFlagsPost w qb N letters l) := by
  obtain ⟨b', o', hab, _, _, hy0⟩ := RWs.cell hx hne
  cases hab
  have HY := Lib.hid hy0
  have HD := Lib.hid fun n hn a ha => RWs.drop (n := n) hx hn a ha
  have HFLn := Lib.hid (flags_len l)
  have hll : l.length ≤ 100000 := by
    have : 2 * l.length ≤ Hp.wtL l := by
      unfold Hp.wtL
      clear hl hy0 hx hne hcl HY HD HFLn
      induction l with
      | nil => simp
      | cons x r ih => simp at *; omega
    omega
  clear hx hy0
  go_enter Tryz.func144, Tryz.ntmps144
  go_wp2_with fail
  go_loop [7, 8] (fun v7 v8 => ∃ (i : Nat) (acc : Bs), v7 = .string (str acc) ∧ v8 = .int .i64 i ∧ i ≤ l.length ∧ Hp.flagsOf l = acc ++ Hp.flagsOf (l.drop i) ∧ Hp.restOf l = Hp.restOf (l.drop i)) (fun _ v8 => l.length - (intOf v8).toNat)
  case atStart => exact ⟨0, [], rfl, rfl, Nat.zero_le _, rfl, rfl⟩
  case round =>
    obtain ⟨i, acc, rfl, rfl, hi, hfl, hrs⟩ := hrel
    have hal : acc.length ≤ 100000 := by
      have h1 := HFLn.out
      rw [hfl, List.length_append] at h1
      omega
    have HSZ : Hid ((str acc).size = acc.length) := Lib.hid (by rw [← bs_len, bs_str])
    have hsz : (str acc).size ≤ 100000 := by rw [HSZ.out]; exact hal
    have HDR := Lib.hid fun a ha => HD.out i hi a ha
    have hi0 : (0 : Int) ≤ (i : Int) := Int.natCast_nonneg _
    have hi2 : (i : Int) ≤ (l.length : Int) := by omega
    have hic : (i : Int) ≤ (c : Int) := by omega
    by_cases hlt : i < l.length
    · have hki : (i : Int) < (l.length : Int) := by omega
      have e0 := HY.out i hlt
      rw [List.drop_eq_getElem_cons hlt] at hfl hrs
      obtain ⟨y, hyl⟩ : ∃ y, l[i] = y := ⟨_, rfl⟩
      have hyw : y.length + 2 ≤ Hp.wtL l := by rw [← hyl]; exact Hp.wtL_mem (List.getElem_mem hlt)
      rw [hyl] at e0 hfl hrs
      have hys : (str y).size = y.length := by rw [← bs_len, bs_str]
      by_cases h1 : 1 < y.length
      · have h1s : (1 : Int) < ((str y).size : Int) := by omega
        have hysz : (str y).size ≤ 100000 := by omega
        have hex : ¬ 9223372036854775807 < (str acc).size + ((str y).size - 1) := by omega
        have h1d : decide ((1 : Int) < ((str y).size : Int)) = true := decide_eq_true h1s
        have h0s : 0 < (str y).size := by omega
        have h0i : (0 : Int) < ((str y).size : Int) := by omega
        have h1l : (1 : Int) ≤ ((str y).size : Int) := by omega
        have hgt : (str y)[0] = y[0] := rfl
        have hfb := rflagB_is h1
        by_cases h45 : y[0] = 45
        · have hb : (((str y)[0].toNat : Int) == 45) = true := by rw [hgt, h45]; rfl
          have hfb2 : Hp.flagB y = true := by rw [hfb]; exact decide_eq_true h45
          obtain ⟨hf1, hf2⟩ := flags_cons (r := l.drop (i + 1)) hfb2
          have HFL : Hid (Hp.flagsOf l = (acc ++ y.drop 1) ++ Hp.flagsOf (l.drop (i + 1))) := Lib.hid (by rw [hfl, hf1, List.append_assoc])
          have HRS : Hid (Hp.restOf l = Hp.restOf (l.drop (i + 1))) := Lib.hid (by rw [hrs, hf2])
          have HAP : Hid (str acc ++ (str y).extract 1 (str y).size = str (acc ++ y.drop 1)) := Lib.hid (by
            rw [show (str y).extract 1 (str y).size = str (y.drop 1) from bs_inj (Lib.extract_to_end (str y) 1), str_app])
          clear hfl hrs hf1 hf2 hfb hfb2 h45 hgt hyl hys h1 hyw
          go_wp2_with fail
          go_round
          case rel => exact ⟨i + 1, acc ++ y.drop 1, by rw [← HAP.out], by go_num, hlt, HFL.out, HRS.out⟩
          case measure => simp [intOf]; omega
        · have hb : (((str y)[0].toNat : Int) == 45) = false := by rw [hgt]; exact Lx.eq_false (b := 45) h45
          have hfb2 : Hp.flagB y = false := by rw [hfb]; exact decide_eq_false h45
          obtain ⟨hf1, hf2⟩ := flags_stop (r := l.drop (i + 1)) hfb2
          have HFL : Hid (Hp.flagsOf l = acc) := Lib.hid (by rw [hfl, hf1, List.append_nil])
          have HRS : Hid (Hp.restOf l = l.drop i) := Lib.hid (by rw [hrs, hf2, List.drop_eq_getElem_cons hlt, hyl])
          clear hfl hrs hf1 hf2 hfb hfb2 h45 hgt hyl hys h1 hyw
          go_wp2_with fail
          go_loop [9] (fun v9 => ∃ j : Nat, v9 = .int .i64 j ∧ j ≤ (str acc).size ∧ (acc.drop j).all (Ww.hasB letters) = acc.all (Ww.hasB letters)) (fun v9 => (str acc).size - (intOf v9).toNat)
          case atStart => exact ⟨0, rfl, Nat.zero_le _, rfl⟩
          case round =>
            obtain ⟨j, rfl, hj, hall⟩ := hrel
            by_cases hjl : j < (str acc).size
            · have hjl2 : j < acc.length := by rw [← HSZ.out]; exact hjl
              have hji : (j : Int) < ((str acc).size : Int) := by omega
              have hj0 : (0 : Int) ≤ (j : Int) := Int.natCast_nonneg _
              have hget : (str acc)[j] = acc[j] := rfl
              rw [List.drop_eq_getElem_cons hjl2, List.all_cons] at hall
              have HH := Lib.hid fun W => Ww.Has_any W letters (str acc)[j] hle
              rw [hget] at HH
              cases hq : Ww.hasB letters acc[j] with
              | true =>
                rw [hq] at HH hall
                have HA : Hid ((acc.drop (j + 1)).all (Ww.hasB letters) = acc.all (Ww.hasB letters)) := Lib.hid (by rw [← hall]; rfl)
                rw [← hget] at HH
                clear hall hq hget
                go_wp2_with fail
                refine (HH.out _).mono ?_
                rintro e w1 ⟨rfl, rfl⟩
                go_wp2_with fail
                go_round
                case rel => exact ⟨j + 1, by go_num, hjl, HA.out⟩
                case measure => simp [intOf]; omega
              | false =>
                rw [hq] at HH hall
                have HA : Hid (acc.all (Ww.hasB letters) = false) := Lib.hid (by rw [← hall]; rfl)
                rw [← hget] at HH
                clear hall hq hget
                go_wp2_with fail
                refine (HH.out _).mono ?_
                rintro e w1 ⟨rfl, rfl⟩
                go_wp2_with fail
                go_ret3
                refine ⟨?_, Below.refl _ _⟩
                rw [HFL.out, HA.out]
                exact rfl
            · obtain rfl : j = (str acc).size := by omega
              have HA : Hid (acc.all (Ww.hasB letters) = true) := Lib.hid (by rw [← hall, HSZ.out, List.drop_length]; rfl)
              have hji : ¬ ((str acc).size : Int) < ((str acc).size : Int) := by omega
              clear hall
              go_wp2_with fail
              go_quiet (fail)
              all_goals go_wp2_with fail
              all_goals go_ret3
              all_goals refine ⟨?_, below_drewN (Below.refl _ _) _⟩
              all_goals rw [HFL.out, HA.out]
              all_goals refine ⟨_, rfl, ?_⟩
              all_goals rw [HRS.out]
              all_goals exact HDR.out _ (by by_cases h : c = i <;> simp [h])
      · have h1s : ¬ (1 : Int) < ((str y).size : Int) := by omega
        have h1d : decide ((1 : Int) < ((str y).size : Int)) = false := decide_eq_false h1s
        obtain ⟨hf1, hf2⟩ := flags_stop (r := l.drop (i + 1)) (flagB_short h1)
        have HFL : Hid (Hp.flagsOf l = acc) := Lib.hid (by rw [hfl, hf1, List.append_nil])
        have HRS : Hid (Hp.restOf l = l.drop i) := Lib.hid (by rw [hrs, hf2, List.drop_eq_getElem_cons hlt, hyl])
        clear hfl hrs hf1 hf2 hyl hys h1 hyw
        go_wp2_with fail
        go_loop [9] (fun v9 => ∃ j : Nat, v9 = .int .i64 j ∧ j ≤ (str acc).size ∧ (acc.drop j).all (Ww.hasB letters) = acc.all (Ww.hasB letters)) (fun v9 => (str acc).size - (intOf v9).toNat)
        case atStart => exact ⟨0, rfl, Nat.zero_le _, rfl⟩
        case round =>
          obtain ⟨j, rfl, hj, hall⟩ := hrel
          by_cases hjl : j < (str acc).size
          · have hjl2 : j < acc.length := by rw [← HSZ.out]; exact hjl
            have hji : (j : Int) < ((str acc).size : Int) := by omega
            have hj0 : (0 : Int) ≤ (j : Int) := Int.natCast_nonneg _
            have hget : (str acc)[j] = acc[j] := rfl
            rw [List.drop_eq_getElem_cons hjl2, List.all_cons] at hall
            have HH := Lib.hid fun W => Ww.Has_any W letters (str acc)[j] hle
            rw [hget] at HH
            cases hq : Ww.hasB letters acc[j] with
            | true =>
              rw [hq] at HH hall
              have HA : Hid ((acc.drop (j + 1)).all (Ww.hasB letters) = acc.all (Ww.hasB letters)) := Lib.hid (by rw [← hall]; rfl)
              rw [← hget] at HH
              clear hall hq hget
              go_wp2_with fail
              refine (HH.out _).mono ?_
              rintro e w1 ⟨rfl, rfl⟩
              go_wp2_with fail
              go_round
              case rel => exact ⟨j + 1, by go_num, hjl, HA.out⟩
              case measure => simp [intOf]; omega
            | false =>
              rw [hq] at HH hall
              have HA : Hid (acc.all (Ww.hasB letters) = false) := Lib.hid (by rw [← hall]; rfl)
              rw [← hget] at HH
              clear hall hq hget
              go_wp2_with fail
              refine (HH.out _).mono ?_
              rintro e w1 ⟨rfl, rfl⟩
              go_wp2_with fail
              go_ret3
              refine ⟨?_, Below.refl _ _⟩
              rw [HFL.out, HA.out]
              exact rfl
          · obtain rfl : j = (str acc).size := by omega
            have HA : Hid (acc.all (Ww.hasB letters) = true) := Lib.hid (by rw [← hall, HSZ.out, List.drop_length]; rfl)
            have hji : ¬ ((str acc).size : Int) < ((str acc).size : Int) := by omega
            clear hall
            go_wp2_with fail
            go_quiet (fail)
            all_goals go_wp2_with fail
            all_goals go_ret3
            all_goals refine ⟨?_, below_drewN (Below.refl _ _) _⟩
            all_goals rw [HFL.out, HA.out]
            all_goals refine ⟨_, rfl, ?_⟩
            all_goals rw [HRS.out]
            all_goals exact HDR.out _ (by by_cases h : c = i <;> simp [h])
    · obtain rfl : i = l.length := by omega
      rw [List.drop_length] at hfl hrs
      have hki : ¬ (l.length : Int) < (l.length : Int) := by omega
      have HFL : Hid (Hp.flagsOf l = acc) := Lib.hid (by rw [hfl]; exact List.append_nil _)
      have HRS : Hid (Hp.restOf l = l.drop l.length) := Lib.hid (by rw [hrs, List.drop_length]; rfl)
      clear hfl hrs
      go_wp2_with fail
      go_loop [9] (fun v9 => ∃ j : Nat, v9 = .int .i64 j ∧ j ≤ (str acc).size ∧ (acc.drop j).all (Ww.hasB letters) = acc.all (Ww.hasB letters)) (fun v9 => (str acc).size - (intOf v9).toNat)
      case atStart => exact ⟨0, rfl, Nat.zero_le _, rfl⟩
      case round =>
        obtain ⟨j, rfl, hj, hall⟩ := hrel
        by_cases hjl : j < (str acc).size
        · have hjl2 : j < acc.length := by rw [← HSZ.out]; exact hjl
          have hji : (j : Int) < ((str acc).size : Int) := by omega
          have hj0 : (0 : Int) ≤ (j : Int) := Int.natCast_nonneg _
          have hget : (str acc)[j] = acc[j] := rfl
          rw [List.drop_eq_getElem_cons hjl2, List.all_cons] at hall
          have HH := Lib.hid fun W => Ww.Has_any W letters (str acc)[j] hle
          rw [hget] at HH
          cases hq : Ww.hasB letters acc[j] with
          | true =>
            rw [hq] at HH hall
            have HA : Hid ((acc.drop (j + 1)).all (Ww.hasB letters) = acc.all (Ww.hasB letters)) := Lib.hid (by rw [← hall]; rfl)
            rw [← hget] at HH
            clear hall hq hget
            go_wp2_with fail
            refine (HH.out _).mono ?_
            rintro e w1 ⟨rfl, rfl⟩
            go_wp2_with fail
            go_round
            case rel => exact ⟨j + 1, by go_num, hjl, HA.out⟩
            case measure => simp [intOf]; omega
          | false =>
            rw [hq] at HH hall
            have HA : Hid (acc.all (Ww.hasB letters) = false) := Lib.hid (by rw [← hall]; rfl)
            rw [← hget] at HH
            clear hall hq hget
            go_wp2_with fail
            refine (HH.out _).mono ?_
            rintro e w1 ⟨rfl, rfl⟩
            go_wp2_with fail
            go_ret3
            refine ⟨?_, Below.refl _ _⟩
            rw [HFL.out, HA.out]
            exact rfl
        · obtain rfl : j = (str acc).size := by omega
          have HA : Hid (acc.all (Ww.hasB letters) = true) := Lib.hid (by rw [← hall, HSZ.out, List.drop_length]; rfl)
          have hji : ¬ ((str acc).size : Int) < ((str acc).size : Int) := by omega
          clear hall
          go_wp2_with fail
          go_quiet (fail)
          all_goals go_wp2_with fail
          all_goals go_ret3
          all_goals refine ⟨?_, below_drewN (Below.refl _ _) _⟩
          all_goals rw [HFL.out, HA.out]
          all_goals refine ⟨_, rfl, ?_⟩
          all_goals rw [HRS.out]
          all_goals exact rws_end _ _
end
end Go.Proofs.YteommneijlelkaaGreatDoor.Hx
