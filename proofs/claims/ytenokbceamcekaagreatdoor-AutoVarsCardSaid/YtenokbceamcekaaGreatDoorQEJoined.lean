/-
  flatironref13.subst: each occurrence, changed.
  flatironref13.joined: pair by pair.
-/
import Derived.Test.YtenokbceamcekaaGreatDoorQESmall
import Derived.Test.YtenokbceamcekaaGreatDoorQEJoin
import Derived.Test.YtenokbceamcekaaGreatDoorQEList
namespace Go.Proofs.YtenokbceamcekaaGreatDoor.Ew
open Go.RowKit Go.Proofs.YtenokbceamcekaaGreatDoor Go.Proofs.YtenokbceamcekaaGreatDoor.Ww Go.Proofs.YtenokbceamcekaaGreatDoor.Tw
set_option maxRecDepth 100000

theorem subst_len (a b c : List UInt8) : (Ep.substA a b c).length ≤ c.length * (b.length + 1) + b.length + c.length := by
  unfold Ep.substA
  split
  · rw [List.length_append]; omega
  · rename_i h
    have := Ep.substGo_len a b h c.length c
    omega
/-- What the loop's head knows. -/
def SuRel (w : World) (a b c : ByteArray) (v i : Value) (wr : World) : Prop :=
  ∃ (k : Nat) (q : List UInt8) (ad : Option Addr) (cp : Nat), k ≤ c.size ∧ i = .int .i64 k ∧ v = .slice ad q.length cp ∧ q ++ Ep.substR (by8 a) (by8 b) (by8 c) k = Ep.substA (by8 a) (by8 b) (by8 c) ∧
    wr.ownsRow w.heap.size U8 1 (.slice ad q.length cp) q.length (bytesC q) ∧ Below w.heap.size w wr
theorem SuRel.next {w w1 : World} {a b c : ByteArray} {k' m : Nat} {q' : List UInt8} {ad : Option Addr} {cp : Nat} {iv : Int} (hiv : iv = (k' : Int)) (hk : k' ≤ c.size) (hq : q' ++ Ep.substR (by8 a) (by8 b) (by8 c) k' = Ep.substA (by8 a) (by8 b) (by8 c)) (hm : q'.length = m)
    (hr : w1.ownsRow w.heap.size U8 1 (.slice ad m cp) m (bytesC q')) (hB : Below w.heap.size w w1) : SuRel w a b c (.slice ad m cp) (.int .i64 iv) w1 := by
  subst hm; subst hiv
  exact ⟨k', q', ad, cp, hk, rfl, rfl, hq, hr, hB⟩

set_option maxHeartbeats 4000000 in
theorem Rsubst_any (w : World) (a b c : ByteArray) (ha : a.size ≤ 100000) (hb : b.size ≤ 100000) (hc : c.size ≤ 100000) :
    Calls Tryz.prog 25 #[.string a, .string b, .string c] w fun e w' => e = .returned (.string (str (Ep.substA (by8 a) (by8 b) (by8 c)))) ∧ Below w.heap.size w w' := by
  obtain ⟨i0, hi, hz0, hz1, hz2⟩ := info_parts infoU
  by_cases h0 : by8 a = []
  · have hb1 : (a.toList == []) = true := by rw [toList_by8, h0]; rfl
    have HE : Hid (str (Ep.substA (by8 a) (by8 b) (by8 c)) = c ++ b) := Lib.hid (by
      unfold Ep.substA; rw [if_pos h0]
      exact by8_ext (by rw [by8_add, by8_str]))
    have hcat : ¬ 9223372036854775807 < c.size + b.size := by omega
    clear h0
    go_enter Tryz.func25, Tryz.ntmps25
    go_wp2_with fail
    go_ret
    rw [HE.out]
    exact ⟨rfl, Below.refl _ _⟩
  have hb1 : (a.toList == []) = false := by rw [toList_by8]; exact beq_eq_false_iff_ne.2 h0
  have HA := Lib.hid h0
  have hal : 0 < a.size := by rw [← by8_len]; exact List.length_pos_iff.2 h0
  have HL := Lib.hid (subst_len (by8 a) (by8 b) (by8 c))
  clear h0
  go_enter Tryz.func25, Tryz.ntmps25
  go_wp2_with fail
  go_loopw [7, 8] (fun v i wr => SuRel w a b c v i wr) (fun _ i _ => c.size - (intOf i).toNat)
  case atStart => exact ⟨0, [], none, 0, Nat.zero_le _, rfl, rfl, by rw [Ep.substR_start HA.out]; rfl, World.ownsRow_nil _ _ _ _, Below.refl _ _⟩
  case round =>
    obtain ⟨k, q, ad, cp, hk, rfl, rfl, hq, hrow, hB⟩ := hrel
    have hql : q.length ≤ 10000300000 := by
      have h1 := congrArg List.length hq
      rw [List.length_append] at h1
      have h2 := HL.out
      rw [by8_len, by8_len] at h2
      have h3 : c.size * (b.size + 1) ≤ 100000 * 100001 := Nat.mul_le_mul hc (by omega)
      omega
    have HRow := Lib.hid hrow
    have HB := Lib.hid hB
    by_cases hlt : k < c.size
    · have hk8 : k < (by8 c).length := by rw [by8_len]; exact hlt
      cases ho : Lib.occAt (by8 c) (by8 a) k with
      | true =>
        have hroom : k + a.size ≤ c.size := by
          rcases Lib.occAt_room ho with h | h
          · rw [by8_len, by8_len] at h; exact h
          · exact absurd h HA.out
        have HC := Lib.hid (Rat_any wr c a k true (by omega) (by omega) (by omega) (Lib.hid ho))
        have hbl : b.data.toList.length = b.size := (Lib.size_eq _).symm
        have HQ : Hid ((q ++ b.data.toList) ++ Ep.substR (by8 a) (by8 b) (by8 c) (k + a.size) = Ep.substA (by8 a) (by8 b) (by8 c) ∧ (q ++ b.data.toList).length = q.length + b.size) := Lib.hid ⟨by
          rw [← hq, Ep.substR_hit HA.out hk8 ho, by8_len, List.append_assoc]; rfl, by rw [List.length_append, hbl]⟩
        clear ho hq hrow hB hbl
        go_wp2_with fail
        refine HC.out.mono ?_
        rintro e w' ⟨rfl, rfl⟩
        go_wp2_with (at_builtin; refine Lib.wpList_append_own_string _ rfl _ _ 48 9 rfl w.heap.size U8 i0 Tryz.underlying48 Tryz.underlying9 hi hz0 hz1 hz2 _ _ _ rfl HRow.out b rfl (by unfold maxLen; omega) (by omega) HB.out.size ?_; intro v'' w2 hown2 hgrow2 _; obtain ⟨a3, c3, rfl⟩ := owns_slice hown2)
        go_roundw
        case rel =>
          refine SuRel.next (k' := k + a.size) (by go_num) hroom HQ.out.1 HQ.out.2 ?_ (HB.out.grown hgrow2 HB.out.size fun j ej => (HRow.out.lt j ej).1)
          rw [bytesC_app]
          exact hown2
        case measure => simp [intOf]; omega
      | false =>
        have HC := Lib.hid (Rat_any wr c a k false (by omega) (by omega) (by omega) (Lib.hid ho))
        have HQ : Hid ((q ++ [c[k]]) ++ Ep.substR (by8 a) (by8 b) (by8 c) (k + 1) = Ep.substA (by8 a) (by8 b) (by8 c) ∧ (q ++ [c[k]]).length = q.length + 1) := Lib.hid ⟨by
          rw [← hq, Ep.substR_miss HA.out hk8 ho, List.append_assoc]; rfl, by rw [List.length_append]; rfl⟩
        clear ho hq hrow hB
        go_wp2_with fail
        refine HC.out.mono ?_
        rintro e w' ⟨rfl, rfl⟩
        go_wp2_with (at_builtin; refine wpList_append_own _ rfl _ _ 48 rfl w.heap.size U8 i0 (.int .u8 0) 1 1 Tryz.underlying48 hi hz0 hz1 hz2 rfl (by decide) _ _ _ rfl (HRow.out.alloc _) ⟨wr.heap.size, 0, none⟩ 1 1 [.int .u8 (c[k].toNat : Int)] rfl rfl (one_new _ _ _) (by simp [Value.oneCell']) (by unfold maxLen; omega) (by omega) (by have := HB.out.size; simp; omega) ?_; intro v' w1 hown' hgrow _; obtain ⟨a2, c2, rfl⟩ := owns_slice hown')
        go_roundw
        case rel =>
          refine SuRel.next (k' := k + 1) (by go_num) (by omega) HQ.out.1 HQ.out.2 ?_ ((HB.out.alloc HB.out.size _).grown hgrow (by have := HB.out.size; simp; omega) fun j ej => (HRow.out.lt j ej).1)
          rw [bytesC_app]
          exact hown'
        case measure => simp [intOf]; omega
    · obtain rfl : k = c.size := by omega
      rw [Ep.substR_over (by rw [by8_len]; exact Nat.le_refl _), List.append_nil] at hq
      have HE : Hid (str (Ep.substA (by8 a) (by8 b) (by8 c)) = ⟨q.toArray⟩) := Lib.hid (by rw [← hq]; rfl)
      by_cases h0 : 0 < q.length
      · obtain ⟨g, rfl, _⟩ := owns_addr hrow h0
        have hconv := run_convert_bytes_back (P := Tryz.prog) wr 48 9 5 ⟨g, 0, none⟩ cp q Tryz.underlying48 Tryz.underlying5 Tryz.underlying9
          (fun j hj => by
            have := owns_cell hrow (j := j) (u := .int .u8 (q[j].toNat : Int)) (by simp [bytesC, hj])
            rw [Addr.add_lit, Nat.zero_add]
            exact this)
        clear hq hrow
        go_wp2
        go_ret
        rw [HE.out]
        exact ⟨rfl, HB.out⟩
      · have h1 : q = [] := List.eq_nil_of_length_eq_zero (by omega)
        subst h1
        have hconv : ∀ a, (convert 48 9 (.slice a 0 cp)).run Tryz.prog wr = .ok (.string ⟨#[]⟩) wr := fun a => by
          rw [run_convert_bytes_string wr _ _ 5 a 0 cp Tryz.underlying48 Tryz.underlying5 Tryz.underlying9]
          cases a <;> simp [Conv.bytesToString] <;> rfl
        have hconv1 := hconv ad
        clear hq hrow hconv
        go_wp2
        go_ret
        rw [HE.out]
        exact ⟨rfl, HB.out⟩
end Go.Proofs.YtenokbceamcekaaGreatDoor.Ew
namespace Go.Proofs.YtenokbceamcekaaGreatDoor.Ew
open Go.RowKit Go.Proofs.YtenokbceamcekaaGreatDoor Go.Proofs.YtenokbceamcekaaGreatDoor.Ww Go.Proofs.YtenokbceamcekaaGreatDoor.Tw
set_option maxRecDepth 100000

/-- Two lists, pair by pair. -/
def pairsS : List ByteArray → List ByteArray → List ByteArray
  | [], y => y
  | x, [] => x
  | a :: x, b :: y => (a ++ b) :: pairsS x y
theorem pairs_nil (x : List ByteArray) : pairsS x [] = x := by cases x <;> rfl
theorem pairs_len : ∀ x y : List ByteArray, (pairsS x y).length = max x.length y.length
  | [], y => by rw [pairsS]; simp
  | a :: x, [] => by rw [pairs_nil]; simp
  | a :: x, b :: y => by rw [pairsS, List.length_cons, pairs_len x y, List.length_cons, List.length_cons]; omega
theorem pairs_get : ∀ (x y : List ByteArray) (k : Nat), (pairsS x y)[k]? = match x[k]?, y[k]? with | some a, some b => some (a ++ b) | some a, none => some a | none, some b => some b | none, none => none
  | [], y, k => by rw [pairsS]; simp; cases y[k]? <;> rfl
  | a :: x, [], k => by rw [pairs_nil]; simp; cases (a :: x)[k]? <;> rfl
  | a :: x, b :: y, 0 => rfl
  | a :: x, b :: y, k + 1 => by rw [pairsS, List.getElem?_cons_succ, List.getElem?_cons_succ, List.getElem?_cons_succ]; exact pairs_get x y k
theorem pairs_size {x y : List ByteArray} {n m : Nat} (hx : ∀ p ∈ x, p.size ≤ n) (hy : ∀ p ∈ y, p.size ≤ m) : ∀ p ∈ pairsS x y, p.size ≤ n + m := by
  intro p hp
  obtain ⟨k, hk, e⟩ := List.mem_iff_getElem.1 hp
  have h := pairs_get x y k
  rw [List.getElem?_eq_getElem hk, e] at h
  split at h
  · rename_i a b h1 h2
    obtain rfl := Option.some.inj h
    have ha := hx a (List.mem_of_getElem? h1)
    have hb := hy b (List.mem_of_getElem? h2)
    rw [ByteArray.size_append]; omega
  · rename_i a h1 h2
    obtain rfl := Option.some.inj h
    have ha := hx _ (List.mem_of_getElem? h1)
    omega
  · rename_i b h1 h2
    obtain rfl := Option.some.inj h
    have hb := hy _ (List.mem_of_getElem? h2)
    omega
  · cases h
theorem take_more {l out : List ByteArray} {k : Nat} {x : ByteArray} (h : l[k]? = some x) (ho : out = l.take k) : out ++ [x] = l.take (k + 1) := by
  obtain ⟨h1, h2⟩ := List.getElem?_eq_some_iff.1 h
  rw [List.take_succ_eq_append_getElem h1, h2, ho]

/-- What the loop's head knows. -/
def JoRel (w : World) (x y : List ByteArray) (v i : Value) (wr : World) : Prop :=
  ∃ (out : List ByteArray) (ad : Option Addr) (c : Nat), v = .slice ad out.length c ∧ i = .int .i64 (out.length : Int) ∧ out.length ≤ (pairsS x y).length ∧ out = (pairsS x y).take out.length ∧ wr.ownsRow w.heap.size ST 1 (.slice ad out.length c) out.length (strsC out) ∧ Below w.heap.size w wr
theorem JoRel.next {w wr w1 : World} {x y out : List ByteArray} {r : ByteArray} {ad a2 : Option Addr} {c c2 : Nat} {o : Obj} (h : (pairsS x y)[out.length]? = some r) (ho : out = (pairsS x y).take out.length)
    (hrow : wr.ownsRow w.heap.size ST 1 (.slice ad out.length c) out.length (strsC out)) (hB : Below w.heap.size w wr)
    (hown : w1.ownsRow w.heap.size ST 1 (.slice a2 (out.length + 1) c2) (out.length + 1) (strsC out ++ [.string r])) (hg : (wr.alloc o).grownBy w1 (Value.slice ad out.length c).ownBlock) :
    JoRel w x y (.slice a2 (out.length + 1) c2) (.int .i64 ((out.length : Int) + 1)) w1 := by
  have hl := (List.getElem?_eq_some_iff.1 h).1
  refine ⟨out ++ [r], a2, c2, by rw [List.length_append]; rfl, by rw [List.length_append]; rfl, by rw [List.length_append]; exact hl, ?_, row_snoc hown, (hB.alloc hB.size o).grown hg (by have := hB.size; simp; omega) fun j ej => (hrow.lt j ej).1⟩
  rw [List.length_append]
  exact take_more h ho

set_option maxHeartbeats 4000000 in
theorem Rjoined_any (w : World) (vx vy : Value) (x y : List ByteArray) (hx : Rd w w.heap.size vx (strsC x)) (hy : Rd w w.heap.size vy (strsC y)) (hxl : x.length ≤ 50000) (hyl : y.length ≤ 50000) (hxs : ∀ p ∈ x, p.size ≤ 40000) (hys : ∀ p ∈ y, p.size ≤ 40000) :
    Calls Tryz.prog 32 #[vx, vy] w fun e w' => e = .returned (.string (joinS (pairsS x y))) ∧ Below w.heap.size w w' := by
  obtain ⟨i0, hi, hz0, hz1, hz2⟩ := info_parts infoS
  have HX := Lib.hid hx
  have HY := Lib.hid hy
  have HXS := Lib.hid hxs
  have HYS := Lib.hid hys
  have HPS := Lib.hid (pairs_size hxs hys)
  have HPL := Lib.hid (pairs_len x y)
  obtain ⟨ax, cx, rfl, hcx0⟩ := hx.shape
  obtain ⟨ay, cy, rfl, hcy0⟩ := hy.shape
  simp only [strsC_len] at *
  clear hx hy hxs hys
  go_enter Tryz.func32, Tryz.ntmps32
  go_wp2_with fail
  go_loopw [5, 6] (fun v i wr => JoRel w x y v i wr) (fun _ i _ => (pairsS x y).length - (intOf i).toNat)
  case atStart => exact ⟨[], none, 0, rfl, rfl, Nat.zero_le _, by rw [List.length_nil, List.take_zero], World.ownsRow_nil _ _ _ _, Below.refl _ _⟩
  case round =>
    obtain ⟨out, ad, c, rfl, rfl, hol, ho, hrow, hB⟩ := hrel
    have HRow := Lib.hid hrow
    have HB := Lib.hid hB
    have HO := Lib.hid ho
    have hpl := HPL.out
    have hk0 : (0 : Int) ≤ (out.length : Int) := Int.natCast_nonneg _
    have hP := pairs_get x y out.length
    have HN := Lib.hid fun r w1 a2 c2 o (h : (pairsS x y)[out.length]? = some r) => @JoRel.next w wr w1 x y out r ad a2 c c2 o h ho hrow hB
    have hcells : ∀ (l : List ByteArray) (al : Option Addr) (cl : Nat), Rd w w.heap.size (.slice al l.length cl) (strsC l) → ∀ (h : out.length < l.length), ∃ g o, al = some ⟨g, o, none⟩ ∧ l.length ≤ cl ∧ ∀ W, Below w.heap.size w W → W.cell? ⟨g, o + out.length, none⟩ = some (.string l[out.length]) := by
      intro l al cl hr h
      obtain ⟨g, o, c', hv, hc', hg, hx⟩ := hr.open_ (by rw [strsC_len]; omega)
      rw [strsC_len] at hv hc'
      obtain ⟨rfl, _, rfl⟩ := (Value.slice.injEq ..).mp hv
      exact ⟨g, o, rfl, hc', fun W hW => (hW.cell (p := ⟨g, o + out.length, none⟩) hg).trans (hx _ _ (strsC_get l h))⟩
    have HCX := Lib.hid (hcells x ax cx HX.out)
    have HCY := Lib.hid (hcells y ay cy HY.out)
    clear hcells ho hrow hB
    by_cases h1 : out.length < x.length
    · obtain ⟨g, o, rfl, hgx, hcx⟩ := HCX.out h1
      have hcx := hcx wr HB.out
      have hx1 : (out.length : Int) < x.length := by omega
      have hxz := HXS.out _ (List.getElem_mem h1)
      rw [List.getElem?_eq_getElem h1] at hP
      generalize x[out.length] = p at *
      by_cases h2 : out.length < y.length
      · obtain ⟨g2, o2, rfl, hgy, hcy⟩ := HCY.out h2
        have hcy := hcy wr HB.out
        have hy1 : (out.length : Int) < y.length := by omega
        have hyz := HYS.out _ (List.getElem_mem h2)
        rw [List.getElem?_eq_getElem h2] at hP
        generalize y[out.length] = r at *
        have HM := Lib.hid fun w1 a2 c2 o => HN.out (p ++ r) w1 a2 c2 o hP
        have hcat : ¬ 9223372036854775807 < p.size + r.size := by omega
        clear hP hpl
        go_wp2_with (at_builtin; refine wpList_append_own _ rfl _ _ 22 rfl w.heap.size ST i0 (.string ByteArray.empty) 1 16 Tryz.underlying22 hi hz0 hz1 hz2 rfl (by decide) _ _ _ rfl (HRow.out.alloc _) ⟨wr.heap.size, 0, none⟩ 1 1 [.string (p ++ r)] rfl rfl (cell_one_new _ _ _) (by simp [Value.oneCell']) (by unfold maxLen; omega) (by omega) (by have := HB.out.size; simp; omega) ?_; intro v' w1 hown' hgrow _; obtain ⟨a2, c2, rfl⟩ := owns_slice hown')
        go_roundw
        case rel => exact HM.out _ _ _ _ hown' hgrow
        case measure => have := HPL.out; simp [intOf]; omega
      · have hy1 : ¬ (out.length : Int) < y.length := by omega
        rw [List.getElem?_eq_none (by omega : y.length ≤ out.length)] at hP
        have HM := Lib.hid fun w1 a2 c2 o => HN.out p w1 a2 c2 o hP
        clear hP hpl
        go_wp2_with (at_builtin; refine wpList_append_own _ rfl _ _ 22 rfl w.heap.size ST i0 (.string ByteArray.empty) 1 16 Tryz.underlying22 hi hz0 hz1 hz2 rfl (by decide) _ _ _ rfl (HRow.out.alloc _) ⟨wr.heap.size, 0, none⟩ 1 1 [.string p] rfl rfl (cell_one_new _ _ _) (by simp [Value.oneCell']) (by unfold maxLen; omega) (by omega) (by have := HB.out.size; simp; omega) ?_; intro v' w1 hown' hgrow _; obtain ⟨a2, c2, rfl⟩ := owns_slice hown')
        go_roundw
        case rel => exact HM.out _ _ _ _ hown' hgrow
        case measure => have := HPL.out; simp [intOf]; omega
    · have hx1 : ¬ (out.length : Int) < x.length := by omega
      rw [List.getElem?_eq_none (by omega : x.length ≤ out.length)] at hP
      by_cases h2 : out.length < y.length
      · obtain ⟨g2, o2, rfl, hgy, hcy⟩ := HCY.out h2
        have hcy := hcy wr HB.out
        have hy1 : (out.length : Int) < y.length := by omega
        have hyz := HYS.out _ (List.getElem_mem h2)
        rw [List.getElem?_eq_getElem h2] at hP
        generalize y[out.length] = r at *
        have HM := Lib.hid fun w1 a2 c2 o => HN.out r w1 a2 c2 o hP
        have hcat : ¬ 9223372036854775807 < r.size := by omega
        have hem : (⟨#[]⟩ : ByteArray) ++ r = r := by8_ext (by rw [by8_add]; rfl)
        clear hP hpl
        go_wp2_with (at_builtin; refine wpList_append_own _ rfl _ _ 22 rfl w.heap.size ST i0 (.string ByteArray.empty) 1 16 Tryz.underlying22 hi hz0 hz1 hz2 rfl (by decide) _ _ _ rfl (HRow.out.alloc _) ⟨wr.heap.size, 0, none⟩ 1 1 [.string r] rfl rfl (cell_one_new _ _ _) (by simp [Value.oneCell']) (by unfold maxLen; omega) (by omega) (by have := HB.out.size; simp; omega) ?_; intro v' w1 hown' hgrow _; obtain ⟨a2, c2, rfl⟩ := owns_slice hown')
        go_roundw
        case rel => exact HM.out _ _ _ _ hown' hgrow
        case measure => have := HPL.out; simp [intOf]; omega
      · have hy1 : ¬ (out.length : Int) < y.length := by omega
        have he : out.length = (pairsS x y).length := by omega
        have HE : Hid (out = pairsS x y) := Lib.hid (by rw [HO.out, he, List.take_of_length_le (Nat.le_refl _)])
        have HJ := Lib.hid (RJoin_any wr _ out (Rd.of_own HRow.out) (by omega) (fun p hp => by rw [HE.out] at hp; have := HPS.out p hp; omega))
        clear hP hpl he
        go_wp2_with fail
        refine HJ.out.mono ?_
        rintro e w1 ⟨rfl, B1⟩
        go_wp2_with fail
        go_ret
        rw [← HE.out]
        exact ⟨rfl, HB.out.trans (B1.mono HB.out.size)⟩
end Go.Proofs.YtenokbceamcekaaGreatDoor.Ew
