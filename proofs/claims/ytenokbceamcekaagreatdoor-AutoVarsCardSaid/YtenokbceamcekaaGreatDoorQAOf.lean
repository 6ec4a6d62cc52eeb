/-
  flatironref15.Of: a target's variables.
-/
import Derived.Deep.RegionHeld3
import Derived.Test.YtenokbceamcekaaGreatDoorQADirs
import Derived.Test.YtenokbceamcekaaGreatDoorQWRUnique
namespace Go.Proofs.YtenokbceamcekaaGreatDoor.Aw
open Go.RowKit Go.Proofs.YtenokbceamcekaaGreatDoor Go.Proofs.YtenokbceamcekaaGreatDoor.Ww Go.Proofs.YtenokbceamcekaaGreatDoor.Tw Go.Proofs.YtenokbceamcekaaGreatDoor.Ew
set_option maxRecDepth 100000

abbrev PT : TypeId := 29
abbrev ST : TypeId := 9
theorem infoP : (Tryz.prog.info? PT).map (fun i => (i.zero, i.size, i.bytes)) = some (some (.agg #[.string ByteArray.empty, .string ByteArray.empty]), 2, 32) := by kernel_rfl
/-- An append as one step of a statement whose order is open. -/
theorem step_append_own {P : Program} {ops : Array Oper} {o : Oper} {a : Act} {w : World} {K : Act → World → Prop} {Q : Exit → Act → World → Prop} {E : Prop} (hgd : o.guard = none) (s x : Operand) (t : TypeId)
    (ho : o.op = .call { callee := .builtin .append, args := #[s, x], argTypes := #[t, t] })
    (base : Nat) (e : TypeId) (i : TypeInfo) (z : Value) (size bytes : Nat) (ht : P.underlying t = some (.slice e)) (hi : P.info? e = some i) (hz : i.zero = some z)
    (hsize : i.size = size) (hby : i.bytes = bytes) (hzs : z.cells.size = size) (hsz : 0 < size)
    (v : Value) (n : Nat) (xs : List Value) (hs : a.eval s = v) (hown : w.ownsRow base e size v n xs) (ad : Addr) (m c : Nat) (news : List Value) (hx : a.eval x = .slice (some ad) m c) (hl : news.length = m * size)
    (hnews : ∀ j u, news[j]? = some u → w.cell? (ad.add j) = some u) (h1 : ∀ u ∈ news, u.oneCell' = true)
    (h63 : n + m ≤ maxLen) (hbytes : (n + m) * bytes ≤ 140737488355328) (hbase : base ≤ w.heap.size)
    (h : ∀ v' w', w'.ownsRow base e size v' (n + m) (xs ++ news) → w.grownBy w' v.ownBlock → (v'.ownBlock = v.ownBlock ∨ v'.ownBlock = some w.heap.size) → K (a.put o.dst v') w') :
    if Region.wanted o (yielded ops a.tmps) = true then Oper.wp P o a w K Q else E := by
  rw [if_pos (by simp [Region.wanted, hgd])]
  obtain ⟨v', w', run, own, grew, _, hat⟩ := run_append_own_at (P := P) (w := w) base t o.type e i z size bytes ht hi hz hsize hby hzs hsz v n xs hown ad m c news hl hnews h1 h63 hbytes hbase
  unfold Oper.wp
  simp [execOp, ho, resolve, invoke, builtin, hs, hx, run, Result.andThen]
  exact h v' w' own grew hat
theorem two_new (wr : World) (x y : Value) (T : TypeId) : ∀ (j : Nat) (u : Value), [x, y][j]? = some u → (wr.alloc (.cells #[x, y] T)).cell? ((⟨wr.heap.size, 0, none⟩ : Addr).add j) = some u := by
  intro j u hj
  rw [Addr.add_lit, World.cell?_alloc_at _ _ _ _ (by simp)]
  match j, hj with
  | 0, hj => simpa using hj
  | 1, hj => simpa using hj
/-- The row of pairs that grows. -/
structure Out (B : Nat) (wp : World) (a : Option Addr) (n c : Nat) (l : List (ByteArray × ByteArray)) (w : World) : Prop where
  len : l.length = n
  row : w.ownsRow B PT 2 (.slice a n c) n (pairsC l)
  below : Below B wp w
theorem Out.go {B n c : Nat} {wp w w' : World} {a : Option Addr} {l : List (ByteArray × ByteArray)} (h : Out B wp a n c l w) (hb : Below w.heap.size w w') (hB : B ≤ w.heap.size) : Out B wp a n c l w' :=
  ⟨h.len, owns_below h.row hb, h.below.trans (hb.mono hB)⟩
theorem Out.snoc {B n c c2 : Nat} {wp w w1 : World} {a a2 : Option Addr} {l : List (ByteArray × ByteArray)} {x y : ByteArray} (h : Out B wp a n c l w) (hB : B ≤ w.heap.size) (o : Obj)
    (ho : w1.ownsRow B PT 2 (.slice a2 (n + 1) c2) (n + 1) (pairsC l ++ [.string x, .string y])) (hg : (w.alloc o).grownBy w1 (Value.slice a n c).ownBlock) : Out B wp a2 (n + 1) c2 (l ++ [(x, y)]) w1 :=
  ⟨by rw [List.length_append, h.len]; rfl, by rw [pairsC_app]; exact ho, (h.below.alloc hB o).grown hg (by simp; omega) fun j ej => (h.row.lt j ej).1⟩
theorem szs_few : ∀ {l : List ByteArray} {n : Nat}, (∀ p ∈ l, p.size ≤ n) → szs l ≤ l.length * n
  | [], n, _ => Nat.zero_le _
  | x :: l, n, h => by
    have h1 := h x (by simp)
    have h2 := szs_few (l := l) (n := n) fun p hp => h p (by simp [hp])
    rw [szs_cons, List.length_cons, Nat.succ_mul]; omega
theorem join_few {l : List ByteArray} (hl : l.length ≤ 60) (hs : ∀ p ∈ l, p.size ≤ 100) : (joinS l).size ≤ 6100 := by
  have h1 := join_len hs
  have h2 := szs_few hs
  unfold szs at h2
  have := Nat.mul_le_mul_right 100 hl
  omega

theorem pairs_lit (w : World) (cs : Array Value) (l : List (ByteArray × ByteArray)) (h : cs.toList = pairsC l) (wp : World) (hw : w.alloc (.cells cs PT) = wp) : wp.heap.size = w.heap.size + 1 ∧ ∀ k (hk : k < l.length), wp.cell? ⟨w.heap.size, k * 2, none⟩ = some (.string l[k].1) ∧ wp.cell? ⟨w.heap.size, k * 2 + 1, none⟩ = some (.string l[k].2) := by
  subst hw
  refine ⟨by simp, fun k hk => ?_⟩
  obtain ⟨h1, h2⟩ := pairsC_get l k hk
  rw [← h, Array.getElem?_toList] at h1 h2
  exact ⟨by rw [World.cell?_alloc_at _ _ _ _ (by simp)]; simpa using h1, by rw [World.cell?_alloc_at _ _ _ _ (by simp)]; simpa using h2⟩
/-- What the loop's head knows. -/
def OfRel (wp : World) (l : List (ByteArray × ByteArray)) (v i : Value) (wr : World) : Prop :=
  ∃ (k n : Nat) (a : Option Addr) (c : Nat), v = .slice a n c ∧ i = .int .i64 (k : Int) ∧ k ≤ l.length ∧ n = 3 * k ∧ Out wp.heap.size wp a n c (allT (l.take k)) wr
set_option maxHeartbeats 8000000 in
theorem ROf_any (w : World) (target stem : ByteArray) (v : Value) (needs : List ByteArray) (hr : Rd w w.heap.size v (strsC needs)) (hl : needs.length ≤ 60) (hs : ∀ p ∈ needs, p.size ≤ 100) (ht : target.size ≤ 500) (hst : stem.size ≤ 500) :
    Calls Tryz.prog 6 #[.string target, v, .string stem] w fun e w' => ∃ a c, e = .returned (.slice a 15 c) ∧ Hid (w'.ownsRow w.heap.size PT 2 (.slice a 15 c) 15 (pairsC (allT (plainT target stem needs)))) ∧ Below w.heap.size w w' := by
  obtain ⟨i0, hi, hz0, hz1, hz2⟩ := info_parts infoP
  have HR := Lib.hid hr
  obtain ⟨a0, c0, rfl, hc0⟩ := hr.shape
  simp only [strsC_len] at *
  have HU := Lib.hid (RUnique_any w _ needs hr (by omega))
  have hul := Wp.uniq_len needs
  have hus : ∀ p ∈ Wp.uniq needs, p.size ≤ 100 := fun p hp => hs p (Wp.mem_uniq.1 hp)
  have HUJ := Lib.hid fun W v (h : Rd W W.heap.size v (strsC (Wp.uniq needs))) => RJoin_any W v (Wp.uniq needs) h (by omega) (fun p hp => by have := hus p hp; omega)
  have HNJ := Lib.hid fun W v (h : Rd W W.heap.size v (strsC needs)) => RJoin_any W v needs h (by omega) (fun p hp => by have := hs p hp; omega)
  have hj1 := join_few (l := Wp.uniq needs) (by omega) hus
  have hj2 := join_few hl hs
  have HPl : Hid (∀ k (h : k < (plainT target stem needs).length), (plainT target stem needs)[k].1.size ≤ 1 ∧ (plainT target stem needs)[k].2.size ≤ 9000) := Lib.hid (by
    have hh : (needs.headD ⟨#[]⟩).size ≤ 100 := by
      cases needs with
      | nil => exact Nat.zero_le _
      | cons x r => exact hs x (by simp)
    intro k h
    match k, h with
    | 0, _ => exact ⟨Nat.le_refl 1, by show target.size ≤ _; omega⟩
    | 1, _ => exact ⟨Nat.le_refl 1, by show (needs.headD _).size ≤ _; omega⟩
    | 2, _ => exact ⟨Nat.le_refl 1, by show (joinS _).size ≤ _; omega⟩
    | 3, _ => exact ⟨Nat.le_refl 1, by show (joinS _).size ≤ _; omega⟩
    | 4, _ => exact ⟨Nat.le_refl 1, by show stem.size ≤ _; omega⟩
    | n + 5, h => exact absurd h (by show ¬ n + 5 < 5; omega))
  obtain ⟨first, hf⟩ : ∃ f, needs.headD ⟨#[]⟩ = f := ⟨_, rfl⟩
  have HPt : Hid (plainT target stem needs = [(⟨#[64]⟩, target), (⟨#[60]⟩, first), (⟨#[94]⟩, joinS (Wp.uniq needs)), (⟨#[43]⟩, joinS needs), (⟨#[42]⟩, stem)]) := Lib.hid (by rw [← hf]; rfl)
  have hfirst : (needs.length = 0 ∧ first = ⟨#[]⟩) ∨ (0 < needs.length ∧ ∃ g o, a0 = some ⟨g, o, none⟩ ∧ g < w.heap.size ∧ w.cell? ⟨g, o, none⟩ = some (.string first)) := by
    cases needs with
    | nil => exact .inl ⟨rfl, hf.symm⟩
    | cons x r =>
      obtain ⟨g, o, ha, _, _, hg, hcell⟩ := rd_cell hr 0 (by simp)
      have := hcell 0 (by simp)
      exact .inr ⟨by simp, g, o, ha, hg, by rw [← hf]; exact this⟩
  generalize plainT target stem needs = pl at *
  generalize joinS (Wp.uniq needs) = ju at *
  generalize joinS needs = jn at *
  generalize Wp.uniq needs = us at *
  have hHR : Rd w w.heap.size (.slice a0 needs.length c0) (strsC needs) := HR.out
  clear hr hul hus hs hf HR
  generalize hn : needs.length = n at *
  have HR := Lib.hid hHR
  clear hHR hn
  go_enter Tryz.func6, Tryz.ntmps6
  rcases hfirst with ⟨rfl, rfl⟩ | ⟨h0, g, o, rfl, hg, hcf⟩
  all_goals try (have hkk : (0 : Int) < (n : Int) := by omega)
  all_goals go_wp2_with fail
  all_goals refine HU.out.mono ?_
  all_goals rintro e w1 ⟨a1, c1, rfl, hr1, B1⟩
  all_goals have HJ1 := Lib.hid (HUJ.out w1 _ hr1)
  all_goals have HB1 := Lib.hid B1
  all_goals clear hr1 B1
  all_goals go_wp2_with fail
  all_goals refine HJ1.out.mono ?_
  all_goals rintro e w2 ⟨rfl, B2⟩
  all_goals have HB2 := Lib.hid (HB1.out.trans (B2.mono HB1.out.size))
  all_goals clear B2
  all_goals go_wp2_with fail
  all_goals refine (HNJ.out w2 _ ((HR.out.below HB2.out).more HB2.out.size)).mono ?_
  all_goals rintro e w3 ⟨rfl, B3⟩
  all_goals have HB3 := Lib.hid (HB2.out.trans (B3.mono HB2.out.size))
  all_goals clear B3
  all_goals go_wp2_with fail
  all_goals (
    have H5 : Hid (pl.length = 5) := Lib.hid (by rw [HPt.out]; rfl)
    generalize hwp : w3.alloc _ = wp
    obtain ⟨hps, hcell⟩ := pairs_lit w3 _ pl (by rw [HPt.out]; rfl) wp hwp
    have HCell := Lib.hid hcell
    have HWp : Hid (Below w3.heap.size w3 wp) := Lib.hid (by rw [← hwp]; exact (Below.refl _ _).alloc (Nat.le_refl _) _)
    have HPs : Hid (w3.heap.size < wp.heap.size) := Lib.hid (by omega)
    have HBp : Hid (w.heap.size ≤ wp.heap.size) := Lib.hid (by have := HB3.out.size; omega)
    clear hwp hcell HPt hps
    have hb0 : w3.heap.size = w3.heap.size := rfl
    obtain ⟨b0, hb⟩ : ∃ b0, b0 = w3.heap.size := ⟨_, rfl⟩
    rw [← hb] at HCell HPs ⊢
    clear hb hb0
    go_loopw [9, 10] (fun v i wr => OfRel wp pl v i wr) (fun _ i _ => 5 - (intOf i).toNat)
    case atStart => exact ⟨0, 0, none, 0, rfl, rfl, Nat.zero_le _, rfl, rfl, World.ownsRow_nil _ _ _ _, Below.refl _ _⟩
    case round =>
      obtain ⟨k, n, a, c, rfl, rfl, hk, hn, hO⟩ := hrel
      have HO := Lib.hid hO
      by_cases hlt : k < pl.length
      · have h5 := H5.out
        have hn15 : n ≤ 12 := by omega
        have HNn := Lib.hid hn
        clear hn
        have hki : (k : Int) < 5 := by omega
        have hk0 : (0 : Int) ≤ (k : Int) := Int.natCast_nonneg _
        have hk5 : k < 5 := by omega
        clear h5
        obtain ⟨hs1, hs2⟩ := HPl.out k hlt
        have hcc := fun W (hW : Below wp.heap.size wp W) => (⟨(hW.cell (p := ⟨b0, k * 2, none⟩) HPs.out).trans (HCell.out k hlt).1, (hW.cell (p := ⟨b0, k * 2 + 1, none⟩) HPs.out).trans (HCell.out k hlt).2⟩ : W.cell? ⟨b0, k * 2, none⟩ = some (.string pl[k].1) ∧ W.cell? ⟨b0, k * 2 + 1, none⟩ = some (.string pl[k].2))
        have HT := Lib.hid (allT_take hlt)
        obtain ⟨⟨x, t⟩, hxt⟩ : ∃ p, pl[k] = p := ⟨_, rfl⟩
        rw [hxt] at hs1 hs2 hcc HT
        simp only at hs1 hs2 hcc HT
        have HCC := Lib.hid hcc
        clear hcc hxt hO
        have HN1 : Hid (∀ W, Calls Tryz.prog 15 #[.string ⟨#[110, 111, 116, 100, 105, 114]⟩, .slice (some ⟨W.heap.size, 0, none⟩) 1 1] (W.alloc (.cells #[.string t] ST)) fun e w' => e = .returned (.tuple #[.string (nameT t), .int .i64 0]) ∧ Below W.heap.size W w') := Lib.hid fun W => by
          refine (call13 (W.alloc (.cells #[.string t] ST)) _ [t] (rd_lit W [t] #[.string t] rfl 1 (Nat.le_refl _)) rfl (fun p hp => by rw [List.mem_singleton.1 hp]; exact hs2)).mono ?_
          rintro e w' ⟨rfl, hB⟩
          exact ⟨rfl, ((Below.refl _ W).alloc (Nat.le_refl _) _).trans (hB.mono (by simp))⟩
        have HD1 := Lib.hid fun W => Rdirs_any W t hs2
        obtain ⟨m0, m1⟩ := HCC.out wr HO.out.below
        go_wp2_with fail
        refine (HN1.out _).mono ?_
        rintro e w5 ⟨rfl, B5⟩
        have HO5 := Lib.hid (HO.out.go B5 HO.out.below.size)
        clear m0 m1 B5
        obtain ⟨m0, m1⟩ := HCC.out w5 HO5.out.below
        go_wp2_with (at_builtin; refine wpList_append_own _ rfl _ _ 26 rfl wp.heap.size PT i0 (.agg #[.string ByteArray.empty, .string ByteArray.empty]) 2 32 Tryz.underlying26 hi hz0 hz1 hz2 rfl (by decide) _ _ _ rfl (HO5.out.row.alloc _) ⟨w5.heap.size, 0, none⟩ 1 1 [.string x, .string t] rfl rfl (two_new _ _ _ _) (by simp [Value.oneCell']) (by unfold maxLen; omega) (by omega) (by have := HO5.out.below.size; simp; omega) ?_; intro v' w6 hown' hgrow _; obtain ⟨a2, c2, rfl⟩ := owns_slice hown')
        have HO6 := Lib.hid (HO5.out.snoc HO5.out.below.size _ hown' hgrow)
        clear hown' hgrow m0 m1
        obtain ⟨m0, m1⟩ := HCC.out w6 HO6.out.below
        have hcat : ¬ 9223372036854775807 < x.size + 1 := by omega
        have S5 : w6.drew.cell? ⟨b0, k * 2, none⟩ = some (.string x) ∧ w6.drew.cell? ⟨b0, k * 2 + 1, none⟩ = some (.string t) ∧ Below w6.heap.size w6 w6.drew := ⟨m0, m1, (Below.refl _ _).drew⟩
        have HB06 : Hid (b0 < w6.heap.size) := Lib.hid (Nat.lt_of_lt_of_le HPs.out HO6.out.below.size)
        have HS8 : Hid (∀ (W W8 : World) (o : Obj) (xs : List Value), (W.cell? ⟨b0, k * 2, none⟩ = some (.string x) ∧ W.cell? ⟨b0, k * 2 + 1, none⟩ = some (.string t) ∧ Below w6.heap.size w6 W) → (W.alloc o).grownBy W8 (Value.slice a2 (n + 1) c2).ownBlock → True → (W8.cell? ⟨b0, k * 2, none⟩ = some (.string x) ∧ W8.cell? ⟨b0, k * 2 + 1, none⟩ = some (.string t))) := Lib.hid fun W W8 o xs h hg _ => by
          have hO := (HO6.out.go h.2.2 HO6.out.below.size)
          have hb := (hO.below.alloc hO.below.size o).grown hg (by have := hO.below.size; simp; omega) fun j ej => (hO.row.lt j ej).1
          exact HCC.out W8 hb
        go_wp2_with fail
        go_region_held3 (fun W => W.cell? ⟨b0, k * 2, none⟩ = some (.string x) ∧ W.cell? ⟨b0, k * 2 + 1, none⟩ = some (.string t))
          (first | exact S8 | exact SA.out _ | exact ⟨S7.1, S7.2.1⟩ | exact ⟨S5.1, S5.2.1⟩)
          (first
            | (go_at_call 16; refine (HD1.out _).mono ?_; rintro e w7 ⟨rfl, B7⟩; have S7 := held_pq (p1 := ⟨b0, k * 2, none⟩) (p2 := ⟨b0, k * 2 + 1, none⟩) HB06.out HB06.out S5 B7; have SA := Lib.hid fun o => HCC.out (w7.alloc o) ((HO6.out.go S7.2.2 HO6.out.below.size).below.alloc (HO6.out.go S7.2.2 HO6.out.below.size).below.size o))
            | (refine step_append_own rfl _ _ 26 rfl wp.heap.size PT i0 (.agg #[.string ByteArray.empty, .string ByteArray.empty]) 2 32 Tryz.underlying26 hi hz0 hz1 hz2 rfl (by decide) (.slice a2 (n + 1) c2) (n + 1) _ (by simp [go_sem]) ((owns_below HO6.out.row S7.2.2).alloc _) ⟨w7.heap.size, 0, none⟩ 1 1 [.string (x ++ ⟨#[68]⟩), .string (dirsT t)] (by simp [go_sem]) rfl (two_new _ _ _ _) (by simp [Value.oneCell']) (by unfold maxLen; omega) (by omega) (by have := HO6.out.below.size; have := S7.2.2.size; simp; omega) ?_; intro v8 w8 hown8 hgrow8 _; obtain ⟨a4, c4, rfl⟩ := owns_slice hown8; have S8 := HS8.out w7 w8 _ [] S7 hgrow8 trivial))
        all_goals (
          have HO7 := Lib.hid (HO6.out.go S7.2.2 HO6.out.below.size)
          have HO8 := Lib.hid (HO7.out.snoc HO7.out.below.size _ hown8 hgrow8)
          clear hown8 hgrow8 SA S5 S7 S8 B7 m0 m1
          obtain ⟨m0, m1⟩ := HCC.out w8 HO8.out.below
          go_wp2_with (at_builtin; refine wpList_append_own _ rfl _ _ 26 rfl wp.heap.size PT i0 (.agg #[.string ByteArray.empty, .string ByteArray.empty]) 2 32 Tryz.underlying26 hi hz0 hz1 hz2 rfl (by decide) _ _ _ rfl (HO8.out.row.alloc _) ⟨w8.heap.size, 0, none⟩ 1 1 [.string (x ++ ⟨#[70]⟩), .string (nameT t)] rfl rfl (two_new _ _ _ _) (by simp [Value.oneCell']) (by unfold maxLen; omega) (by omega) (by have := HO8.out.below.size; simp; omega) ?_; intro v' w9 hown9 hgrow9 _; obtain ⟨a5, c5, rfl⟩ := owns_slice hown9)
          have HO9 := Lib.hid (HO8.out.snoc HO8.out.below.size _ hown9 hgrow9)
          clear hown9 hgrow9 m0 m1
          go_roundw
          case rel => exact ⟨k + 1, n + 1 + 1 + 1, a5, c5, rfl, by go_num, hlt, by have := HNn.out; omega, by rw [HT.out]; have h := HO9.out; simpa [threeT] using h⟩
          case measure => simp [intOf]; omega)
      · have hk5 : k = 5 := by have := H5.out; omega
        subst hk5
        have HO' := Lib.hid hO
        clear hO
        obtain rfl : n = 15 := by omega
        go_wp2_with fail
        go_ret
        refine ⟨_, _, rfl, Lib.hid ?_, ?_⟩
        · have h := HO'.out.row
          rw [List.take_of_length_le (by rw [H5.out]; exact Nat.le_refl _)] at h
          exact ⟨h.1, h.2.imp id fun ⟨g, cap, cur, h1, h2, h3⟩ => ⟨g, cap, cur, h1, Nat.le_trans HBp.out h2, h3⟩⟩
        · exact HB3.out.trans ((HWp.out.trans (HO'.out.below.mono HWp.out.size)).mono HB3.out.size))
end Go.Proofs.YtenokbceamcekaaGreatDoor.Aw
