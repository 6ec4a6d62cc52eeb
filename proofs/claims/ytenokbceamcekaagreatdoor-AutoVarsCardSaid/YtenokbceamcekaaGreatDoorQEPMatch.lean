/-
  package text: match, matcher: which words are of one of some patterns.
-/
import Derived.Maps.OwnSet
import Derived.Test.YtenokbceamcekaaGreatDoorQEPUniq
import Derived.Test.YtenokbceamcekaaGreatDoorQEPFunc
import Derived.Test.YtenokbceamcekaaGreatDoorQTAll0
import Derived.Test.YtenokbceamcekaaGreatDoorQEList
namespace Go.Proofs.YtenokbceamcekaaGreatDoor.Ew
open Go.RowKit Go.Maps Go.Proofs.YtenokbceamcekaaGreatDoor Go.Proofs.YtenokbceamcekaaGreatDoor.Ww Go.Proofs.YtenokbceamcekaaGreatDoor.Tw
set_option maxRecDepth 100000

abbrev MT : TypeId := 42
def matB (p x : ByteArray) : Bool := (Tp.matchA (by8 p) (by8 x)).isSome
def hasB (p : ByteArray) : Bool := (Tp.atA (by8 p)).isSome
theorem mat_long {p x : ByteArray} (h : x.size < p.size) : matB p x = false := by
  have hp : (by8 p).length = p.size := by8_len p
  have hx : (by8 x).length = x.size := by8_len x
  unfold matB Tp.matchA
  cases ha : Tp.atA (by8 p) with
  | none =>
    show (if by8 p = by8 x then some [] else none).isSome = false
    rw [if_neg (fun e => by rw [e] at hp; omega)]; rfl
  | some i =>
    have hi : i < (by8 p).length := by
      unfold Tp.atA at ha
      exact (List.findIdx?_eq_some_iff_getElem.1 ha).1
    show (if i + ((by8 p).drop (i + 1)).length < (by8 x).length ∧ _ ∧ _ then some _ else none).isSome = false
    rw [if_neg (fun e => by have h1 := e.1; rw [List.length_drop] at h1; omega)]; rfl
theorem mat_plain {p x : ByteArray} (h : hasB p = false) : matB p x = decide (p = x) := by
  unfold hasB at h
  unfold matB Tp.matchA
  cases ha : Tp.atA (by8 p) with
  | some i => rw [ha] at h; cases h
  | none =>
    show (if by8 p = by8 x then some [] else none).isSome = _
    by_cases e : p = x
    · subst e; rw [if_pos rfl, decide_eq_true rfl]; rfl
    · rw [if_neg (fun h => e (by8_ext h)), decide_eq_false e]; rfl
def patsS (P : List ByteArray) : List ByteArray := P.filter fun p => hasB p
def plainsS (P : List ByteArray) : List ByteArray := P.filter fun p => !hasB p
theorem of_parts (P : List ByteArray) (x : ByteArray) : ofS P x = (Wp.has (plainsS P) x || (patsS P).any fun p => matB p x) := by
  unfold ofS plainsS patsS
  induction P with
  | nil => rfl
  | cons p r ih =>
    rw [List.any_cons, ih]
    show (matB p x || _) = _
    cases h : hasB p with
    | true =>
      rw [List.filter_cons_of_neg (by rw [h]; decide), List.filter_cons_of_pos h, List.any_cons]
      cases matB p x <;> cases Wp.has (r.filter fun p => !hasB p) x <;> rfl
    | false =>
      rw [List.filter_cons_of_pos (by rw [h]; rfl), List.filter_cons_of_neg (by rw [h]; decide), mat_plain h]
      have e : Wp.has (p :: r.filter fun p => !hasB p) x = (decide (p = x) || Wp.has (r.filter fun p => !hasB p) x) := by
        unfold Wp.has
        rw [List.any_cons]
        congr 1
        by_cases e : p = x
        · subst e; rw [decide_eq_true rfl]; exact beq_self_eq_true _
        · rw [decide_eq_false e]; exact beq_eq_false_iff_ne.2 fun h => e (by8_ext h)
      rw [e, Bool.or_assoc]
set_option maxHeartbeats 2000000 in
theorem Pmatch_any (w : World) (p x : ByteArray) (hp : p.size ≤ 1000000) (hx : x.size ≤ 1000000) : Calls Tryz.prog 113 #[.string p, .string x] w fun e w' => e = .returned (.bool (matB p x)) ∧ Below w.heap.size w w' := by
  by_cases hlt : x.size < p.size
  · rw [mat_long hlt]
    have h1 : (x.size : Int) < (p.size : Int) := by omega
    go_enter Tryz.func113, Tryz.ntmps113
    go_wp2_with fail
    go_ret
    exact ⟨rfl, Below.refl _ _⟩
  · have h1 : ¬ (x.size : Int) < (p.size : Int) := by omega
    have HM := Lib.hid (Match_any w p x hp hx)
    unfold matB
    clear hlt
    cases hm : Tp.matchA (by8 p) (by8 x) with
    | none =>
      rw [hm] at HM
      simp only [mV] at HM
      go_enter Tryz.func113, Tryz.ntmps113
      go_wp2_with fail
      refine HM.out.mono ?_
      rintro e w1 ⟨rfl, B1⟩
      go_wp2_with fail
      go_ret
      exact ⟨rfl, B1⟩
    | some z =>
      rw [hm] at HM
      simp only [mV] at HM
      go_enter Tryz.func113, Tryz.ntmps113
      go_wp2_with fail
      refine HM.out.mono ?_
      rintro e w1 ⟨rfl, B1⟩
      go_wp2_with fail
      go_ret
      exact ⟨rfl, B1⟩

/-- What a matcher keeps: the plain words in a map, the patterns in a slice, both in boxes. -/
structure MAt (B : Nat) (W : World) (v : Value) (Q N : List ByteArray) (k : Nat) : Prop where
  box : Boxed W (B + 1) MT (.map (some B))
  map : W.ownsMap Tryz.prog ST unitElem B k (Wu.setU N)
  sbox : Boxed W (B + 1 + 1) LT v
  row : W.ownsRow (B + 3) ST 1 v Q.length (strsC Q)
theorem own_map_below {w w' : World} {b n : Nat} {D : DataW Unit} (h : w.ownsMap Tryz.prog ST unitElem b n D) (hB : Below w.heap.size w w') : w'.ownsMap Tryz.prog ST unitElem b n D := by
  have hl := h.lt
  obtain ⟨es, clock, hh, r⟩ := h
  exact ⟨es, clock, (hB.block b hl).trans hh, r⟩
theorem MAt.below {B : Nat} {W W' : World} {v : Value} {Q N : List ByteArray} {k : Nat} (h : MAt B W v Q N k) (hB : Below W.heap.size W W') : MAt B W' v Q N k :=
  ⟨(hB.block _ h.box.lt).trans h.box, own_map_below h.map hB, (hB.block _ h.sbox.lt).trans h.sbox, owns_below h.row hB⟩
theorem MAt.pat {B : Nat} {W W1 : World} {v v' : Value} {Q N : List ByteArray} {k : Nat} {x : ByteArray} {o : Obj} (h : MAt B W v Q N k) (hown : W1.ownsRow (B + 3) ST 1 v' (Q.length + 1) (strsC Q ++ [.string x])) (hg : (W.alloc o).grownBy W1 v.ownBlock) :
    Boxed W1 (B + 1 + 1) LT v ∧ MAt B (W1.setCell ⟨B + 1 + 1, 0, none⟩ v') v' (Q ++ [x]) N (k + 1) ∧ Below B W (W1.setCell ⟨B + 1 + 1, 0, none⟩ v') := by
  have hs := h.sbox.lt
  obtain ⟨hv1, hv2, _, _, hb2⟩ := h.sbox.appended (by decide) (owns_weaken h.row (Nat.le_add_right B 3)) (by omega) (by omega) (owns_weaken hown (Nat.le_add_right B 3)) hg
  have hne : ∀ b, b < B + 3 → some b ≠ v.ownBlock := fun b hb e => by have := (h.row.lt _ e.symm).1; omega
  refine ⟨hv1, ⟨?_, ?_, hv2, ?_⟩, hb2⟩
  · exact ((h.box.alloc o).kept hg (fun e => hne _ (by omega) e)).other (by omega) v'
  · exact (((h.map.alloc o).kept hg (hne _ (by omega))).kept (grownBy_setCell' W1 (B + 1 + 1) v') (fun e => by have := Option.some.inj e; omega)).mono (Nat.le_succ _)
  · rw [List.length_append, show strsC (Q ++ [x]) = strsC Q ++ [.string x] by simp [strsC]]
    exact hown.kept (grownBy_setCell' W1 (B + 1 + 1) v') (.inr (hv1.not_row (by decide) hown).symm)
theorem MAt.plain {B : Nat} {W W1 : World} {v : Value} {Q N : List ByteArray} {k : Nat} {x : ByteArray} (h : MAt B W v Q N k) (hown : W1.ownsMap Tryz.prog ST unitElem B (k + 1) ((Wu.setU N).put (.string x.data.toList) (.agg []))) (hg : W.grownBy W1 (some B)) :
    MAt B W1 v Q (N ++ [x]) (k + 1) := by
  refine ⟨h.box.kept hg (fun e => by have := Option.some.inj e; omega), by rw [Wu.setU_snoc]; exact hown, h.sbox.kept hg (fun e => by have := Option.some.inj e; omega), h.row.kept hg (.inr fun e => ?_)⟩
  have := (h.row.lt _ e).1; omega
def MaRel (w : World) (P : List ByteArray) (vi : Value) (wr : World) : Prop :=
  ∃ (k : Nat) (v : Value), vi = .int .i64 (k : Int) ∧ k ≤ P.length ∧ MAt w.heap.size wr v (patsS (P.take k)) (plainsS (P.take k)) k ∧ Below w.heap.size w wr
theorem pats_take {P : List ByteArray} {k : Nat} (h : k < P.length) : patsS (P.take (k + 1)) = if hasB P[k] = true then patsS (P.take k) ++ [P[k]] else patsS (P.take k) := by
  unfold patsS
  rw [List.take_succ_eq_append_getElem h, List.filter_append]
  by_cases e : hasB P[k] = true
  · rw [if_pos e, List.filter_cons_of_pos e]; rfl
  · rw [if_neg e, List.filter_cons_of_neg e]; simp
theorem plains_take {P : List ByteArray} {k : Nat} (h : k < P.length) : plainsS (P.take (k + 1)) = if hasB P[k] = true then plainsS (P.take k) else plainsS (P.take k) ++ [P[k]] := by
  unfold plainsS
  rw [List.take_succ_eq_append_getElem h, List.filter_append]
  by_cases e : hasB P[k] = true
  · rw [if_pos e, List.filter_cons_of_neg (by rw [e]; decide)]; simp
  · rw [if_neg e, List.filter_cons_of_pos (by rw [Bool.not_eq_true] at e; rw [e]; rfl)]; rfl
theorem pats_len (P : List ByteArray) : (patsS P).length ≤ P.length := List.length_filter_le _ _
theorem run_mk (w : World) : (Instr.makeMap MT none).run Tryz.prog w = .ok (.map (some w.heap.size)) (w.alloc (.map #[] 0))   := run_makeMap _ _
set_option maxHeartbeats 4000000 in
theorem matcher_any (w : World) (v : Value) (P : List ByteArray) (hr : Rd w w.heap.size v (strsC P)) (hl : P.length ≤ 100000) (hs : ∀ p ∈ P, p.size ≤ 100000) :
    Calls Tryz.prog 91 #[v] w fun e w' => e = .returned (.func (.func 110) #[] #[.pointer (some ⟨w.heap.size + 1, 0, none⟩), .pointer (some ⟨w.heap.size + 1 + 1, 0, none⟩)]) ∧ (∃ v k, MAt w.heap.size w' v (patsS P) (plainsS P) k) ∧ Below w.heap.size w w' := by
  have hmm := run_mk
  obtain ⟨i0, hi, hz0, hz1, hz2⟩ := info_parts infoS
  have HR := Lib.hid hr
  have HS := Lib.hid hs
  obtain ⟨a0, c0, rfl, hc0⟩ := hr.shape
  rw [strsC_len] at *
  clear hr hs
  go_enter Tryz.func91, Tryz.ntmps91
  go_wp2_with fail
  go_loopw [6, 10] (fun _ vi wr => MaRel w P vi wr) (fun _ vi _ => P.length - (intOf vi).toNat)
  case atStart =>
    refine ⟨0, .slice none 0 0, rfl, Nat.zero_le _, ⟨?_, ?_, ?_, World.ownsRow_nil _ _ _ _⟩, (((Below.refl _ _).alloc (Nat.le_refl _) _).alloc (by simp) _).alloc (by simp; omega) _⟩
    · have := (Boxed.new (w.alloc (.map #[] 0)) MT (.map (some w.heap.size))).alloc (.cells #[.slice none 0 0] LT)
      rwa [World.size_alloc] at this
    · exact ((World.ownsMap_made w Tryz.prog ST unitElem).alloc _).alloc _
    · have := Boxed.new ((w.alloc (.map #[] 0)).alloc (.cells #[.map (some w.heap.size)] MT)) LT (.slice none 0 0)
      rwa [World.size_alloc, World.size_alloc] at this
  case round =>
    obtain ⟨k, v, rfl, hk, hM, hB⟩ := hrel
    have HMM := Lib.hid hM
    have HB := Lib.hid hB
    by_cases hlt : k < P.length
    · obtain ⟨b, o, c', hv, hc', hb, hx⟩ := HR.out.open_ (by rw [strsC_len]; omega)
      rw [strsC_len] at hv hc'
      obtain ⟨rfl, _, rfl⟩ := (Value.slice.injEq ..).mp hv
      have hcx : wr.cell? ⟨b, o + k, none⟩ = some (.string P[k]) := (hB.cell (p := ⟨b, o + k, none⟩) hb).trans (hx k _ (strsC_get P hlt))
      have hki : (k : Int) < P.length := by omega
      have hk0 : (0 : Int) ≤ (k : Int) := Int.natCast_nonneg _
      have hgv : P.length ≤ c0 := by omega
      have hps := HS.out _ (List.getElem_mem hlt)
      have HC : Hid (Calls Tryz.prog 109 #[.string P[k]] wr fun e w' => e = .returned (.bool (hasB P[k])) ∧ Below wr.heap.size wr w') := Lib.hid (Has_any wr P[k] (by omega))
      have HP := Lib.hid (pats_take hlt)
      have HN := Lib.hid (plains_take hlt)
      have hpl := pats_len (P.take k)
      rw [List.length_take] at hpl
      clear hx hv hM hB
      generalize P[k] = x at *
      cases hq : hasB x with
      | true =>
        rw [hq] at HC HP HN
        rw [if_pos rfl] at HP HN
        clear hq
        go_wp2_with fail
        refine HC.out.mono ?_
        rintro e w3 ⟨rfl, B3⟩
        have HM3 := Lib.hid (HMM.out.below B3)
        have HB3 := Lib.hid (HB.out.trans (B3.mono HB.out.size))
        have c3 := HM3.out.sbox.cell
        have hs3 := HM3.out.sbox.lt
        clear B3
        go_wp2_with (at_builtin; refine wpList_append_own _ rfl _ _ LT rfl (w.heap.size + 3) ST i0 (.string ByteArray.empty) 1 16 Tryz.underlying22 hi hz0 hz1 hz2 rfl (by decide) _ _ _ rfl (HM3.out.row.alloc _) ⟨w3.heap.size, 0, none⟩ 1 1 [.string x] rfl rfl (cell_one_new _ _ _) (by simp [Value.oneCell']) (by unfold maxLen; omega) (by omega) (by simp; omega) ?_; intro v' w5 hown' hgrow _; obtain ⟨a5, c5, rfl⟩ := owns_slice hown'; obtain ⟨hv5, hM5, hB5⟩ := HM3.out.pat hown' hgrow; have c5' := hv5.cell; have f5 := hv5.frozen; have HM5 := Lib.hid hM5; have HB5 := Lib.hid (HB3.out.trans hB5); clear hv5 hM5 hB5 hown' hgrow)
        go_roundw
        case rel => exact ⟨k + 1, _, by go_num, hlt, by rw [HP.out, HN.out]; exact HM5.out, HB5.out⟩
        case measure => simp [intOf]; omega
      | false =>
        rw [hq] at HC HP HN
        rw [if_neg (by decide)] at HP HN
        clear hq
        go_wp2_with fail
        refine HC.out.mono ?_
        rintro e w3 ⟨rfl, B3⟩
        have HM3 := Lib.hid (HMM.out.below B3)
        have HB3 := Lib.hid (HB.out.trans (B3.mono HB.out.size))
        have c3 := HM3.out.box.cell
        have hkey : keyOf Tryz.prog ST (.string x) = some (.string x.data.toList) := WideMaps.keyOf_string_mk Tryz.underlying9 (by unfold maxLen; omega)
        clear B3
        go_wp2_with (at_mapUpdate; refine wpList_mapUpdate_own _ rfl _ _ _ MT rfl ST 43 Wu.lawS Tryz.underlying42 (unitElem (H := Unit)) w.heap.size k _ rfl HM3.out.map (by unfold maxLen; omega) _ _ _ rfl rfl hkey _ [] unitElem_mk ?_; intro w5 hown5 hgrow5; have HM5 := Lib.hid (HM3.out.plain hown5 hgrow5); have HB5 := Lib.hid (HB3.out.grown hgrow5 HB3.out.size (fun j ej => by cases ej; exact Nat.le_refl _)); clear hown5 hgrow5)
        go_roundw
        case rel => exact ⟨k + 1, _, by go_num, hlt, by rw [HP.out, HN.out]; exact HM5.out, HB5.out⟩
        case measure => simp [intOf]; omega
    · obtain rfl : k = P.length := by omega
      have hki : ¬ (P.length : Int) < P.length := by omega
      clear hM hB
      go_wp2_with fail
      go_ret
      refine ⟨rfl, ⟨v, P.length, ?_⟩, HB.out⟩
      have := HMM.out
      rwa [List.take_of_length_le (Nat.le_refl _)] at this
theorem matcher11_any (w : World) (b : Nat) (p x : ByteArray) (hb : w.cell? ⟨b, 0, none⟩ = some (.string x)) (hp : p.size ≤ 1000000) (hx : x.size ≤ 1000000) :
    Calls Tryz.prog 112 #[.string p, .pointer (some ⟨b, 0, none⟩)] w fun e w' => e = .returned (.bool (matB p x)) ∧ Below w.heap.size w w' := by
  have HC := Lib.hid (Pmatch_any w p x hp hx)
  generalize matB p x = q at *
  go_enter Tryz.func112, Tryz.ntmps112
  go_wp2_with fail
  refine HC.out.mono ?_
  rintro e w1 ⟨rfl, B1⟩
  go_wp2_with fail
  go_ret
  exact ⟨rfl, B1⟩
theorem eg_match11 : ∀ args w, (callFunc 112 args).run Tryz.prog w = .ok (.enter 112 args) w := enters_of Tryz.func112 (by kernel_rfl) rfl
set_option maxHeartbeats 4000000 in
theorem matcher1_any (w : World) (B : Nat) (v : Value) (P : List ByteArray) (k : Nat) (x : ByteArray) (hM : MAt B w v (patsS P) (plainsS P) k) (hl : P.length ≤ 100000) (hs : ∀ p ∈ P, p.size ≤ 100000) (hx : x.size ≤ 100000) :
    Calls Tryz.prog 110 #[.string x, .pointer (some ⟨B + 1, 0, none⟩), .pointer (some ⟨B + 1 + 1, 0, none⟩)] w fun e w' => e = .returned (.bool (ofS P x)) ∧ Below w.heap.size w w' := by
  rw [of_parts]
  have c1 := hM.box.cell
  have c2 := hM.sbox.cell
  have l1 := hM.box.lt
  have l2 := hM.sbox.lt
  have HM := Lib.hid hM
  have hmap := hM.map
  have hkey : keyOf Tryz.prog ST (.string x) = some (.string x.data.toList) := WideMaps.keyOf_string_mk Tryz.underlying9 (by unfold maxLen; omega)
  have hhas := Wu.has_setU (plainsS P) x
  have hpl := pats_len P
  have HCF : Hid (∀ W (b : Nat), Below w.heap.size w W → W.cell? ⟨b, 0, none⟩ = some (.string x) → b < W.heap.size → Calls Tryz.prog 111 #[v, .func (.func 112) #[] #[.pointer (some ⟨b, 0, none⟩)]] W fun e w' => e = .returned (.bool ((patsS P).any fun p => matB p x)) ∧ Below W.heap.size W w') := Lib.hid fun W b hW hc hb =>
    PContainsFunc_any W v (patsS P) (fun p => matB p x) 112 #[.pointer (some ⟨b, 0, none⟩)] eg_match11 (Rd.of_own (hM.below hW).row) (by omega) (fun W' p hp hW' => matcher11_any W' b p x ((hW'.cell (p := ⟨b, 0, none⟩) hb).trans hc) (by have := hs p (List.mem_filter.1 hp).1; omega) (by omega))
  clear hM hs
  obtain ⟨va, vc, rfl⟩ := owns_slice HM.out.row
  generalize ((patsS P).any fun p => matB p x) = q at *
  cases hh : Wp.has (plainsS P) x with
  | true =>
    rw [hh] at hhas
    clear hh
    go_enter Tryz.func110, Tryz.ntmps110
    go_wp2_with (at_lookup; refine wpList_lookup_own_unit _ rfl _ _ MT rfl ST 43 Wu.lawS Tryz.underlying42 (Wu.zeroN _) B k _ rfl (hmap.alloc _) _ _ rfl hkey ?_)
    go_ret
    exact ⟨rfl, ((Below.refl _ _).alloc (Nat.le_refl _) _).alloc (by simp) _⟩
  | false =>
    rw [hh] at hhas
    clear hh
    go_enter Tryz.func110, Tryz.ntmps110
    go_wp2_with (at_lookup; refine wpList_lookup_own_unit _ rfl _ _ MT rfl ST 43 Wu.lawS Tryz.underlying42 (Wu.zeroN _) B k _ rfl (hmap.alloc _) _ _ rfl hkey ?_)
    have hA : Below w.heap.size w ((w.alloc (.cells #[.string x] ST)).alloc (.cells #[] 43)) := ((Below.refl _ _).alloc (Nat.le_refl _) _).alloc (by simp) _
    refine (HCF.out _ _ hA (by simp) (by simp; omega)).mono ?_
    rintro e w1 ⟨rfl, B1⟩
    go_wp2_with fail
    go_ret
    exact ⟨rfl, hA.trans (B1.mono hA.size)⟩
end Go.Proofs.YtenokbceamcekaaGreatDoor.Ew
