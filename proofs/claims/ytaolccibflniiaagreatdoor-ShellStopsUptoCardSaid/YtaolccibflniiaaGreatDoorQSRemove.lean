/-
  (*Store).Remove and Move.
-/
import Derived.Maps.RangeWalk
import Derived.Sort.KeysCollected
import Derived.Test.YtaolccibflniiaaGreatDoorQSEqual
import Derived.Test.YtaolccibflniiaaGreatDoorQSWrite
namespace Go.Proofs.YtaolccibflniiaaGreatDoor.Sw
open Go.RowKit Go.Proofs.YtaolccibflniiaaGreatDoor Go.Maps
set_option maxRecDepth 100000

def occA (L : List F) (p : List UInt8) : Bool := L.any fun f => dirL f.p == p

theorem keyS (key : Value) (kl : Lit) (h : keyOf Tryz.prog 9 key = some kl) : ∃ x : List UInt8, key = Value.string (str x) := by
  obtain ⟨x, hx, _⟩ := Maps.keyOf_str Tryz.underlying9 h
  exact ⟨x, hx⟩
theorem keyS_inv {x : List UInt8} {kl : Lit} (h : keyOf Tryz.prog 9 (Value.string (str x)) = some kl) : kl = .string x := by
  obtain ⟨y, hy, rfl, _⟩ := Maps.keyOf_str Tryz.underlying9 h
  have : Value.string (str x) = Value.string (str y) := hy
  have e := congrArg (fun v => match v with | Value.string s => bs s | _ => []) this
  simp only [bs_str] at e
  rw [e]

set_option maxHeartbeats 2000000 in
theorem occupied_any (w : World) {sb bm : Nat} {L : List F} {c : Int} (p : ByteArray) (b : Bool) (hS : StoreAt w sb bm L c) (hl : ∀ f ∈ L, f.p.length ≤ 1000000) (hb : Hid (occA L (bs p) = b)) :
    Calls Tryz.prog 169 #[.pointer (some ⟨sb, 0, none⟩), .string p] w fun e w' => e = .returned (.bool b) ∧ Below w.heap.size w w' := by
  have c1 := hS.c1
  have hlt := hS.lt
  have hM := hS.map
  have hs := hM.sorted
  go_enter Tryz.func169, Tryz.ntmps169
  go_wp2_with (at_range; refine wpList_range_own _ rfl _ 61 rfl 9 44 key Tryz.underlying61 _ bm _ _ rfl hM.own ?_; intro w0 hrg0 hg0 hs0)
  go_frame
  go_loopw [5] (fun _ wr => ∃ (left : Lit → Bool) (cnt : Nat) (xs : List F), wr.ranges Tryz.prog 9 fElem bm w.heap.size L.length (Sp.mapOf L) left cnt ∧ Came L left xs ∧ (∀ f ∈ xs, dirL f.p ≠ bs p) ∧ Below w.heap.size w wr)
    (fun _ wr => wr.rangeLeft bm w.heap.size)
  case atStart => exact ⟨_, _, [], hrg0, Came.start L, by simp, (Below.refl _ w).grown hg0 (Nat.le_refl _) (fun r e => by cases e)⟩
  case round =>
    obtain ⟨left, cnt, xs, hrg, hC, hX, hB⟩ := hrel
    go_wp2_with (at_next; refine wpList_next_ranges _ rfl _ rfl 9 key fElem (fun x : List UInt8 => Value.string (str x)) (fun f : F => Value.agg #[.string (str f.p), .string (str f.t), .int .i64 f.c, .bool f.d]) keyS elem_inv bm w.heap.size _ _ _ _ rfl hrg ?_ ?_)
    · intro hc0 hl0
      have hE : b = false := by
        rw [← hb.out]
        unfold occA
        rw [List.any_eq_false]
        intro f hf
        have := hX f ((hC.2 f).2 ⟨hf, hl0 _⟩)
        simpa using this
      subst hE
      go_wp2
      go_ret
      exact ⟨rfl, hB⟩
    · intro x f kl yd yp w2 cnt2 hkey hlk hv hat hrg2 hlt2 hg2 hs2 hen
      obtain rfl := keyS_inv hkey
      obtain rfl : yd = Sp.fD f := (Prod.mk.inj (elem_of hv)).1
      obtain ⟨hC2, hfL, hfp⟩ := hC.step hs hlk hat
      subst hfp
      have hpl := hl f hfL
      have hB2 := hB.grown hg2 hB.size (fun r e => by cases e; exact Nat.le_refl _)
      obtain ⟨d, hd⟩ : ∃ d : ByteArray, dirL f.p = bs d := ⟨str (dirL f.p), rfl⟩
      have HD : Hid (dirL (bs (str f.p)) = bs d) := Lib.hid (by rw [bs_str]; exact hd)
      have hps : (str f.p).size ≤ 1000000 := by rw [← bs_len, bs_str]; exact hpl
      have HC2 := Lib.hid hC2
      have HX := Lib.hid hX
      clear hs2 hC2 hX hkey hv hat
      by_cases he : (d.toList == p.toList) = true
      · have hE : b = true := by
          rw [← hb.out]
          unfold occA
          rw [List.any_eq_true]
          refine ⟨f, hfL, ?_⟩
          rw [hd]
          have : bs d = bs p := by rw [Lib.toList_data, Lib.toList_data] at he; exact eq_of_beq he
          simpa using this
        subst hE
        clear hd
        go_wp2_with (go_at_call 51; go_must (refine (dir_is _ _ d hps HD).mono ?_); rintro e w4 ⟨rfl, rfl⟩)
        go_ret
        exact ⟨rfl, hB2⟩
      · have he' : (d.toList == p.toList) = false := by simpa using he
        have HN : Hid (dirL f.p ≠ bs p) := Lib.hid (by rw [hd]; intro e; rw [Lib.toList_data, Lib.toList_data] at he; exact he (beq_iff_eq.2 e))
        clear hd he
        go_wp2_with (go_at_call 51; go_must (refine (dir_is _ _ d hps HD).mono ?_); rintro e w4 ⟨rfl, rfl⟩)
        go_roundw
        case rel => exact ⟨_, cnt2, xs ++ [f], hrg2, HC2.out, fun g hg => by rcases List.mem_append.1 hg with h | h; exact HX.out g h; (obtain rfl : g = f := by simpa using h); exact HN.out, hB2⟩
        case measure => rw [hrg2.left_eq, hrg.left_eq]; exact hlt2

/-! ### DeleteFunc -/
def keepB (left : Lit → Bool) (p : List UInt8) (f : F) : Bool := left (.string f.p) || !inL f.p p
def remA (L : List F) (p : List UInt8) : List F := L.filter fun f => !inL f.p p

theorem del_mapOf (M : List F) (x : List UInt8) : (Sp.mapOf M).del (.string x) = Sp.mapOf (M.filter fun g => !(g.p == x)) := by
  show DataW.map ((M.map Sp.ent).filter fun q => !q.1.sameKey (.string x)) = _
  rw [List.filter_map]; rfl

theorem sorted_filter {L : List F} (h : Sp.Sorted L) (q : F → Bool) : Sp.Sorted (L.filter q) := List.Pairwise.filter q h

theorem closureR_any (k p : ByteArray) (a b c d : Value) (w : World) (pb : Nat) (hc : w.cell? ⟨pb, 0, none⟩ = some (.string p)) (hpb : pb < w.heap.size) (r : Bool) (hr : Hid (inL (bs k) (bs p) = r)) :
    Calls Tryz.prog 171 #[.string k, .agg #[a, b, c, d], .pointer (some ⟨pb, 0, none⟩)] w fun e w' => e = .returned (.bool r) ∧ Below w.heap.size w w' := by
  have hin : ∀ W, Calls Tryz.prog 172 #[.string k, .string p] W fun e w' => e = .returned (.bool r) ∧ W = w' := fun W => by
    have := In_any W k p
    rwa [hr.out] at this
  go_enter Tryz.func171, Tryz.ntmps171
  go_wp2_with (go_at_call 172; go_must (refine (hin _).mono ?_); rintro e w' ⟨rfl, rfl⟩)
  go_ret
  exact ⟨rfl, (Below.refl _ w).alloc (Nat.le_refl _) _⟩

def DfRel (w : World) (bm : Nat) (L : List F) (p : List UInt8) (wr : World) : Prop :=
  ∃ (left : Lit → Bool) (cnt : Nat), wr.ranges Tryz.prog 9 fElem bm w.heap.size L.length (Sp.mapOf (L.filter (keepB left p))) left cnt ∧ Kept [bm] w wr

set_option maxHeartbeats 4000000 in
theorem DeleteFunc_any (w : World) {bm : Nat} {L : List F} (p : ByteArray) (pb : Nat) (hM : MapAt w bm L) (hc : w.cell? ⟨pb, 0, none⟩ = some (.string p)) (hne : pb ≠ bm) (hl : ∀ f ∈ L, f.p.length ≤ 1000000) :
    Calls Tryz.prog 170 #[.map (some bm), .func (.func 171) #[] #[.pointer (some ⟨pb, 0, none⟩)]] w fun e w' =>
      e = .returned (.tuple #[]) ∧ MapAt w' bm (remA L (bs p)) ∧ Kept [bm] w w' := by
  have hs := hM.sorted
  have hpb : pb < w.heap.size := by have := World.block_lt_of_cell? _ _ hc; simpa using this
  have hbm := hM.lt
  go_enter Tryz.func170, Tryz.ntmps170
  go_wp2_with (at_range; refine wpList_range_own _ rfl _ 61 rfl 9 44 key Tryz.underlying61 _ bm _ _ rfl hM.own ?_; intro w0 hrg0 hg0 hs0)
  go_frame
  go_loopw [4, 5] (fun _ _ wr => DfRel w bm L (bs p) wr) (fun _ _ wr => wr.rangeLeft bm w.heap.size)
  case atStart =>
    refine ⟨Maps.has (Sp.mapOf L), Maps.size (Sp.mapOf L), ?_, (Kept.refl _ w).grown hg0 (fun r e => by cases e)⟩
    have e : L.filter (keepB (Maps.has (Sp.mapOf L)) (bs p)) = L := List.filter_eq_self.2 fun f hf => by
      unfold keepB
      rw [Sp.has_mapOf, (Sp.get_some hs).2 ⟨hf, rfl⟩]; rfl
    rw [e]; exact hrg0
  case round =>
    obtain ⟨left, cnt, hrg, hK⟩ := hrel
    go_wp2_with (at_next; refine wpList_next_ranges _ rfl _ rfl 9 key fElem (fun x : List UInt8 => Value.string (str x)) (fun f : F => Value.agg #[.string (str f.p), .string (str f.t), .int .i64 f.c, .bool f.d]) keyS elem_inv bm w.heap.size _ _ _ _ rfl hrg ?_ ?_)
    · intro hc0 hl0
      go_wp2
      go_end0
      have e : L.filter (keepB left (bs p)) = remA L (bs p) := List.filter_congr fun f _ => by unfold keepB; rw [hl0]; rfl
      rw [e] at hrg
      exact ⟨rfl, MapAt.of_own hrg.owns (sorted_filter hs _), hK⟩
    · intro x f kl yd yp w2 cnt2 hkey hlk hv hat hrg2 hlt2 hg2 hs2 hen
      obtain rfl := keyS_inv hkey
      obtain rfl : yd = Sp.fD f := (Prod.mk.inj (elem_of hv)).1
      have hg1 : (Sp.get (L.filter (keepB left (bs p))) x).isSome = true := by rw [← Sp.has_mapOf]; exact has_true_of_atKey hat
      obtain ⟨g, hg⟩ := Option.isSome_iff_exists.1 hg1
      have efg : f = g := (Sp.fD_inj ((Sp.at_mapOf_some hg .nil).symm.trans (hat .nil))).symm
      subst efg
      obtain ⟨m1, m2⟩ := (Sp.get_some (sorted_filter hs _)).1 hg
      have hfL := (List.mem_filter.1 m1).1
      subst m2
      have hpl := hl f hfL
      have hkm : (str f.p).size ≤ maxLen := by rw [← bs_len, bs_str]; unfold maxLen; omega
      have hK2 := hK.grown hg2 (fun r e => by cases e; exact .inr (Nat.le_refl _))
      have hK3 := hK2.alloc (.cells #[.string (str f.p), .string (str f.t), .int .i64 f.c, .bool f.d] 44)
      have hrg3 := hrg2.alloc (.cells #[.string (str f.p), .string (str f.t), .int .i64 f.c, .bool f.d] 44)
      have hcc : ∀ W, Kept [bm] w W → W.cell? ⟨pb, 0, none⟩ = some (.string p) := fun W hW => (hW.cell (p := ⟨pb, 0, none⟩) hpb (by simpa using hne)).trans hc
      have hcon := fun r hr => closureR_any (str f.p) p (.string (str f.p)) (.string (str f.t)) (.int .i64 f.c) (.bool f.d) _ pb (hcc _ hK3) (Nat.lt_of_lt_of_le hpb hK3.size) r hr
      have HC := Lib.hid hcon
      clear hs2 hkey hv hat hcc hcon hg1 hg
      cases hin : inL f.p (bs p) with
      | true =>
        have hR : Hid (inL (bs (str f.p)) (bs p) = true) := Lib.hid (by rw [bs_str]; exact hin)
        have HL : Hid ((Sp.mapOf (L.filter (keepB left (bs p)))).del (.string f.p) = Sp.mapOf (L.filter (keepB (fun z => left z && !z.sameKey (.string f.p)) (bs p)))) := Lib.hid (by
          rw [del_mapOf, List.filter_filter]
          congr 1
          refine List.filter_congr fun g hgL => ?_
          show (!(g.p == f.p) && (left (.string g.p) || !inL g.p (bs p))) = ((left (.string g.p) && !(g.p == f.p)) || !inL g.p (bs p))
          by_cases e : g.p = f.p
          · rw [e, hin]; simp
          · rw [show (g.p == f.p) = false by simpa using e]; simp)
        clear hin
        go_wp2_with (first
          | (go_at_call 171; go_must (refine (HC.out true hR).mono ?_); rintro e w4 ⟨rfl, B4⟩; have hrg4 := hrg3.kept (row := none) ⟨B4.os, B4.tape, B4.output, B4.size, fun i hi _ => B4.block i hi⟩ (by simp) (by simp); have hK4 := hK3.below B4)
          | (at_delete; refine wpList_delete_ranges _ rfl _ _ 61 9 rfl 44 key Tryz.underlying61 fElem bm w.heap.size _ _ _ _ rfl hrg4 _ _ rfl (key_of hkm) ?_; intro w5 cnt5 hrg5 hle5 ht5; go_frame))
        go_roundw
        case rel =>
          rw [bs_str, Maps.strike_twice, HL.out] at hrg5
          exact ⟨_, cnt5, hrg5, hK4.grown ht5.grown (by simp)⟩
        case measure =>
          rw [hrg5.left_eq, hrg.left_eq]; omega
      | false =>
        have hR : Hid (inL (bs (str f.p)) (bs p) = false) := Lib.hid (by rw [bs_str]; exact hin)
        have HL : Hid (L.filter (keepB left (bs p)) = L.filter (keepB (fun z => left z && !z.sameKey (.string f.p)) (bs p))) := Lib.hid (by
          refine List.filter_congr fun g hgL => ?_
          show (left (.string g.p) || !inL g.p (bs p)) = ((left (.string g.p) && !(g.p == f.p)) || !inL g.p (bs p))
          by_cases e : g.p = f.p
          · rw [e, hin]; simp
          · rw [show (g.p == f.p) = false by simpa using e]; simp)
        clear hin
        go_wp2_with (go_at_call 171; go_must (refine (HC.out false hR).mono ?_); rintro e w4 ⟨rfl, B4⟩; have hrg4 := hrg3.kept (row := none) ⟨B4.os, B4.tape, B4.output, B4.size, fun i hi _ => B4.block i hi⟩ (by simp) (by simp); have hK4 := hK3.below B4)
        go_roundw
        case rel =>
          rw [HL.out] at hrg4
          exact ⟨_, cnt2, hrg4, hK4⟩
        case measure => rw [hrg4.left_eq, hrg.left_eq]; exact hlt2

/-! ### Remove -/
def removeA (s : St) (p : List UInt8) (all : Bool) : St × Int :=
  if p = [46] then (s, 1) else match Sp.get s.L p with
    | none => (s, 3)
    | some _ => if all = false ∧ occA s.L p = true then (s, 4) else (⟨remA s.L p, s.c⟩, 0)

theorem Remove_root (w : World) {sb bm : Nat} {s : St} (p : ByteArray) (all : Bool) (hS : StoreAt w sb bm s.L s.c) (h0 : (p.toList == [46]) = true) :
    Calls Tryz.prog 129 #[.pointer (some ⟨sb, 0, none⟩), .string p, .bool all] w (OpPost w sb bm (s, 1)) := by
  go_enter Tryz.func129, Tryz.ntmps129
  go_wp2
  go_ret
  exact ⟨rfl, hS.alloc _, (Kept.refl _ w).alloc _⟩

set_option maxHeartbeats 4000000 in
theorem Remove_gone (w : World) {sb bm : Nat} {s : St} (p : ByteArray) (all : Bool) (hS : StoreAt w sb bm s.L s.c) (hp : p.size ≤ 1000000) (h0 : (p.toList == [46]) = false) (hg : Sp.get s.L (bs p) = none) :
    Calls Tryz.prog 129 #[.pointer (some ⟨sb, 0, none⟩), .string p, .bool all] w (OpPost w sb bm (s, 3)) := by
  have hpm : p.size ≤ maxLen := by unfold maxLen; omega
  have hlt := hS.lt
  have c1 := hS.c1
  have hbx := (Boxed.new w 9 (.string p)).cell
  have hS1 := hS.alloc (.cells #[.string p] 9)
  have c1' := hS1.c1
  have hr0 := (hS1.map.block (w' := (w.alloc (.cells #[.string p] 9)).drew) rfl).run_no hpm hg
  have hr1 := fun o : Obj => ((hS1.map.alloc o).block (w' := ((w.alloc (.cells #[.string p] 9)).alloc o).drew) rfl).run_no hpm hg
  go_enter Tryz.func129, Tryz.ntmps129
  go_wp2
  go_region
  go_wp2
  go_ret
  exact ⟨rfl, ⟨(hS1.alloc _).cells, (hS1.alloc _).map.block rfl⟩, (((Kept.refl _ w).alloc _).alloc _).drewN 1⟩

set_option maxHeartbeats 4000000 in
theorem Remove_some (w : World) {sb bm : Nat} {s : St} (p : ByteArray) (all : Bool) (f : F) (hS : StoreAt w sb bm s.L s.c) (hF : Fine s) (hp : p.size ≤ 1000000) (h0 : (p.toList == [46]) = false) (hg : Sp.get s.L (bs p) = some f) (r : St × Int) (hr : Hid ((if all = false ∧ occA s.L (bs p) = true then (s, 4) else (⟨remA s.L (bs p), s.c⟩, 0)) = r)) :
    Calls Tryz.prog 129 #[.pointer (some ⟨sb, 0, none⟩), .string p, .bool all] w (OpPost w sb bm r) := by
  have hpm : p.size ≤ maxLen := by unfold maxLen; omega
  have hpl : ∀ f ∈ s.L, f.p.length ≤ 1000000 := fun f hf => by have := hF.path f hf; omega
  have hlt := hS.lt
  have hbl := hS.map.lt
  have c1 := hS.c1
  have hbx := (Boxed.new w 9 (.string p)).cell
  have hS1 := hS.alloc (.cells #[.string p] 9)
  have c1' := hS1.c1
  have hr0 := (hS1.map.block (w' := (w.alloc (.cells #[.string p] 9)).drew) rfl).run_yes hpm hg
  have hr1 := fun o : Obj => ((hS1.map.alloc o).block (w' := ((w.alloc (.cells #[.string p] 9)).alloc o).drew) rfl).run_yes hpm hg
  obtain ⟨fp, ft, fc, fd⟩ := f
  simp only at hr0 hr1
  have hS2 : StoreAt (((w.alloc (.cells #[.string p] 9)).alloc (.cells #[.string (str fp), .string (str ft), .int .i64 fc, .bool fd] 44)).drew) sb bm s.L s.c := ⟨(hS1.alloc _).cells, (hS1.alloc _).map.block rfl⟩
  have hK2 : Kept [sb, bm] w (((w.alloc (.cells #[.string p] 9)).alloc (.cells #[.string (str fp), .string (str ft), .int .i64 fc, .bool fd] 44)).drew) := (((Kept.refl _ w).alloc _).alloc _).drewN 1
  have hcb : (((w.alloc (.cells #[.string p] 9)).alloc (.cells #[.string (str fp), .string (str ft), .int .i64 fc, .bool fd] 44)).drew).cell? ⟨w.heap.size, 0, none⟩ = some (.string p) :=
    (((Below.refl (w.alloc (.cells #[.string p] 9)).heap.size _).alloc (Nat.le_refl _) _).drew.cell (p := ⟨w.heap.size, 0, none⟩) (by simp)).trans hbx
  have HS2 := Lib.hid hS2
  have HK2 := Lib.hid hK2
  have HCB := Lib.hid hcb
  clear hS2 hK2 hcb
  go_enter Tryz.func129, Tryz.ntmps129
  go_wp2
  go_region
  clear hr0 hr1 hS1 hbx c1' c1 hS
  generalize (((w.alloc (.cells #[.string p] 9)).alloc (.cells #[.string (str fp), .string (str ft), .int .i64 fc, .bool fd] 44)).drew) = W at *
  have hS2 := HS2.out
  have hcb := HCB.out
  have c1 := hS2.c1
  have hlt2 := hS2.lt
  have hwl : w.heap.size < W.heap.size := by have := World.block_lt_of_cell? _ _ hcb; simpa using this
  obtain ⟨b, hb⟩ : ∃ b, Hid (occA s.L (bs p) = b) := ⟨_, Lib.hid rfl⟩
  have hdf := DeleteFunc_any W p w.heap.size hS2.map hcb (by omega) hpl
  have HD := Lib.hid hdf
  clear hdf
  have fin : ∀ w' : World, MapAt w' bm (remA s.L (bs p)) → Kept [bm] W w' → StoreAt w' sb bm (remA s.L (bs p)) s.c ∧ Kept [sb, bm] w w' := fun w' h1 h2 =>
    ⟨⟨(h2.block sb hlt2 (by simpa using fun e => hS2.ne e.symm)).trans hS2.cells, h1⟩, HK2.out.trans (h2.mono (by simp))⟩
  have FIN := Lib.hid fin
  clear fin
  cases all with
  | true =>
    have er := hr.out
    rw [if_neg (by simp)] at er
    subst er
    go_wp2_with (go_at_call 170; go_must (refine HD.out.mono ?_); rintro e w5 ⟨rfl, h1, h2⟩)
    go_ret
    exact ⟨rfl, FIN.out _ h1 h2⟩
  | false =>
    cases b with
    | true =>
      have er := hr.out
      rw [hb.out, if_pos ⟨rfl, rfl⟩] at er
      subst er
      go_wp2_with (go_at_call 169; go_must (refine (occupied_any _ p true hS2 hpl hb).mono ?_); rintro e w4 ⟨rfl, B4⟩)
      go_ret
      exact ⟨rfl, hS2.below B4, HK2.out.below B4⟩
    | false =>
      have er := hr.out
      rw [hb.out, if_neg (by simp)] at er
      subst er
      have hdf2 := fun w4 (B4 : Below W.heap.size W w4) => DeleteFunc_any w4 p w.heap.size (hS2.below B4).map ((B4.cell (p := ⟨w.heap.size, 0, none⟩) hwl).trans hcb) (by omega) hpl
      have HD2 := Lib.hid hdf2
      clear hdf2
      go_wp2_with (first
        | (go_at_call 169; go_must (refine (occupied_any _ p false hS2 hpl hb).mono ?_); rintro e w4 ⟨rfl, B4⟩; have c14 := (hS2.below B4).c1; have hlt4 := (hS2.below B4).lt)
        | (go_at_call 170; go_must (refine (HD2.out _ B4).mono ?_); rintro e w5 ⟨rfl, h1, h2⟩))
      go_ret
      exact ⟨rfl, FIN.out _ h1 ((Kept.of_below B4).trans h2)⟩

theorem Remove_any (w : World) {sb bm : Nat} {s : St} (p : ByteArray) (all : Bool) (hS : StoreAt w sb bm s.L s.c) (hF : Fine s) (hp : p.size ≤ 1000000) :
    Calls Tryz.prog 129 #[.pointer (some ⟨sb, 0, none⟩), .string p, .bool all] w (OpPost w sb bm (removeA s (bs p) all)) := by
  unfold removeA
  by_cases h0 : (p.toList == [46]) = true
  · rw [if_pos (bs_is h0)]; exact Remove_root w p all hS h0
  · have h0' : (p.toList == [46]) = false := by simpa using h0
    rw [if_neg (bs_not h0')]
    cases hg : Sp.get s.L (bs p) with
    | none => exact Remove_gone w p all hS hp h0' hg
    | some f => exact Remove_some w p all f hS hF hp h0' hg _ (Lib.hid rfl)
end Go.Proofs.YtaolccibflniiaaGreatDoor.Sw
