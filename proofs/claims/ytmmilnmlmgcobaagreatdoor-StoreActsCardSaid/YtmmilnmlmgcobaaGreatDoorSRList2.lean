/-
  The reference's plain.
  The reference's List.
  The reference's List, whole.
-/
import Derived.Test.YtmmilnmlmgcobaaGreatDoorSRRemove2
import Derived.Test.YtmmilnmlmgcobaaGreatDoorSPlain2
import Derived.Test.YtmmilnmlmgcobaaGreatDoorSList
namespace Go.Proofs.YtmmilnmlmgcobaaGreatDoor.Sw
open Go.RowKit Go.Proofs.YtmmilnmlmgcobaaGreatDoor Go.Maps
set_option maxRecDepth 100000

def PlRel (w1 : World) (L : List F) (p : List UInt8) (v5 v6 : Value) (wr : World) : Prop :=
  ∃ k : Nat, k ≤ L.length ∧ v6 = .int .i64 k ∧ wr.ownsRow w1.heap.size 26 4 v5 (plainA (L.take k) p).length (fCs (plainA (L.take k) p)) ∧ (plainA (L.take k) p = [] → v5 = .slice none 0 0) ∧ Below w1.heap.size w1 wr

theorem plain_app (L M : List F) (p : List UInt8) : plainA (L ++ M) p = plainA L p ++ plainA M p := by simp [plainA, butA]
theorem plain_one (f : F) (p : List UInt8) : plainA [f] p = if f.p = p then [] else [zeroT f] := by
  unfold plainA butA
  by_cases h : f.p = p <;> simp [h]

theorem pl_skip {w1 : World} {L : List F} {p : List UInt8} {v5 : Value} {wr w3 : World} {k : Nat} (hk : k < L.length) (hi : L[k].p = p)
    (ho : wr.ownsRow w1.heap.size 26 4 v5 (plainA (L.take k) p).length (fCs (plainA (L.take k) p))) (hnil : plainA (L.take k) p = [] → v5 = .slice none 0 0) (hB : Below w1.heap.size w1 wr) (B3 : Below wr.heap.size wr w3) :
    PlRel w1 L p v5 (.int .i64 ((k : Int) + 1)) w3 := by
  have e1 : plainA (L.take (k + 1)) p = plainA (L.take k) p := by
    rw [List.take_succ_eq_append_getElem hk, plain_app, plain_one, if_pos hi, List.append_nil]
  refine ⟨k + 1, hk, by simp, ?_, by rw [e1]; exact hnil, hB.trans (B3.mono hB.size)⟩
  rw [e1]
  exact owns_below ho B3
theorem pl_put {w1 : World} {L : List F} {p : List UInt8} {v' : Value} {w' : World} {k : Nat} (hk : k < L.length) (hi : ¬ L[k].p = p)
    (ho : w'.ownsRow w1.heap.size 26 4 v' ((plainA (L.take k) p).length + 1) (fCs (plainA (L.take k) p) ++ [.string (str L[k].p), .string (str L[k].t), .int .i64 0, .bool L[k].d])) (hB : Below w1.heap.size w1 w') :
    PlRel w1 L p v' (.int .i64 ((k : Int) + 1)) w' := by
  have e1 : plainA (L.take (k + 1)) p = plainA (L.take k) p ++ [zeroT L[k]] := by
    rw [List.take_succ_eq_append_getElem hk, plain_app, plain_one, if_neg hi]
  refine ⟨k + 1, hk, by simp, ?_, by rw [e1]; simp, hB⟩
  rw [e1, List.length_append, fCs_app]
  exact ho
theorem plain_len (L : List F) (p : List UInt8) : (plainA L p).length ≤ L.length := by
  unfold plainA butA
  rw [List.length_map]
  exact List.length_filter_le _ _

def PlainPost (w : World) (M : List F) (e : Ending) (w' : World) : Prop := ∃ v, e = .returned v ∧ RFiles w' v M ∧ (∀ b, v.ownBlock = some b → w.heap.size ≤ b) ∧ Below w.heap.size w w'

set_option maxHeartbeats 2000000 in
theorem RPlain_any (w : World) (v : Value) (c : Int) (L : List F) (p : ByteArray) (hl : L.length ≤ 100000) (h : RFiles w v L) :
    Calls Tryz.prog 46 #[.agg #[v, .int .i64 c], .string p] w (PlainPost w (plainA L (bs p))) := by
  obtain ⟨a, cp, rfl⟩ : ∃ a cp, v = .slice a L.length cp := by
    rcases h with ⟨rfl, rfl⟩ | ⟨_, b, cp, rfl, _⟩ <;> exact ⟨_, _, rfl⟩
  obtain ⟨i0, hi, hz0, hz1, hz2⟩ := info_parts infoF
  have hBa := (Below.refl w.heap.size w).alloc (Nat.le_refl _) (.cells #[.slice a L.length cp, .int .i64 c] 34)
  have hH := heap_new w (.cells #[.slice a L.length cp, .int .i64 c] 34) rfl
  have hlt0 : w.heap.size < (w.alloc (.cells #[.slice a L.length cp, .int .i64 c] 34)).heap.size := by simp
  go_enter Tryz.func46, Tryz.ntmps46
  go_wp2
  generalize w.alloc (.cells #[.slice a L.length cp, .int .i64 c] 34) = w1 at *
  have HW : Hid (∀ W, Below w1.heap.size w1 W → W.cell? ⟨w.heap.size, 0, none⟩ = some (.slice a L.length cp)) := Lib.hid fun W hB => (hB.cell (p := ⟨w.heap.size, 0, none⟩) hlt0).trans (cell_at hH rfl)
  clear hH
  go_loopw [5, 6] (fun v5 v6 wr => PlRel w1 L (bs p) v5 v6 wr) (fun _ v _ => L.length - (intOf v).toNat)
  case atStart => exact ⟨0, Nat.zero_le _, rfl, World.ownsRow_nil _ _ _ _, fun _ => rfl, Below.refl _ _⟩
  case round =>
    obtain ⟨k, hk, rfl, ho, hnil, hB⟩ := hrel
    have g0 := HW.out wr hB
    by_cases hlt : k < L.length
    · rcases h with ⟨rfl, _⟩ | ⟨_, b, cp', e, h2, h3, h4⟩
      · exact absurd hlt (by simp)
      cases e
      have e : ∀ i u, i < 4 → (fC L[k])[i]? = some u → wr.cell? ⟨b, k * 4 + i, none⟩ = some u := fun i u hi hu => ((hBa.trans (hB.mono hBa.size)).cell (p := ⟨b, k * 4 + i, none⟩) h3).trans (h4 _ u (by rw [rfCs_get hlt hi]; exact hu))
      have x0 : wr.cell? ⟨b, k * 4, none⟩ = some (.string (str L[k].p)) := e 0 _ (by decide) rfl
      have x1 : wr.cell? ⟨b, k * 4 + 1, none⟩ = some (.string (str L[k].t)) := e 1 _ (by decide) rfl
      have x2 : wr.cell? ⟨b, k * 4 + 2, none⟩ = some (.int .i64 L[k].c) := e 2 _ (by decide) rfl
      have x3 : wr.cell? ⟨b, k * 4 + 3, none⟩ = some (.bool L[k].d) := e 3 _ (by decide) rfl
      have hki : (k : Int) < L.length := by omega
      have hbr : b < wr.heap.size := by have := hBa.size; have := hB.size; omega
      have hsz := hB.size
      have hcn : (plainA (L.take k) (bs p)).length ≤ 100000 := by
        have h1 := plain_len (L.take k) (bs p)
        have h2 := List.length_take_le k L
        omega
      obtain ⟨a10, c10, rfl⟩ := owns_slice ho
      have HO := Lib.hid ho
      have HNil := Lib.hid hnil
      have hnew := Lib.hid (four_new (wr.alloc (.cells #[.string (str L[k].p), .string (str L[k].t), .int .i64 0, .bool L[k].d] 26)) (.string (str L[k].p)) (.string (str L[k].t)) (.int .i64 0) (.bool L[k].d) 26)
      rw [World.size_alloc] at hnew
      clear e ho hnil h4
      by_cases hq : ((str L[k].p).toList == p.toList) = true
      · have hq2 : L[k].p = bs p := by rw [Lib.toList_data, Lib.toList_data] at hq; exact eq_of_beq hq
        have HQ := Lib.hid hq2
        clear hq2
        go_wp2
        exact ⟨pl_skip hlt HQ.out HO.out HNil.out hB ((Below.refl _ _).alloc (Nat.le_refl _) _), by simp [intOf]; omega⟩
      · have hq2 : ¬ L[k].p = bs p := fun e => hq (by rw [Lib.toList_data, Lib.toList_data]; exact beq_iff_eq.2 e)
        have HQ := Lib.hid hq2
        clear hq2
        go_wp2_with (at_builtin; refine wpList_append_own _ rfl _ _ 22 rfl w1.heap.size 26 i0 (.agg #[.string ByteArray.empty, .string ByteArray.empty, .int .i64 0, .bool false]) 4 48 Tryz.underlying22 hi hz0 hz1 hz2 rfl (by decide) _ _ _ rfl ((HO.out.alloc _).alloc _) ⟨wr.heap.size + 1, 0, none⟩ 1 1 [.string (str L[k].p), .string (str L[k].t), .int .i64 0, .bool L[k].d] rfl rfl hnew.out (by simp [Value.oneCell']) (by unfold maxLen; omega) (by omega) (by simp; omega) ?_; intro v4 w4 hown4 hgrow4 _)
        exact ⟨pl_put hlt HQ.out hown4 (((hB.alloc hsz _).alloc (by simp; omega) _).grown hgrow4 (by simp; omega) (fun j e => (HO.out.lt j e).1)), by simp [intOf]; omega⟩
    · obtain rfl : k = L.length := by omega
      simp only [List.take_length] at ho hnil ⊢
      have hF := RFiles.of_own ho hnil
      have hV : ∀ b, u5.ownBlock = some b → w.heap.size ≤ b := fun b hb => by have := (ho.lt b hb).1; omega
      have hB5 := hBa.trans (hB.mono hBa.size)
      clear ho hnil
      go_wp2
      go_ret
      exact ⟨_, rfl, hF, hV, hB5⟩
end Go.Proofs.YtmmilnmlmgcobaaGreatDoor.Sw
namespace Go.Proofs.YtmmilnmlmgcobaaGreatDoor.Sw
open Go.RowKit Go.Proofs.YtmmilnmlmgcobaaGreatDoor Go.Maps
set_option maxRecDepth 100000

theorem RDirR (w : World) (f : List UInt8) (hf : f.length ≤ 100000) :
    Calls Tryz.prog 23 #[.string (str f)] w fun e w' => e = .returned (.string (str (rDir f))) ∧ Below w.heap.size w w' := RDir_any w (str f) (by rw [str_len]; omega)
theorem RBaseR (w : World) (f : List UInt8) (hf : f.length ≤ 100000) :
    Calls Tryz.prog 75 #[.string (str f)] w fun e w' => e = .returned (.string (str (rBase f))) ∧ Below w.heap.size w w' := RBase_any w (str f) (by rw [str_len]; omega)

def RLsRel (w1 : World) (L : List F) (p : List UInt8) (v8 v9 : Value) (wr : World) : Prop :=
  ∃ k : Nat, k ≤ L.length ∧ v9 = .int .i64 k ∧ wr.ownsRow w1.heap.size 9 1 v8 (rNames p (L.take k)).length (strC (strs (rNames p (L.take k)))) ∧ Below w1.heap.size w1 wr

theorem names_app (L M : List F) (p : List UInt8) : rNames p (L ++ M) = rNames p L ++ rNames p M := by simp [rNames]
theorem names_one (f : F) (p : List UInt8) : rNames p [f] = if rDir f.p = p then [rBase f.p] else [] := by
  unfold rNames
  by_cases h : rDir f.p = p <;> simp [h]
theorem names_len (L : List F) (p : List UInt8) : (rNames p L).length ≤ L.length := by
  unfold rNames
  rw [List.length_map]
  exact List.length_filter_le _ _
theorem rls_skip {w1 : World} {L : List F} {p : List UInt8} {v8 : Value} {wr w3 : World} {k : Nat} (hk : k < L.length) (hi : ¬ rDir L[k].p = p)
    (ho : wr.ownsRow w1.heap.size 9 1 v8 (rNames p (L.take k)).length (strC (strs (rNames p (L.take k))))) (hB : Below w1.heap.size w1 wr) (B3 : Below wr.heap.size wr w3) :
    RLsRel w1 L p v8 (.int .i64 ((k : Int) + 1)) w3 := by
  have e1 : rNames p (L.take (k + 1)) = rNames p (L.take k) := by
    rw [List.take_succ_eq_append_getElem hk, names_app, names_one, if_neg hi, List.append_nil]
  refine ⟨k + 1, hk, by simp, ?_, hB.trans (B3.mono hB.size)⟩
  rw [e1]
  exact owns_below ho B3
theorem rls_put {w1 : World} {L : List F} {p : List UInt8} {v' : Value} {w' : World} {k : Nat} (hk : k < L.length) (hi : rDir L[k].p = p)
    (ho : w'.ownsRow w1.heap.size 9 1 v' ((rNames p (L.take k)).length + 1) (strC (strs (rNames p (L.take k))) ++ [.string (str (rBase L[k].p))])) (hB : Below w1.heap.size w1 w') :
    RLsRel w1 L p v' (.int .i64 ((k : Int) + 1)) w' := by
  have e1 : rNames p (L.take (k + 1)) = rNames p (L.take k) ++ [rBase L[k].p] := by
    rw [List.take_succ_eq_append_getElem hk, names_app, names_one, if_pos hi]
  refine ⟨k + 1, hk, by simp, ?_, hB⟩
  rw [e1, List.length_append]
  simpa [strC, strs] using ho

set_option maxHeartbeats 2000000 in
theorem RList_no (w : World) (v : Value) (c : Int) (L : List F) (p gp gt : ByteArray) (gc : Int) (gd : Bool) (hl : L.length ≤ 100000) (hP : ∀ f ∈ L, f.p.length ≤ 100000) (h : RFiles w v L)
    (hG : ∀ W v, Files W v L → Calls Tryz.prog 38 #[.agg #[v, .int .i64 c], .string p] W fun e w' => e = .returned (.tuple #[.agg #[.string gp, .string gt, .int .i64 gc, .bool gd], .bool false]) ∧ Below W.heap.size W w') :
    Calls Tryz.prog 41 #[.agg #[v, .int .i64 c], .string p] w (ListPost w [] 3) := by
  obtain ⟨a, cp, rfl⟩ : ∃ a cp, v = .slice a L.length cp := by
    rcases h with ⟨rfl, rfl⟩ | ⟨_, b, cp, rfl, _⟩ <;> exact ⟨_, _, rfl⟩
  obtain ⟨i0, hi, hz0, hz1, hz2⟩ := info_parts infoS
  have hBa := (Below.refl w.heap.size w).alloc (Nat.le_refl _) (.cells #[.slice a L.length cp, .int .i64 c] 34)
  have hH := heap_new w (.cells #[.slice a L.length cp, .int .i64 c] 34) rfl
  have hlt0 : w.heap.size < (w.alloc (.cells #[.slice a L.length cp, .int .i64 c] 34)).heap.size := by simp
  go_enter Tryz.func41, Tryz.ntmps41
  go_wp2_with (go_at_call 38; refine (hG _ _ (h.below hBa).files).mono ?_; rintro e w0 ⟨rfl, B0⟩; have g00 := (B0.cell (p := ⟨w.heap.size, 0, none⟩) hlt0).trans (cell_at hH rfl); have hB0 := hBa.trans (B0.mono hBa.size))
  have hB1 := hB0.alloc hB0.size (.cells #[.string gp, .string gt, .int .i64 gc, .bool gd] 26)
  go_ret2
  exact ⟨_, rfl, by simpa [strs, strC] using World.ownsRow_nil _ w.heap.size 9 1, hB1⟩

set_option maxHeartbeats 2000000 in
theorem RList_file (w : World) (v : Value) (c : Int) (L : List F) (p gp gt : ByteArray) (gc : Int) (_gd : Bool) (hl : L.length ≤ 100000) (hP : ∀ f ∈ L, f.p.length ≤ 100000) (h : RFiles w v L)
    (hG : ∀ W v, Files W v L → Calls Tryz.prog 38 #[.agg #[v, .int .i64 c], .string p] W fun e w' => e = .returned (.tuple #[.agg #[.string gp, .string gt, .int .i64 gc, .bool false], .bool true]) ∧ Below W.heap.size W w') :
    Calls Tryz.prog 41 #[.agg #[v, .int .i64 c], .string p] w (ListPost w [] 4) := by
  obtain ⟨a, cp, rfl⟩ : ∃ a cp, v = .slice a L.length cp := by
    rcases h with ⟨rfl, rfl⟩ | ⟨_, b, cp, rfl, _⟩ <;> exact ⟨_, _, rfl⟩
  obtain ⟨i0, hi, hz0, hz1, hz2⟩ := info_parts infoS
  have hBa := (Below.refl w.heap.size w).alloc (Nat.le_refl _) (.cells #[.slice a L.length cp, .int .i64 c] 34)
  have hH := heap_new w (.cells #[.slice a L.length cp, .int .i64 c] 34) rfl
  have hlt0 : w.heap.size < (w.alloc (.cells #[.slice a L.length cp, .int .i64 c] 34)).heap.size := by simp
  go_enter Tryz.func41, Tryz.ntmps41
  go_wp2_with (go_at_call 38; refine (hG _ _ (h.below hBa).files).mono ?_; rintro e w0 ⟨rfl, B0⟩; have g00 := (B0.cell (p := ⟨w.heap.size, 0, none⟩) hlt0).trans (cell_at hH rfl); have hB0 := hBa.trans (B0.mono hBa.size))
  have hB1 := hB0.alloc hB0.size (.cells #[.string gp, .string gt, .int .i64 gc, .bool false] 26)
  go_ret2
  exact ⟨_, rfl, by simpa [strs, strC] using World.ownsRow_nil _ w.heap.size 9 1, hB1⟩

set_option maxHeartbeats 2000000 in
theorem RList_dir (w : World) (v : Value) (c : Int) (L : List F) (p gp gt : ByteArray) (gc : Int) (_gd : Bool) (hl : L.length ≤ 100000) (hP : ∀ f ∈ L, f.p.length ≤ 100000) (h : RFiles w v L)
    (hG : ∀ W v, Files W v L → Calls Tryz.prog 38 #[.agg #[v, .int .i64 c], .string p] W fun e w' => e = .returned (.tuple #[.agg #[.string gp, .string gt, .int .i64 gc, .bool true], .bool true]) ∧ Below W.heap.size W w') :
    Calls Tryz.prog 41 #[.agg #[v, .int .i64 c], .string p] w (ListPost w (rNames (bs p) L) 0) := by
  obtain ⟨a, cp, rfl⟩ : ∃ a cp, v = .slice a L.length cp := by
    rcases h with ⟨rfl, rfl⟩ | ⟨_, b, cp, rfl, _⟩ <;> exact ⟨_, _, rfl⟩
  obtain ⟨i0, hi, hz0, hz1, hz2⟩ := info_parts infoS
  have hBa := (Below.refl w.heap.size w).alloc (Nat.le_refl _) (.cells #[.slice a L.length cp, .int .i64 c] 34)
  have hH := heap_new w (.cells #[.slice a L.length cp, .int .i64 c] 34) rfl
  have hlt0 : w.heap.size < (w.alloc (.cells #[.slice a L.length cp, .int .i64 c] 34)).heap.size := by simp
  go_enter Tryz.func41, Tryz.ntmps41
  go_wp2_with (go_at_call 38; refine (hG _ _ (h.below hBa).files).mono ?_; rintro e w0 ⟨rfl, B0⟩; have g00 := (B0.cell (p := ⟨w.heap.size, 0, none⟩) hlt0).trans (cell_at hH rfl); have hB0 := hBa.trans (B0.mono hBa.size))
  have hBa1 := hB0.alloc hB0.size (.cells #[.string gp, .string gt, .int .i64 gc, .bool true] 26)
  have hlt1 : w.heap.size < w0.heap.size := by have := B0.size; omega
  have g01 := ((Below.refl w0.heap.size w0).alloc (Nat.le_refl _) (.cells #[.string gp, .string gt, .int .i64 gc, .bool true] 26)).cell (p := ⟨w.heap.size, 0, none⟩) hlt1 |>.trans g00
  generalize w0.alloc (.cells #[.string gp, .string gt, .int .i64 gc, .bool true] 26) = w1 at *
  have hlt2 : w.heap.size < w1.heap.size := by
    unfold World.cell? at g01
    rcases hh : w1.heap[w.heap.size]? with _ | o
    · simp [hh] at g01
    · exact (Array.getElem?_eq_some_iff.1 hh).1
  have HW : Hid (∀ W, Below w1.heap.size w1 W → W.cell? ⟨w.heap.size, 0, none⟩ = some (.slice a L.length cp)) := Lib.hid fun W hB => (hB.cell (p := ⟨w.heap.size, 0, none⟩) hlt2).trans g01
  clear hH B0 g00 hB0 hG hBa hlt0 g01
  go_loopw [8, 9] (fun v8 v9 wr => RLsRel w1 L (bs p) v8 v9 wr) (fun _ v _ => L.length - (intOf v).toNat)
  case atStart => exact ⟨0, Nat.zero_le _, rfl, World.ownsRow_nil _ _ _ _, Below.refl _ _⟩
  case round =>
    obtain ⟨k, hk, rfl, ho, hB⟩ := hrel
    have g0 := HW.out wr hB
    by_cases hlt : k < L.length
    · rcases h with ⟨rfl, _⟩ | ⟨_, b, cp', e, h2, h3, h4⟩
      · exact absurd hlt (by simp)
      cases e
      have HC : Hid (∀ W, Below wr.heap.size wr W → W.cell? ⟨b, k * 4, none⟩ = some (.string (str L[k].p)) ∧ W.cell? ⟨w.heap.size, 0, none⟩ = some (.slice (some ⟨b, 0, none⟩) L.length cp)) := Lib.hid fun W hW => by
        have hBB := hBa1.trans ((hB.trans (hW.mono hB.size)).mono hBa1.size)
        exact ⟨(hBB.cell (p := ⟨b, k * 4 + 0, none⟩) h3).trans (h4 _ _ (by rw [rfCs_get hlt (i := 0) (by decide)]; rfl)), HW.out W (hB.trans (hW.mono hB.size))⟩
      obtain ⟨x0, _⟩ := HC.out wr (Below.refl _ _)
      have HP : Hid (L[k].p.length ≤ 100000) := Lib.hid (hP _ (List.getElem_mem hlt))
      have hki : (k : Int) < L.length := by omega
      have hcn : (rNames (bs p) (L.take k)).length ≤ 100000 := by
        have h1 := names_len (L.take k) (bs p)
        have h2 := List.length_take_le k L
        omega
      have hsz := hB.size
      obtain ⟨a10, c10, rfl⟩ := owns_slice ho
      have HO := Lib.hid ho
      obtain ⟨fp, hfp⟩ : ∃ f, L[k].p = f := ⟨_, rfl⟩
      have HF := Lib.hid hfp
      rw [hfp] at HC x0 HP
      clear ho h4 hfp
      have tok : True := trivial
      by_cases hq : ((str (rDir fp)).toList == p.toList) = true
      · have HQ : Hid (rDir L[k].p = bs p) := Lib.hid (by rw [HF.out]; rw [Lib.toList_data, Lib.toList_data] at hq; exact eq_of_beq hq)
        go_wp2_with (first
          | (go_at_call 23; refine (RDirR _ fp HP.out).mono ?_; rintro e w3 ⟨rfl, B3⟩; obtain ⟨x0, g0⟩ := HC.out w3 B3; have hs3 := B3.size)
          | (go_at_call 75; refine (RBaseR _ fp HP.out).mono ?_; rintro e w4 ⟨rfl, B4⟩; have D4 := B3.trans (B4.mono B3.size); have HO4 := owns_below HO.out D4; have E4 := hB.trans (D4.mono hB.size); have hs4 := E4.size)
          | (at_builtin; refine wpList_append_own _ rfl _ _ 79 rfl w1.heap.size 9 i0 (.string ByteArray.empty) 1 16 Tryz.underlying79 hi hz0 hz1 hz2 rfl (by decide) _ _ _ rfl (HO4.alloc _) ⟨w4.heap.size, 0, none⟩ 1 1 [.string (str (rBase fp))] rfl rfl (cell_one_new _ _ _) (by simp [Value.oneCell']) (by unfold maxLen; omega) (by omega) (by simp; omega) ?_; intro v5 w5 hown5 hgrow5 _))
        have E5 := (E4.alloc hs4 _).grown hgrow5 (by simp; omega) (fun j e => (HO4.lt j e).1)
        have hH := HF.out
        subst hH
        exact ⟨rls_put hlt HQ.out hown5 E5, by simp [intOf]; omega⟩
      · have HQ : Hid (¬ rDir L[k].p = bs p) := Lib.hid (fun e => hq (by rw [← HF.out, Lib.toList_data, Lib.toList_data]; exact beq_iff_eq.2 e))
        go_wp2_with (go_at_call 23; refine (RDirR _ fp HP.out).mono ?_; rintro e w3 ⟨rfl, B3⟩; obtain ⟨x0, g0⟩ := HC.out w3 B3)
        exact ⟨rls_skip hlt HQ.out HO.out hB B3, by simp [intOf]; omega⟩
    · obtain rfl : k = L.length := by omega
      simp only [List.take_length] at ho ⊢
      have hB5 := hBa1.trans (hB.mono hBa1.size)
      have ho' := owns_low ho (b' := w.heap.size) (by omega)
      have HO := Lib.hid ho'
      clear ho ho'
      go_wp2
      go_ret2
      exact ⟨_, rfl, by rw [strs_len]; exact HO.out, hB5⟩
end Go.Proofs.YtmmilnmlmgcobaaGreatDoor.Sw
namespace Go.Proofs.YtmmilnmlmgcobaaGreatDoor.Sw
open Go.RowKit Go.Proofs.YtmmilnmlmgcobaaGreatDoor Go.Maps
set_option maxRecDepth 100000

theorem RListA_any (w : World) (v : Value) (s : St) (p : ByteArray) (hF : Fine s) (hC : Closed s.L) (h : RFiles w v s.L) :
    Calls Tryz.prog 41 #[.agg #[v, .int .i64 s.c], .string p] w (ListPost w (listA s.L (bs p)).1 (listA s.L (bs p)).2) := by
  have hl : s.L.length ≤ 100000 := by have := hF.len; omega
  rw [← list_eq hC hF.sorted]
  unfold rList
  cases hg : getR s.L (bs p) with
  | none => exact RList_no w v s.c s.L p (str noF.p) (str noF.t) noF.c noF.d hl hF.path h fun W v hf => RGet_no W v s.c p hl hf hF.sorted (Lib.hid hg)
  | some f =>
    obtain ⟨fp, ft, fc, fd⟩ := f
    have hG := fun W v hf => RGet_yes W v s.c p hl hf hF.sorted (Lib.hid hg)
    cases fd with
    | false => exact RList_file w v s.c s.L p (str fp) (str ft) fc true hl hF.path h hG
    | true => exact RList_dir w v s.c s.L p (str fp) (str ft) fc true hl hF.path h hG
end Go.Proofs.YtmmilnmlmgcobaaGreatDoor.Sw
