/-
  A reading in memory; check, words, file.
-/
import Derived.Test.YtpliljcjjffipaaGreatDoorQDZWords
import Derived.Test.YtpliljcjjffipaaGreatDoorQJTab
import Derived.Test.YtpliljcjjffipaaGreatDoorQJoin
import Derived.Test.YtpliljcjjffipaaGreatDoorQTCode0
namespace Go.Proofs.YtpliljcjjffipaaGreatDoor.Dq
open Go.RowKit Go.Proofs.YtpliljcjjffipaaGreatDoor Go.Maps Go.Proofs.YtpliljcjjffipaaGreatDoor.Ww Go.Proofs.YtpliljcjjffipaaGreatDoor.Tw Go.Proofs.YtpliljcjjffipaaGreatDoor.Kw Go.Proofs.YtpliljcjjffipaaGreatDoor.Jw Go.Proofs.YtpliljcjjffipaaGreatDoor.Xb Go.Proofs.YtpliljcjjffipaaGreatDoor.Xw Go.Proofs.YtpliljcjjffipaaGreatDoor.Dz
set_option maxRecDepth 100000

abbrev DT : TypeId := 69
abbrev RT : TypeId := 115
abbrev ST : TypeId := 9
abbrev FiT : TypeId := 83
/-- Where each path's target is. -/
def inV (n : Int) : Value := .int .i64 n
def inD (n : Int) : DataW Unit := .lit (.int .i64 n)
def inElem : Value → Option (DataW Unit × List MemPlace)
  | .int .i64 n => some (inD n, [])
  | _ => none
theorem inElem_inv (v : Value) (z : DataW Unit × List MemPlace) (h : inElem v = some z) : ∃ n, v = inV n ∧ z = (inD n, []) := by
  unfold inElem at h
  split at h
  · cases h; exact ⟨_, rfl, rfl⟩
  · cases h
def IK : Kind Int := ⟨112, 3, inV, inD, inElem, 0, fun _ => rfl, inElem_inv, fun a b h => by unfold inD at h; simpa using h, Tryz.underlying112, fun w => by kernel_rfl⟩
/-- The cells of a reading, and of what it reads. -/
def rC (db tb : Nat) (au gv : Value) (ib kb : Nat) : Array Value := #[.pointer (some ⟨db, 0, none⟩), .pointer (some ⟨tb, 0, none⟩), au, gv, .map (some ib), .map (some kb)]
def dC (dir : ByteArray) (tb : Nat) (tv pv cv gl : Value) : Array Value := #[.string dir, .pointer (some ⟨tb, 0, none⟩), tv, pv, cv, gl]
theorem set_ne {w : World} {b g i : Nat} {o : Obj} (h : w.heap[b]? = some o) (hn : b ≠ g) (v : Value) : (w.setCell ⟨g, i, none⟩ v).heap[b]? = some o := (Below.heap_setCell _ _ _ _ hn).trans h
theorem check_ok (w : World) : Calls Tryz.prog 176 #[.int .i64 0] w fun e w' => e = .returned (.tuple #[]) ∧ w' = w := by
  go_enter Tryz.func176, Tryz.ntmps176
  go_wp2_with fail
  go_end0
  exact ⟨rfl, rfl⟩
section
variable {rb db tb ib kb : Nat} {au gv : Value} {w : World}
set_option maxHeartbeats 2000000 in
theorem words_q (hr : w.heap[rb]? = some (.cells (rC db tb au gv ib kb) RT (0, 0))) (s : Bs) (Y : List Nat) (P : ByteArray → World → Prop) (HE : BegC w (.pointer (some ⟨tb, 0, none⟩)) au gv s Y P) (hY : ∀ i ∈ Y, i < w.heap.size) (hz : ∀ r W, P r W → r.size ≤ 100000000) :
    Calls Tryz.prog 115 #[.pointer (some ⟨rb, 0, none⟩), .string (str s)] w fun e w' => ∃ r W v, e = .returned v ∧ Kept Y w w' ∧ P r W ∧ Kept [w.heap.size + 2] W w' ∧ w'.ownsRow w.heap.size ST 1 v (wordsS r).length (strsC (wordsS r)) := by
  have HT := Lib.hid (Words_z w (.pointer (some ⟨tb, 0, none⟩)) au gv s Y P HE hY hz)
  have c1 : w.cell? ⟨rb, 1, none⟩ = some (.pointer (some ⟨tb, 0, none⟩)) := cell_at hr rfl
  have c2 : w.cell? ⟨rb, 2, none⟩ = some au := cell_at hr rfl
  have c3 : w.cell? ⟨rb, 3, none⟩ = some gv := cell_at hr rfl
  have hlt := (Array.getElem?_eq_some_iff.1 hr).1
  clear HE hY hz
  go_enter Tryz.func115, Tryz.ntmps115
  go_wp2_with fail
  refine HT.out.mono ?_
  rintro e w1 ⟨r, W, v, rfl, hk1, hP, hk2, ho⟩
  have H1 := Lib.hid (And.intro hk1 (And.intro hP (And.intro hk2 ho)))
  clear hk1 hk2 hP HT ho
  go_wp2_with fail
  refine (check_ok w1).mono ?_
  rintro e w2 ⟨rfl, rfl⟩
  go_wp2_with fail
  go_ret
  obtain ⟨hk1, hP, hk2, ho⟩ := H1.out
  exact ⟨r, W, v, rfl, hk1, hP, hk2, ho⟩
theorem words_plain (hr : w.heap[rb]? = some (.cells (rC db tb au gv ib kb) RT (0, 0))) (s : Bs) (h0 : (36 : UInt8) ∉ s) (hs : s.length ≤ 1000) :
    Calls Tryz.prog 115 #[.pointer (some ⟨rb, 0, none⟩), .string (str s)] w fun e w' => ∃ v, e = .returned v ∧ Below w.heap.size w w' ∧ w'.ownsRow w.heap.size ST 1 v (wordsS (str s)).length (strsC (wordsS (str s))) := by
  refine (words_q hr s [] (fun r _ => r = str s) (beg_plain w _ _ _ s h0 hs) (by simp) (fun r _ h => by rw [h]; show s.toArray.size ≤ _; rw [List.size_toArray]; omega)).mono ?_
  rintro e w' ⟨r, W, v, rfl, hk, rfl, _, ho⟩
  exact ⟨v, rfl, hk.to_below (Nat.le_refl _) (by simp), ho⟩
theorem join2_yes (w : World) (b : Nat) (hb : b = w.heap.size) (dir x : ByteArray) (p : List UInt8) (hs : dir.size ≤ 1000000 ∧ x.size ≤ 1000000) (h : Hid (Pt.join [bs dir, bs x] = some p)) :
    Calls Tryz.prog 33 #[.slice (some ⟨b, 0, none⟩) 2 2] (w.alloc (.cells #[.string dir, .string x] ST)) fun e w' => e = .returned (.tuple #[.string (str p), .int .i64 0]) ∧ Below w.heap.size w w' := by
  subst hb
  have hl : w.heap.size < (w.alloc (.cells #[.string dir, .string x] ST)).heap.size := by simp
  have hc : ∀ j, j < [dir, x].length → (w.alloc (.cells #[.string dir, .string x] ST)).cell? ⟨w.heap.size, 0 + j, none⟩ = some (.string ([dir, x][j]?.getD ByteArray.empty)) := fun j hj => by
    rw [World.cell?_alloc_at _ _ _ _ (by simp)]
    match j, hj with
    | 0, _ => rfl
    | 1, _ => rfl
  have hv : Strs (w.alloc (.cells #[.string dir, .string x] ST)) (.slice (some ⟨w.heap.size, 0, none⟩) 2 2) [dir, x] := Or.inr ⟨w.heap.size, 0, 2, rfl, hl, hc⟩
  have ht : tot [dir, x] ≤ 140737488355327 := by show (dir.size + 1 + (x.size + 1 + 0) : Nat) ≤ _; omega
  refine (Join_yes _ _ [dir, x] p hv (by show (2 : Nat) ≤ 1000000; decide) ht h).mono ?_
  rintro e w' ⟨rfl, B⟩
  exact ⟨rfl, ((Below.refl _ w).alloc (Nat.le_refl _) _).trans (B.mono (by simp))⟩
set_option maxHeartbeats 400000 in
theorem file_yes (hr : w.heap[rb]? = some (.cells (rC db tb au gv ib kb) RT (0, 0))) {dir : ByteArray} {tv pv cv gl : Value} (hd : w.heap[db]? = some (.cells (dC dir tb tv pv cv gl) DT (0, 0))) (x : ByteArray) (p : List UInt8) (hs : dir.size ≤ 1000000 ∧ x.size ≤ 1000000) (h : Hid (Pt.join [bs dir, bs x] = some p)) :
    Calls Tryz.prog 232 #[.pointer (some ⟨rb, 0, none⟩), .string x] w fun e w' => e = .returned (.agg #[.string (str p), .string x]) ∧ Below w.heap.size w w' := by
  have c0 : w.cell? ⟨rb, 0, none⟩ = some (.pointer (some ⟨db, 0, none⟩)) := cell_at hr rfl
  have d0 : w.cell? ⟨db, 0, none⟩ = some (.string dir) := cell_at hd rfl
  have hlt := (Array.getElem?_eq_some_iff.1 hr).1
  have hlt2 := (Array.getElem?_eq_some_iff.1 hd).1
  have HJ := Lib.hid fun W b hb => join2_yes W b hb dir x p hs h
  have hz : (Tryz.prog.info? FiT).map (·.size) = some 2 := by kernel_rfl
  have hu : Tryz.prog.underlying FiT = some (.struct (Tryz.prog.fieldsOf FiT)) := by kernel_rfl
  have HB0 := Lib.hid ((Below.refl w.heap.size w).alloc (Nat.le_refl _) (.cells #[.string ⟨#[]⟩, .string ⟨#[]⟩] FiT))
  have H0 := Lib.hid (heap_alloc_last w (.cells #[.string ⟨#[]⟩, .string ⟨#[]⟩] FiT))
  have k0 := (((Below.refl w.heap.size w).alloc (Nat.le_refl _) (.cells #[.string ⟨#[]⟩, .string ⟨#[]⟩] FiT)).cell (p := ⟨rb, 0, none⟩) hlt).trans c0
  have l0 := (((Below.refl w.heap.size w).alloc (Nat.le_refl _) (.cells #[.string ⟨#[]⟩, .string ⟨#[]⟩] FiT)).cell (p := ⟨db, 0, none⟩) hlt2).trans d0
  clear hr hd h hs c0 d0
  go_enter Tryz.func232, Tryz.ntmps232
  go_upto_region 1 with (fail)
  have hs0 : (w.alloc (.cells #[.string ⟨#[]⟩, .string ⟨#[]⟩] FiT)).heap.size = w.heap.size + 1 := by simp
  generalize w.alloc (.cells #[.string ⟨#[]⟩, .string ⟨#[]⟩] FiT) = w0 at *
  have hlt0 : rb < w0.heap.size := by omega
  have hlt3 : db < w0.heap.size := by omega
  go_wp2_with fail
  refine (HJ.out w0 _ hs0.symm).mono ?_
  rintro e w1 ⟨rfl, B1⟩
  clear k0 l0
  have HB := Lib.hid (HB0.out.trans (B1.mono (by omega)))
  have H1 := Lib.hid ((B1.block w.heap.size (by omega)).trans H0.out)
  clear B1
  go_wp2_with fail
  refine (check_ok w1).mono ?_
  rintro e w2 ⟨rfl, rfl⟩
  go_wp2_with (refine wpList_store_row rfl FiT _ _ rfl w.heap.size #[.string (str p), .string x] rfl rfl FiT #[.string ⟨#[]⟩, .string ⟨#[]⟩] H1.out hz rfl (by simp [Value.oneCell']) ?_)
  (try simp only [Exit.inBlock, Exit.then])
  refine bodyPost_ret (results_box Tryz.results232 _ _ w.heap.size FiT #[.string (str p), .string x] (0, 0) _ rfl (setRow_heap _ _ _ _ _ _ H1.out) hu rfl hz) rfl ?_
  exact ⟨rfl, below_setRow HB.out (Nat.le_refl _) _⟩
end
end Go.Proofs.YtpliljcjjffipaaGreatDoor.Dq
