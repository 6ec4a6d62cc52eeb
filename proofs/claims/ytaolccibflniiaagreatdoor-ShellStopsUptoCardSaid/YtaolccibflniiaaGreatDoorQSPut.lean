/-
  (*Store).Get and Read: what they return, and that nothing turns but new blocks.
  (*Store).place and put: the error of checking a place; a file of the next time.
  (*Store).put: a file of the next time.
-/
import Derived.Test.YtaolccibflniiaaGreatDoorQSCells
import Derived.StillTailTactics
import Derived.WalkSpells
import Derived.WalkLawsBesides
namespace Go.Proofs.YtaolccibflniiaaGreatDoor.Sw
open Go.RowKit Go.Proofs.YtaolccibflniiaaGreatDoor Go.Maps
set_option maxRecDepth 100000

def rootF : F := ⟨[46], [], 0, true⟩
/-- What is at a path. -/
def getR (L : List F) (p : List UInt8) : Option F := if p = [46] then some rootF else Sp.get L p
theorem getR_root (L : List F) : getR L [46] = some rootF := rfl
theorem getR_ne {L : List F} {p : List UInt8} (h : p ≠ [46]) : getR L p = Sp.get L p := if_neg h

theorem Get_nil (w : World) (p : ByteArray) :
    Calls Tryz.prog 52 #[.pointer none, .string p] w fun e w' => e = .returned (.tuple #[fV noF, .bool false]) ∧ Below w.heap.size w w' := by
  go_enter Tryz.func52, Tryz.ntmps52
  go_wp2
  exact bodyPost_ret (v := .tuple #[fV noF, .bool false]) (by simp [results, Tryz.results52, go_sem]; rfl) rfl ⟨rfl, ((Below.refl _ w).alloc (Nat.le_refl _) _)⟩

set_option maxHeartbeats 400000 in
theorem Get_yes (w : World) {sb bm : Nat} {L : List F} {c : Int} (p : ByteArray) {f : F} (hS : StoreAt w sb bm L c) (hp : p.size ≤ maxLen) (hf : Hid (getR L (bs p) = some f)) :
    Calls Tryz.prog 52 #[.pointer (some ⟨sb, 0, none⟩), .string p] w fun e w' => e = .returned (.tuple #[fV f, .bool true]) ∧ Below w.heap.size w w' := by
  by_cases h0 : (p.toList == [46]) = true
  · have hr : rootF = f := by have := hf.out; rw [bs_is h0] at this; exact Option.some.inj this
    subst hr
    go_enter Tryz.func52, Tryz.ntmps52
    go_wp2
    exact bodyPost_ret (v := .tuple #[fV rootF, .bool true]) (by simp [results, Tryz.results52, go_sem]; rfl) rfl ⟨rfl, ((Below.refl _ w).alloc (Nat.le_refl _) _)⟩
  · have h0' : (p.toList == [46]) = false := by simpa using h0
    have hg : Hid (Sp.get L (bs p) = some f) := Lib.hid (by have := hf.out; rwa [getR_ne (bs_not h0')] at this)
    have c1 := hS.c1
    have hlt := hS.lt
    have hM := hS.map
    clear h0 hf hS
    go_enter Tryz.func52, Tryz.ntmps52
    go_wp2_with (at_lookup; refine wpList_look_yes _ rfl _ _ rfl rfl rfl (hM.alloc _) hp hg ?_)
    exact bodyPost_ret (v := .tuple #[fV f, .bool true]) (by simp [results, Tryz.results52, go_sem]; rfl) rfl ⟨rfl, (((Below.refl _ w).alloc (Nat.le_refl _) _).alloc (by simp) _)⟩

theorem Get_no (w : World) {sb bm : Nat} {L : List F} {c : Int} (p : ByteArray) (hS : StoreAt w sb bm L c) (hp : p.size ≤ maxLen) (hf : Hid (getR L (bs p) = none)) :
    Calls Tryz.prog 52 #[.pointer (some ⟨sb, 0, none⟩), .string p] w fun e w' => e = .returned (.tuple #[fV noF, .bool false]) ∧ Below w.heap.size w w' := by
  have hne : bs p ≠ [46] := fun e => by have := hf.out; rw [e] at this; cases this
  have h0' : (p.toList == [46]) = false := by rw [Lib.toList_data, beq_eq_false_iff_ne]; exact hne
  have hg : Hid (Sp.get L (bs p) = none) := Lib.hid (by have := hf.out; rwa [getR_ne hne] at this)
  have c1 := hS.c1
  have hlt := hS.lt
  have hM := hS.map
  clear hf hS hne
  go_enter Tryz.func52, Tryz.ntmps52
  go_wp2_with (at_lookup; refine wpList_look_no _ rfl _ _ rfl rfl rfl (hM.alloc _) hp hg ?_)
  exact bodyPost_ret (v := .tuple #[fV noF, .bool false]) (by simp [results, Tryz.results52, go_sem]; rfl) rfl ⟨rfl, (((Below.refl _ w).alloc (Nat.le_refl _) _).alloc (by simp) _)⟩

/-! ### Read -/
def ReadPost (w : World) (t : List UInt8) (code : Int) (e : Ending) (w' : World) : Prop := e = .returned (.tuple #[.string (str t), .int .i64 code]) ∧ Below w.heap.size w w'
/-- What Read answers. -/
def readA (r : Option F) : List UInt8 × Int := match r with
  | none => ([], 3)
  | some f => if f.d then ([], 4) else (f.t, 0)

theorem Read_nil (w : World) (p : ByteArray) :
    Calls Tryz.prog 118 #[.pointer none, .string p] w fun e w' => e = .returned (.tuple #[.string ⟨#[]⟩, .int .i64 3]) ∧ Below w.heap.size w w' := by
  go_enter Tryz.func118, Tryz.ntmps118
  go_wp2_with fail
  refine (Get_nil _ p).mono ?_
  rintro e w1 ⟨rfl, B1⟩
  unfold fV
  go_wp2
  go_ret2
  exact ⟨rfl, B1.alloc B1.size _⟩

theorem Read_any (w : World) {sb bm : Nat} {L : List F} {c : Int} (p : ByteArray) (r : Option F) (hS : StoreAt w sb bm L c) (hp : p.size ≤ maxLen) (hf : Hid (getR L (bs p) = r)) :
    Calls Tryz.prog 118 #[.pointer (some ⟨sb, 0, none⟩), .string p] w (ReadPost w (readA r).1 (readA r).2) := by
  cases r with
  | none =>
    go_enter Tryz.func118, Tryz.ntmps118
    go_wp2_with fail
    refine (Get_no _ p hS hp hf).mono ?_
    rintro e w1 ⟨rfl, B1⟩
    unfold fV
    go_wp2
    go_ret2
    exact ⟨rfl, B1.alloc B1.size _⟩
  | some f =>
    obtain ⟨fp, ft, fc, fd⟩ := f
    cases fd with
    | true =>
      go_enter Tryz.func118, Tryz.ntmps118
      go_wp2_with fail
      refine (Get_yes _ p hS hp hf).mono ?_
      rintro e w1 ⟨rfl, B1⟩
      unfold fV
      go_wp2
      go_ret2
      exact ⟨rfl, B1.alloc B1.size _⟩
    | false =>
      go_enter Tryz.func118, Tryz.ntmps118
      go_wp2_with fail
      refine (Get_yes _ p hS hp hf).mono ?_
      rintro e w1 ⟨rfl, B1⟩
      unfold fV
      go_wp2
      go_ret2
      exact ⟨rfl, B1.alloc B1.size _⟩
end Go.Proofs.YtaolccibflniiaaGreatDoor.Sw
namespace Go.Proofs.YtaolccibflniiaaGreatDoor.Sw
open Go.RowKit Go.Proofs.YtaolccibflniiaaGreatDoor Go.Maps
set_option maxRecDepth 100000

/-- What place answers. -/
def placeA (L : List F) (p : List UInt8) : Int :=
  if isPath p = false then 1 else if p = [46] then 4 else match getR L (dirL p) with
    | none => 3
    | some d => if d.d = false then 4 else if Sp.get L p = none ∧ 4096 ≤ L.length then 12 else 0

theorem dirL_len (s : List UInt8) (h : 1 ≤ s.length) : (dirL s).length ≤ s.length := by
  unfold dirL
  split
  · rw [List.length_take]; omega
  · simpa using h
theorem isPath_ne {s : List UInt8} (h : isPath s = true) : s ≠ [] := by
  intro e; subst e
  unfold isPath at h
  have h := of_decide_eq_true h
  cases h

theorem place_nil (w : World) (p : ByteArray) :
    Calls Tryz.prog 162 #[.pointer none, .string p] w fun e w' => e = .returned (.int .i64 1) ∧ w = w' := by
  go_enter Tryz.func162, Tryz.ntmps162
  go_wp2
  go_ret
  exact ⟨rfl, rfl⟩

def IntPost (w : World) (n : Int) (e : Ending) (w' : World) : Prop := e = .returned (.int .i64 n) ∧ Below w.heap.size w w'

theorem clean_is (w : World) (p : ByteArray) (b : Bool) (hs : p.size ≤ 1000000) (h : Hid (isPath (bs p) = b)) :
    Calls Tryz.prog 46 #[.string p] w fun e w' => e = .returned (.bool b) ∧ Below w.heap.size w w' := by
  have := Clean_any w p (by omega)
  rwa [h.out] at this
theorem dir_is (w : World) (p d : ByteArray) (hs : p.size ≤ 1000000) (h : Hid (dirL (bs p) = bs d)) :
    Calls Tryz.prog 51 #[.string p] w fun e w' => e = .returned (.string d) ∧ w = w' := by
  have := Dir_any w p hs
  rwa [h.out, str_bs] at this

set_option maxHeartbeats 1000000 in
theorem place_any (w : World) {sb bm : Nat} {L : List F} {c : Int} (p : ByteArray) (n : Int) (hS : StoreAt w sb bm L c) (hp : p.size ≤ 1000000) (hn : Hid (placeA L (bs p) = n)) :
    Calls Tryz.prog 162 #[.pointer (some ⟨sb, 0, none⟩), .string p] w (IntPost w n) := by
  cases hc : isPath (bs p) with
  | false =>
    have hC := Lib.hid hc
    have en : n = 1 := by rw [← hn.out, placeA, if_pos hc]
    subst en
    clear hc hn
    go_enter Tryz.func162, Tryz.ntmps162
    go_wp2_with (go_at_call 46; go_must (refine (clean_is _ p false hp hC).mono ?_); rintro e w1 ⟨rfl, B1⟩)
    go_ret
    exact ⟨rfl, B1⟩
  | true =>
    have hC := Lib.hid hc
    by_cases h0 : (p.toList == [46]) = true
    · have en : n = 4 := by rw [← hn.out, placeA, if_neg (by simp [hc]), if_pos (bs_is h0)]
      subst en
      clear hc hn
      go_enter Tryz.func162, Tryz.ntmps162
      go_wp2_with (go_at_call 46; go_must (refine (clean_is _ p true hp hC).mono ?_); rintro e w1 ⟨rfl, B1⟩)
      go_ret
      exact ⟨rfl, B1⟩
    · have h0' : (p.toList == [46]) = false := by simpa using h0
      have e1 : placeA L (bs p) = match getR L (dirL (bs p)) with
        | none => 3
        | some d => if d.d = false then 4 else if Sp.get L (bs p) = none ∧ 4096 ≤ L.length then 12 else 0 := by rw [placeA, if_neg (by simp [hc]), if_neg (bs_not h0')]
      have hl := dirL_len (bs p) (List.length_pos_iff.2 (isPath_ne hc))
      obtain ⟨d, hd⟩ : ∃ d : ByteArray, dirL (bs p) = bs d := ⟨str (dirL (bs p)), rfl⟩
      rw [hd] at e1 hl
      have hds : d.size ≤ 1000000 := by rw [bs_len, bs_len] at hl; omega
      have hdm : d.size ≤ maxLen := by unfold maxLen; omega
      have hpm : p.size ≤ maxLen := by unfold maxLen; omega
      have hD := Lib.hid hd
      rw [hn.out] at e1
      clear hn hc hd hl h0
      cases hg : getR L (bs d) with
      | none =>
        have en : n = 3 := by rw [e1, hg]
        have hG := Lib.hid hg
        subst en
        clear e1 hg
        go_enter Tryz.func162, Tryz.ntmps162
        go_wp2_with (go_at_call 46; go_must (refine (clean_is _ p true hp hC).mono ?_); rintro e w1 ⟨rfl, B1⟩)
        go_wp2_with (go_at_call 51; go_must (refine (dir_is _ p d hp hD).mono ?_); rintro e w2 ⟨rfl, rfl⟩)
        go_wp2_with fail
        refine (Get_no _ d (hS.below B1) hdm hG).mono ?_
        rintro e w2 ⟨rfl, B2⟩
        have B12 := B1.trans (B2.mono B1.size)
        unfold fV
        go_wp2
        go_ret
        exact ⟨rfl, B12.alloc B12.size _⟩
      | some g =>
        have hG := Lib.hid hg
        obtain ⟨gp, gt, gc, gd⟩ := g
        cases gd with
        | false =>
          have en : n = 4 := by rw [e1, hg]; rfl
          subst en
          clear e1 hg
          go_enter Tryz.func162, Tryz.ntmps162
          go_wp2_with (go_at_call 46; go_must (refine (clean_is _ p true hp hC).mono ?_); rintro e w1 ⟨rfl, B1⟩)
          go_wp2_with (go_at_call 51; go_must (refine (dir_is _ p d hp hD).mono ?_); rintro e w2 ⟨rfl, rfl⟩)
          go_wp2_with fail
          refine (Get_yes _ d (hS.below B1) hdm hG).mono ?_
          rintro e w2 ⟨rfl, B2⟩
          have B12 := B1.trans (B2.mono B1.size)
          unfold fV
          go_wp2
          go_ret
          exact ⟨rfl, B12.alloc B12.size _⟩
        | true =>
          cases hq : Sp.get L (bs p) with
          | some q =>
            have hQ := Lib.hid hq
            have en : n = 0 := by rw [e1, hg, hq]; rfl
            subst en
            clear e1 hg hq
            go_enter Tryz.func162, Tryz.ntmps162
            go_wp2_with (go_at_call 46; go_must (refine (clean_is _ p true hp hC).mono ?_); rintro e w1 ⟨rfl, B1⟩)
            go_wp2_with (go_at_call 51; go_must (refine (dir_is _ p d hp hD).mono ?_); rintro e w2 ⟨rfl, rfl⟩)
            go_wp2_with fail
            refine (Get_yes _ d (hS.below B1) hdm hG).mono ?_
            rintro e w2 ⟨rfl, B2⟩
            have B12 := B1.trans (B2.mono B1.size)
            have hS2 := hS.below B12
            have c1 := hS2.c1
            have hlt := hS2.lt
            have hM := hS2.map
            clear hS hS2
            unfold fV
            go_wp2_with (at_lookup; refine wpList_look_yes _ rfl _ _ rfl rfl rfl (hM.alloc _) hpm hQ ?_)
            go_ret
            exact ⟨rfl, (B12.alloc B12.size _).alloc (by have := B12.size; simp; omega) _⟩
          | none =>
            have hQ := Lib.hid hq
            have hn2 : n = if 4096 ≤ L.length then 12 else 0 := by rw [e1, hg, hq]; simp
            clear e1 hg hq
            by_cases h4 : 4096 ≤ L.length
            · rw [if_pos h4] at hn2
              subst hn2
              have i4 : (4096 : Int) ≤ L.length := by omega
              go_enter Tryz.func162, Tryz.ntmps162
              go_wp2_with (go_at_call 46; go_must (refine (clean_is _ p true hp hC).mono ?_); rintro e w1 ⟨rfl, B1⟩)
              go_wp2_with (go_at_call 51; go_must (refine (dir_is _ p d hp hD).mono ?_); rintro e w2 ⟨rfl, rfl⟩)
              go_wp2_with fail
              refine (Get_yes _ d (hS.below B1) hdm hG).mono ?_
              rintro e w2 ⟨rfl, B2⟩
              have B12 := B1.trans (B2.mono B1.size)
              have hS2 := hS.below B12
              have c1 := hS2.c1
              have hlt := hS2.lt
              have hM := hS2.map
              clear hS hS2
              unfold fV
              have hlen := fun (o1 o2 : Obj) ty => ((hM.alloc o1).alloc o2).len ty
              go_wp2_with (at_lookup; refine wpList_look_no _ rfl _ _ rfl rfl rfl (hM.alloc _) hpm hQ ?_)
              go_ret
              exact ⟨rfl, (B12.alloc B12.size _).alloc (by have := B12.size; simp; omega) _⟩
            · rw [if_neg h4] at hn2
              subst hn2
              have i4 : ¬ (4096 : Int) ≤ L.length := by omega
              go_enter Tryz.func162, Tryz.ntmps162
              go_wp2_with (go_at_call 46; go_must (refine (clean_is _ p true hp hC).mono ?_); rintro e w1 ⟨rfl, B1⟩)
              go_wp2_with (go_at_call 51; go_must (refine (dir_is _ p d hp hD).mono ?_); rintro e w2 ⟨rfl, rfl⟩)
              go_wp2_with fail
              refine (Get_yes _ d (hS.below B1) hdm hG).mono ?_
              rintro e w2 ⟨rfl, B2⟩
              have B12 := B1.trans (B2.mono B1.size)
              have hS2 := hS.below B12
              have c1 := hS2.c1
              have hlt := hS2.lt
              have hM := hS2.map
              clear hS hS2
              unfold fV
              have hlen := fun (o1 o2 : Obj) ty => ((hM.alloc o1).alloc o2).len ty
              go_wp2_with (at_lookup; refine wpList_look_no _ rfl _ _ rfl rfl rfl (hM.alloc _) hpm hQ ?_)
              go_ret
              exact ⟨rfl, (B12.alloc B12.size _).alloc (by have := B12.size; simp; omega) _⟩
end Go.Proofs.YtaolccibflniiaaGreatDoor.Sw
namespace Go.Proofs.YtaolccibflniiaaGreatDoor.Sw
open Go.RowKit Go.Proofs.YtaolccibflniiaaGreatDoor Go.Maps
set_option maxRecDepth 100000


set_option maxHeartbeats 1000000 in
theorem put_late (w : World) {sb bm : Nat} {L : List F} {c : Int} (f : F) (hS : StoreAt w sb bm L c) (h0 : 0 ≤ c) (h1 : c ≤ 4611686018427387904) (hc : 4611686018427387904 ≤ c + 1) :
    Calls Tryz.prog 163 #[.pointer (some ⟨sb, 0, none⟩), .agg #[.string (str f.p), .string (str f.t), .int .i64 f.c, .bool f.d]] w (IntPost w 5) := by
  have c0 := hS.c0
  have hlt := hS.lt
  go_enter Tryz.func163, Tryz.ntmps163
  go_wp2_with (go_at_call 40; go_must (refine (Load_any _ sb 0 c (by go_simp)).mono ?_); rintro e w' ⟨rfl, rfl⟩)
  go_ret
  exact ⟨rfl, (Below.refl _ w).alloc (Nat.le_refl _) _⟩

theorem store_after {w : World} {sb bm : Nat} {L : List F} {c : Int} (h : StoreAt w sb bm L c) (y : Int) (o : Obj) :
    ((w.setCell ⟨sb, 0, none⟩ (.int .i64 y)).alloc o).heap[sb]? = some (.cells #[.int .i64 y, .map (some bm)] 68 (0, 0)) ∧ ((w.setCell ⟨sb, 0, none⟩ (.int .i64 y)).alloc o).cell? ⟨sb, 1, none⟩ = some (.map (some bm)) := by
  have hc := h.cells
  have hlt := h.lt
  have e1 : (w.setCell ⟨sb, 0, none⟩ (.int .i64 y)).heap[sb]? = some (.cells #[.int .i64 y, .map (some bm)] 68 (0, 0)) := by
    simp [World.setCell, Array.getElem?_modify, hc]
  have e2 : ((w.setCell ⟨sb, 0, none⟩ (.int .i64 y)).alloc o).heap[sb]? = some (.cells #[.int .i64 y, .map (some bm)] 68 (0, 0)) := by
    rw [Below.heap_alloc _ _ _ (by simpa [World.setCell] using hlt)]; exact e1
  exact ⟨e2, by simp [World.cell?, e2]⟩

theorem file_new (w : World) (p t : List UInt8) (c : Int) (d : Bool) :
    (w.alloc (.cells #[.string (str p), .string (str t), .int .i64 c, .bool d] 44)).cell? ⟨w.heap.size, 0, none⟩ = some (.string (str p)) ∧
    (w.alloc (.cells #[.string (str p), .string (str t), .int .i64 c, .bool d] 44)).cell? ⟨w.heap.size, 1, none⟩ = some (.string (str t)) ∧
    (w.alloc (.cells #[.string (str p), .string (str t), .int .i64 c, .bool d] 44)).cell? ⟨w.heap.size, 2, none⟩ = some (.int .i64 c) ∧
    (w.alloc (.cells #[.string (str p), .string (str t), .int .i64 c, .bool d] 44)).cell? ⟨w.heap.size, 3, none⟩ = some (.bool d) := by
  refine ⟨?_, ?_, ?_, ?_⟩ <;> rw [World.cell?_alloc_at _ _ _ _ rfl] <;> rfl

set_option maxHeartbeats 1000000 in
theorem put_any (w : World) {sb bm : Nat} {L : List F} {c : Int} (f : F) (hS : StoreAt w sb bm L c) (h0 : 0 ≤ c) (hc : c + 1 < 4611686018427387904) (hp : f.p.length ≤ maxLen) (hn : L.length < maxLen) :
    Calls Tryz.prog 163 #[.pointer (some ⟨sb, 0, none⟩), .agg #[.string (str f.p), .string (str f.t), .int .i64 f.c, .bool f.d]] w fun e w' =>
      e = .returned (.int .i64 0) ∧ StoreAt w' sb bm (Sp.ins L ⟨f.p, f.t, c + 1, f.d⟩) (c + 1) ∧ Kept [sb, bm] w w' := by
  have hq := fun (w : World) => run_eql_map_nil (P := Tryz.prog) w 61 9 44 (some bm) Tryz.underlying61
  have c0 := hS.c0
  have c1 := hS.c1
  have f0 := hS.f0
  have hlt := hS.lt
  go_enter Tryz.func163, Tryz.ntmps163
  go_wp2_with (go_at_call 40; go_must (refine (Load_any _ sb 0 c (by go_simp)).mono ?_); rintro e w' ⟨rfl, rfl⟩)
  go_wp2_with (go_at_call 39; go_must (refine (Stor_any _ sb 0 c (c + 1) (by go_simp) (by go_simp)).mono ?_); rintro e w' ⟨rfl, rfl⟩)
  have hM := (hS.map.setCell (p := ⟨sb, 0, none⟩) hS.ne (.int .i64 (c + 1))).alloc (.cells #[.string (str f.p), .string (str f.t), .int .i64 (c + 1), .bool f.d] 44)
  have hK := ((Kept.refl [sb, bm] w).setCell (p := ⟨sb, 0, none⟩) (.inl (by simp)) (.int .i64 (c + 1))).alloc (.cells #[.string (str f.p), .string (str f.t), .int .i64 (c + 1), .bool f.d] 44)
  have hC := store_after hS (c + 1) (.cells #[.string (str f.p), .string (str f.t), .int .i64 (c + 1), .bool f.d] 44)
  have hF := file_new (w.setCell ⟨sb, 0, none⟩ (.int .i64 (c + 1))) f.p f.t (c + 1) f.d
  rw [show (w.setCell ⟨sb, 0, none⟩ (.int .i64 (c + 1))).heap.size = w.heap.size by simp [World.setCell]] at hF
  generalize ((w.setCell ⟨sb, 0, none⟩ (.int .i64 (c + 1))).alloc (.cells #[.string (str f.p), .string (str f.t), .int .i64 (c + 1), .bool f.d] 44)) = W at *
  obtain ⟨d0, d1, d2, d3⟩ := hF
  have d5 := hC.2
  go_still_tail 7, (by kernel_rfl)
  change wpList _ _ _ _ _ W.drew
  have hM2 : MapAt W.drew bm L := hM.block rfl
  have hK2 : Kept [sb, bm] w W.drew := hK.drewN 1
  have hC2 : W.drew.heap[sb]? = some (.cells #[.int .i64 (c + 1), .map (some bm)] 68 (0, 0)) := hC.1
  clear hM hK hC d0 d1 d2 d3 d5
  generalize W.drew = W2 at *
  have hne := hS.ne
  go_wp2_with (at_mapUpdate; refine wpList_put (f := ⟨f.p, f.t, c + 1, f.d⟩) _ rfl _ _ _ rfl rfl rfl rfl hM2 hp hn ?_; intro w3 hM3 ht)
  go_ret
  exact ⟨rfl, ⟨(ht.grown.block sb (Array.getElem?_eq_some_iff.1 hC2).1 (by simpa using fun e => hne e.symm)).trans hC2, hM3⟩, hK2.grown ht.grown (by simp)⟩

/-! ### a store's state, and what the calls make of it -/
structure St where
  L : List F
  c : Int
def maxT : Nat := 1048576

def putA (s : St) (f : F) : St × Int := if 4611686018427387904 ≤ s.c + 1 then (s, 5) else (⟨Sp.ins s.L ⟨f.p, f.t, s.c + 1, f.d⟩, s.c + 1⟩, 0)

/-- What a call leaves: an error's number, a store, other blocks as they were. -/
def OpPost (w : World) (sb bm : Nat) (r : St × Int) (e : Ending) (w' : World) : Prop := e = .returned (.int .i64 r.2) ∧ StoreAt w' sb bm r.1.L r.1.c ∧ Kept [sb, bm] w w'

/-- What holds of every store. -/
structure Fine (s : St) : Prop where
  sorted : Sp.Sorted s.L
  c0 : 0 ≤ s.c
  c1 : s.c < 4611686018427387904
  len : s.L.length ≤ 4096
  text : ∀ f ∈ s.L, f.t.length ≤ 1048576
  path : ∀ f ∈ s.L, f.p.length ≤ 100000

theorem put_bytes (w : World) {sb bm : Nat} {s : St} (p t : ByteArray) (c : Int) (d : Bool) (hS : StoreAt w sb bm s.L s.c) (hF : Fine s) (hp : p.size ≤ maxLen) :
    Calls Tryz.prog 163 #[.pointer (some ⟨sb, 0, none⟩), .agg #[.string p, .string t, .int .i64 c, .bool d]] w (OpPost w sb bm (putA s ⟨bs p, bs t, c, d⟩)) := by
  have h0 := hF.c0
  have h1 := hF.c1
  have h2 := hF.len
  by_cases h : 4611686018427387904 ≤ s.c + 1
  · refine (put_late w ⟨bs p, bs t, c, d⟩ hS h0 (by omega) h).mono ?_
    rintro e w' ⟨rfl, hB⟩
    unfold putA
    rw [if_pos h]
    exact ⟨rfl, hS.below hB, .of_below hB⟩
  · refine (put_any w ⟨bs p, bs t, c, d⟩ hS h0 (by omega) (by show (bs p).length ≤ _; rw [bs_len]; exact hp) (by unfold maxLen; omega)).mono ?_
    rintro e w' ⟨rfl, hS', hK⟩
    unfold putA
    rw [if_neg h]
    exact ⟨rfl, hS', hK⟩

theorem Fine.put {s : St} (h : Fine s) {f : F} (ht : f.t.length ≤ 1048576) (hp : f.p.length ≤ 100000) (hl : (Sp.get s.L f.p).isSome ∨ s.L.length < 4096) : Fine (putA s f).1 := by
  unfold putA
  split
  · exact h
  · rename_i hc
    have h0 := h.c0
    refine ⟨Sp.sorted_ins h.sorted, by show 0 ≤ s.c + 1; omega, by show s.c + 1 < _; omega, ?_, fun g hg => ?_, fun g hg => ?_⟩
    · show (Sp.ins s.L _).length ≤ 4096
      have hlen := h.len
      cases hq : Sp.get s.L f.p with
      | some g => rw [Sp.len_ins_yes (f := ⟨f.p, f.t, s.c + 1, f.d⟩) h.sorted hq]; exact hlen
      | none =>
        rw [Sp.len_ins_no (f := ⟨f.p, f.t, s.c + 1, f.d⟩) h.sorted hq]
        rcases hl with hl | hl
        · rw [hq] at hl; cases hl
        · omega
    · rcases (Sp.mem_ins h.sorted g).1 hg with rfl | ⟨hg, _⟩
      · exact ht
      · exact h.text g hg
    · rcases (Sp.mem_ins h.sorted g).1 hg with rfl | ⟨hg, _⟩
      · exact hp
      · exact h.path g hg
end Go.Proofs.YtaolccibflniiaaGreatDoor.Sw
