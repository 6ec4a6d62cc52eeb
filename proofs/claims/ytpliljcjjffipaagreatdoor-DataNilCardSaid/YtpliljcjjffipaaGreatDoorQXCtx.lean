/-
  strings.Builder, wherever it lies: copyCheck, Len, WriteString, String.
  expand.fail, (*result).add, (*list).put.
  What an expansion stands on: its box, its table, its maps; what a call may turn of it.
-/
import Derived.Lib.Builder
import Derived.Lib.UnsafeStr
import Derived.Laws.Externs
import Derived.Lib.Strings
import Derived.Lib.AppendStr
import Derived.Test.YtpliljcjjffipaaGreatDoorQJTab
import Derived.Test.YtpliljcjjffipaaGreatDoorQKOrder
import Derived.Test.YtpliljcjjffipaaGreatDoorQJPGet
namespace Go.Proofs.YtpliljcjjffipaaGreatDoor.Xb
open Go.RowKit Go.Proofs.YtpliljcjjffipaaGreatDoor Go.Maps Go.Proofs.YtpliljcjjffipaaGreatDoor.Ww Go.Proofs.YtpliljcjjffipaaGreatDoor.Tw Go.Proofs.YtpliljcjjffipaaGreatDoor.Kw Go.Proofs.YtpliljcjjffipaaGreatDoor.Jw
set_option maxRecDepth 100000

theorem infoU : (Tryz.prog.info? U8).map (fun i => (i.zero, i.size, i.bytes)) = some (some (.int .u8 0), 1, 1) := by kernel_rfl
theorem sizeB : (Tryz.prog.info? BT).map (·.size) = some 2 := by kernel_rfl
theorem liesB : liesAt Tryz.prog Tryz.prog.depth BT (2 / Tryz.prog.cellsOf BT) 0 BT 1 = true := by kernel_rfl

theorem copy_used (b k : Nat) (w : World) (h0 : w.cell? ⟨b, k, none⟩ = some (.pointer (some ⟨b, k, none⟩))) :
    Calls Tryz.prog 205 #[.pointer (some ⟨b, k, none⟩)] w fun e w' => e = .returned (.tuple #[]) ∧ w' = w := by
  obtain ⟨j, hj, _⟩ := Option.map_eq_some_iff.1 sizeB
  go_enter Tryz.func205, Tryz.ntmps205
  go_wp2
  rw [Lib.run_neq_ptr_same w _ Tryz.underlying128 hj]
  go_wp2
  go_end0
  exact ⟨rfl, rfl⟩

theorem copy_fresh (T : TypeId) (b k n : Nat) (w : World) (hk : k < n) (h0 : w.cell? ⟨b, k, none⟩ = some (.pointer none)) (hsh : w.shape? b = some (T, n)) (hl : liesAt Tryz.prog Tryz.prog.depth T (n / Tryz.prog.cellsOf T) k BT 1 = true) (hfz : w.frozen? ⟨b, k, none⟩ = false) :
    Calls Tryz.prog 205 #[.pointer (some ⟨b, k, none⟩)] w fun e w' => e = .returned (.tuple #[]) ∧ w' = w.setCell ⟨b, k, none⟩ (.pointer (some ⟨b, k, none⟩)) := by
  obtain ⟨j, hj, hjs⟩ := Option.map_eq_some_iff.1 sizeB
  go_enter Tryz.func205, Tryz.ntmps205
  go_wp2
  rw [Lib.run_to_unsafe w ⟨b, k, none⟩ Tryz.underlying128 Tryz.underlying340 hj (by rw [hjs]; decide) hsh hk]
  simp only [Result.andThen]
  rw [Oper.upon_value]
  go_wp2
  rw [run_callFunc_extern Tryz.func257 (by kernel_rfl) (by kernel_rfl) (by kernel_rfl) (e := Extern.AbiNoEscape.same) (by kernel_rfl)]
  rw [Lib.run_noEscape]
  simp only [Result.andThen]
  rw [Oper.upon_value]
  go_wp2
  rw [Lib.run_from_unsafe w ⟨b, k, none⟩ Tryz.underlying340 Tryz.underlying128 hj hsh hl]
  simp only [Result.andThen]
  rw [Oper.upon_value]
  go_wp2
  go_end0
  exact ⟨rfl, rfl⟩

/-- A builder at cells k, k + 1 of block b, a row of type T; its text is l. -/
structure BAt (w : World) (T : TypeId) (b k B : Nat) (l : Bs) (pv bv : Value) (cs : Array Value) : Prop where
  cells : w.heap[b]? = some (.cells cs T (0, 0))
  ptr : cs[k]? = some pv
  buf : cs[k + 1]? = some bv
  used : pv = .pointer none ∨ pv = .pointer (some ⟨b, k, none⟩)
  own : w.ownsRow B U8 1 bv l.length (Lib.byteCells l)
  lies : liesAt Tryz.prog Tryz.prog.depth T (cs.size / Tryz.prog.cellsOf T) k BT 1 = true
  ne : T ≠ U8
theorem BAt.not_own {w : World} {T : TypeId} {b k B : Nat} {l : Bs} {pv bv : Value} {cs : Array Value} (h : BAt w T b k B l pv bv cs) : bv.ownBlock ≠ some b := Lib.ownBlock_ne h.own h.cells h.ne
theorem BAt.lt {w : World} {T : TypeId} {b k B : Nat} {l : Bs} {pv bv : Value} {cs : Array Value} (h : BAt w T b k B l pv bv cs) : b < w.heap.size := (Array.getElem?_eq_some_iff.1 h.cells).1

theorem Len_any (w : World) {T : TypeId} {b k B : Nat} {l : Bs} {pv bv : Value} {cs : Array Value} (h : BAt w T b k B l pv bv cs) :
    Calls Tryz.prog 193 #[.pointer (some ⟨b, k, none⟩)] w fun e w' => e = .returned (.int .i64 l.length) ∧ w = w' := by
  obtain ⟨a, c, rfl⟩ := owns_slice h.own
  have c1 : w.cell? ⟨b, k + 1, none⟩ = some (.slice a l.length c) := cell_at h.cells h.buf
  go_enter Tryz.func193, Tryz.ntmps193
  go_wp2
  go_ret
  exact ⟨rfl, rfl⟩

theorem copy_any (w : World) {T : TypeId} {b k B : Nat} {l : Bs} {pv bv : Value} {cs : Array Value} (h : BAt w T b k B l pv bv cs) :
    Calls Tryz.prog 205 #[.pointer (some ⟨b, k, none⟩)] w fun e w' => e = .returned (.tuple #[]) ∧ BAt w' T b k B l (.pointer (some ⟨b, k, none⟩)) bv (cs.setIfInBounds k (.pointer (some ⟨b, k, none⟩))) ∧ Kept [b] w w' := by
  have hk : k < cs.size := by
    have := (Array.getElem?_eq_some_iff.1 h.ptr).1
    exact this
  rcases h.used with rfl | rfl
  · refine (copy_fresh T b k cs.size w hk (cell_at h.cells h.ptr) (by simp [World.shape?, h.cells]) h.lies (frozen_at h.cells k)).mono ?_
    rintro e w' ⟨rfl, rfl⟩
    refine ⟨rfl, ⟨heap_set h.cells _, by simp [hk], by rw [Array.getElem?_setIfInBounds_ne (by omega)]; exact h.buf, .inr rfl, ?_, by simpa using h.lies, h.ne⟩, (Kept.refl _ _).setCell (.inl (by simp)) _⟩
    exact h.own.kept (row := some b) ⟨rfl, rfl, rfl, by simp [World.setCell], fun j _ hj => Below.heap_setCell _ _ _ _ (fun e => hj (by simp [e]))⟩ (Or.inr h.not_own)
  · refine (copy_used b k w (cell_at h.cells h.ptr)).mono ?_
    rintro e w' ⟨rfl, rfl⟩
    have he : cs.setIfInBounds k (.pointer (some ⟨b, k, none⟩)) = cs := by
      have := h.ptr
      apply Array.ext (by simp)
      intro i h1 h2
      rw [Array.getElem_setIfInBounds]
      split
      · rename_i e; subst e
        rw [Array.getElem?_eq_getElem hk] at this
        exact (Option.some.inj this).symm
      · rfl
    exact ⟨rfl, ⟨by rw [he]; exact h.cells, by simp [hk], by rw [Array.getElem?_setIfInBounds_ne (by omega)]; exact h.buf, .inr rfl, h.own, by simpa using h.lies, h.ne⟩, Kept.refl _ _⟩

theorem strCells_by (s : ByteArray) : Lib.strCells s = Lib.byteCells (by8 s) := rfl
set_option maxHeartbeats 1000000 in
theorem WriteString_any (w : World) {T : TypeId} {b k B : Nat} {l : Bs} {pv bv : Value} {cs : Array Value} (h : BAt w T b k B l pv bv cs) (s : ByteArray) (hl : l.length + s.size ≤ 1000000000000) (hBw : B ≤ w.heap.size) :
    Calls Tryz.prog 150 #[.pointer (some ⟨b, k, none⟩), .string s] w fun e w' => e = .returned (.tuple #[.int .i64 s.size, .nilIface]) ∧
      ∃ bv', BAt w' T b k B (l ++ by8 s) (.pointer (some ⟨b, k, none⟩)) bv' ((cs.setIfInBounds k (.pointer (some ⟨b, k, none⟩))).setIfInBounds (k + 1) bv') ∧ Kept (b :: bv.ownBlock.toList) w w' := by
  obtain ⟨i0, hi, hz0, hz1, hz2⟩ := info_parts infoU
  have HC := Lib.hid (copy_any w h)
  have hk : k + 1 < cs.size := by
    have := (Array.getElem?_eq_some_iff.1 h.buf).1
    exact this
  clear h
  go_enter Tryz.func150, Tryz.ntmps150
  go_wp2_with (go_at_call 205; refine HC.out.mono ?_)
  rintro e w1 ⟨rfl, h1, hK1⟩
  have hno := h1.not_own
  have c0 : w1.cell? ⟨b, k, none⟩ = some (.pointer (some ⟨b, k, none⟩)) := cell_at h1.cells h1.ptr
  have c1 : w1.cell? ⟨b, k + 1, none⟩ = some bv := cell_at h1.cells h1.buf
  have hlt1 := h1.lt
  go_wp2_with (at_builtin; refine Lib.wpList_append_own_string _ rfl _ _ 137 9 rfl B U8 i0 Tryz.underlying137 Tryz.underlying9 hi hz0 hz1 hz2 _ _ _ rfl h1.own s rfl ?c3 ?c4 ?c5 ?_)
  case c3 => unfold maxLen; omega
  case c4 => omega
  case c5 => exact Nat.le_trans hBw hK1.size
  intro v' w2 hown' hgrow _
  have hb2 : w2.heap[b]? = some (.cells (cs.setIfInBounds k (.pointer (some ⟨b, k, none⟩))) T (0, 0)) := (hgrow.block b hlt1 (fun e => hno e.symm)).trans h1.cells
  have f1 : w2.frozen? ⟨b, k + 1, none⟩ = false := frozen_at hb2 _
  have d1 : w2.cell? ⟨b, k + 1, none⟩ = some bv := cell_at hb2 h1.buf
  have hlt2 : b < w2.heap.size := Nat.lt_of_lt_of_le hlt1 hgrow.size
  obtain ⟨ao, n', rfl⟩ := owns_slice hown'
  go_wp2
  go_ret2
  rw [strCells_by] at hown'
  have hlen : (l ++ by8 s).length = l.length + s.size := by rw [List.length_append, by8_len]
  have hcells : Lib.byteCells (l ++ by8 s) = Lib.byteCells l ++ Lib.byteCells (by8 s) := by simp [Lib.byteCells]
  have hne' : (Value.slice ao (l.length + s.size) n').ownBlock ≠ some b := Lib.ownBlock_ne hown' hb2 h1.ne
  refine ⟨rfl, _, ⟨heap_set hb2 _, ?_, by simp [hk], .inr rfl, ?_, by simpa using h1.lies, h1.ne⟩, ?_⟩
  · rw [Array.getElem?_setIfInBounds_ne (by omega)]; exact h1.ptr
  · rw [hlen, hcells]
    exact hown'.kept (row := some b) ⟨rfl, rfl, rfl, by simp [World.setCell], fun j _ hj => Below.heap_setCell _ _ _ _ (fun e => hj (by simp [e]))⟩ (Or.inr hne')
  · refine ((hK1.mono (Y := b :: bv.ownBlock.toList) (fun i hi => by simp at hi; simp [hi])).grown hgrow (fun r hr => .inl (by simp [hr]))).setCell (.inl (by simp)) _

abbrev pU8 : TypeId := 290
theorem cellsU : Tryz.prog.cellsOf U8 = 1 := by kernel_rfl
theorem kept_freeze {X : List Nat} {a w : World} (h : Kept X a w) {p : Addr} (hp : p.block ∈ X) (n : Nat) : Kept X a (w.freeze p n) := by
  refine h.trans ?_
  unfold World.freeze
  split
  · exact Kept.refl X w
  · exact ⟨rfl, rfl, rfl, by simp, fun k hk hx => by
      simp only [Array.getElem?_modify]
      rw [if_neg (fun e => by subst e; exact hx hp)]⟩

set_option maxHeartbeats 1000000 in
theorem String_some (w : World) {b k B : Nat} (l : Bs) (g cap : Nat) (cur : Array Value) (h0 : l ≠ []) (c0 : w.cell? ⟨b, k + 1, none⟩ = some (.slice (some ⟨g, 0, none⟩) l.length cap)) (hg : w.heap[g]? = some (.cells cur U8 (0, 0)))
    (hown : w.ownsRow B U8 1 (.slice (some ⟨g, 0, none⟩) l.length cap) l.length (Lib.byteCells l)) (hn : l.length ≤ cap) (hc : cap ≤ maxLen) (hs : cur.size = cap * 1) :
    Calls Tryz.prog 140 #[.pointer (some ⟨b, k, none⟩)] w fun e w' => e = .returned (.string (str l)) ∧ Kept [g] w w' := by
  have hl0 : l.length ≠ 0 := by simpa using h0
  have c1 : w.drew.cell? ⟨b, k + 1, none⟩ = some (.slice (some ⟨g, 0, none⟩) l.length cap) := c0
  have hSD : (Builtin.unsafeSliceData_ #[137] pU8 #[.slice (some ⟨g, 0, none⟩) l.length cap]).run Tryz.prog w.drew = .ok (.pointer (some ⟨g, 0, none⟩)) w.drew :=
    Lib.run_unsafeSliceData_row _ _ _ _ _ _ (by omega)
  have hUS : (Builtin.unsafeString_ #[pU8, 3] 9 #[.pointer (some ⟨g, 0, none⟩), .int .i64 l.length]).run Tryz.prog w.drew = .ok (.string (str l)) (w.drew.freeze ⟨g, 0, none⟩ l.length) := by
    refine Lib.run_unsafeString_row w.drew pU8 3 9 U8 Tryz.underlying290 cellsU g cur.size (by have hg' : w.drew.heap[g]? = some (.cells cur U8 (0, 0)) := hg; simp [World.shape?, hg']) l h0 (by omega) (by unfold maxLen at hc; omega) ?_
    intro j x hx
    exact hown.cells (g := g) rfl j (.int .u8 x.toNat) (by simp [Lib.byteCells, hx])
  clear hown
  go_enter Tryz.func140, Tryz.ntmps140
  go_wp2
  go_region
  all_goals (go_wp2; go_ret; exact ⟨rfl, kept_freeze ((Kept.refl _ w).drewN 1) (p := ⟨g, 0, none⟩) (by simp) _⟩)

theorem String_nil (w : World) {b k : Nat} (c0 : w.cell? ⟨b, k + 1, none⟩ = some (.slice none 0 0)) :
    Calls Tryz.prog 140 #[.pointer (some ⟨b, k, none⟩)] w fun e w' => e = .returned (.string ⟨#[]⟩) ∧ Kept [] w w' := by
  have c1 : w.drew.cell? ⟨b, k + 1, none⟩ = some (.slice none 0 0) := c0
  have hUS : ∀ (W : World) (q : Option Addr), (Builtin.unsafeString_ #[pU8, 3] 9 #[.pointer q, .int .i64 0]).run Tryz.prog W = .ok (.string .empty) W := fun W q => Lib.run_unsafeString_none W _ _ _ q
  have hSD : (Builtin.unsafeSliceData_ #[137] pU8 #[.slice none 0 0]).run Tryz.prog w.drew = .ok (.pointer none) w.drew := rfl
  go_enter Tryz.func140, Tryz.ntmps140
  go_wp2
  go_region
  all_goals (go_wp2; go_ret; exact ⟨rfl, (Kept.refl _ w).drewN 1⟩)
theorem String_room (w : World) {b k : Nat} (g cap : Nat) (hc0 : cap ≠ 0) (c0 : w.cell? ⟨b, k + 1, none⟩ = some (.slice (some ⟨g, 0, none⟩) 0 cap)) :
    Calls Tryz.prog 140 #[.pointer (some ⟨b, k, none⟩)] w fun e w' => e = .returned (.string ⟨#[]⟩) ∧ Kept [] w w' := by
  have c1 : w.drew.cell? ⟨b, k + 1, none⟩ = some (.slice (some ⟨g, 0, none⟩) 0 cap) := c0
  have hUS : ∀ (W : World) (q : Option Addr), (Builtin.unsafeString_ #[pU8, 3] 9 #[.pointer q, .int .i64 0]).run Tryz.prog W = .ok (.string .empty) W := fun W q => Lib.run_unsafeString_none W _ _ _ q
  have hSD : (Builtin.unsafeSliceData_ #[137] pU8 #[.slice (some ⟨g, 0, none⟩) 0 cap]).run Tryz.prog w.drew = .ok (.pointer (some ⟨g, 0, none⟩)) w.drew := Lib.run_unsafeSliceData_row _ _ _ _ _ _ hc0
  clear hc0
  go_enter Tryz.func140, Tryz.ntmps140
  go_wp2
  go_region
  all_goals (go_wp2; go_ret; exact ⟨rfl, (Kept.refl _ w).drewN 1⟩)
theorem String_noroom (w : World) {b k : Nat} (g : Nat) (cur : Array Value) (hb : b < w.heap.size) (hg : w.heap[g]? = some (.cells cur U8 (0, 0))) (c0 : w.cell? ⟨b, k + 1, none⟩ = some (.slice (some ⟨g, 0, none⟩) 0 0)) :
    Calls Tryz.prog 140 #[.pointer (some ⟨b, k, none⟩)] w fun e w' => e = .returned (.string ⟨#[]⟩) ∧ Kept [] w w' := by
  have c1 : w.drew.cell? ⟨b, k + 1, none⟩ = some (.slice (some ⟨g, 0, none⟩) 0 0) := c0
  have hUS : ∀ (W : World) (q : Option Addr), (Builtin.unsafeString_ #[pU8, 3] 9 #[.pointer q, .int .i64 0]).run Tryz.prog W = .ok (.string .empty) W := fun W q => Lib.run_unsafeString_none W _ _ _ q
  have hSD : (Builtin.unsafeSliceData_ #[137] pU8 #[.slice (some ⟨g, 0, none⟩) 0 0]).run Tryz.prog w.drew = .ok (.pointer (some ⟨w.drew.heap.size, 0, none⟩)) (w.drew.alloc (.view ⟨g, 0, none⟩ U8)) :=
    Lib.run_unsafeSliceData_zero w.drew _ _ U8 Tryz.underlying290 ⟨g, 0, none⟩ 0 (U8, cur.size) (by have hg' : w.drew.heap[g]? = some (.cells cur U8 (0, 0)) := hg; simp [World.shape?, hg'])
  have c2 : (w.drew.alloc (.view ⟨g, 0, none⟩ U8)).cell? ⟨b, k + 1, none⟩ = some (.slice (some ⟨g, 0, none⟩) 0 0) := (((Below.refl _ w).alloc (Nat.le_refl _) (.view ⟨g, 0, none⟩ U8)).cell (p := ⟨b, k + 1, none⟩) hb).trans c0
  have c3 : (w.alloc (.view ⟨g, 0, none⟩ U8)).drew.cell? ⟨b, k + 1, none⟩ = some (.slice (some ⟨g, 0, none⟩) 0 0) := c2
  go_enter Tryz.func140, Tryz.ntmps140
  go_wp2
  go_region
  all_goals (go_wp2; go_ret; exact ⟨rfl, ((Kept.refl _ w).drewN 1).alloc _⟩)

theorem String_any (w : World) {T : TypeId} {b k B : Nat} {l : Bs} {pv bv : Value} {cs : Array Value} (h : BAt w T b k B l pv bv cs) :
    Calls Tryz.prog 140 #[.pointer (some ⟨b, k, none⟩)] w fun e w' => e = .returned (.string (str l)) ∧ Kept bv.ownBlock.toList w w' := by
  have c1 : w.cell? ⟨b, k + 1, none⟩ = some bv := cell_at h.cells h.buf
  have hown := h.own
  by_cases h0 : l = []
  · subst h0
    rcases hown.2 with ⟨rfl, _⟩ | ⟨g, cap, cur, rfl, hbg, hg, _, _, _, _⟩
    · exact String_nil w c1
    · by_cases hc0 : cap = 0
      · subst hc0
        refine (String_noroom w g cur h.lt hg c1).mono ?_
        rintro e w' ⟨rfl, hK⟩
        exact ⟨rfl, hK.mono (by simp)⟩
      · refine (String_room w g cap hc0 c1).mono ?_
        rintro e w' ⟨rfl, hK⟩
        exact ⟨rfl, hK.mono (by simp)⟩
  · rcases hown.2 with ⟨_, hz⟩ | ⟨g, cap, cur, rfl, hbg, hg, hn, hc, hs, _⟩
    · exact absurd (List.eq_nil_of_length_eq_zero hz) h0
    · exact String_some w l g cap cur h0 c1 hg hown hn hc hs
/-- What other calls turn is not the builder's. -/
theorem BAt.kept {w w' : World} {T : TypeId} {b k B : Nat} {l : Bs} {pv bv : Value} {cs : Array Value} {Y : List Nat} (h : BAt w T b k B l pv bv cs) (hk : Kept Y w w') (hb : b ∉ Y) (hv : ∀ i ∈ Y, i < B) : BAt w' T b k B l pv bv cs :=
  ⟨(hk.block b h.lt hb).trans h.cells, h.ptr, h.buf, h.used, ⟨h.own.1, by
    rcases h.own.2 with h1 | ⟨g, cap, cur, e, h2, h3, h4⟩
    · exact .inl h1
    · exact .inr ⟨g, cap, cur, e, h2, (hk.block g (Array.getElem?_eq_some_iff.1 h3).1 (fun hi => absurd (hv g hi) (by omega))).trans h3, h4⟩⟩, h.lies, h.ne⟩
theorem BAt.below {w w' : World} {T : TypeId} {b k B : Nat} {l : Bs} {pv bv : Value} {cs : Array Value} (h : BAt w T b k B l pv bv cs) (hB : Below w.heap.size w w') : BAt w' T b k B l pv bv cs :=
  h.kept (Kept.of_below (X := []) hB) (by simp) (by simp)
theorem BAt.fresh {w : World} {T : TypeId} {b k B : Nat} {l : Bs} {pv bv : Value} {cs : Array Value} (h : BAt w T b k B l pv bv cs) : ∀ i ∈ bv.ownBlock.toList, B ≤ i := by
  intro i hi
  exact (h.own.lt i (by simpa using hi)).1
end Go.Proofs.YtpliljcjjffipaaGreatDoor.Xb
namespace Go.Proofs.YtpliljcjjffipaaGreatDoor.Xw
open Go.RowKit Go.Proofs.YtpliljcjjffipaaGreatDoor Go.Proofs.YtpliljcjjffipaaGreatDoor.Ww Go.Proofs.YtpliljcjjffipaaGreatDoor.Tw Go.Proofs.YtpliljcjjffipaaGreatDoor.Kw Go.Proofs.YtpliljcjjffipaaGreatDoor.Jw Go.Proofs.YtpliljcjjffipaaGreatDoor.Xb
set_option maxRecDepth 100000

abbrev FT : TypeId := 179
/-- An expansion that fails. -/
def failE (c : Int) : Ending := .panicked [{ v := .iface FT (.int .i64 c), recovered := false }]
/-- A builder's cells, once it was written into. -/
def bCs (cs : Array Value) (b k : Nat) (bv : Value) : Array Value := (cs.setIfInBounds k (.pointer (some ⟨b, k, none⟩))).setIfInBounds (k + 1) bv
theorem add_any (w : World) {T : TypeId} {b k B : Nat} {l : Bs} {pv bv : Value} {cs : Array Value} (h : BAt w T b k B l pv bv cs) (s : ByteArray) (hl : l.length + s.size ≤ 1048576) (hBw : B ≤ w.heap.size) :
    Calls Tryz.prog 138 #[.pointer (some ⟨b, k, none⟩), .string s] w fun e w' => e = .returned (.tuple #[]) ∧
      ∃ bv', BAt w' T b k B (l ++ by8 s) (.pointer (some ⟨b, k, none⟩)) bv' (bCs cs b k bv') ∧ Kept (b :: bv.ownBlock.toList) w w' := by
  have hlt := h.lt
  have HL := Lib.hid (Len_any w h)
  have HW := Lib.hid (WriteString_any w h s (by omega) hBw)
  have hle : ¬ (1048576 : Int) < (l.length : Int) + (s.size : Int) := by omega
  clear h
  go_enter Tryz.func138, Tryz.ntmps138
  go_wp2_with fail
  refine HL.out.mono ?_
  rintro e w1 ⟨rfl, rfl⟩
  go_wp2_with fail
  refine HW.out.mono ?_
  rintro e w1 ⟨rfl, bv', h1, hK⟩
  have H1 := Lib.hid h1
  clear h1
  go_wp2_with fail
  go_end0
  exact ⟨rfl, bv', H1.out, hK⟩
end Go.Proofs.YtpliljcjjffipaaGreatDoor.Xw
namespace Go.Proofs.YtpliljcjjffipaaGreatDoor.Xw
open Go.RowKit Go.Proofs.YtpliljcjjffipaaGreatDoor Go.Proofs.YtpliljcjjffipaaGreatDoor.Ww Go.Proofs.YtpliljcjjffipaaGreatDoor.Tw Go.Proofs.YtpliljcjjffipaaGreatDoor.Kw Go.Proofs.YtpliljcjjffipaaGreatDoor.Jw Go.Proofs.YtpliljcjjffipaaGreatDoor.Xb
set_option maxRecDepth 100000

abbrev XT : TypeId := 186
/-- Maps of texts. -/
def txV (x : Bs) : Value := .string (str x)
def txD (x : Bs) : DataW Unit := .lit (.string x)
def txElem : Value → Option (DataW Unit × List MemPlace)
  | .string x => some (txD (by8 x), [])
  | _ => none
theorem txElem_inv (v : Value) (z : DataW Unit × List MemPlace) (h : txElem v = some z) : ∃ n, v = txV n ∧ z = (txD n, []) := by
  unfold txElem at h
  split at h
  · cases h; exact ⟨_, rfl, rfl⟩
  · cases h
def AK : Kind Bs := ⟨57, 9, txV, txD, txElem, [], fun _ => rfl, txElem_inv, fun a b h => by unfold txD at h; simpa using h, Tryz.underlying57, fun w => by kernel_rfl⟩
/-- Maps of what a foreach has put. -/
def bdV (x : Bs × Bool) : Value := .agg #[.string (str x.1), .bool x.2]
def bdD (x : Bs × Bool) : DataW Unit := .agg [.lit (.string x.1), .lit (.bool x.2)]
def bdElem : Value → Option (DataW Unit × List MemPlace)
  | .agg cs => match cs.toList with
    | [.string x, .bool b] => some (bdD (by8 x, b), [])
    | _ => none
  | _ => none
theorem bdElem_inv (v : Value) (z : DataW Unit × List MemPlace) (h : bdElem v = some z) : ∃ n, v = bdV n ∧ z = (bdD n, []) := by
  unfold bdElem at h
  split at h
  · rename_i cs
    split at h
    · rename_i x b e
      cases h
      refine ⟨(by8 x, b), ?_, rfl⟩
      unfold bdV
      congr 1
      exact Array.toList_inj.1 e
    · cases h
  · cases h
def LK : Kind (Bs × Bool) := ⟨184, 283, bdV, bdD, bdElem, ([], false), fun _ => rfl, bdElem_inv, fun a b h => by
  obtain ⟨a1, a2⟩ := a
  obtain ⟨b1, b2⟩ := b
  unfold bdD at h
  simpa using h, Tryz.underlying184, fun w => by kernel_rfl⟩
/-- Sets of names. -/
def usV (_ : Unit) : Value := .agg #[]
def usD (_ : Unit) : DataW Unit := .agg []
def usElem : Value → Option (DataW Unit × List MemPlace)
  | .agg cs => match cs.toList with
    | [] => some (usD (), [])
    | _ => none
  | _ => none
theorem usElem_inv (v : Value) (z : DataW Unit × List MemPlace) (h : usElem v = some z) : ∃ n, v = usV n ∧ z = (usD n, []) := by
  unfold usElem at h
  split at h
  · rename_i cs
    split at h
    · rename_i e
      cases h
      refine ⟨(), ?_, rfl⟩
      unfold usV
      congr 1
      exact Array.toList_inj.1 e
    · cases h
  · cases h
def UK : Kind Unit := ⟨113, 141, usV, usD, usElem, (), fun _ => rfl, usElem_inv, fun _ _ _ => rfl, Tryz.underlying113, fun w => by kernel_rfl⟩

/-- An entry that goes. -/
def outA (L : List (Bs × Unit)) (p : Bs) : List (Bs × Unit) := L.filter fun f => !(f.1 == p)
section
variable (xb tb ab lb yb : Nat) (gv kv : Value) (X : List Nat) (L : List Jp.V)
/-- The cells of an expansion. -/
def xC (d : Int) : Array Value := #[.pointer (some ⟨tb, 0, none⟩), .map (some ab), gv, kv, .map (some lb), .map (some yb), .int .i64 d]
/-- An expansion in memory: so deep, these names busy. -/
structure Cx (w : World) (d : Int) (B : List (Bs × Unit)) : Prop where
  box : w.heap[xb]? = some (.cells (xC tb ab lb yb gv kv d) XT (0, 0))
  tab : Tab w tb X L [] false
  auto : Kw.MapAt AK w ab []
  loops : Kw.MapAt LK w lb []
  busy : Kw.MapAt UK w yb B
  na : ab ≠ yb
  nl : lb ≠ yb
  nx : xb ∉ X
  ny : yb ∉ X
end
section
variable {xb tb ab lb yb : Nat} {gv kv : Value} {X : List Nat} {L : List Jp.V} {w w' : World} {d : Int} {B : List (Bs × Unit)}
theorem Cx.lt (h : Cx xb tb ab lb yb gv kv X L w d B) : xb < w.heap.size := (Array.getElem?_eq_some_iff.1 h.box).1
theorem Cx.nya (h : Cx xb tb ab lb yb gv kv X L w d B) : yb ≠ xb := Kw.MapAt.not_cells h.busy h.box
theorem Cx.naa (h : Cx xb tb ab lb yb gv kv X L w d B) : ab ≠ xb := Kw.MapAt.not_cells h.auto h.box
theorem Cx.nla (h : Cx xb tb ab lb yb gv kv X L w d B) : lb ≠ xb := Kw.MapAt.not_cells h.loops h.box
/-- The same, whatever else was made. -/
theorem Cx.below (h : Cx xb tb ab lb yb gv kv X L w d B) (hB : Below w.heap.size w w') : Cx xb tb ab lb yb gv kv X L w' d B :=
  ⟨(hB.block _ h.lt).trans h.box, h.tab.below hB, Kw.MapAt.below h.auto hB, Kw.MapAt.below h.loops hB, Kw.MapAt.below h.busy hB, h.na, h.nl, h.nx, h.ny⟩
theorem Cx.kept {Y : List Nat} (h : Cx xb tb ab lb yb gv kv X L w d B) (hk : Kept Y w w') (hY : ∀ i ∈ Y, w.heap.size ≤ i) : Cx xb tb ab lb yb gv kv X L w' d B :=
  h.below (hk.to_below (Nat.le_refl _) hY)
/-- Its depth, turned. -/
theorem Cx.deep (h : Cx xb tb ab lb yb gv kv X L w d B) (e : Int) : Cx xb tb ab lb yb gv kv X L (w.setCell ⟨xb, 6, none⟩ (.int .i64 e)) e B :=
  ⟨heap_set (i := 6) h.box _, h.tab.kept ((Kept.refl [xb] w).setCell (.inl (by simp)) _) (fun i hi e => h.nx (List.mem_singleton.1 e ▸ hi)), Kw.MapAt.setCell h.auto (p := ⟨xb, 6, none⟩) h.naa _, Kw.MapAt.setCell h.loops (p := ⟨xb, 6, none⟩) h.nla _, Kw.MapAt.setCell h.busy (p := ⟨xb, 6, none⟩) h.nya _, h.na, h.nl, h.nx, h.ny⟩
/-- What is behind a call that turns the expansion alone, and leaves its depth and its names as they were. -/
theorem Cx.turn (h : Cx xb tb ab lb yb gv kv X L w d B) {e : Int} {B' : List (Bs × Unit)} (hk : Kept [xb, yb] w w') (hb : w'.heap[xb]? = some (.cells (xC tb ab lb yb gv kv e) XT (0, 0))) (hy : Kw.MapAt UK w' yb B') : Cx xb tb ab lb yb gv kv X L w' e B' :=
  ⟨hb, h.tab.kept hk (fun i hi e => by
    rcases List.mem_cons.1 e with rfl | e
    · exact h.nx hi
    · exact h.ny (List.mem_singleton.1 e ▸ hi)), Kw.MapAt.kept h.auto hk (by simp [h.na, h.naa]), Kw.MapAt.kept h.loops hk (by simp [h.nl, h.nla]), hy, h.na, h.nl, h.nx, h.ny⟩
theorem Cx.cells (h : Cx xb tb ab lb yb gv kv X L w d B) : w.cell? ⟨xb, 0, none⟩ = some (.pointer (some ⟨tb, 0, none⟩)) ∧ w.cell? ⟨xb, 1, none⟩ = some (.map (some ab)) ∧ w.cell? ⟨xb, 3, none⟩ = some kv ∧ w.cell? ⟨xb, 4, none⟩ = some (.map (some lb)) ∧ w.cell? ⟨xb, 5, none⟩ = some (.map (some yb)) ∧ w.cell? ⟨xb, 6, none⟩ = some (.int .i64 d) :=
  ⟨cell_at h.box rfl, cell_at h.box rfl, cell_at h.box rfl, cell_at h.box rfl, cell_at h.box rfl, cell_at h.box rfl⟩
end

/-- An expansion on its way: what was when it began, and what is now. -/
structure On (xb tb ab lb yb : Nat) (gv kv : Value) (X : List Nat) (L : List Jp.V) (w : World) (d0 : Int) (B0 : List (Bs × Unit)) (W : World) (d : Int) (B : List (Bs × Unit)) : Prop where
  h0 : Cx xb tb ab lb yb gv kv X L w d0 B0
  cx : Cx xb tb ab lb yb gv kv X L W d B
  k : Kept [xb, yb] w W
section
variable {xb tb ab lb yb : Nat} {gv kv : Value} {X : List Nat} {L : List Jp.V} {w W W' : World} {d0 d d' : Int} {B0 B B' : List (Bs × Unit)}
theorem On.refl (h : Cx xb tb ab lb yb gv kv X L w d B) : On xb tb ab lb yb gv kv X L w d B w d B := ⟨h, h, Kept.refl _ _⟩
theorem On.lt (h : On xb tb ab lb yb gv kv X L w d0 B0 W d B) : xb < w.heap.size ∧ yb < w.heap.size ∧ w.heap.size ≤ W.heap.size := ⟨h.h0.lt, h.h0.busy.lt, h.k.size⟩
theorem On.fresh {Y : List Nat} (h : On xb tb ab lb yb gv kv X L w d0 B0 W d B) (hk : Kept Y W W') (hY : ∀ i ∈ Y, w.heap.size ≤ i) : On xb tb ab lb yb gv kv X L w d0 B0 W' d B := by
  have hK : Kept [xb, yb] w W' := ⟨hk.os.trans h.k.os, hk.tape.trans h.k.tape, hk.output.trans h.k.output, Nat.le_trans h.k.size hk.size, fun i hi hx => (hk.block i (Nat.lt_of_lt_of_le hi h.k.size) (fun e => by have := hY i e; omega)).trans (h.k.block i hi hx)⟩
  have hx : xb ∉ Y := fun e => by have := hY xb e; have := h.h0.lt; omega
  have hy : yb ∉ Y := fun e => by have := hY yb e; have := h.h0.busy.lt; omega
  exact ⟨h.h0, h.h0.turn hK ((hk.block xb h.cx.lt hx).trans h.cx.box) (Kw.MapAt.kept h.cx.busy hk hy), hK⟩
theorem On.below (h : On xb tb ab lb yb gv kv X L w d0 B0 W d B) (hB : Below W.heap.size W W') : On xb tb ab lb yb gv kv X L w d0 B0 W' d B := h.fresh (Kept.of_below (X := []) hB) (by simp)
theorem On.deep (h : On xb tb ab lb yb gv kv X L w d0 B0 W d B) (e : Int) : On xb tb ab lb yb gv kv X L w d0 B0 (W.setCell ⟨xb, 6, none⟩ (.int .i64 e)) e B :=
  ⟨h.h0, h.cx.deep e, h.k.trans ((Kept.refl _ W).setCell (.inl (by simp)) _)⟩
theorem On.call (h : On xb tb ab lb yb gv kv X L w d0 B0 W d B) (hC : Cx xb tb ab lb yb gv kv X L W' d' B') (hk : Kept [xb, yb] W W') : On xb tb ab lb yb gv kv X L w d0 B0 W' d' B' := ⟨h.h0, hC, h.k.trans hk⟩
end

section
variable (xb tb ab lb yb : Nat) (gv kv : Value) (X : List Nat) (L : List Jp.V)
/-- What a call leaves that returns a text, or fails as a loop. -/
def XPost (r : Bs → Value) (w : World) (d : Int) (B : List (Bs × Unit)) : Option Bs → Ending → World → Prop
  | some s, e, w' => e = .returned (r s) ∧ Cx xb tb ab lb yb gv kv X L w' d B ∧ Kept [xb, yb] w w'
  | none, e, w' => e = failE 7 ∧ Kept [xb, yb] w w'
def ExpandC (s : Bs) (d : Int) (B : List (Bs × Unit)) (o : Option Bs) : Prop := ∀ w, Cx xb tb ab lb yb gv kv X L w d B →
  Calls Tryz.prog 84 #[.pointer (some ⟨xb, 0, none⟩), .string (str s)] w (XPost xb tb ab lb yb gv kv X L (fun s => .string (str s)) w d B o)
def ValueC (n : Bs) (d : Int) (B : List (Bs × Unit)) (o : Option Bs) : Prop := ∀ w, Cx xb tb ab lb yb gv kv X L w d B →
  Calls Tryz.prog 194 #[.pointer (some ⟨xb, 0, none⟩), .string (str n)] w (XPost xb tb ab lb yb gv kv X L (fun s => .string (str s)) w d B o)
def InsideC (n : Bs) (d : Int) (B : List (Bs × Unit)) (o : Option Bs) : Prop := ∀ w, Cx xb tb ab lb yb gv kv X L w d B →
  Calls Tryz.prog 196 #[.pointer (some ⟨xb, 0, none⟩), .string (str n)] w (XPost xb tb ab lb yb gv kv X L (fun s => .string (str s)) w d B o)
def RefC (s rest : Bs) (d : Int) (B : List (Bs × Unit)) (o : Option Bs) : Prop := ∀ w, Cx xb tb ab lb yb gv kv X L w d B →
  Calls Tryz.prog 139 #[.pointer (some ⟨xb, 0, none⟩), .string (str s)] w (XPost xb tb ab lb yb gv kv X L (fun v => .tuple #[.string (str v), .string (str rest)]) w d B o)
end
end Go.Proofs.YtpliljcjjffipaaGreatDoor.Xw
