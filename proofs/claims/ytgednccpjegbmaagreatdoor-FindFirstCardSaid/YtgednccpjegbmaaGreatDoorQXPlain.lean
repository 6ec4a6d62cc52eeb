/-
  strings.Builder, wherever it lies: copyCheck, Len, WriteString, String.
  expand.fail, (*result).add, (*list).put.
  What an expansion stands on: its box, its table, its maps; what a call may turn of it.
  (*expansion).expand of a text without $.
-/
import Derived.Lib.Builder
import Derived.Lib.UnsafeStr
import Derived.Laws.Externs
import Derived.Lib.Strings
import Derived.Lib.AppendStr
import Derived.Test.YtgednccpjegbmaaGreatDoorQJPGet
import Derived.Test.YtgednccpjegbmaaGreatDoorQJBase
import Derived.Test.YtgednccpjegbmaaGreatDoorQTPut
namespace Go.Proofs.YtgednccpjegbmaaGreatDoor.Xb
open Go.RowKit Go.Proofs.YtgednccpjegbmaaGreatDoor Go.Maps Go.Proofs.YtgednccpjegbmaaGreatDoor.Ww Go.Proofs.YtgednccpjegbmaaGreatDoor.Tw Go.Proofs.YtgednccpjegbmaaGreatDoor.Kw Go.Proofs.YtgednccpjegbmaaGreatDoor.Jw
set_option maxRecDepth 100000

theorem infoU : (Tryz.prog.info? U8).map (fun i => (i.zero, i.size, i.bytes)) = some (some (.int .u8 0), 1, 1) := by kernel_rfl
theorem sizeB : (Tryz.prog.info? BT).map (·.size) = some 2 := by kernel_rfl
theorem copy_used (b k : Nat) (w : World) (h0 : w.cell? ⟨b, k, none⟩ = some (.pointer (some ⟨b, k, none⟩))) :
    Calls Tryz.prog 180 #[.pointer (some ⟨b, k, none⟩)] w fun e w' => e = .returned (.tuple #[]) ∧ w' = w := by
  obtain ⟨j, hj, _⟩ := Option.map_eq_some_iff.1 sizeB
  go_enter Tryz.func180, Tryz.ntmps180
  go_wp2
  rw [Lib.run_neq_ptr_same w _ Tryz.underlying123 hj]
  go_wp2
  go_end0
  exact ⟨rfl, rfl⟩

theorem copy_fresh (T : TypeId) (b k n : Nat) (w : World) (hk : k < n) (h0 : w.cell? ⟨b, k, none⟩ = some (.pointer none)) (hsh : w.shape? b = some (T, n)) (hl : liesAt Tryz.prog Tryz.prog.depth T (n / Tryz.prog.cellsOf T) k BT 1 = true) (hfz : w.frozen? ⟨b, k, none⟩ = false) :
    Calls Tryz.prog 180 #[.pointer (some ⟨b, k, none⟩)] w fun e w' => e = .returned (.tuple #[]) ∧ w' = w.setCell ⟨b, k, none⟩ (.pointer (some ⟨b, k, none⟩)) := by
  obtain ⟨j, hj, hjs⟩ := Option.map_eq_some_iff.1 sizeB
  go_enter Tryz.func180, Tryz.ntmps180
  go_wp2
  rw [Lib.run_to_unsafe w ⟨b, k, none⟩ Tryz.underlying123 Tryz.underlying299 hj (by rw [hjs]; decide) hsh hk]
  simp only [Result.andThen]
  rw [Oper.upon_value]
  go_wp2
  rw [run_callFunc_extern Tryz.func223 (by kernel_rfl) (by kernel_rfl) (by kernel_rfl) (e := Extern.AbiNoEscape.same) (by kernel_rfl)]
  rw [Lib.run_noEscape]
  simp only [Result.andThen]
  rw [Oper.upon_value]
  go_wp2
  rw [Lib.run_from_unsafe w ⟨b, k, none⟩ Tryz.underlying299 Tryz.underlying123 hj hsh hl]
  simp only [Result.andThen]
  rw [Oper.upon_value]
  go_wp2
  go_end0
  exact ⟨rfl, rfl⟩

/-- A builder at cells k, k + 1 of block b, a row of type T; its text is l. -/
structure BAt (w : World) (T : TypeId) (b k B : Nat) (l : Bs) (pv bv : Value) (cs : Array Value) : Prop where
  cells : w.heap[b]? = some (.cells cs T (0, 0))
  ptr : cs[k]? = some pv
  buf : cs[k + 1]? = some bv
  used : pv = .pointer none ∨ pv = .pointer (some ⟨b, k, none⟩)
  own : w.ownsRow B U8 1 bv l.length (Lib.byteCells l)
  lies : liesAt Tryz.prog Tryz.prog.depth T (cs.size / Tryz.prog.cellsOf T) k BT 1 = true
  ne : T ≠ U8
theorem BAt.not_own {w : World} {T : TypeId} {b k B : Nat} {l : Bs} {pv bv : Value} {cs : Array Value} (h : BAt w T b k B l pv bv cs) : bv.ownBlock ≠ some b := Lib.ownBlock_ne h.own h.cells h.ne
theorem BAt.lt {w : World} {T : TypeId} {b k B : Nat} {l : Bs} {pv bv : Value} {cs : Array Value} (h : BAt w T b k B l pv bv cs) : b < w.heap.size := (Array.getElem?_eq_some_iff.1 h.cells).1

theorem Len_any (w : World) {T : TypeId} {b k B : Nat} {l : Bs} {pv bv : Value} {cs : Array Value} (h : BAt w T b k B l pv bv cs) :
    Calls Tryz.prog 156 #[.pointer (some ⟨b, k, none⟩)] w fun e w' => e = .returned (.int .i64 l.length) ∧ w = w' := by
  obtain ⟨a, c, rfl⟩ := owns_slice h.own
  have c1 : w.cell? ⟨b, k + 1, none⟩ = some (.slice a l.length c) := cell_at h.cells h.buf
  go_enter Tryz.func156, Tryz.ntmps156
  go_wp2
  go_ret
  exact ⟨rfl, rfl⟩

theorem copy_any (w : World) {T : TypeId} {b k B : Nat} {l : Bs} {pv bv : Value} {cs : Array Value} (h : BAt w T b k B l pv bv cs) :
    Calls Tryz.prog 180 #[.pointer (some ⟨b, k, none⟩)] w fun e w' => e = .returned (.tuple #[]) ∧ BAt w' T b k B l (.pointer (some ⟨b, k, none⟩)) bv (cs.setIfInBounds k (.pointer (some ⟨b, k, none⟩))) ∧ Kept [b] w w' := by
  have hk : k < cs.size := by
    have := (Array.getElem?_eq_some_iff.1 h.ptr).1
    exact this
  rcases h.used with rfl | rfl
  · refine (copy_fresh T b k cs.size w hk (cell_at h.cells h.ptr) (by simp [World.shape?, h.cells]) h.lies (frozen_at h.cells k)).mono ?_
    rintro e w' ⟨rfl, rfl⟩
    refine ⟨rfl, ⟨heap_set h.cells _, by simp [hk], by rw [Array.getElem?_setIfInBounds_ne (by omega)]; exact h.buf, .inr rfl, ?_, by simpa using h.lies, h.ne⟩, (Kept.refl _ _).setCell (.inl (by simp)) _⟩
    exact h.own.kept (row := some b) ⟨rfl, rfl, rfl, by simp [World.setCell], fun j _ hj => Below.heap_setCell _ _ _ _ (fun e => hj (by simp [e]))⟩ (Or.inr h.not_own)
  · refine (copy_used b k w (cell_at h.cells h.ptr)).mono ?_
    rintro e w' ⟨rfl, rfl⟩
    have he : cs.setIfInBounds k (.pointer (some ⟨b, k, none⟩)) = cs := by
      have := h.ptr
      apply Array.ext (by simp)
      intro i h1 h2
      rw [Array.getElem_setIfInBounds]
      split
      · rename_i e; subst e
        rw [Array.getElem?_eq_getElem hk] at this
        exact (Option.some.inj this).symm
      · rfl
    exact ⟨rfl, ⟨by rw [he]; exact h.cells, by simp [hk], by rw [Array.getElem?_setIfInBounds_ne (by omega)]; exact h.buf, .inr rfl, h.own, by simpa using h.lies, h.ne⟩, Kept.refl _ _⟩

theorem strCells_by (s : ByteArray) : Lib.strCells s = Lib.byteCells (by8 s) := rfl
set_option maxHeartbeats 1000000 in
theorem WriteString_any (w : World) {T : TypeId} {b k B : Nat} {l : Bs} {pv bv : Value} {cs : Array Value} (h : BAt w T b k B l pv bv cs) (s : ByteArray) (hl : l.length + s.size ≤ 1000000000000) (hBw : B ≤ w.heap.size) :
    Calls Tryz.prog 123 #[.pointer (some ⟨b, k, none⟩), .string s] w fun e w' => e = .returned (.tuple #[.int .i64 s.size, .nilIface]) ∧
      ∃ bv', BAt w' T b k B (l ++ by8 s) (.pointer (some ⟨b, k, none⟩)) bv' ((cs.setIfInBounds k (.pointer (some ⟨b, k, none⟩))).setIfInBounds (k + 1) bv') ∧ Kept (b :: bv.ownBlock.toList) w w' := by
  obtain ⟨i0, hi, hz0, hz1, hz2⟩ := info_parts infoU
  have HC := Lib.hid (copy_any w h)
  have hk : k + 1 < cs.size := by
    have := (Array.getElem?_eq_some_iff.1 h.buf).1
    exact this
  clear h
  go_enter Tryz.func123, Tryz.ntmps123
  go_wp2_with (go_at_call 180; refine HC.out.mono ?_)
  rintro e w1 ⟨rfl, h1, hK1⟩
  have hno := h1.not_own
  have c0 : w1.cell? ⟨b, k, none⟩ = some (.pointer (some ⟨b, k, none⟩)) := cell_at h1.cells h1.ptr
  have c1 : w1.cell? ⟨b, k + 1, none⟩ = some bv := cell_at h1.cells h1.buf
  have hlt1 := h1.lt
  go_wp2_with (at_builtin; refine Lib.wpList_append_own_string _ rfl _ _ 22 9 rfl B U8 i0 Tryz.underlying22 Tryz.underlying9 hi hz0 hz1 hz2 _ _ _ rfl h1.own s rfl ?c3 ?c4 ?c5 ?_)
  case c3 => unfold maxLen; omega
  case c4 => omega
  case c5 => exact Nat.le_trans hBw hK1.size
  intro v' w2 hown' hgrow _
  have hb2 : w2.heap[b]? = some (.cells (cs.setIfInBounds k (.pointer (some ⟨b, k, none⟩))) T (0, 0)) := (hgrow.block b hlt1 (fun e => hno e.symm)).trans h1.cells
  have f1 : w2.frozen? ⟨b, k + 1, none⟩ = false := frozen_at hb2 _
  have d1 : w2.cell? ⟨b, k + 1, none⟩ = some bv := cell_at hb2 h1.buf
  have hlt2 : b < w2.heap.size := Nat.lt_of_lt_of_le hlt1 hgrow.size
  obtain ⟨ao, n', rfl⟩ := owns_slice hown'
  go_wp2
  go_ret2
  rw [strCells_by] at hown'
  have hlen : (l ++ by8 s).length = l.length + s.size := by rw [List.length_append, by8_len]
  have hcells : Lib.byteCells (l ++ by8 s) = Lib.byteCells l ++ Lib.byteCells (by8 s) := by simp [Lib.byteCells]
  have hne' : (Value.slice ao (l.length + s.size) n').ownBlock ≠ some b := Lib.ownBlock_ne hown' hb2 h1.ne
  refine ⟨rfl, _, ⟨heap_set hb2 _, ?_, by simp [hk], .inr rfl, ?_, by simpa using h1.lies, h1.ne⟩, ?_⟩
  · rw [Array.getElem?_setIfInBounds_ne (by omega)]; exact h1.ptr
  · rw [hlen, hcells]
    exact hown'.kept (row := some b) ⟨rfl, rfl, rfl, by simp [World.setCell], fun j _ hj => Below.heap_setCell _ _ _ _ (fun e => hj (by simp [e]))⟩ (Or.inr hne')
  · refine ((hK1.mono (Y := b :: bv.ownBlock.toList) (fun i hi => by simp at hi; simp [hi])).grown hgrow (fun r hr => .inl (by simp [hr]))).setCell (.inl (by simp)) _

abbrev pU8 : TypeId := 241
theorem cellsU : Tryz.prog.cellsOf U8 = 1 := by kernel_rfl
theorem kept_freeze {X : List Nat} {a w : World} (h : Kept X a w) {p : Addr} (hp : p.block ∈ X) (n : Nat) : Kept X a (w.freeze p n) := by
  refine h.trans ?_
  unfold World.freeze
  split
  · exact Kept.refl X w
  · exact ⟨rfl, rfl, rfl, by simp, fun k hk hx => by
      simp only [Array.getElem?_modify]
      rw [if_neg (fun e => by subst e; exact hx hp)]⟩

set_option maxHeartbeats 1000000 in
theorem String_some (w : World) {b k B : Nat} (l : Bs) (g cap : Nat) (cur : Array Value) (h0 : l ≠ []) (c0 : w.cell? ⟨b, k + 1, none⟩ = some (.slice (some ⟨g, 0, none⟩) l.length cap)) (hg : w.heap[g]? = some (.cells cur U8 (0, 0)))
    (hown : w.ownsRow B U8 1 (.slice (some ⟨g, 0, none⟩) l.length cap) l.length (Lib.byteCells l)) (hn : l.length ≤ cap) (hc : cap ≤ maxLen) (hs : cur.size = cap * 1) :
    Calls Tryz.prog 106 #[.pointer (some ⟨b, k, none⟩)] w fun e w' => e = .returned (.string (str l)) ∧ Kept [g] w w' := by
  have hl0 : l.length ≠ 0 := by simpa using h0
  have c1 : w.drew.cell? ⟨b, k + 1, none⟩ = some (.slice (some ⟨g, 0, none⟩) l.length cap) := c0
  have hSD : (Builtin.unsafeSliceData_ #[22] pU8 #[.slice (some ⟨g, 0, none⟩) l.length cap]).run Tryz.prog w.drew = .ok (.pointer (some ⟨g, 0, none⟩)) w.drew :=
    Lib.run_unsafeSliceData_row _ _ _ _ _ _ (by omega)
  have hUS : (Builtin.unsafeString_ #[pU8, 3] 9 #[.pointer (some ⟨g, 0, none⟩), .int .i64 l.length]).run Tryz.prog w.drew = .ok (.string (str l)) (w.drew.freeze ⟨g, 0, none⟩ l.length) := by
    refine Lib.run_unsafeString_row w.drew pU8 3 9 U8 Tryz.underlying241 cellsU g cur.size (by have hg' : w.drew.heap[g]? = some (.cells cur U8 (0, 0)) := hg; simp [World.shape?, hg']) l h0 (by omega) (by unfold maxLen at hc; omega) ?_
    intro j x hx
    exact hown.cells (g := g) rfl j (.int .u8 x.toNat) (by simp [Lib.byteCells, hx])
  clear hown
  go_enter Tryz.func106, Tryz.ntmps106
  go_wp2
  go_region
  all_goals (go_wp2; go_ret; exact ⟨rfl, kept_freeze ((Kept.refl _ w).drewN 1) (p := ⟨g, 0, none⟩) (by simp) _⟩)

theorem String_nil (w : World) {b k : Nat} (c0 : w.cell? ⟨b, k + 1, none⟩ = some (.slice none 0 0)) :
    Calls Tryz.prog 106 #[.pointer (some ⟨b, k, none⟩)] w fun e w' => e = .returned (.string ⟨#[]⟩) ∧ Kept [] w w' := by
  have c1 : w.drew.cell? ⟨b, k + 1, none⟩ = some (.slice none 0 0) := c0
  have hUS : ∀ (W : World) (q : Option Addr), (Builtin.unsafeString_ #[pU8, 3] 9 #[.pointer q, .int .i64 0]).run Tryz.prog W = .ok (.string .empty) W := fun W q => Lib.run_unsafeString_none W _ _ _ q
  have hSD : (Builtin.unsafeSliceData_ #[22] pU8 #[.slice none 0 0]).run Tryz.prog w.drew = .ok (.pointer none) w.drew := rfl
  go_enter Tryz.func106, Tryz.ntmps106
  go_wp2
  go_region
  all_goals (go_wp2; go_ret; exact ⟨rfl, (Kept.refl _ w).drewN 1⟩)
theorem String_room (w : World) {b k : Nat} (g cap : Nat) (hc0 : cap ≠ 0) (c0 : w.cell? ⟨b, k + 1, none⟩ = some (.slice (some ⟨g, 0, none⟩) 0 cap)) :
    Calls Tryz.prog 106 #[.pointer (some ⟨b, k, none⟩)] w fun e w' => e = .returned (.string ⟨#[]⟩) ∧ Kept [] w w' := by
  have c1 : w.drew.cell? ⟨b, k + 1, none⟩ = some (.slice (some ⟨g, 0, none⟩) 0 cap) := c0
  have hUS : ∀ (W : World) (q : Option Addr), (Builtin.unsafeString_ #[pU8, 3] 9 #[.pointer q, .int .i64 0]).run Tryz.prog W = .ok (.string .empty) W := fun W q => Lib.run_unsafeString_none W _ _ _ q
  have hSD : (Builtin.unsafeSliceData_ #[22] pU8 #[.slice (some ⟨g, 0, none⟩) 0 cap]).run Tryz.prog w.drew = .ok (.pointer (some ⟨g, 0, none⟩)) w.drew := Lib.run_unsafeSliceData_row _ _ _ _ _ _ hc0
  clear hc0
  go_enter Tryz.func106, Tryz.ntmps106
  go_wp2
  go_region
  all_goals (go_wp2; go_ret; exact ⟨rfl, (Kept.refl _ w).drewN 1⟩)
theorem String_noroom (w : World) {b k : Nat} (g : Nat) (cur : Array Value) (hb : b < w.heap.size) (hg : w.heap[g]? = some (.cells cur U8 (0, 0))) (c0 : w.cell? ⟨b, k + 1, none⟩ = some (.slice (some ⟨g, 0, none⟩) 0 0)) :
    Calls Tryz.prog 106 #[.pointer (some ⟨b, k, none⟩)] w fun e w' => e = .returned (.string ⟨#[]⟩) ∧ Kept [] w w' := by
  have c1 : w.drew.cell? ⟨b, k + 1, none⟩ = some (.slice (some ⟨g, 0, none⟩) 0 0) := c0
  have hUS : ∀ (W : World) (q : Option Addr), (Builtin.unsafeString_ #[pU8, 3] 9 #[.pointer q, .int .i64 0]).run Tryz.prog W = .ok (.string .empty) W := fun W q => Lib.run_unsafeString_none W _ _ _ q
  have hSD : (Builtin.unsafeSliceData_ #[22] pU8 #[.slice (some ⟨g, 0, none⟩) 0 0]).run Tryz.prog w.drew = .ok (.pointer (some ⟨w.drew.heap.size, 0, none⟩)) (w.drew.alloc (.view ⟨g, 0, none⟩ U8)) :=
    Lib.run_unsafeSliceData_zero w.drew _ _ U8 Tryz.underlying241 ⟨g, 0, none⟩ 0 (U8, cur.size) (by have hg' : w.drew.heap[g]? = some (.cells cur U8 (0, 0)) := hg; simp [World.shape?, hg'])
  have c2 : (w.drew.alloc (.view ⟨g, 0, none⟩ U8)).cell? ⟨b, k + 1, none⟩ = some (.slice (some ⟨g, 0, none⟩) 0 0) := (((Below.refl _ w).alloc (Nat.le_refl _) (.view ⟨g, 0, none⟩ U8)).cell (p := ⟨b, k + 1, none⟩) hb).trans c0
  have c3 : (w.alloc (.view ⟨g, 0, none⟩ U8)).drew.cell? ⟨b, k + 1, none⟩ = some (.slice (some ⟨g, 0, none⟩) 0 0) := c2
  go_enter Tryz.func106, Tryz.ntmps106
  go_wp2
  go_region
  all_goals (go_wp2; go_ret; exact ⟨rfl, ((Kept.refl _ w).drewN 1).alloc _⟩)

theorem String_any (w : World) {T : TypeId} {b k B : Nat} {l : Bs} {pv bv : Value} {cs : Array Value} (h : BAt w T b k B l pv bv cs) :
    Calls Tryz.prog 106 #[.pointer (some ⟨b, k, none⟩)] w fun e w' => e = .returned (.string (str l)) ∧ Kept bv.ownBlock.toList w w' := by
  have c1 : w.cell? ⟨b, k + 1, none⟩ = some bv := cell_at h.cells h.buf
  have hown := h.own
  by_cases h0 : l = []
  · subst h0
    rcases hown.2 with ⟨rfl, _⟩ | ⟨g, cap, cur, rfl, hbg, hg, _, _, _, _⟩
    · exact String_nil w c1
    · by_cases hc0 : cap = 0
      · subst hc0
        refine (String_noroom w g cur h.lt hg c1).mono ?_
        rintro e w' ⟨rfl, hK⟩
        exact ⟨rfl, hK.mono (by simp)⟩
      · refine (String_room w g cap hc0 c1).mono ?_
        rintro e w' ⟨rfl, hK⟩
        exact ⟨rfl, hK.mono (by simp)⟩
  · rcases hown.2 with ⟨_, hz⟩ | ⟨g, cap, cur, rfl, hbg, hg, hn, hc, hs, _⟩
    · exact absurd (List.eq_nil_of_length_eq_zero hz) h0
    · exact String_some w l g cap cur h0 c1 hg hown hn hc hs
/-- What other calls turn is not the builder's. -/
theorem BAt.kept {w w' : World} {T : TypeId} {b k B : Nat} {l : Bs} {pv bv : Value} {cs : Array Value} {Y : List Nat} (h : BAt w T b k B l pv bv cs) (hk : Kept Y w w') (hb : b ∉ Y) (hv : ∀ i ∈ Y, i < B) : BAt w' T b k B l pv bv cs :=
  ⟨(hk.block b h.lt hb).trans h.cells, h.ptr, h.buf, h.used, ⟨h.own.1, by
    rcases h.own.2 with h1 | ⟨g, cap, cur, e, h2, h3, h4⟩
    · exact .inl h1
    · exact .inr ⟨g, cap, cur, e, h2, (hk.block g (Array.getElem?_eq_some_iff.1 h3).1 (fun hi => absurd (hv g hi) (by omega))).trans h3, h4⟩⟩, h.lies, h.ne⟩
theorem BAt.below {w w' : World} {T : TypeId} {b k B : Nat} {l : Bs} {pv bv : Value} {cs : Array Value} (h : BAt w T b k B l pv bv cs) (hB : Below w.heap.size w w') : BAt w' T b k B l pv bv cs :=
  h.kept (Kept.of_below (X := []) hB) (by simp) (by simp)
theorem BAt.fresh {w : World} {T : TypeId} {b k B : Nat} {l : Bs} {pv bv : Value} {cs : Array Value} (h : BAt w T b k B l pv bv cs) : ∀ i ∈ bv.ownBlock.toList, B ≤ i := by
  intro i hi
  exact (h.own.lt i (by simpa using hi)).1
end Go.Proofs.YtgednccpjegbmaaGreatDoor.Xb
namespace Go.Proofs.YtgednccpjegbmaaGreatDoor.Xw
open Go.RowKit Go.Proofs.YtgednccpjegbmaaGreatDoor Go.Proofs.YtgednccpjegbmaaGreatDoor.Ww Go.Proofs.YtgednccpjegbmaaGreatDoor.Tw Go.Proofs.YtgednccpjegbmaaGreatDoor.Kw Go.Proofs.YtgednccpjegbmaaGreatDoor.Jw Go.Proofs.YtgednccpjegbmaaGreatDoor.Xb
set_option maxRecDepth 100000

/-- A builder's cells, once it was written into. -/
def bCs (cs : Array Value) (b k : Nat) (bv : Value) : Array Value := (cs.setIfInBounds k (.pointer (some ⟨b, k, none⟩))).setIfInBounds (k + 1) bv
theorem add_any (w : World) {T : TypeId} {b k B : Nat} {l : Bs} {pv bv : Value} {cs : Array Value} (h : BAt w T b k B l pv bv cs) (s : ByteArray) (hl : l.length + s.size ≤ 1048576) (hBw : B ≤ w.heap.size) :
    Calls Tryz.prog 104 #[.pointer (some ⟨b, k, none⟩), .string s] w fun e w' => e = .returned (.tuple #[]) ∧
      ∃ bv', BAt w' T b k B (l ++ by8 s) (.pointer (some ⟨b, k, none⟩)) bv' (bCs cs b k bv') ∧ Kept (b :: bv.ownBlock.toList) w w' := by
  have hlt := h.lt
  have HL := Lib.hid (Len_any w h)
  have HW := Lib.hid (WriteString_any w h s (by omega) hBw)
  have hle : ¬ (1048576 : Int) < (l.length : Int) + (s.size : Int) := by omega
  clear h
  go_enter Tryz.func104, Tryz.ntmps104
  go_wp2_with fail
  refine HL.out.mono ?_
  rintro e w1 ⟨rfl, rfl⟩
  go_wp2_with fail
  refine HW.out.mono ?_
  rintro e w1 ⟨rfl, bv', h1, hK⟩
  have H1 := Lib.hid h1
  clear h1
  go_wp2_with fail
  go_end0
  exact ⟨rfl, bv', H1.out, hK⟩
end Go.Proofs.YtgednccpjegbmaaGreatDoor.Xw
namespace Go.Proofs.YtgednccpjegbmaaGreatDoor.Xw
open Go.RowKit Go.Proofs.YtgednccpjegbmaaGreatDoor Go.Proofs.YtgednccpjegbmaaGreatDoor.Ww Go.Proofs.YtgednccpjegbmaaGreatDoor.Tw Go.Proofs.YtgednccpjegbmaaGreatDoor.Kw Go.Proofs.YtgednccpjegbmaaGreatDoor.Jw Go.Proofs.YtgednccpjegbmaaGreatDoor.Xb
set_option maxRecDepth 100000

abbrev XT : TypeId := 156
def txD (x : Bs) : DataW Unit := .lit (.string x)
def txElem : Value → Option (DataW Unit × List MemPlace)
  | .string x => some (txD (by8 x), [])
  | _ => none
/-- Maps of what a foreach has put. -/
def bdV (x : Bs × Bool) : Value := .agg #[.string (str x.1), .bool x.2]
def bdD (x : Bs × Bool) : DataW Unit := .agg [.lit (.string x.1), .lit (.bool x.2)]
def bdElem : Value → Option (DataW Unit × List MemPlace)
  | .agg cs => match cs.toList with
    | [.string x, .bool b] => some (bdD (by8 x, b), [])
    | _ => none
  | _ => none
theorem bdElem_inv (v : Value) (z : DataW Unit × List MemPlace) (h : bdElem v = some z) : ∃ n, v = bdV n ∧ z = (bdD n, []) := by
  unfold bdElem at h
  split at h
  · rename_i cs
    split at h
    · rename_i x b e
      cases h
      refine ⟨(by8 x, b), ?_, rfl⟩
      unfold bdV
      congr 1
      exact Array.toList_inj.1 e
    · cases h
  · cases h
def LK : Kind (Bs × Bool) := ⟨154, 231, bdV, bdD, bdElem, ([], false), fun _ => rfl, bdElem_inv, fun a b h => by
  obtain ⟨a1, a2⟩ := a
  obtain ⟨b1, b2⟩ := b
  unfold bdD at h
  simpa using h, Tryz.underlying154, fun w => by kernel_rfl⟩
/-- Sets of names. -/
def usV (_ : Unit) : Value := .agg #[]
def usD (_ : Unit) : DataW Unit := .agg []
def usElem : Value → Option (DataW Unit × List MemPlace)
  | .agg cs => match cs.toList with
    | [] => some (usD (), [])
    | _ => none
  | _ => none
theorem usElem_inv (v : Value) (z : DataW Unit × List MemPlace) (h : usElem v = some z) : ∃ n, v = usV n ∧ z = (usD n, []) := by
  unfold usElem at h
  split at h
  · rename_i cs
    split at h
    · rename_i e
      cases h
      refine ⟨(), ?_, rfl⟩
      unfold usV
      congr 1
      exact Array.toList_inj.1 e
    · cases h
  · cases h
def UK : Kind Unit := ⟨86, 57, usV, usD, usElem, (), fun _ => rfl, usElem_inv, fun _ _ _ => rfl, Tryz.underlying86, fun w => by kernel_rfl⟩

section
variable (xb tb ab lb yb : Nat) (gv kv : Value) (X : List Nat) (L : List Jp.V)
end
section
variable {xb tb ab lb yb : Nat} {gv kv : Value} {X : List Nat} {L : List Jp.V} {w w' : World} {d : Int} {B : List (Bs × Unit)}
end

section
variable {xb tb ab lb yb : Nat} {gv kv : Value} {X : List Nat} {L : List Jp.V} {w W W' : World} {d0 d d' : Int} {B0 B B' : List (Bs × Unit)}
end

section
variable (xb tb ab lb yb : Nat) (gv kv : Value) (X : List Nat) (L : List Jp.V)
end
end Go.Proofs.YtgednccpjegbmaaGreatDoor.Xw
namespace Go.Proofs.YtgednccpjegbmaaGreatDoor.Xw
open Go.RowKit Go.Proofs.YtgednccpjegbmaaGreatDoor Go.Proofs.YtgednccpjegbmaaGreatDoor.Ww Go.Proofs.YtgednccpjegbmaaGreatDoor.Tw Go.Proofs.YtgednccpjegbmaaGreatDoor.Kw Go.Proofs.YtgednccpjegbmaaGreatDoor.Jw Go.Proofs.YtgednccpjegbmaaGreatDoor.Xb
set_option maxRecDepth 100000

abbrev QT : TypeId := 187
theorem liesQ : liesAt Tryz.prog Tryz.prog.depth QT (2 / Tryz.prog.cellsOf QT) 0 BT 1 = true := by kernel_rfl
/-- A result that is made. -/
theorem res_new (w : World) : BAt (w.alloc (.cells #[.pointer none, .slice none 0 0] QT)) QT w.heap.size 0 (w.heap.size + 1) [] (.pointer none) (.slice none 0 0) #[.pointer none, .slice none 0 0] :=
  ⟨heap_last _ _, rfl, rfl, .inl rfl, World.ownsRow_nil _ _ _ _, liesQ, by decide⟩

section
variable {xb tb ab lb yb : Nat} {gv kv : Value} {X : List Nat} {L : List Jp.V}
end
end Go.Proofs.YtgednccpjegbmaaGreatDoor.Xw
