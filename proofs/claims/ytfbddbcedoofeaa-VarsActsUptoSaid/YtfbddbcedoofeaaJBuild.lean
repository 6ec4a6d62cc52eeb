/-
  strings.Builder in a block of its own, read by String and written on: copyCheck, WriteString, WriteByte, String; which blocks are its own.
-/
import Derived.Lib.Builder
import Derived.Lib.UnsafeStr
import Derived.Lib.FrozenHead2
import Derived.Laws.Externs
import Derived.Lib.Strings
import Derived.Lib.AppendStr
import Derived.Test.YtfbddbcedoofeaaJBase
import Derived.Test.YtfbddbcedoofeaaKWorld
namespace Go.Proofs.Ytfbddbcedoofeaa.Jw
open Go.RowKit Go.Proofs.Ytfbddbcedoofeaa Go.Proofs.Ytfbddbcedoofeaa.Ww Go.Proofs.Ytfbddbcedoofeaa.Tw Go.Proofs.Ytfbddbcedoofeaa.Kw
set_option maxRecDepth 100000

section
variable {P : Program} {w : World}
theorem at_stringF {t u ty e : TypeId} {i : TypeInfo} (ht : P.underlying t = some (.slice e)) (hu : P.underlying u = some .string) (hi : P.info? e = some i) (hz : i.zero = some (.int .u8 0)) (hsize : i.size = 1) (hby : i.bytes = 1)
    {v : Value} {n : Nat} {xs : List Value} (hown : w.ownsRowF 0 e 1 v n xs) {s : ByteArray} (h63 : n + s.size ≤ maxLen) (hbytes : n + s.size ≤ 140737488355328) {v' : Value} {w' : World} (hr : (Builtin.append_ #[t, u] ty #[v, .string s]).run P w = .ok v' w') :
    ∀ k, v'.ownBlock = some k → v.ownBlock = some k ∨ w.heap.size ≤ k := by
  intro k hk
  have hsmall : n + s.size ≤ 9223372036854775807 := by simp only [maxLen] at h63; omega
  have hxl : xs.length = n := by simpa using hown.1
  rcases hown.2 with ⟨rfl, rfl⟩ | ⟨g, cap, cur, fz, rfl, hbg, hg, hfz, hnc, hcm, hcs, htake⟩
  · obtain ⟨v2, w2, h1, h2, _, _⟩ := Lib.run_append_own_stringF (P := P) w w.heap.size t u ty e i ht hu hi hz hsize hby (.slice none 0 0) 0 xs ⟨hown.1, .inl ⟨rfl, rfl⟩⟩ s h63 hbytes (Nat.le_refl _)
    rw [hr] at h1
    injection h1 with e1 e2
    subst e1
    exact .inr (h2.lt k hk).1
  · by_cases hroom : n + s.size ≤ cap
    · have hcs' : cur.size = cap := by simpa using hcs
      have h1 := Lib.run_append_room_stringF (P := P) w t u ty e i ht hu hi hsize g n cap cur fz hg (by simpa using hfz) s hroom (by omega)
      rw [hr] at h1
      injection h1 with e1 e2
      subst e1
      exact .inl hk
    · have holds : ∀ j u, xs[j]? = some u → w.cell? ((⟨g, 0, none⟩ : Addr).add j) = some u := hown.cells (g := g) rfl
      have h1 := Lib.run_append_grow_string (P := P) w t u ty e i (.int .u8 0) ht hu hi hz ⟨g, 0, none⟩ n cap xs (by rw [hsize]; simpa using hxl) holds s (by omega) (by omega) (by rw [hby]; exact growslice_fits (by omega) (by omega))
      rw [hr] at h1
      injection h1 with e1 e2
      subst e1
      refine .inr ?_
      simp [Value.ownBlock] at hk
      omega
theorem at_oneF {t ty e : TypeId} {i : TypeInfo} {z : Value} (ht : P.underlying t = some (.slice e)) (hi : P.info? e = some i) (hz : i.zero = some z) (hsize : i.size = 1) (hby : i.bytes = 1) (hzs : z.cells.size = 1)
    {v : Value} {n : Nat} {xs : List Value} (hown : w.ownsRowF 0 e 1 v n xs) {a : Addr} {c : Nat} {news : List Value} (hl : news.length = 1) (hnews : ∀ j u, news[j]? = some u → w.cell? (a.add j) = some u) (h1 : ∀ u ∈ news, u.oneCell' = true)
    (h63 : n + 1 ≤ maxLen) (hbytes : n + 1 ≤ 140737488355328) {v' : Value} {w' : World} (hr : (Builtin.append_ #[t, t] ty #[v, .slice (some a) 1 c]).run P w = .ok v' w') :
    ∀ k, v'.ownBlock = some k → v.ownBlock = some k ∨ w.heap.size ≤ k := by
  intro k hk
  have hsmall : n + 1 ≤ 9223372036854775807 := by simp only [maxLen] at h63; omega
  rcases hown.2 with ⟨rfl, rfl⟩ | ⟨g, cap, cur, fz, rfl, hbg, hg, hfz, hnc, hcm, hcs, htake⟩
  · obtain ⟨v2, w2, h2, h3, _, _⟩ := run_append_ownF (P := P) w w.heap.size t ty e i z 1 1 ht hi hz hsize hby hzs (by decide) (.slice none 0 0) 0 xs ⟨hown.1, .inl ⟨rfl, rfl⟩⟩ a 1 c news (by rw [hl]) hnews h1 h63 (by omega) (Nat.le_refl _)
    rw [hr] at h2
    injection h2 with e1 e2
    subst e1
    exact .inr (h3.lt k hk).1
  · by_cases hroom : n + 1 ≤ cap
    · have h2 := run_append_roomF (P := P) w t ty e i ht hi g n cap cur fz hg (by rw [hsize]; exact hfz) a 1 c news (by rw [hl, hsize]) hnews h1 hroom (by rw [hl, hsize, hcs]; omega)
      rw [hr] at h2
      injection h2 with e1 e2
      subst e1
      exact .inl hk
    · have holds : ∀ j u, xs[j]? = some u → w.cell? ((⟨g, 0, none⟩ : Addr).add j) = some u := hown.cells (g := g) rfl
      have h2 := run_append_grow (P := P) w t ty e i z ht hi hz ⟨g, 0, none⟩ n cap xs (by rw [hsize]; exact hown.1) holds a 1 c news (by rw [hl, hsize]) hnews (by omega) (by omega) (by rw [hby]; exact growslice_fits (by omega) (by omega))
      rw [hr] at h2
      injection h2 with e1 e2
      subst e1
      refine .inr ?_
      simp [Value.ownBlock] at hk
      omega
variable {ops : Array Oper} {rest : List Oper} {o : Oper} {a : Act} {Q : Exit → Act → World → Prop}
theorem wpList_append_strF (w : World) (hgd : o.guard = none) (sl x : Operand) (t u : TypeId)
    (ho : o.op = .call { callee := .builtin .append, args := #[sl, x], argTypes := #[t, u] })
    (e : TypeId) (i : TypeInfo) (ht : P.underlying t = some (.slice e)) (hu : P.underlying u = some .string) (hi : P.info? e = some i) (hz : i.zero = some (.int .u8 0))
    (hsize : i.size = 1) (hby : i.bytes = 1)
    (v : Value) (n : Nat) (xs : List Value) (hs : a.eval sl = v) (hown : w.ownsRowF 0 e 1 v n xs) (s : ByteArray) (hx : a.eval x = .string s)
    (h63 : n + s.size ≤ maxLen) (hbytes : n + s.size ≤ 140737488355328)
    (h : ∀ v' w', w'.ownsRowF 0 e 1 v' (n + s.size) (xs ++ Lib.strCells s) → w.grownBy w' v.ownBlock → (∀ k, v'.ownBlock = some k → v.ownBlock = some k ∨ w.heap.size ≤ k) → wpList P ops Q rest (a.put o.dst v') w') : wpList P ops Q (o :: rest) a w := by
  refine wpList_plain hgd fun K hK => ?_
  obtain ⟨v', w', hr, h2, h3, h4⟩ := Lib.run_append_own_stringF (P := P) w 0 t u o.type e i ht hu hi hz hsize hby v n xs hown s h63 hbytes (Nat.zero_le _)
  have hat := at_stringF ht hu hi hz hsize hby hown h63 hbytes hr
  unfold Oper.wp execOp
  simp only [ho, resolve, invoke, builtin, Sem.run_bind, Sem.run_pure, Result.andThen_ok, List.map_toArray, List.map_cons, List.map_nil, hs, hx, hr]
  exact hK _ _ (h v' w' h2 h3 hat)
theorem wpList_append_oneF (w : World) (hgd : o.guard = none) (s x : Operand) (t : TypeId)
    (ho : o.op = .call { callee := .builtin .append, args := #[s, x], argTypes := #[t, t] })
    (e : TypeId) (i : TypeInfo) (z : Value) (ht : P.underlying t = some (.slice e)) (hi : P.info? e = some i) (hz : i.zero = some z)
    (hsize : i.size = 1) (hby : i.bytes = 1) (hzs : z.cells.size = 1)
    (v : Value) (n : Nat) (xs : List Value) (hs : a.eval s = v) (hown : w.ownsRowF 0 e 1 v n xs)
    (ad : Addr) (c : Nat) (news : List Value) (hx : a.eval x = .slice (some ad) 1 c) (hl : news.length = 1) (hnews : ∀ j u, news[j]? = some u → w.cell? (ad.add j) = some u) (h1 : ∀ u ∈ news, u.oneCell' = true)
    (h63 : n + 1 ≤ maxLen) (hbytes : n + 1 ≤ 140737488355328)
    (h : ∀ v' w', w'.ownsRowF 0 e 1 v' (n + 1) (xs ++ news) → w.grownBy w' v.ownBlock → (∀ k, v'.ownBlock = some k → v.ownBlock = some k ∨ w.heap.size ≤ k) → wpList P ops Q rest (a.put o.dst v') w') : wpList P ops Q (o :: rest) a w := by
  refine wpList_plain hgd fun K hK => ?_
  obtain ⟨v', w', hr, h2, h3, h4⟩ := run_append_ownF (P := P) w 0 t o.type e i z 1 1 ht hi hz hsize hby hzs (by decide) v n xs hown ad 1 c news (by rw [hl]) hnews h1 h63 (by omega) (Nat.zero_le _)
  have hat := at_oneF ht hi hz hsize hby hzs hown hl hnews h1 h63 hbytes hr
  unfold Oper.wp execOp
  simp only [ho, resolve, invoke, builtin, Sem.run_bind, Sem.run_pure, Result.andThen_ok, List.map_toArray, List.map_cons, List.map_nil, hs, hx, hr]
  exact hK _ _ (h v' w' h2 h3 hat)
end

abbrev BT : TypeId := 79
abbrev U8 : TypeId := 5
theorem infoU : (Try.prog.info? U8).map (fun i => (i.zero, i.size, i.bytes)) = some (some (.int .u8 0), 1, 1) := by kernel_rfl
theorem sizeB : (Try.prog.info? BT).map (·.size) = some 2 := by kernel_rfl
theorem liesB : liesAt Try.prog Try.prog.depth BT (2 / Try.prog.cellsOf BT) 0 BT 1 = true := by kernel_rfl
theorem neBU : BT ≠ U8 := by decide

/-- The builder in block b; its text is l; O are its blocks. -/
structure BldAt (w : World) (b : Nat) (O : List Nat) (l : Bs) (pv bv : Value) : Prop where
  cells : w.heap[b]? = some (.cells #[pv, bv] BT (0, 0))
  used : pv = .pointer none ∨ pv = .pointer (some ⟨b, 0, none⟩)
  own : w.ownsRowF 0 U8 1 bv l.length (Lib.byteCells l)
  owns : O = b :: bv.ownBlock.toList
section
variable {w w' : World} {b : Nat} {O : List Nat} {l : Bs} {pv bv : Value}
theorem BldAt.lt (h : BldAt w b O l pv bv) : b < w.heap.size := (Array.getElem?_eq_some_iff.1 h.cells).1
theorem BldAt.ne (h : BldAt w b O l pv bv) : bv.ownBlock ≠ some b := Lib.ownBlock_neF h.own h.cells neBU
theorem BldAt.ltO (h : BldAt w b O l pv bv) : ∀ i ∈ O, i < w.heap.size := by
  intro i hi
  rw [h.owns] at hi
  rcases List.mem_cons.1 hi with rfl | hi
  · exact h.lt
  · exact (h.own.lt i (by simpa using hi)).2
theorem BldAt.block (h : BldAt w b O l pv bv) (hb : ∀ i ∈ O, w'.heap[i]? = w.heap[i]?) : BldAt w' b O l pv bv := by
  have h1 : w'.heap[b]? = w.heap[b]? := hb b (by rw [h.owns]; simp)
  refine ⟨h1.trans h.cells, h.used, ⟨h.own.1, ?_⟩, h.owns⟩
  rcases h.own.2 with hn | ⟨g, cap, cur, fz, hv, hbg, hg, rest⟩
  · exact .inl hn
  · exact .inr ⟨g, cap, cur, fz, hv, hbg, (hb g (by rw [h.owns, hv]; simp [Value.ownBlock])).trans hg, rest⟩
theorem BldAt.kept {X : List Nat} (h : BldAt w b O l pv bv) (hk : Kept X w w') (hx : ∀ i ∈ O, i ∉ X) : BldAt w' b O l pv bv := h.block fun i hi => hk.block i (h.ltO i hi) (hx i hi)
theorem BldAt.below (h : BldAt w b O l pv bv) (hk : Below w.heap.size w w') : BldAt w' b O l pv bv := h.block fun i hi => hk.block i (h.ltO i hi)
theorem BldAt.new (w : World) : BldAt (w.alloc (.cells #[.pointer none, .slice none 0 0] BT)) w.heap.size [w.heap.size] [] (.pointer none) (.slice none 0 0) :=
  ⟨heap_last _ _, .inl rfl, World.ownsRowF_nil _ _ _ _, rfl⟩
/-- The cells of a builder's blocks. -/
theorem BldAt.cells_of (h : BldAt w b O l pv bv) : ∀ i ∈ O, ∃ cs T fz, w.heap[i]? = some (.cells cs T fz) ∧ (T = BT ∨ T = U8) := by
  intro i hi
  rw [h.owns] at hi
  rcases List.mem_cons.1 hi with rfl | hi
  · exact ⟨_, _, _, h.cells, .inl rfl⟩
  · rcases h.own.2 with ⟨hv, _⟩ | ⟨g, cap, cur, fz, hv, hbg, hg, rest⟩
    · rw [hv] at hi; simp [Value.ownBlock] at hi
    · rw [hv] at hi
      simp [Value.ownBlock] at hi
      subst hi
      exact ⟨_, _, _, hg, .inr rfl⟩
end

theorem copy_used (b : Nat) (w : World) (h0 : w.cell? ⟨b, 0, none⟩ = some (.pointer (some ⟨b, 0, none⟩))) :
    Calls Try.prog 42 #[.pointer (some ⟨b, 0, none⟩)] w fun e w' => e = .returned (.tuple #[]) ∧ w' = w := by
  obtain ⟨j, hj, _⟩ := Option.map_eq_some_iff.1 sizeB
  go_enter Try.func42, Try.ntmps42
  go_wp2
  rw [Lib.run_neq_ptr_same w _ Try.underlying59 hj]
  go_wp2
  go_end0
  exact ⟨rfl, rfl⟩

theorem copy_fresh (b : Nat) (w : World) (h0 : w.cell? ⟨b, 0, none⟩ = some (.pointer none)) (hsh : w.shape? b = some (BT, 2)) (hfz : w.frozen? ⟨b, 0, none⟩ = false) :
    Calls Try.prog 42 #[.pointer (some ⟨b, 0, none⟩)] w fun e w' => e = .returned (.tuple #[]) ∧ w' = w.setCell ⟨b, 0, none⟩ (.pointer (some ⟨b, 0, none⟩)) := by
  obtain ⟨j, hj, hjs⟩ := Option.map_eq_some_iff.1 sizeB
  go_enter Try.func42, Try.ntmps42
  go_wp2
  rw [Lib.run_to_unsafe w ⟨b, 0, none⟩ Try.underlying59 Try.underlying104 hj (by rw [hjs]; decide) hsh (by show 0 < 2; decide)]
  simp only [Result.andThen]
  rw [Oper.upon_value]
  go_wp2
  rw [run_callFunc_extern Try.func54 (by kernel_rfl) (by kernel_rfl) (by kernel_rfl) (e := Extern.AbiNoEscape.same) (by kernel_rfl)]
  rw [Lib.run_noEscape]
  simp only [Result.andThen]
  rw [Oper.upon_value]
  go_wp2
  rw [Lib.run_from_unsafe w ⟨b, 0, none⟩ Try.underlying104 Try.underlying59 hj hsh liesB]
  simp only [Result.andThen]
  rw [Oper.upon_value]
  go_wp2
  go_end0
  exact ⟨rfl, rfl⟩

theorem BldAt.set {w : World} {b : Nat} {O : List Nat} {l : Bs} {pv bv : Value} (h : BldAt w b O l pv bv) (i : Nat) (u : Value) : (w.setCell ⟨b, i, none⟩ u).heap[b]? = some (.cells ((#[pv, bv] : Array Value).setIfInBounds i u) BT (0, 0)) := heap_set h.cells u
theorem ownF_set {w : World} {b i : Nat} {v u : Value} {n : Nat} {xs : List Value} (h : w.ownsRowF 0 U8 1 v n xs) (hne : v.ownBlock ≠ some b) : (w.setCell ⟨b, i, none⟩ u).ownsRowF 0 U8 1 v n xs :=
  h.kept (row := some b) ⟨rfl, rfl, rfl, by simp [World.setCell], fun j _ hj => Below.heap_setCell _ _ _ _ (fun e => hj (by simp [e]))⟩ (Or.inr hne)

theorem copy_any (w : World) {b : Nat} {O : List Nat} {l : Bs} {pv bv : Value} (h : BldAt w b O l pv bv) :
    Calls Try.prog 42 #[.pointer (some ⟨b, 0, none⟩)] w fun e w' => e = .returned (.tuple #[]) ∧ BldAt w' b O l (.pointer (some ⟨b, 0, none⟩)) bv ∧ Kept O w w' := by
  rcases h.used with rfl | rfl
  · refine (copy_fresh b w (cell_at h.cells rfl) (by simp [World.shape?, h.cells]) (frozen_at h.cells 0)).mono ?_
    rintro e w' ⟨rfl, rfl⟩
    exact ⟨rfl, ⟨h.set 0 _, .inr rfl, ownF_set h.own h.ne, h.owns⟩, (Kept.refl _ _).setCell (.inl (by rw [h.owns]; simp)) _⟩
  · refine (copy_used b w (cell_at h.cells rfl)).mono ?_
    rintro e w' ⟨rfl, rfl⟩
    exact ⟨rfl, h, Kept.refl _ _⟩
theorem strCells_bs (s : ByteArray) : Lib.strCells s = Lib.byteCells (by8 s) := rfl
theorem owns_sliceF {w : World} {base : Nat} {e : TypeId} {size : Nat} {v : Value} {n : Nat} {xs : List Value} (h : w.ownsRowF base e size v n xs) : ∃ a c, v = .slice a n c := by
  rcases h.2 with ⟨rfl, rfl⟩ | ⟨g, cap, cur, fz, rfl, _⟩
  · exact ⟨_, _, rfl⟩
  · exact ⟨_, _, rfl⟩

/-- What a call that writes on a builder leaves. -/
def BPost (w : World) (b : Nat) (O : List Nat) (l : Bs) (w' : World) : Prop := ∃ O' pv bv, BldAt w' b O' l pv bv ∧ Kept O w w' ∧ ∀ i ∈ O', i ∈ O ∨ w.heap.size ≤ i

set_option maxHeartbeats 1000000 in
theorem WriteString_any (w : World) {b : Nat} {O : List Nat} {l : Bs} {pv bv : Value} (h : BldAt w b O l pv bv) (s : ByteArray) (hl : l.length + s.size ≤ 1000000000000) :
    Calls Try.prog 36 #[.pointer (some ⟨b, 0, none⟩), .string s] w fun e w' => e = .returned (.tuple #[.int .i64 s.size, .nilIface]) ∧ BPost w b O (l ++ by8 s) w' := by
  obtain ⟨i0, hi, hz0, hz1, hz2⟩ := info_parts infoU
  have HC := Lib.hid (copy_any w h)
  have hO := h.owns
  clear h
  go_enter Try.func36, Try.ntmps36
  go_wp2_with (go_at_call 42; refine HC.out.mono ?_)
  rintro e w1 ⟨rfl, h1, hK1⟩
  have hno := h1.ne
  have c0 : w1.cell? ⟨b, 0, none⟩ = some (.pointer (some ⟨b, 0, none⟩)) := cell_at h1.cells rfl
  have c1 : w1.cell? ⟨b, 1, none⟩ = some bv := cell_at h1.cells rfl
  have hlt1 := h1.lt
  go_wp2_with (at_builtin; refine wpList_append_strF _ rfl _ _ 77 9 rfl U8 i0 Try.underlying77 Try.underlying9 hi hz0 hz1 hz2 _ _ _ rfl h1.own s rfl ?c3 ?c4 ?_)
  case c3 => unfold maxLen; omega
  case c4 => omega
  intro v' w2 hown' hgrow hat
  have hb2 : w2.heap[b]? = some (.cells #[.pointer (some ⟨b, 0, none⟩), bv] BT (0, 0)) := (hgrow.block b hlt1 (fun e => hno e.symm)).trans h1.cells
  have f1 : w2.frozen? ⟨b, 1, none⟩ = false := frozen_at hb2 _
  have d1 : w2.cell? ⟨b, 1, none⟩ = some bv := cell_at hb2 rfl
  have hlt2 : b < w2.heap.size := Nat.lt_of_lt_of_le hlt1 hgrow.size
  obtain ⟨ao, n', rfl⟩ := owns_sliceF hown'
  go_wp2
  go_ret2
  rw [strCells_bs] at hown'
  have hlen : (l ++ by8 s).length = l.length + s.size := by rw [List.length_append, by8_len]
  have hcells : Lib.byteCells (l ++ by8 s) = Lib.byteCells l ++ Lib.byteCells (by8 s) := by simp [Lib.byteCells]
  have hne' : (Value.slice ao (l.length + s.size) n').ownBlock ≠ some b := Lib.ownBlock_neF hown' hb2 neBU
  refine ⟨rfl, b :: (Value.slice ao (l.length + s.size) n').ownBlock.toList, _, _, ⟨heap_set hb2 _, .inr rfl, ?_, rfl⟩, ?_, ?_⟩
  · rw [hlen, hcells]; exact ownF_set hown' hne'
  · exact (hK1.grown hgrow (fun r hr => .inl (by rw [hO]; simp [hr]))).setCell (.inl (by rw [hO]; simp)) _
  · intro i hi
    rcases List.mem_cons.1 hi with rfl | hi
    · exact .inl (by rw [hO]; simp)
    · rcases hat i (by simpa using hi) with e | e
      · exact .inl (by rw [hO]; simp [e])
      · exact .inr (Nat.le_trans hK1.size e)

set_option maxHeartbeats 1000000 in
theorem WriteByte_any (w : World) {b : Nat} {O : List Nat} {l : Bs} {pv bv : Value} (h : BldAt w b O l pv bv) (c : UInt8) (hl : l.length + 1 ≤ 1000000000000) :
    Calls Try.prog 37 #[.pointer (some ⟨b, 0, none⟩), .int .u8 (c.toNat : Int)] w fun e w' => e = .returned .nilIface ∧ BPost w b O (l ++ [c]) w' := by
  obtain ⟨i0, hi, hz0, hz1, hz2⟩ := info_parts infoU
  have HC := Lib.hid (copy_any w h)
  have hO := h.owns
  clear h
  go_enter Try.func37, Try.ntmps37
  go_wp2_with (go_at_call 42; refine HC.out.mono ?_)
  rintro e w1 ⟨rfl, h1, hK1⟩
  have hno := h1.ne
  have c0 : w1.cell? ⟨b, 0, none⟩ = some (.pointer (some ⟨b, 0, none⟩)) := cell_at h1.cells rfl
  have c1 : w1.cell? ⟨b, 1, none⟩ = some bv := cell_at h1.cells rfl
  have hlt1 := h1.lt
  go_wp2_with (at_builtin; refine wpList_append_oneF _ rfl _ _ 77 rfl U8 i0 (.int .u8 0) Try.underlying77 hi hz0 hz1 hz2 rfl _ _ _ rfl (h1.own.alloc _) ⟨w1.heap.size, 0, none⟩ 1 [.int .u8 (c.toNat : Int)] rfl rfl (cells_new _ #[.int .u8 (c.toNat : Int)] _ rfl) (by simp [Value.oneCell']) (by unfold maxLen; omega) (by omega) ?_)
  intro v' w2 hown' hgrow hat
  have hb2 : w2.heap[b]? = some (.cells #[.pointer (some ⟨b, 0, none⟩), bv] BT (0, 0)) := (hgrow.block b (by simp; omega) (fun e => hno e.symm)).trans ((((Below.refl w1.heap.size w1).alloc (Nat.le_refl _) _).block b hlt1).trans h1.cells)
  have f1 : w2.frozen? ⟨b, 1, none⟩ = false := frozen_at hb2 _
  have d1 : w2.cell? ⟨b, 1, none⟩ = some bv := cell_at hb2 rfl
  have hlt2 : b < w2.heap.size := Nat.lt_of_lt_of_le hlt1 (Nat.le_trans (by simp) hgrow.size)
  obtain ⟨ao, n', rfl⟩ := owns_sliceF hown'
  go_wp2
  go_ret
  have hlen : (l ++ [c]).length = l.length + 1 := by rw [List.length_append]; rfl
  have hcells : Lib.byteCells (l ++ [c]) = Lib.byteCells l ++ [.int .u8 (c.toNat : Int)] := by simp [Lib.byteCells]
  have hne' : (Value.slice ao (l.length + 1) n').ownBlock ≠ some b := Lib.ownBlock_neF hown' hb2 neBU
  refine ⟨rfl, b :: (Value.slice ao (l.length + 1) n').ownBlock.toList, _, _, ⟨heap_set hb2 _, .inr rfl, ?_, rfl⟩, ?_, ?_⟩
  · rw [hlen, hcells]; exact ownF_set hown' hne'
  · exact ((hK1.alloc _).grown hgrow (fun r hr => .inl (by rw [hO]; simp [hr]))).setCell (.inl (by rw [hO]; simp)) _
  · intro i hi
    rcases List.mem_cons.1 hi with rfl | hi
    · exact .inl (by rw [hO]; simp)
    · rcases hat i (by simpa using hi) with e | e
      · exact .inl (by rw [hO]; simp [e])
      · exact .inr (by have h1 := hK1.size; have h2 : w1.heap.size ≤ i := Nat.le_trans (by simp) e; omega)

abbrev pU8 : TypeId := 90
theorem cellsU : Try.prog.cellsOf U8 = 1 := by kernel_rfl
theorem kept_freeze {X : List Nat} {a w : World} (h : Kept X a w) {p : Addr} (hp : p.block ∈ X) (n : Nat) : Kept X a (w.freeze p n) := by
  refine h.trans ?_
  unfold World.freeze
  split
  · exact Kept.refl X w
  · exact ⟨rfl, rfl, rfl, by simp, fun k hk hx => by
      simp only [Array.getElem?_modify]
      rw [if_neg (fun e => by subst e; exact hx hp)]⟩
theorem BldAt.froze {w : World} {b g cap : Nat} {O : List Nat} {l : Bs} {pv : Value} (h : BldAt w b O l pv (.slice (some ⟨g, 0, none⟩) l.length cap)) : BldAt (w.freeze ⟨g, 0, none⟩ l.length) b O l pv (.slice (some ⟨g, 0, none⟩) l.length cap) := by
  have hgb : g ≠ b := fun e => h.ne (by simp [Value.ownBlock, e])
  unfold World.freeze
  split
  · exact h
  · rename_i hn0
    refine ⟨?_, h.used, ⟨h.own.1, ?_⟩, h.owns⟩
    · simp only [Array.getElem?_modify]
      rw [if_neg hgb]
      exact h.cells
    · rcases h.own.2 with ⟨hv, _⟩ | ⟨g', cap', cur, fz, hv, hbg, hg, hfz, rest⟩
      · cases hv
      · cases hv
        obtain ⟨lo, hi⟩ := fz
        refine .inr ⟨g, _, cur, (if lo == hi then (0, 0 + l.length) else (min lo 0, max hi (0 + l.length))), rfl, hbg, ?_, ?_, rest⟩
        · simp [Array.getElem?_modify, hg]
        · simp only at hfz
          split <;> simp <;> omega

set_option maxHeartbeats 1000000 in
theorem String_some (w : World) {b : Nat} {O : List Nat} {l : Bs} {pv : Value} (g cap : Nat) (cur : Array Value) (fz : Nat × Nat) (h : BldAt w b O l pv (.slice (some ⟨g, 0, none⟩) l.length cap)) (h0 : l ≠ []) (hg : w.heap[g]? = some (.cells cur U8 fz)) (hn : l.length ≤ cap) (hc : cap ≤ maxLen) (hs : cur.size = cap * 1) :
    Calls Try.prog 38 #[.pointer (some ⟨b, 0, none⟩)] w fun e w' => e = .returned (.string (str l)) ∧ BldAt w' b O l pv (.slice (some ⟨g, 0, none⟩) l.length cap) ∧ Kept O w w' := by
  have hl0 : l.length ≠ 0 := fun e => h0 (List.eq_nil_of_length_eq_zero e)
  have c0 : w.cell? ⟨b, 1, none⟩ = some (.slice (some ⟨g, 0, none⟩) l.length cap) := cell_at h.cells rfl
  have c1 : w.drew.cell? ⟨b, 1, none⟩ = some (.slice (some ⟨g, 0, none⟩) l.length cap) := c0
  have hSD : (Builtin.unsafeSliceData_ #[77] pU8 #[.slice (some ⟨g, 0, none⟩) l.length cap]).run Try.prog w.drew = .ok (.pointer (some ⟨g, 0, none⟩)) w.drew :=
    Lib.run_unsafeSliceData_row _ _ _ _ _ _ (by omega)
  have hUS : (Builtin.unsafeString_ #[pU8, 3] 9 #[.pointer (some ⟨g, 0, none⟩), .int .i64 l.length]).run Try.prog w.drew = .ok (.string (str l)) (w.drew.freeze ⟨g, 0, none⟩ l.length) := by
    refine Lib.run_unsafeString_row w.drew pU8 3 9 U8 Try.underlying90 cellsU g cur.size (by have hg' : w.drew.heap[g]? = some (.cells cur U8 fz) := hg; simp [World.shape?, hg']) l h0 (by omega) (by unfold maxLen at hc; omega) ?_
    intro j x hx
    exact h.own.cells (g := g) rfl j (.int .u8 x.toNat) (by simp [Lib.byteCells, hx])
  have hD : BldAt w.drew b O l pv (.slice (some ⟨g, 0, none⟩) l.length cap) := h.below (Below.refl _ w).drew
  have hF := hD.froze
  have hgO : g ∈ O := by rw [h.owns]; simp [Value.ownBlock]
  have HF := Lib.hid hF
  clear h hD hF
  go_enter Try.func38, Try.ntmps38
  go_wp2
  go_region
  all_goals (go_wp2; go_ret; exact ⟨rfl, HF.out, kept_freeze ((Kept.refl _ w).drewN 1) (p := ⟨g, 0, none⟩) hgO _⟩)
theorem String_any (w : World) {b : Nat} {O : List Nat} {l : Bs} {pv bv : Value} (h : BldAt w b O l pv bv) (h0 : l ≠ []) :
    Calls Try.prog 38 #[.pointer (some ⟨b, 0, none⟩)] w fun e w' => e = .returned (.string (str l)) ∧ BldAt w' b O l pv bv ∧ Kept O w w' := by
  rcases h.own.2 with ⟨_, hz⟩ | ⟨g, cap, cur, fz, rfl, hbg, hg, hfz, hn, hc, hs, _⟩
  · exact absurd (List.eq_nil_of_length_eq_zero hz) h0
  · exact String_some w g cap cur fz h h0 hg hn hc hs
end Go.Proofs.Ytfbddbcedoofeaa.Jw
