/-
  strings.Builder in a block of its own: which blocks are its own.
  A table of variables in memory: its box, its two maps, the builders of the texts that have grown.
-/
import Derived.Lib.Builder
import Derived.Lib.UnsafeStr
import Derived.Lib.FrozenHead2
import Derived.Laws.Externs
import Derived.Lib.Strings
import Derived.Lib.AppendStr
import Derived.Test.YtpliljcjjffipaaGreatDoorQJBase
import Derived.Test.YtpliljcjjffipaaGreatDoorQKOrder
namespace Go.Proofs.YtpliljcjjffipaaGreatDoor.Jw
open Go.RowKit Go.Proofs.YtpliljcjjffipaaGreatDoor Go.Proofs.YtpliljcjjffipaaGreatDoor.Ww Go.Proofs.YtpliljcjjffipaaGreatDoor.Tw Go.Proofs.YtpliljcjjffipaaGreatDoor.Kw
set_option maxRecDepth 100000

section
variable {P : Program} {w : World}
theorem at_stringF {t u ty e : TypeId} {i : TypeInfo} (ht : P.underlying t = some (.slice e)) (hu : P.underlying u = some .string) (hi : P.info? e = some i) (hz : i.zero = some (.int .u8 0)) (hsize : i.size = 1) (hby : i.bytes = 1)
    {v : Value} {n : Nat} {xs : List Value} (hown : w.ownsRowF 0 e 1 v n xs) {s : ByteArray} (h63 : n + s.size ≤ maxLen) (hbytes : n + s.size ≤ 140737488355328) {v' : Value} {w' : World} (hr : (Builtin.append_ #[t, u] ty #[v, .string s]).run P w = .ok v' w') :
    ∀ k, v'.ownBlock = some k → v.ownBlock = some k ∨ w.heap.size ≤ k := by
  intro k hk
  have hsmall : n + s.size ≤ 9223372036854775807 := by simp only [maxLen] at h63; omega
  have hxl : xs.length = n := by simpa using hown.1
  rcases hown.2 with ⟨rfl, rfl⟩ | ⟨g, cap, cur, fz, rfl, hbg, hg, hfz, hnc, hcm, hcs, htake⟩
  · obtain ⟨v2, w2, h1, h2, _, _⟩ := Lib.run_append_own_stringF (P := P) w w.heap.size t u ty e i ht hu hi hz hsize hby (.slice none 0 0) 0 xs ⟨hown.1, .inl ⟨rfl, rfl⟩⟩ s h63 hbytes (Nat.le_refl _)
    rw [hr] at h1
    injection h1 with e1 e2
    subst e1
    exact .inr (h2.lt k hk).1
  · by_cases hroom : n + s.size ≤ cap
    · have hcs' : cur.size = cap := by simpa using hcs
      have h1 := Lib.run_append_room_stringF (P := P) w t u ty e i ht hu hi hsize g n cap cur fz hg (by simpa using hfz) s hroom (by omega)
      rw [hr] at h1
      injection h1 with e1 e2
      subst e1
      exact .inl hk
    · have holds : ∀ j u, xs[j]? = some u → w.cell? ((⟨g, 0, none⟩ : Addr).add j) = some u := hown.cells (g := g) rfl
      have h1 := Lib.run_append_grow_string (P := P) w t u ty e i (.int .u8 0) ht hu hi hz ⟨g, 0, none⟩ n cap xs (by rw [hsize]; simpa using hxl) holds s (by omega) (by omega) (by rw [hby]; exact growslice_fits (by omega) (by omega))
      rw [hr] at h1
      injection h1 with e1 e2
      subst e1
      refine .inr ?_
      simp [Value.ownBlock] at hk
      omega
theorem at_oneF {t ty e : TypeId} {i : TypeInfo} {z : Value} (ht : P.underlying t = some (.slice e)) (hi : P.info? e = some i) (hz : i.zero = some z) (hsize : i.size = 1) (hby : i.bytes = 1) (hzs : z.cells.size = 1)
    {v : Value} {n : Nat} {xs : List Value} (hown : w.ownsRowF 0 e 1 v n xs) {a : Addr} {c : Nat} {news : List Value} (hl : news.length = 1) (hnews : ∀ j u, news[j]? = some u → w.cell? (a.add j) = some u) (h1 : ∀ u ∈ news, u.oneCell' = true)
    (h63 : n + 1 ≤ maxLen) (hbytes : n + 1 ≤ 140737488355328) {v' : Value} {w' : World} (hr : (Builtin.append_ #[t, t] ty #[v, .slice (some a) 1 c]).run P w = .ok v' w') :
    ∀ k, v'.ownBlock = some k → v.ownBlock = some k ∨ w.heap.size ≤ k := by
  intro k hk
  have hsmall : n + 1 ≤ 9223372036854775807 := by simp only [maxLen] at h63; omega
  rcases hown.2 with ⟨rfl, rfl⟩ | ⟨g, cap, cur, fz, rfl, hbg, hg, hfz, hnc, hcm, hcs, htake⟩
  · obtain ⟨v2, w2, h2, h3, _, _⟩ := run_append_ownF (P := P) w w.heap.size t ty e i z 1 1 ht hi hz hsize hby hzs (by decide) (.slice none 0 0) 0 xs ⟨hown.1, .inl ⟨rfl, rfl⟩⟩ a 1 c news (by rw [hl]) hnews h1 h63 (by omega) (Nat.le_refl _)
    rw [hr] at h2
    injection h2 with e1 e2
    subst e1
    exact .inr (h3.lt k hk).1
  · by_cases hroom : n + 1 ≤ cap
    · have h2 := run_append_roomF (P := P) w t ty e i ht hi g n cap cur fz hg (by rw [hsize]; exact hfz) a 1 c news (by rw [hl, hsize]) hnews h1 hroom (by rw [hl, hsize, hcs]; omega)
      rw [hr] at h2
      injection h2 with e1 e2
      subst e1
      exact .inl hk
    · have holds : ∀ j u, xs[j]? = some u → w.cell? ((⟨g, 0, none⟩ : Addr).add j) = some u := hown.cells (g := g) rfl
      have h2 := run_append_grow (P := P) w t ty e i z ht hi hz ⟨g, 0, none⟩ n cap xs (by rw [hsize]; exact hown.1) holds a 1 c news (by rw [hl, hsize]) hnews (by omega) (by omega) (by rw [hby]; exact growslice_fits (by omega) (by omega))
      rw [hr] at h2
      injection h2 with e1 e2
      subst e1
      refine .inr ?_
      simp [Value.ownBlock] at hk
      omega
variable {ops : Array Oper} {rest : List Oper} {o : Oper} {a : Act} {Q : Exit → Act → World → Prop}
theorem wpList_append_strF (w : World) (hgd : o.guard = none) (sl x : Operand) (t u : TypeId)
    (ho : o.op = .call { callee := .builtin .append, args := #[sl, x], argTypes := #[t, u] })
    (e : TypeId) (i : TypeInfo) (ht : P.underlying t = some (.slice e)) (hu : P.underlying u = some .string) (hi : P.info? e = some i) (hz : i.zero = some (.int .u8 0))
    (hsize : i.size = 1) (hby : i.bytes = 1)
    (v : Value) (n : Nat) (xs : List Value) (hs : a.eval sl = v) (hown : w.ownsRowF 0 e 1 v n xs) (s : ByteArray) (hx : a.eval x = .string s)
    (h63 : n + s.size ≤ maxLen) (hbytes : n + s.size ≤ 140737488355328)
    (h : ∀ v' w', w'.ownsRowF 0 e 1 v' (n + s.size) (xs ++ Lib.strCells s) → w.grownBy w' v.ownBlock → (∀ k, v'.ownBlock = some k → v.ownBlock = some k ∨ w.heap.size ≤ k) → wpList P ops Q rest (a.put o.dst v') w') : wpList P ops Q (o :: rest) a w := by
  refine wpList_plain hgd fun K hK => ?_
  obtain ⟨v', w', hr, h2, h3, h4⟩ := Lib.run_append_own_stringF (P := P) w 0 t u o.type e i ht hu hi hz hsize hby v n xs hown s h63 hbytes (Nat.zero_le _)
  have hat := at_stringF ht hu hi hz hsize hby hown h63 hbytes hr
  unfold Oper.wp execOp
  simp only [ho, resolve, invoke, builtin, Sem.run_bind, Sem.run_pure, Result.andThen_ok, List.map_toArray, List.map_cons, List.map_nil, hs, hx, hr]
  exact hK _ _ (h v' w' h2 h3 hat)
theorem wpList_append_oneF (w : World) (hgd : o.guard = none) (s x : Operand) (t : TypeId)
    (ho : o.op = .call { callee := .builtin .append, args := #[s, x], argTypes := #[t, t] })
    (e : TypeId) (i : TypeInfo) (z : Value) (ht : P.underlying t = some (.slice e)) (hi : P.info? e = some i) (hz : i.zero = some z)
    (hsize : i.size = 1) (hby : i.bytes = 1) (hzs : z.cells.size = 1)
    (v : Value) (n : Nat) (xs : List Value) (hs : a.eval s = v) (hown : w.ownsRowF 0 e 1 v n xs)
    (ad : Addr) (c : Nat) (news : List Value) (hx : a.eval x = .slice (some ad) 1 c) (hl : news.length = 1) (hnews : ∀ j u, news[j]? = some u → w.cell? (ad.add j) = some u) (h1 : ∀ u ∈ news, u.oneCell' = true)
    (h63 : n + 1 ≤ maxLen) (hbytes : n + 1 ≤ 140737488355328)
    (h : ∀ v' w', w'.ownsRowF 0 e 1 v' (n + 1) (xs ++ news) → w.grownBy w' v.ownBlock → (∀ k, v'.ownBlock = some k → v.ownBlock = some k ∨ w.heap.size ≤ k) → wpList P ops Q rest (a.put o.dst v') w') : wpList P ops Q (o :: rest) a w := by
  refine wpList_plain hgd fun K hK => ?_
  obtain ⟨v', w', hr, h2, h3, h4⟩ := run_append_ownF (P := P) w 0 t o.type e i z 1 1 ht hi hz hsize hby hzs (by decide) v n xs hown ad 1 c news (by rw [hl]) hnews h1 h63 (by omega) (Nat.zero_le _)
  have hat := at_oneF ht hi hz hsize hby hzs hown hl hnews h1 h63 hbytes hr
  unfold Oper.wp execOp
  simp only [ho, resolve, invoke, builtin, Sem.run_bind, Sem.run_pure, Result.andThen_ok, List.map_toArray, List.map_cons, List.map_nil, hs, hx, hr]
  exact hK _ _ (h v' w' h2 h3 hat)
end

abbrev BT : TypeId := 235
abbrev U8 : TypeId := 5
theorem infoU : (Tryz.prog.info? U8).map (fun i => (i.zero, i.size, i.bytes)) = some (some (.int .u8 0), 1, 1) := by kernel_rfl
theorem sizeB : (Tryz.prog.info? BT).map (·.size) = some 2 := by kernel_rfl
theorem liesB : liesAt Tryz.prog Tryz.prog.depth BT (2 / Tryz.prog.cellsOf BT) 0 BT 1 = true := by kernel_rfl
theorem neBU : BT ≠ U8 := by decide

/-- The builder in block b; its text is l; O are its blocks. -/
structure BldAt (w : World) (b : Nat) (O : List Nat) (l : Bs) (pv bv : Value) : Prop where
  cells : w.heap[b]? = some (.cells #[pv, bv] BT (0, 0))
  used : pv = .pointer none ∨ pv = .pointer (some ⟨b, 0, none⟩)
  own : w.ownsRowF 0 U8 1 bv l.length (Lib.byteCells l)
  owns : O = b :: bv.ownBlock.toList
section
variable {w w' : World} {b : Nat} {O : List Nat} {l : Bs} {pv bv : Value}
theorem BldAt.lt (h : BldAt w b O l pv bv) : b < w.heap.size := (Array.getElem?_eq_some_iff.1 h.cells).1
theorem BldAt.ne (h : BldAt w b O l pv bv) : bv.ownBlock ≠ some b := Lib.ownBlock_neF h.own h.cells neBU
theorem BldAt.ltO (h : BldAt w b O l pv bv) : ∀ i ∈ O, i < w.heap.size := by
  intro i hi
  rw [h.owns] at hi
  rcases List.mem_cons.1 hi with rfl | hi
  · exact h.lt
  · exact (h.own.lt i (by simpa using hi)).2
theorem BldAt.block (h : BldAt w b O l pv bv) (hb : ∀ i ∈ O, w'.heap[i]? = w.heap[i]?) : BldAt w' b O l pv bv := by
  have h1 : w'.heap[b]? = w.heap[b]? := hb b (by rw [h.owns]; simp)
  refine ⟨h1.trans h.cells, h.used, ⟨h.own.1, ?_⟩, h.owns⟩
  rcases h.own.2 with hn | ⟨g, cap, cur, fz, hv, hbg, hg, rest⟩
  · exact .inl hn
  · exact .inr ⟨g, cap, cur, fz, hv, hbg, (hb g (by rw [h.owns, hv]; simp [Value.ownBlock])).trans hg, rest⟩
theorem BldAt.kept {X : List Nat} (h : BldAt w b O l pv bv) (hk : Kept X w w') (hx : ∀ i ∈ O, i ∉ X) : BldAt w' b O l pv bv := h.block fun i hi => hk.block i (h.ltO i hi) (hx i hi)
theorem BldAt.below (h : BldAt w b O l pv bv) (hk : Below w.heap.size w w') : BldAt w' b O l pv bv := h.block fun i hi => hk.block i (h.ltO i hi)
theorem BldAt.new (w : World) : BldAt (w.alloc (.cells #[.pointer none, .slice none 0 0] BT)) w.heap.size [w.heap.size] [] (.pointer none) (.slice none 0 0) :=
  ⟨heap_last _ _, .inl rfl, World.ownsRowF_nil _ _ _ _, rfl⟩
/-- The cells of a builder's blocks. -/
theorem BldAt.cells_of (h : BldAt w b O l pv bv) : ∀ i ∈ O, ∃ cs T fz, w.heap[i]? = some (.cells cs T fz) ∧ (T = BT ∨ T = U8) := by
  intro i hi
  rw [h.owns] at hi
  rcases List.mem_cons.1 hi with rfl | hi
  · exact ⟨_, _, _, h.cells, .inl rfl⟩
  · rcases h.own.2 with ⟨hv, _⟩ | ⟨g, cap, cur, fz, hv, hbg, hg, rest⟩
    · rw [hv] at hi; simp [Value.ownBlock] at hi
    · rw [hv] at hi
      simp [Value.ownBlock] at hi
      subst hi
      exact ⟨_, _, _, hg, .inr rfl⟩
end
end Go.Proofs.YtpliljcjjffipaaGreatDoor.Jw
namespace Go.Proofs.YtpliljcjjffipaaGreatDoor.Jw
open Go.RowKit Go.Proofs.YtpliljcjjffipaaGreatDoor Go.Proofs.YtpliljcjjffipaaGreatDoor.Ww Go.Proofs.YtpliljcjjffipaaGreatDoor.Tw Go.Proofs.YtpliljcjjffipaaGreatDoor.Kw
set_option maxRecDepth 100000

abbrev PT : TypeId := 135
abbrev PV : TypeId := 64
abbrev PK : TypeId := 130
/-- What the table keeps: a variable, and the builder of its text. -/
structure KE where
  v : Jp.V
  g : Option Nat
def gP (g : Option Nat) : Value := .pointer (g.map fun b => ⟨b, 0, none⟩)
def keV (e : KE) : Value := .agg #[.string (str e.v.n), .string (str e.v.x), .bool e.v.s, .int .i64 e.v.f, gP e.g]
def keD (e : KE) : DataW Unit := .agg [.lit (.string e.v.n), .lit (.string e.v.x), .lit (.bool e.v.s), .lit (.int .i64 e.v.f), match e.g with | none => .nil | some b => .lit (.int .i64 (b : Int))]
def keElem : Value → Option (DataW Unit × List MemPlace)
  | .agg cs => match cs.toList with
    | [.string n, .string x, .bool s, .int .i64 f, .pointer none] => some (keD ⟨⟨by8 n, by8 x, s, f⟩, none⟩, [])
    | [.string n, .string x, .bool s, .int .i64 f, .pointer (some ⟨b, 0, none⟩)] => some (keD ⟨⟨by8 n, by8 x, s, f⟩, some b⟩, [])
    | _ => none
  | _ => none
theorem keElem_mk (e : KE) : keElem (keV e) = some (keD e, []) := by
  obtain ⟨v, g⟩ := e
  cases g with
  | none => rfl
  | some b => rfl
theorem keElem_inv (v : Value) (z : DataW Unit × List MemPlace) (h : keElem v = some z) : ∃ e, v = keV e ∧ z = (keD e, []) := by
  unfold keElem at h
  split at h
  · rename_i cs
    split at h
    · rename_i n x s f e
      cases h
      refine ⟨⟨⟨by8 n, by8 x, s, f⟩, none⟩, ?_, rfl⟩
      unfold keV
      congr 1
      exact Array.toList_inj.1 e
    · rename_i n x s f b e
      cases h
      refine ⟨⟨⟨by8 n, by8 x, s, f⟩, some b⟩, ?_, rfl⟩
      unfold keV
      congr 1
      exact Array.toList_inj.1 e
    · cases h
  · cases h
theorem keD_inj (a b : KE) (h : keD a = keD b) : a = b := by
  obtain ⟨⟨n, x, s, f⟩, g⟩ := a
  obtain ⟨⟨n', x', s', f'⟩, g'⟩ := b
  unfold keD at h
  simp only [DataW.agg.injEq, List.cons.injEq, DataW.lit.injEq, Lit.string.injEq, Lit.int.injEq, Lit.bool.injEq, and_true, true_and] at h
  obtain ⟨rfl, rfl, rfl, rfl, h⟩ := h
  have : g = g' := by
    cases g with
    | none =>
      cases g' with
      | none => rfl
      | some b => cases h
    | some a =>
      cases g' with
      | none => cases h
      | some b => simp at h; rw [Int.ofNat.inj h]
  rw [this]
def ke0 : KE := ⟨⟨[], [], false, 0⟩, none⟩
def KK : Kind KE := ⟨132, 130, keV, keD, keElem, ke0, keElem_mk, keElem_inv, keD_inj, Tryz.underlying132, fun w => by kernel_rfl⟩
/-- What was chosen for a name. -/
def chV (n : Int) : Value := .int .i64 n
def chD (n : Int) : DataW Unit := .lit (.int .i64 n)
def chElem : Value → Option (DataW Unit × List MemPlace)
  | .int .i64 n => some (chD n, [])
  | _ => none
theorem chElem_inv (v : Value) (z : DataW Unit × List MemPlace) (h : chElem v = some z) : ∃ n, v = chV n ∧ z = (chD n, []) := by
  unfold chElem at h
  split at h
  · cases h; exact ⟨_, rfl, rfl⟩
  · cases h
def CK : Kind Int := ⟨133, 165, chV, chD, chElem, 0, fun _ => rfl, chElem_inv, fun a b h => by unfold chD at h; simpa using h, Tryz.underlying133, fun w => by kernel_rfl⟩

/-- The builders of a table's texts; O k are the blocks of the one at k. -/
structure Grown (w : World) (E : List (Bs × KE)) (O : Bs → List Nat) : Prop where
  at_ : ∀ e ∈ E, ∀ b, e.2.g = some b → ∃ pv bv, BldAt w b (O e.1) e.2.v.x pv bv
  apart : ∀ e ∈ E, ∀ e' ∈ E, e.1 ≠ e'.1 → e.2.g ≠ none → e'.2.g ≠ none → ∀ i ∈ O e.1, i ∉ O e'.1
/-- A table. -/
structure TabAt (w : World) (tb : Nat) (X : List Nat) (E : List (Bs × KE)) (M : List (Bs × Int)) (all : Bool) (mv mn : Option Nat) (O : Bs → List Nat) : Prop where
  cells : w.heap[tb]? = some (.cells #[.map mv, .map mn, .bool all] PT (0, 0))
  vars : MOpt KK w mv E
  named : MOpt CK w mn M
  ne : ∀ b, mv = some b → mn ≠ some b
  keys : ∀ e ∈ E, e.1 = e.2.v.n
  grown : Grown w E O
  tX : tb ∈ X
  vX : ∀ b, mv = some b → b ∈ X
  nX : ∀ b, mn = some b → b ∈ X
  oX : ∀ e ∈ E, e.2.g ≠ none → ∀ i ∈ O e.1, i ∈ X
/-- .. of these variables. -/
def Tab (w : World) (tb : Nat) (X : List Nat) (L : List Jp.V) (M : List (Bs × Int)) (all : Bool) : Prop := ∃ E mv mn O, TabAt w tb X E M all mv mn O ∧ E.map (fun e => e.2.v) = L

section
variable {w w' : World} {tb : Nat} {X : List Nat} {E : List (Bs × KE)} {M : List (Bs × Int)} {all : Bool} {mv mn : Option Nat} {O : Bs → List Nat} {L : List Jp.V}
theorem Grown.block (h : Grown w E O) (hb : ∀ e ∈ E, e.2.g ≠ none → ∀ i ∈ O e.1, w'.heap[i]? = w.heap[i]?) : Grown w' E O :=
  ⟨fun e he b hg => by
    obtain ⟨pv, bv, hB⟩ := h.at_ e he b hg
    exact ⟨pv, bv, hB.block (hb e he (by rw [hg]; simp))⟩, h.apart⟩
theorem Grown.ltO (h : Grown w E O) : ∀ e ∈ E, e.2.g ≠ none → ∀ i ∈ O e.1, i < w.heap.size := fun e he hg i hi => by
  cases hq : e.2.g with
  | none => exact absurd hq hg
  | some b =>
    obtain ⟨pv, bv, hB⟩ := h.at_ e he b hq
    exact hB.ltO i hi
/-- Such blocks are no tables and no maps. -/
theorem Grown.kind (h : Grown w E O) : ∀ e ∈ E, e.2.g ≠ none → ∀ i ∈ O e.1, ∃ cs T fz, w.heap[i]? = some (.cells cs T fz) ∧ T ≠ PT := fun e he hg i hi => by
  cases hq : e.2.g with
  | none => exact absurd hq hg
  | some b =>
    obtain ⟨pv, bv, hB⟩ := h.at_ e he b hq
    obtain ⟨cs, T, fz, h1, h2⟩ := hB.cells_of i hi
    refine ⟨cs, T, fz, h1, ?_⟩
    rcases h2 with rfl | rfl <;> decide
theorem TabAt.lt (h : TabAt w tb X E M all mv mn O) : tb < w.heap.size := (Array.getElem?_eq_some_iff.1 h.cells).1
theorem TabAt.c0 (h : TabAt w tb X E M all mv mn O) : w.cell? ⟨tb, 0, none⟩ = some (.map mv) := cell_at h.cells rfl
theorem TabAt.c1 (h : TabAt w tb X E M all mv mn O) : w.cell? ⟨tb, 1, none⟩ = some (.map mn) := cell_at h.cells rfl
theorem TabAt.c2 (h : TabAt w tb X E M all mv mn O) : w.cell? ⟨tb, 2, none⟩ = some (.bool all) := cell_at h.cells rfl
theorem TabAt.block (h : TabAt w tb X E M all mv mn O) (hb : ∀ i ∈ X, i < w.heap.size → w'.heap[i]? = w.heap[i]?) : TabAt w' tb X E M all mv mn O :=
  ⟨(hb _ h.tX h.lt).trans h.cells, h.vars.block fun b e => hb b (h.vX b e) (h.vars.lt b e), h.named.block fun b e => hb b (h.nX b e) (h.named.lt b e), h.ne, h.keys,
    h.grown.block fun e he hg i hi => hb i (h.oX e he hg i hi) (h.grown.ltO e he hg i hi), h.tX, h.vX, h.nX, h.oX⟩
theorem TabAt.kept {Y : List Nat} (h : TabAt w tb X E M all mv mn O) (hk : Kept Y w w') (hx : ∀ i ∈ X, i ∉ Y) : TabAt w' tb X E M all mv mn O := h.block fun i hi hl => hk.block i hl (hx i hi)
theorem TabAt.below (h : TabAt w tb X E M all mv mn O) (hk : Below w.heap.size w w') : TabAt w' tb X E M all mv mn O := h.block fun i _ hl => hk.block i hl
theorem Tab.kept {Y : List Nat} (h : Tab w tb X L M all) (hk : Kept Y w w') (hx : ∀ i ∈ X, i ∉ Y) : Tab w' tb X L M all := by
  obtain ⟨E, mv, mn, O, h, e⟩ := h
  exact ⟨E, mv, mn, O, h.kept hk hx, e⟩
theorem Tab.below (h : Tab w tb X L M all) (hk : Below w.heap.size w w') : Tab w' tb X L M all := by
  obtain ⟨E, mv, mn, O, h, e⟩ := h
  exact ⟨E, mv, mn, O, h.below hk, e⟩
end
end Go.Proofs.YtpliljcjjffipaaGreatDoor.Jw
