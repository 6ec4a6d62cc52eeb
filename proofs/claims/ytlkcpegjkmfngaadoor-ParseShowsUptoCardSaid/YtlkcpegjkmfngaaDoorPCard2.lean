/-
  The statement ParseShowsUptoCardSaid: for every list of commands that can be read, and that holds at most 1048576 values and letters, flatironlaw06.ParseShows returns true and leaves what it was handed as it was. Conditions: that bound; the listed variables (two tables of unicode/utf8, the program's own table lex.marks) read as the program's own text lays them (the card ties them to that text; the tie is given).
-/
import Derived.Test.YtlkcpegjkmfngaaDoorCards
import Derived.Test.YtlkcpegjkmfngaaDoorTie
import Derived.ProofKit
import Derived.OpenShut
import Derived.SizedLaws
import Derived.ChangeMaps5
import Derived.Deep.DeepHandedRow
import Derived.Deep.Slices
import Derived.Lib.LaidTab
import Derived.MakeChecks
import Derived.FnData
import Derived.Test.YtlkcpegjkmfngaaDoorPLaw2
namespace Go.Proofs.YtlkcpegjkmfngaaDoor.parseshows
open Go.ChangeShapes Go.WideShapes Go.ChangeAt Go.RowKit
open Go.ChangeMaps (open_string shut_string)

theorem own : ownKnob Tryd.prog.godebug = none := by kernel_rfl
theorem laidOut : laidOutB Tryd.prog = true := by kernel_rfl

/-- A world for the witness: the settled one, the two tables holding what their initialisers lay. -/
noncomputable def laidWorld (os : Os) : World :=
  let w0 := World.holding Tryd.prog os ⟨#[], #[], []⟩
  let put (h : Array Obj) (g : Nat) (cs : Array Value) : Array Obj := h.modify g fun
    | .cells _ t frozen => .cells cs t frozen
    | o => o
  let h1 := put w0.heap 2 (Go.Pinned.utf8FirstZ.map fun (z : Nat) => Value.int .u8 (z : Int)).toArray
  let h2 := put h1 3 (([(128, 191), (160, 191), (128, 159), (144, 191), (128, 143)] ++ List.replicate 11 ((0 : Int), (0 : Int))).flatMap fun (x : Int × Int) => [Value.int .u8 x.1, Value.int .u8 x.2]).toArray
  let h3 := put h2 0 #[.string ⟨#[]⟩, .string ⟨#[59]⟩, .string ⟨#[38, 38]⟩, .string ⟨#[124, 124]⟩, .string ⟨#[62]⟩, .string ⟨#[62, 62]⟩, .string ⟨#[60]⟩]
  { w0 with heap := h3 }
theorem laid_met (os : Os) (args : Array Value) : laidMet Tryd.prog Rows.parseShowsUptoRow.laid ((laidWorld os).forCall (fun _ _ => 0) ⟨#[], args, []⟩).memory :=
  laidMet_of_run' 8 (by kernel_rfl) (by kernel_rfl)
theorem reads (os : Os) {H : Type} (enc : TypeId × Value → H) : ∃ places, DataW.whole enc Tryd.prog ((laidWorld os).forCall (fun _ _ => 0) ⟨#[], #[.slice none 0 0], []⟩).memory Tryd.f4.params.toList Rows.parseShowsSpec.vars false #[Value.slice none 0 0].toList 8 = some ([.nil], [], places) :=
  ⟨[], by kernel_rfl⟩

theorem marks_data : (Rows.laid_flatiron_lex_marks : DataW Unit) = .agg ((List.range 7).map fun k => .lit (.string (Lp.markT k))) := by kernel_rfl
theorem mark_cell {W : World} (h : laidMetH Tryd.prog Rows.parseShowsUptoRow.laid W) {k : Nat} (hk : k < 7) : W.cell? ⟨0, k, none⟩ = some (.string (Lx.str (Lp.markT k))) := by
  rw [MakeChecks.laidMetH_plain _ _ _ (by kernel_rfl)] at h
  obtain ⟨ps, ⟨_, _, _, _, _, _, _, _, _, _, ⟨g, t, cs, fuel, p, q, hg, ht, hv, hd, _, _⟩, _⟩, _, _⟩ := h
  obtain rfl := Option.some.inj ((show Tryd.prog.globalNamed "flatiron/lex.marks" = some 0 by kernel_rfl).symm.trans hg)
  obtain rfl := Option.some.inj ((show (Tryd.prog.globals[0]?).map (·.type) = some 85 by kernel_rfl).symm.trans ht)
  obtain ⟨xs, m, _, ex, _, hl, hel⟩ := DataW.trod_array Tryd.underlying85 hd
  have c5 : Tryd.prog.cellsOf 9 = 1 := by kernel_rfl
  have hE := hel k hk
  rw [c5, Nat.mul_one, List.getElem?_eq_getElem (by omega)] at hE
  obtain ⟨z, e1, e2, _⟩ := DataW.trod_string Tryd.underlying9 hE
  have e3 : (xs.map (·.1)) = (List.range 7).map fun k => (DataW.lit (.string (Lp.markT k)) : DataW Unit) := by
    have := (Prod.mk.inj ex).1
    rw [marks_data] at this
    exact (DataW.agg.inj this).symm
  have e4 : (xs.map (·.1))[k]? = ((List.range 7).map fun k => (DataW.lit (.string (Lp.markT k)) : DataW Unit))[k]? := by rw [e3]
  rw [List.getElem?_map, List.getElem?_map, List.getElem?_eq_getElem (by omega : k < xs.length), List.getElem?_range hk, e2] at e4
  have hz : z.data.toList = Lp.markT k := by
    simp only [Option.map_some, Option.some.injEq, DataW.lit.injEq, Lit.string.injEq] at e4
    exact e4
  have hz2 : z = Lx.str (Lp.markT k) := Lx.by8_ext (by rw [Lx.by8_str]; exact hz)
  rw [World.var?_cell hg hv k, ← hz2]
  have : cs.toList[k]? = some (.string z) := by
    have h0 : ((cs.toList.drop k).take 1)[0]? = some (.string z) := by rw [e1]; rfl
    simpa using h0
  simpa using this
theorem max_cell {W : World} (h : W.ShapedOpen Tryd.prog) : ∃ m, W.cell? ⟨1, 0, none⟩ = some (.int .i64 m) :=
  Go.Proofs.cell_of_shapedOpen_int (zero := #[.int .i64 0]) (t := 3) h (of_decide_eq_true (by kernel_rfl)) (by kernel_rfl) rfl (by kernel_rfl) (by kernel_rfl) Tryd.underlying3

theorem cellsS : Tryd.prog.cellsOf 9 = 1 := by kernel_rfl
theorem cellsK : Tryd.prog.cellsOf 36 = 1 := by kernel_rfl
theorem cellsLS : Tryd.prog.cellsOf 37 = 1 := by kernel_rfl
theorem cellsLT : Tryd.prog.cellsOf 38 = 1 := by kernel_rfl
theorem cellsT : Tryd.prog.cellsOf 42 = 2 := by kernel_rfl
theorem cellsC : Tryd.prog.cellsOf 40 = 3 := by kernel_rfl

theorem bulk_all {H : Type} {α : Type} (f : α → DataW H) (g : α → Nat) (hfg : ∀ x, g x ≤ Rows.uptoBulk (f x)) : ∀ l : List α, (l.map g).sum ≤ Rows.uptoBulkAll (l.map f)
  | [] => Nat.zero_le _
  | x :: r => by
    have h1 := bulk_all f g hfg r
    have h2 := hfg x
    simp only [List.map_cons, List.sum_cons, Rows.uptoBulkAll]
    omega
theorem range_map {H : Type} {α : Type} {f : α → DataW H} {D : Nat → DataW H} {l : List α} (h : ∀ j (h : j < l.length), D j = f l[j]) : (List.range l.length).map D = l.map f := by
  refine List.ext_getElem (by simp) fun j h1 h2 => ?_
  have hj : j < l.length := by simpa using h2
  simp [h j hj]
theorem list_of {α : Type} {Q : Nat → α → Prop} : ∀ (n : Nat), (∀ i, i < n → ∃ x, Q i x) → ∃ l : List α, l.length = n ∧ ∀ j (h : j < l.length), Q j l[j]
  | 0, _ => ⟨[], rfl, fun j h => by cases h⟩
  | n + 1, h => by
    obtain ⟨l, hl, hq⟩ := list_of n fun i hi => h i (by omega)
    obtain ⟨x, hx⟩ := h n (by omega)
    refine ⟨l ++ [x], by simp [hl], fun j hj => ?_⟩
    rcases Nat.lt_or_ge j l.length with h1 | h1
    · rw [List.getElem_append_left h1]; exact hq j h1
    · have e : j = n := by rw [List.length_append, List.length_singleton] at hj; omega
      subst e
      rw [List.getElem_append_right h1]
      simpa [hl] using hx
theorem rg_mk {W : World} {a : Addr} {len cap : Nat} {xs : List Value} (hl : len ≤ cap) (hx : ∀ j u, xs[j]? = some u → W.cell? (a.add j) = some u) (hn : 0 < len → 0 < xs.length) : Px.Rg W (· < W.heap.size) (.slice (some a) len cap) len xs := by
  refine ⟨some a, cap, rfl, hl, ?_⟩
  rcases Nat.eq_zero_or_pos len with h0 | h0
  · exact .inl h0
  · have h1 := hx 0 xs[0] (List.getElem?_eq_getElem (hn h0))
    obtain ⟨b, off, spot⟩ := a
    have hspot : spot = none := by simpa [Addr.add] using World.cell?_spot h1
    subst hspot
    have hbW : b < W.heap.size := by
      have := World.block_lt_of_cell? _ _ h1
      simpa [add_plain] using this
    refine .inr ⟨b, off, rfl, hbW, fun j u hj => ?_⟩
    have := hx j u hj
    simpa [add_plain] using this

section
variable {H : Type} {enc : TypeId × Value → H} {W : World}
/-- Texts that are read. -/
theorem strs_of {n : Nat} {v : Value} {x : DataW H × List MemPlace} (h : DataW.trod enc Tryd.prog W 0 (fun _ => true) true n 37 [v] = some x) :
    ∃ l : List Px.Bs, Px.Rg W (· < W.heap.size) v l.length (Px.strsC l) ∧ (l.map List.length).sum + l.length ≤ Rows.uptoBulk x.1 := by
  rcases Go.Deep.open_slice Tryd.underlying37 h with ⟨hcs, rfl⟩ | ⟨a, len, cap, m, k, D, Pl, hcs, _, hl, hm, hmm, rfl, hi⟩
  · simp at hcs
    subst hcs
    exact ⟨[], Px.Rg.nil _ _ _ _ _, Nat.zero_le _⟩
  · simp at hcs
    subst hcs
    simp only [if_true] at hmm
    subst hmm
    have each : ∀ i, i < len → ∃ s : Px.Bs, D i = .lit (.string s) ∧ W.cell? (a.add i) = some (.string (Lx.str s)) := fun i hil => by
      obtain ⟨cs', hc, ht'⟩ := hi i (by omega)
      rw [cellsS] at hc
      obtain ⟨_, hcl, hat⟩ := World.cells?_some hc
      match cs', hcl with
      | [c0], _ =>
        obtain ⟨s, e0, f0, _⟩ := DataW.trod_string Tryd.underlying9 ht'
        simp at e0
        subst e0
        refine ⟨Lx.by8 s, (Prod.mk.inj f0).1, ?_⟩
        have := hat 0 (by omega)
        rw [Go.Deep.add_add, Nat.mul_one, Nat.add_zero] at this
        rw [Lx.str_by8]; exact this
    obtain ⟨l, hll, hq⟩ := list_of len each
    subst hll
    refine ⟨l, rg_mk hl (fun j u hj => ?_) (fun h => by rw [Px.strsC_len]; exact h), ?_⟩
    · have hjl : j < l.length := by
        have := (List.getElem?_eq_some_iff.1 hj).1
        rwa [Px.strsC_len] at this
      rw [Px.strsC_get hjl] at hj
      cases hj
      exact (hq j hjl).2
    · have e := range_map (f := fun s => (DataW.lit (.string s) : DataW H)) fun j h => (hq j h).1
      have hb := bulk_all (H := H) (fun s : Px.Bs => (DataW.lit (.string s) : DataW H)) (fun s => s.length + 1) (fun s => by simp [Rows.uptoBulk]) l
      have hs : (l.map fun s : Px.Bs => s.length + 1).sum = (l.map List.length).sum + l.length := by
        clear hq e hb hi hl hm h each
        induction l with
        | nil => rfl
        | cons y r ih =>
          show (y.length + 1) + (r.map fun s : Px.Bs => s.length + 1).sum = (y.length + (r.map List.length).sum) + (r.length + 1)
          rw [ih]; omega
      rw [← e] at hb
      simp only [Rows.uptoBulk]
      omega
/-- Redirections that are read. -/
theorem tos_of {n : Nat} {v : Value} {x : DataW H × List MemPlace} (h : DataW.trod enc Tryd.prog W 0 (fun _ => true) true n 38 [v] = some x) :
    ∃ l : List Pp.G, Px.Rg W (· < W.heap.size) v l.length (Px.tgsC l) ∧ (l.map (·.p.length)).sum + l.length ≤ Rows.uptoBulk x.1 := by
  rcases Go.Deep.open_slice Tryd.underlying38 h with ⟨hcs, rfl⟩ | ⟨a, len, cap, m, k, D, Pl, hcs, _, hl, hm, hmm, rfl, hi⟩
  · simp at hcs
    subst hcs
    exact ⟨[], Px.Rg.nil _ _ _ _ _, Nat.zero_le _⟩
  · simp at hcs
    subst hcs
    simp only [if_true] at hmm
    subst hmm
    have each : ∀ i, i < len → ∃ g : Pp.G, D i = .agg [.lit (.int .i64 g.k), .lit (.string g.p)] ∧ W.cell? (a.add (i * 2)) = some (.int .i64 g.k) ∧ W.cell? (a.add (i * 2 + 1)) = some (.string (Lx.str g.p)) := fun i hil => by
      obtain ⟨cs', hc, ht'⟩ := hi i (by omega)
      rw [cellsT] at hc
      obtain ⟨_, hcl, hat⟩ := World.cells?_some hc
      match cs', hcl with
      | [c0, c1], _ =>
        obtain ⟨ys, n', _, hy, _, hyl, hf⟩ := DataW.trod_struct Tryd.underlying42 ht'
        have h0 : DataW.trod enc Tryd.prog W 0 (fun _ => true) true n' 36 (([c0, c1].drop 0).take (Tryd.prog.cellsOf 36)) = ys[0]? := hf 0 _ rfl
        have h1 : DataW.trod enc Tryd.prog W 0 (fun _ => true) true n' 9 (([c0, c1].drop 1).take (Tryd.prog.cellsOf 9)) = ys[1]? := hf 1 _ rfl
        rw [cellsK] at h0
        rw [cellsS] at h1
        match ys, hyl with
        | [y0, y1], _ =>
          obtain ⟨q, e0, f0, _⟩ := DataW.trod_int Tryd.underlying36 h0
          obtain ⟨s, e1, f1, _⟩ := DataW.trod_string Tryd.underlying9 h1
          simp at e0 e1 f0 f1
          subst e0 e1
          refine ⟨⟨q, Lx.by8 s⟩, ?_, ?_, ?_⟩
          · have : D i = .agg [y0.1, y1.1] := (Prod.mk.inj hy).1
            rw [this, f0, f1]; rfl
          · have := hat 0 (by omega)
            rw [Go.Deep.add_add] at this
            exact this
          · have := hat 1 (by omega)
            rw [Go.Deep.add_add] at this
            rw [Lx.str_by8]; exact this
    obtain ⟨l, hll, hq⟩ := list_of len each
    subst hll
    have hlen : (Px.tgsC l).length = l.length * 2 := by
      clear hq hi hl hm h each
      induction l with
      | nil => rfl
      | cons y r ih => show (Px.tgC y ++ Px.tgsC r).length = _; rw [List.length_append, ih]; simp [Px.tgC]; omega
    refine ⟨l, rg_mk hl (fun j u hj => ?_) (fun h => by rw [hlen]; omega), ?_⟩
    · have hj2 : j < l.length * 2 := by
        have := (List.getElem?_eq_some_iff.1 hj).1
        rwa [hlen] at this
      have hjl : j / 2 < l.length := by omega
      obtain ⟨g0, g1⟩ := Px.tgsC_get hjl
      obtain ⟨_, q0, q1⟩ := hq _ hjl
      rcases Nat.mod_two_eq_zero_or_one j with h2 | h2
      · have e : j = j / 2 * 2 := by omega
        rw [e] at hj ⊢
        rw [g0] at hj
        cases hj
        exact q0
      · have e : j = j / 2 * 2 + 1 := by omega
        rw [e] at hj ⊢
        rw [g1] at hj
        cases hj
        exact q1
    · have e := range_map (f := fun g : Pp.G => (DataW.agg [.lit (.int .i64 g.k), .lit (.string g.p)] : DataW H)) fun j h => (hq j h).1
      have hb := bulk_all (H := H) (fun g : Pp.G => (DataW.agg [.lit (.int .i64 g.k), .lit (.string g.p)] : DataW H)) (fun g => g.p.length + 1) (fun g => by simp [Rows.uptoBulk, Rows.uptoBulkAll]; omega) l
      have hs : (l.map fun g : Pp.G => g.p.length + 1).sum = (l.map (·.p.length)).sum + l.length := by
        clear hq e hb hi hl hm h hlen each
        induction l with
        | nil => rfl
        | cons y r ih => simp only [List.map_cons, List.sum_cons, List.length_cons, ih]; omega
      rw [← e] at hb
      simp only [Rows.uptoBulk]
      omega
/-- Commands that are read. -/
theorem cmds_of {n : Nat} {v : Value} {x : DataW H × List MemPlace} (h : DataW.trod enc Tryd.prog W 0 (fun _ => true) true n 23 [v] = some x) :
    ∃ X : List Px.CV, Px.Cs W (· < W.heap.size) v X ∧ Px.cnt (X.map Px.CV.c) + X.length ≤ Rows.uptoBulk x.1 := by
  rcases Go.Deep.open_slice Tryd.underlying23 h with ⟨hcs, rfl⟩ | ⟨a, len, cap, m, k, D, Pl, hcs, _, hl, hm, hmm, rfl, hi⟩
  · simp at hcs
    subst hcs
    exact ⟨[], ⟨Px.Rg.nil _ _ _ _ _, fun x hx => by cases hx⟩, Nat.zero_le _⟩
  · simp at hcs
    subst hcs
    simp only [if_true] at hmm
    subst hmm
    have each : ∀ i, i < len → ∃ x : Px.CV × DataW H, D i = x.2 ∧ Px.In W (· < W.heap.size) x.1 ∧ x.1.c.num + x.1.c.sumW + 1 ≤ Rows.uptoBulk x.2 ∧ W.cell? (a.add (i * 3)) = some (.int .i64 x.1.c.on) ∧ W.cell? (a.add (i * 3 + 1)) = some x.1.vw ∧ W.cell? (a.add (i * 3 + 2)) = some x.1.vt := fun i hil => by
      obtain ⟨cs', hc, ht'⟩ := hi i (by omega)
      rw [cellsC] at hc
      obtain ⟨_, hcl, hat⟩ := World.cells?_some hc
      match cs', hcl with
      | [c0, c1, c2], _ =>
        obtain ⟨ys, n', _, hy, _, hyl, hf⟩ := DataW.trod_struct Tryd.underlying40 ht'
        have h0 : DataW.trod enc Tryd.prog W 0 (fun _ => true) true n' 36 (([c0, c1, c2].drop 0).take (Tryd.prog.cellsOf 36)) = ys[0]? := hf 0 _ rfl
        have h1 : DataW.trod enc Tryd.prog W 0 (fun _ => true) true n' 37 (([c0, c1, c2].drop 1).take (Tryd.prog.cellsOf 37)) = ys[1]? := hf 1 _ rfl
        have h2 : DataW.trod enc Tryd.prog W 0 (fun _ => true) true n' 38 (([c0, c1, c2].drop 2).take (Tryd.prog.cellsOf 38)) = ys[2]? := hf 2 _ rfl
        rw [cellsK] at h0
        rw [cellsLS] at h1
        rw [cellsLT] at h2
        match ys, hyl with
        | [y0, y1, y2], _ =>
          obtain ⟨q, e0, f0, _⟩ := DataW.trod_int Tryd.underlying36 h0
          simp at e0 f0
          subst e0
          obtain ⟨ws, r1, b1⟩ := strs_of (v := c1) (x := y1) h1
          obtain ⟨gs, r2, b2⟩ := tos_of (v := c2) (x := y2) h2
          refine ⟨⟨⟨⟨q, ws, gs⟩, c1, c2⟩, D i⟩, rfl, ⟨r1, r2⟩, ?_, ?_, ?_, ?_⟩
          · have : D i = .agg [y0.1, y1.1, y2.1] := (Prod.mk.inj hy).1
            show (ws.length + gs.length) + ((ws.map List.length).sum + (gs.map (·.p.length)).sum) + 1 ≤ Rows.uptoBulk (D i)
            rw [this]
            simp only [Rows.uptoBulk, Rows.uptoBulkAll]
            omega
          · have := hat 0 (by omega)
            rw [Go.Deep.add_add] at this
            exact this
          · have := hat 1 (by omega)
            rw [Go.Deep.add_add] at this
            exact this
          · have := hat 2 (by omega)
            rw [Go.Deep.add_add] at this
            exact this
    obtain ⟨l, hll, hq⟩ := list_of len each
    subst hll
    have hlen : (Px.cvsC (l.map (·.1))).length = l.length * 3 := by
      clear hq hi hl hm h each
      induction l with
      | nil => rfl
      | cons y r ih => show (Px.cvC y.1 ++ Px.cvsC (r.map (·.1))).length = _; rw [List.length_append, ih]; simp [Px.cvC]; omega
    refine ⟨l.map (·.1), ⟨?_, fun x hx => ?_⟩, ?_⟩
    · rw [List.length_map]
      refine rg_mk hl (fun j u hj => ?_) (fun h => by rw [hlen]; omega)
      have hj2 : j < l.length * 3 := by
        have := (List.getElem?_eq_some_iff.1 hj).1
        rwa [hlen] at this
      have hjl : j / 3 < l.length := by omega
      obtain ⟨g0, g1, g2⟩ := Px.cvsC_get (l := l.map (·.1)) (k := j / 3) (by rw [List.length_map]; exact hjl)
      rw [List.getElem_map] at g0 g1 g2
      obtain ⟨_, _, _, q0, q1, q2⟩ := hq _ hjl
      have h3 : j % 3 = 0 ∨ j % 3 = 1 ∨ j % 3 = 2 := by omega
      rcases h3 with h3 | h3 | h3
      · have e : j = j / 3 * 3 := by omega
        rw [e] at hj ⊢
        rw [g0] at hj
        cases hj
        exact q0
      · have e : j = j / 3 * 3 + 1 := by omega
        rw [e] at hj ⊢
        rw [g1] at hj
        cases hj
        exact q1
      · have e : j = j / 3 * 3 + 2 := by omega
        rw [e] at hj ⊢
        rw [g2] at hj
        cases hj
        exact q2
    · obtain ⟨y, hy, rfl⟩ := List.mem_map.1 hx
      obtain ⟨j, hj, rfl⟩ := List.getElem_of_mem hy
      exact (hq j hj).2.1
    · have e := range_map (f := fun x : Px.CV × DataW H => x.2) fun j h => (hq j h).1
      have hb : ∀ r : List (Px.CV × DataW H), (∀ x ∈ r, x.1.c.num + x.1.c.sumW + 1 ≤ Rows.uptoBulk x.2) → Px.cnt ((r.map (·.1)).map Px.CV.c) + (r.map (·.1)).length ≤ Rows.uptoBulkAll (r.map fun x => x.2) := by
        intro r
        induction r with
        | nil => intro _; exact Nat.zero_le _
        | cons y r ih =>
          intro hr
          have h1 := ih fun x hx => hr x (List.mem_cons_of_mem _ hx)
          have h2 := hr y (by simp)
          have e3 : Px.cnt (((y :: r).map (·.1)).map Px.CV.c) = (y.1.c.num + y.1.c.sumW) + Px.cnt ((r.map (·.1)).map Px.CV.c) := by
            show Px.cnt ([y.1.c] ++ _) = _
            rw [Px.cnt_app, Px.cnt_one]
          rw [e3]
          simp only [List.map_cons, List.length_cons, Rows.uptoBulkAll]
          omega
      have hb := hb l fun x hx => by
        obtain ⟨j, hj, rfl⟩ := List.getElem_of_mem hx
        exact (hq j hj).2.2.1
      rw [← e] at hb
      simp only [Rows.uptoBulk]
      omega
end

set_option maxRecDepth 100000 in
theorem contract (H : Type) (enc : TypeId × Value → H) (W : World) (base : Nat) (args : Array Value) (ds gs : List (DataW H)) (before : List MemPlace)
    (hval : ∀ (j : Nat) t v, Tryd.f4.params[j]? = some t → args[j]? = some v → Value.okWide Tryd.prog W .any base t v)
    (hW : DataW.Whole enc Tryd.prog Tryd.f4.params.toList Rows.parseShowsSpec.vars false W args.toList ds gs before)
    (hbk : Rows.uptoBulkAll (ds ++ gs) ≤ 1048576) (hL : laidMetH Tryd.prog Rows.parseShowsUptoRow.laid W) (hsh : W.ShapedOpen Tryd.prog) :
    Calls Tryd.prog 4 args W fun e W' => ∃ v, e = .returned v ∧ Rows.parseShowsSpec.post enc Tryd.prog Tryd.f4 false true false false W args v W' := by
  have hW' := hW
  obtain ⟨p, q, hA0, hV, rfl, hfz, hnd⟩ := hW
  have hA : DataW.TrodAll enc Tryd.prog W 0 (fun _ => true) true Tryd.f4.params.toList args.toList ds p := hA0
  rw [Tryd.params4] at hA hval
  obtain ⟨v0, vs0, d0, ds0, p0, q0, hargs, rfl, rfl, h0, r0⟩ := trodAll_cons hA
  obtain ⟨rfl, rfl, rfl⟩ := trodAll_nil r0
  obtain rfl : args = #[v0] := by cases args; simp_all
  obtain ⟨rfl, rfl⟩ := trodVars_none hV
  obtain ⟨a0, len0, cap0, rfl⟩ := okWide_slice Tryd.underlying23 (hval 0 23 v0 rfl rfl)
  have h0k := h0
  obtain ⟨fuel0, hf0⟩ := h0
  clear hA0
  have hlt : ∀ x ∈ p0 ++ [], x.block < W.heap.size := fun x hx => hW'.lt x (by simpa using hx)
  have fin : ∀ W', Below W.heap.size W W' → Rows.parseShowsSpec.post enc Tryd.prog Tryd.f4 false true false false W #[.slice a0 len0 cap0] (.bool true) W' := by
    intro W' hnx
    refine ⟨_, _, _, [], p0 ++ [], [], hW', trodAll_mk1 (shut_bool Tryd.underlying4 _), ?_, rfl, hnx.frame _, fun h => by cases h⟩
    have t0 := Below.trod laidOut (by kernel_rfl) (of_decide_eq_true (by kernel_rfl)) h0k hnx (fun x hx => hlt x (by simp [hx]))
    exact trodAll_mk1 (by rw [List.append_nil]; exact t0)
  have hf0' : DataW.trod enc Tryd.prog W 0 (fun _ => true) true fuel0 23 [.slice a0 len0 cap0] = some (d0, p0) := by simpa [Value.cells] using hf0
  obtain ⟨X, hX, hbX⟩ := cmds_of hf0'
  have hG : Lx.Glob W := ⟨fun k hk => mark_cell hL hk, max_cell hsh⟩
  have hbd : Px.cnt (X.map Px.CV.c) + X.length ≤ 1048576 := by
    simp only [List.cons_append, Rows.uptoBulkAll] at hbk
    simp only at hbX
    omega
  obtain ⟨a1, c1, hs, _⟩ := hX.1.shape
  cases hs
  have walk : Calls Tryd.prog 4 #[.slice a0 X.length cap0] W fun e w' => e = .returned (.bool true) ∧ Below W.heap.size W w' := by
    by_cases hbig : 20 < X.length
    · exact Px.ParseShowsL_any W a0 X.length cap0 hbig (by omega) hG
    · exact Px.ParseShows_any W a0 cap0 X hX (by omega) (by omega) hG
  refine walk.mono fun e W' ⟨he, hnx⟩ => ?_
  subst he
  exact ⟨_, rfl, fin W' hnx⟩

set_option maxRecDepth 100000 in
theorem lifted (os : Os) (started : os.Started) (H : Type) (enc : TypeId × Value → H) (F : Stop.Interp) :
    ReturnsInHanded {} Tryd.checked os 4 .any ((Rows.OpenSpec.upto Rows.parseShowsSpec).preRow enc Tryd.prog Tryd.f4 Rows.parseShowsUptoRow.domain false Rows.parseShowsUptoRow.laid) (((Rows.OpenSpec.upto Rows.parseShowsSpec).at F).post enc Tryd.prog Tryd.f4 false true false false) := by
  obtain ⟨places, hx⟩ := reads os enc
  refine returnsInHanded_of_row (C := Tryd.checked) (s := Rows.OpenSpec.upto Rows.parseShowsSpec) own started (by kernel_rfl) Tryd.func4
    (witness_row_at (enc := enc) (C := Tryd.checked) false (laidWorld os) #[.slice none 0 0] rfl (by kernel_rfl) (by kernel_rfl) (by kernel_rfl)
      (OpenSpec.preRow_of_cond 8 hx (by kernel_rfl) (fun k hk => by cases hk; kernel_rfl) (by kernel_rfl) (laid_met os _))) ?_
  intro W base args ds gs before hval hW h2 hcond hsz hL hsh _
  exact contract H enc W base args ds gs before hval hW (of_decide_eq_true (hcond _ rfl)) hL hsh

theorem said : Rows.ParseShowsUptoSaid :=
  OpenClaim.holds_of_cond 4 Tryd.f4 rfl rfl rfl rfl rfl rfl rfl ⟨rfl, rfl, rfl, rfl, rfl⟩ rfl rfl rfl rfl rfl (by kernel_rfl) Tryd.func4 (by kernel_rfl)
    (of_decide_eq_true (by kernel_rfl)) (by unfold Func.isWrapper; first | (rw [if_pos (by decide +kernel)]; kernel_rfl) | (rw [if_neg (by decide +kernel)]; exact ⟨rfl, rfl⟩))
    (fun os started H enc _ F => by rw [OpenClaim.pre_eq_preRow]; exact lifted os started H enc F)

/-- No parameter wants a stand-in; the program's own looks are off. -/
theorem plain (f : FuncId) (fn : Func) (hf : Tryd.pinned.checked.prog.funcNamed "flatiron/flatironlaw06.ParseShows" = some f) (hfn : Tryd.pinned.checked.prog.funcs[f]? = some fn) :
    false = Tryd.pinned.checked.prog.looks [] ∧ ∀ (j : Nat) t, fn.params[j]? = some t → Tryd.pinned.checked.prog.wantsStandIn t = false := by
  obtain rfl : f = 4 := Option.some.inj ((show Tryd.prog.funcNamed "flatiron/flatironlaw06.ParseShows" = some 4 by kernel_rfl).symm.trans hf) |>.symm
  obtain rfl : fn = Tryd.f4 := (Option.some.inj (Tryd.func4.symm.trans hfn)).symm
  refine ⟨by kernel_rfl, fun j t ht => ?_⟩
  rw [Tryd.params4] at ht
  obtain rfl : t = 23 := by simpa using Array.mem_of_getElem? ht
  exact (show Tryd.prog.wantsStandIn 23 = false by kernel_rfl)

/-- The card. -/
theorem card : Rows.ParseShowsUptoCardSaid :=
  Claim7.holds_tied_plain_at .later [] _ _ _ _ said (fun _ h => by cases h) (by kernel_rfl) (fun _ h => by cases h) parseShowsUpto_row_tie rfl ⟨rfl, rfl⟩ (by kernel_rfl) rfl plain (by kernel_rfl)
end Go.Proofs.YtlkcpegjkmfngaaDoor.parseshows
