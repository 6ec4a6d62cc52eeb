/-
  The statement ShellArgsCardSaid: for every two strings and every list of commands that can be read, flatironlaw07.ShellArgs returns true and leaves what it was handed as it was. Conditions: the listed variables (two tables of unicode/utf8, the program's own table lex.marks) read as the program's own text lays them (the card ties them to that text; the tie is given).
-/
import Derived.Test.YtaolccibflniiaaGreatDoorCards
import Derived.Test.YtaolccibflniiaaGreatDoorTie
import Derived.ProofKit
import Derived.OpenShut
import Derived.SizedLaws
import Derived.ChangeMaps5
import Derived.Deep.DeepHandedRow
import Derived.Deep.Slices
import Derived.Lib.LaidTab
import Derived.MakeChecks
import Derived.FnData
import Derived.Test.YtaolccibflniiaaGreatDoorQHArgs
namespace Go.Proofs.YtaolccibflniiaaGreatDoor.shellargs
open Go.ChangeShapes Go.WideShapes Go.ChangeAt Go.RowKit
open Go.ChangeMaps (open_string shut_string)

theorem own : ownKnob Tryz.prog.godebug = none := by kernel_rfl
theorem laidOut : laidOutB Tryz.prog = true := by kernel_rfl

/-- A world for the witness: the settled one, the two tables holding what their initialisers lay. -/
noncomputable def laidWorld (os : Os) : World :=
  let w0 := World.holding Tryz.prog os ⟨#[], #[], []⟩
  let put (h : Array Obj) (g : Nat) (cs : Array Value) : Array Obj := h.modify g fun
    | .cells _ t frozen => .cells cs t frozen
    | o => o
  let h1 := put w0.heap 2 (Go.Pinned.utf8FirstZ.map fun (z : Nat) => Value.int .u8 (z : Int)).toArray
  let h2 := put h1 3 (([(128, 191), (160, 191), (128, 159), (144, 191), (128, 143)] ++ List.replicate 11 ((0 : Int), (0 : Int))).flatMap fun (x : Int × Int) => [Value.int .u8 x.1, Value.int .u8 x.2]).toArray
  let h3 := put h2 0 #[.string ⟨#[]⟩, .string ⟨#[59]⟩, .string ⟨#[38, 38]⟩, .string ⟨#[124, 124]⟩, .string ⟨#[62]⟩, .string ⟨#[62, 62]⟩, .string ⟨#[60]⟩]
  { w0 with heap := h3 }
theorem laid_met (os : Os) (args : Array Value) : laidMet Tryz.prog Rows.shellArgsRow.laid ((laidWorld os).forCall (fun _ _ => 0) ⟨#[], args, []⟩).memory :=
  laidMet_of_run' 8 (by kernel_rfl) (by kernel_rfl)
theorem reads (os : Os) {H : Type} (enc : TypeId × Value → H) : ∃ places, DataW.whole enc Tryz.prog ((laidWorld os).forCall (fun _ _ => 0) ⟨#[], #[.string ⟨#[]⟩, .string ⟨#[]⟩, .slice none 0 0], []⟩).memory Tryz.f5.params.toList Rows.shellArgsSpec.vars false #[Value.string ⟨#[]⟩, .string ⟨#[]⟩, .slice none 0 0].toList 8 = some ([.lit (.string []), .lit (.string []), .nil], [], places) :=
  ⟨[], by kernel_rfl⟩

theorem marks_data : (Rows.laid_flatiron_lex_marks : DataW Unit) = .agg ((List.range 7).map fun k => .lit (.string (Lp.markT k))) := by kernel_rfl
theorem mark_cell {W : World} (h : laidMetH Tryz.prog Rows.shellArgsRow.laid W) {k : Nat} (hk : k < 7) : W.cell? ⟨0, k, none⟩ = some (.string (Lx.str (Lp.markT k))) := by
  rw [MakeChecks.laidMetH_plain _ _ _ (by kernel_rfl)] at h
  obtain ⟨ps, ⟨_, _, _, _, _, _, _, _, _, _, ⟨g, t, cs, fuel, p, q, hg, ht, hv, hd, _, _⟩, _⟩, _, _⟩ := h
  obtain rfl := Option.some.inj ((show Tryz.prog.globalNamed "flatiron/lex.marks" = some 0 by kernel_rfl).symm.trans hg)
  obtain rfl := Option.some.inj ((show (Tryz.prog.globals[0]?).map (·.type) = some 159 by kernel_rfl).symm.trans ht)
  obtain ⟨xs, m, _, ex, _, hl, hel⟩ := DataW.trod_array Tryz.underlying159 hd
  have c5 : Tryz.prog.cellsOf 9 = 1 := by kernel_rfl
  have hE := hel k hk
  rw [c5, Nat.mul_one, List.getElem?_eq_getElem (by omega)] at hE
  obtain ⟨z, e1, e2, _⟩ := DataW.trod_string Tryz.underlying9 hE
  have e3 : (xs.map (·.1)) = (List.range 7).map fun k => (DataW.lit (.string (Lp.markT k)) : DataW Unit) := by
    have := (Prod.mk.inj ex).1
    rw [marks_data] at this
    exact (DataW.agg.inj this).symm
  have e4 : (xs.map (·.1))[k]? = ((List.range 7).map fun k => (DataW.lit (.string (Lp.markT k)) : DataW Unit))[k]? := by rw [e3]
  rw [List.getElem?_map, List.getElem?_map, List.getElem?_eq_getElem (by omega : k < xs.length), List.getElem?_range hk, e2] at e4
  have hz : z.data.toList = Lp.markT k := by
    simp only [Option.map_some, Option.some.injEq, DataW.lit.injEq, Lit.string.injEq] at e4
    exact e4
  have hz2 : z = Lx.str (Lp.markT k) := Lx.by8_ext (by rw [Lx.by8_str]; exact hz)
  rw [World.var?_cell hg hv k, ← hz2]
  have : cs.toList[k]? = some (.string z) := by
    have h0 : ((cs.toList.drop k).take 1)[0]? = some (.string z) := by rw [e1]; rfl
    simpa using h0
  simpa using this
theorem max_cell {W : World} (h : W.ShapedOpen Tryz.prog) : ∃ m, W.cell? ⟨1, 0, none⟩ = some (.int .i64 m) :=
  Go.Proofs.cell_of_shapedOpen_int (zero := #[.int .i64 0]) (t := 3) h (of_decide_eq_true (by kernel_rfl)) (by kernel_rfl) rfl (by kernel_rfl) (by kernel_rfl) Tryz.underlying3

theorem cellsS : Tryz.prog.cellsOf 9 = 1 := by kernel_rfl
theorem cellsK : Tryz.prog.cellsOf 78 = 1 := by kernel_rfl
theorem cellsLS : Tryz.prog.cellsOf 81 = 1 := by kernel_rfl
theorem cellsLT : Tryz.prog.cellsOf 82 = 1 := by kernel_rfl
theorem cellsT : Tryz.prog.cellsOf 104 = 2 := by kernel_rfl
theorem cellsC : Tryz.prog.cellsOf 84 = 3 := by kernel_rfl

theorem list_of {α : Type} {Q : Nat → α → Prop} : ∀ (n : Nat), (∀ i, i < n → ∃ x, Q i x) → ∃ l : List α, l.length = n ∧ ∀ j (h : j < l.length), Q j l[j]
  | 0, _ => ⟨[], rfl, fun j h => by cases h⟩
  | n + 1, h => by
    obtain ⟨l, hl, hq⟩ := list_of n fun i hi => h i (by omega)
    obtain ⟨x, hx⟩ := h n (by omega)
    refine ⟨l ++ [x], by simp [hl], fun j hj => ?_⟩
    rcases Nat.lt_or_ge j l.length with h1 | h1
    · rw [List.getElem_append_left h1]; exact hq j h1
    · have e : j = n := by rw [List.length_append, List.length_singleton] at hj; omega
      subst e
      rw [List.getElem_append_right h1]
      simpa [hl] using hx
theorem rg_mk {W : World} {a : Addr} {len cap : Nat} {xs : List Value} (hl : len ≤ cap) (hx : ∀ j u, xs[j]? = some u → W.cell? (a.add j) = some u) (hn : 0 < len → 0 < xs.length) : Px.Rg W (· < W.heap.size) (.slice (some a) len cap) len xs := by
  refine ⟨some a, cap, rfl, hl, ?_⟩
  rcases Nat.eq_zero_or_pos len with h0 | h0
  · exact .inl h0
  · have h1 := hx 0 xs[0] (List.getElem?_eq_getElem (hn h0))
    obtain ⟨b, off, spot⟩ := a
    have hspot : spot = none := by simpa [Addr.add] using World.cell?_spot h1
    subst hspot
    have hbW : b < W.heap.size := by
      have := World.block_lt_of_cell? _ _ h1
      simpa [add_plain] using this
    refine .inr ⟨b, off, rfl, hbW, fun j u hj => ?_⟩
    have := hx j u hj
    simpa [add_plain] using this

section
variable {H : Type} {enc : TypeId × Value → H} {W : World}
/-- Texts that are read. -/
theorem strs_of {n : Nat} {v : Value} {x : DataW H × List MemPlace} (h : DataW.trod enc Tryz.prog W 0 (fun _ => true) true n 81 [v] = some x) :
    ∃ l : List Px.Bs, Px.Rg W (· < W.heap.size) v l.length (Px.strsC l) ∧ l.length ≤ maxLen := by
  rcases Go.Deep.open_slice Tryz.underlying81 h with ⟨hcs, rfl⟩ | ⟨a, len, cap, m, k, D, Pl, hcs, _, hl, hm, hmm, rfl, hi⟩
  · simp at hcs
    subst hcs
    exact ⟨[], Px.Rg.nil _ _ _ _ _, Nat.zero_le _⟩
  · simp at hcs
    subst hcs
    simp only [if_true] at hmm
    subst hmm
    have each : ∀ i, i < len → ∃ s : Px.Bs, D i = .lit (.string s) ∧ W.cell? (a.add i) = some (.string (Lx.str s)) := fun i hil => by
      obtain ⟨cs', hc, ht'⟩ := hi i (by omega)
      rw [cellsS] at hc
      obtain ⟨_, hcl, hat⟩ := World.cells?_some hc
      match cs', hcl with
      | [c0], _ =>
        obtain ⟨s, e0, f0, _⟩ := DataW.trod_string Tryz.underlying9 ht'
        simp at e0
        subst e0
        refine ⟨Lx.by8 s, (Prod.mk.inj f0).1, ?_⟩
        have := hat 0 (by omega)
        rw [Go.Deep.add_add, Nat.mul_one, Nat.add_zero] at this
        rw [Lx.str_by8]; exact this
    obtain ⟨l, hll, hq⟩ := list_of len each
    subst hll
    refine ⟨l, rg_mk hl (fun j u hj => ?_) (fun h => by rw [Px.strsC_len]; exact h), ?_⟩
    · have hjl : j < l.length := by
        have := (List.getElem?_eq_some_iff.1 hj).1
        rwa [Px.strsC_len] at this
      rw [Px.strsC_get hjl] at hj
      cases hj
      exact (hq j hjl).2
    · exact Nat.le_trans hl hm
/-- Redirections that are read. -/
theorem tos_of {n : Nat} {v : Value} {x : DataW H × List MemPlace} (h : DataW.trod enc Tryz.prog W 0 (fun _ => true) true n 82 [v] = some x) :
    ∃ l : List Pp.G, Px.Rg W (· < W.heap.size) v l.length (Px.tgsC l) ∧ l.length ≤ maxLen := by
  rcases Go.Deep.open_slice Tryz.underlying82 h with ⟨hcs, rfl⟩ | ⟨a, len, cap, m, k, D, Pl, hcs, _, hl, hm, hmm, rfl, hi⟩
  · simp at hcs
    subst hcs
    exact ⟨[], Px.Rg.nil _ _ _ _ _, Nat.zero_le _⟩
  · simp at hcs
    subst hcs
    simp only [if_true] at hmm
    subst hmm
    have each : ∀ i, i < len → ∃ g : Pp.G, D i = .agg [.lit (.int .i64 g.k), .lit (.string g.p)] ∧ W.cell? (a.add (i * 2)) = some (.int .i64 g.k) ∧ W.cell? (a.add (i * 2 + 1)) = some (.string (Lx.str g.p)) := fun i hil => by
      obtain ⟨cs', hc, ht'⟩ := hi i (by omega)
      rw [cellsT] at hc
      obtain ⟨_, hcl, hat⟩ := World.cells?_some hc
      match cs', hcl with
      | [c0, c1], _ =>
        obtain ⟨ys, n', _, hy, _, hyl, hf⟩ := DataW.trod_struct Tryz.underlying104 ht'
        have h0 : DataW.trod enc Tryz.prog W 0 (fun _ => true) true n' 78 (([c0, c1].drop 0).take (Tryz.prog.cellsOf 78)) = ys[0]? := hf 0 _ rfl
        have h1 : DataW.trod enc Tryz.prog W 0 (fun _ => true) true n' 9 (([c0, c1].drop 1).take (Tryz.prog.cellsOf 9)) = ys[1]? := hf 1 _ rfl
        rw [cellsK] at h0
        rw [cellsS] at h1
        match ys, hyl with
        | [y0, y1], _ =>
          obtain ⟨q, e0, f0, _⟩ := DataW.trod_int Tryz.underlying78 h0
          obtain ⟨s, e1, f1, _⟩ := DataW.trod_string Tryz.underlying9 h1
          simp at e0 e1 f0 f1
          subst e0 e1
          refine ⟨⟨q, Lx.by8 s⟩, ?_, ?_, ?_⟩
          · have : D i = .agg [y0.1, y1.1] := (Prod.mk.inj hy).1
            rw [this, f0, f1]; rfl
          · have := hat 0 (by omega)
            rw [Go.Deep.add_add] at this
            exact this
          · have := hat 1 (by omega)
            rw [Go.Deep.add_add] at this
            rw [Lx.str_by8]; exact this
    obtain ⟨l, hll, hq⟩ := list_of len each
    subst hll
    have hlen : (Px.tgsC l).length = l.length * 2 := by
      clear hq hi hl hm h each
      induction l with
      | nil => rfl
      | cons y r ih => show (Px.tgC y ++ Px.tgsC r).length = _; rw [List.length_append, ih]; simp [Px.tgC]; omega
    refine ⟨l, rg_mk hl (fun j u hj => ?_) (fun h => by rw [hlen]; omega), ?_⟩
    · have hj2 : j < l.length * 2 := by
        have := (List.getElem?_eq_some_iff.1 hj).1
        rwa [hlen] at this
      have hjl : j / 2 < l.length := by omega
      obtain ⟨g0, g1⟩ := Px.tgsC_get hjl
      obtain ⟨_, q0, q1⟩ := hq _ hjl
      rcases Nat.mod_two_eq_zero_or_one j with h2 | h2
      · have e : j = j / 2 * 2 := by omega
        rw [e] at hj ⊢
        rw [g0] at hj
        cases hj
        exact q0
      · have e : j = j / 2 * 2 + 1 := by omega
        rw [e] at hj ⊢
        rw [g1] at hj
        cases hj
        exact q1
    · exact Nat.le_trans hl hm
/-- Commands that are read. -/
theorem cmds_of {n : Nat} {v : Value} {x : DataW H × List MemPlace} (h : DataW.trod enc Tryz.prog W 0 (fun _ => true) true n 37 [v] = some x) :
    ∃ X : List Px.CV, Px.Cs W (· < W.heap.size) v X ∧ X.length ≤ maxLen ∧ ∀ x ∈ X, x.c.ws.length ≤ maxLen ∧ x.c.to.length ≤ maxLen := by
  rcases Go.Deep.open_slice Tryz.underlying37 h with ⟨hcs, rfl⟩ | ⟨a, len, cap, m, k, D, Pl, hcs, _, hl, hm, hmm, rfl, hi⟩
  · simp at hcs
    subst hcs
    exact ⟨[], ⟨Px.Rg.nil _ _ _ _ _, fun x hx => by cases hx⟩, Nat.zero_le _, fun x hx => by cases hx⟩
  · simp at hcs
    subst hcs
    simp only [if_true] at hmm
    subst hmm
    have each : ∀ i, i < len → ∃ x : Px.CV × DataW H, D i = x.2 ∧ Px.In W (· < W.heap.size) x.1 ∧ (x.1.c.ws.length ≤ maxLen ∧ x.1.c.to.length ≤ maxLen) ∧ W.cell? (a.add (i * 3)) = some (.int .i64 x.1.c.on) ∧ W.cell? (a.add (i * 3 + 1)) = some x.1.vw ∧ W.cell? (a.add (i * 3 + 2)) = some x.1.vt := fun i hil => by
      obtain ⟨cs', hc, ht'⟩ := hi i (by omega)
      rw [cellsC] at hc
      obtain ⟨_, hcl, hat⟩ := World.cells?_some hc
      match cs', hcl with
      | [c0, c1, c2], _ =>
        obtain ⟨ys, n', _, hy, _, hyl, hf⟩ := DataW.trod_struct Tryz.underlying84 ht'
        have h0 : DataW.trod enc Tryz.prog W 0 (fun _ => true) true n' 78 (([c0, c1, c2].drop 0).take (Tryz.prog.cellsOf 78)) = ys[0]? := hf 0 _ rfl
        have h1 : DataW.trod enc Tryz.prog W 0 (fun _ => true) true n' 81 (([c0, c1, c2].drop 1).take (Tryz.prog.cellsOf 81)) = ys[1]? := hf 1 _ rfl
        have h2 : DataW.trod enc Tryz.prog W 0 (fun _ => true) true n' 82 (([c0, c1, c2].drop 2).take (Tryz.prog.cellsOf 82)) = ys[2]? := hf 2 _ rfl
        rw [cellsK] at h0
        rw [cellsLS] at h1
        rw [cellsLT] at h2
        match ys, hyl with
        | [y0, y1, y2], _ =>
          obtain ⟨q, e0, f0, _⟩ := DataW.trod_int Tryz.underlying78 h0
          simp at e0 f0
          subst e0
          obtain ⟨ws, r1, b1⟩ := strs_of (v := c1) (x := y1) h1
          obtain ⟨gs, r2, b2⟩ := tos_of (v := c2) (x := y2) h2
          refine ⟨⟨⟨⟨q, ws, gs⟩, c1, c2⟩, D i⟩, rfl, ⟨r1, r2⟩, ?_, ?_, ?_, ?_⟩
          · exact ⟨b1, b2⟩
          · have := hat 0 (by omega)
            rw [Go.Deep.add_add] at this
            exact this
          · have := hat 1 (by omega)
            rw [Go.Deep.add_add] at this
            exact this
          · have := hat 2 (by omega)
            rw [Go.Deep.add_add] at this
            exact this
    obtain ⟨l, hll, hq⟩ := list_of len each
    subst hll
    have hlen : (Px.cvsC (l.map (·.1))).length = l.length * 3 := by
      clear hq hi hl hm h each
      induction l with
      | nil => rfl
      | cons y r ih => show (Px.cvC y.1 ++ Px.cvsC (r.map (·.1))).length = _; rw [List.length_append, ih]; simp [Px.cvC]; omega
    refine ⟨l.map (·.1), ⟨?_, fun x hx => ?_⟩, by rw [List.length_map]; exact Nat.le_trans hl hm, fun x hx => ?_⟩
    · rw [List.length_map]
      refine rg_mk hl (fun j u hj => ?_) (fun h => by rw [hlen]; omega)
      have hj2 : j < l.length * 3 := by
        have := (List.getElem?_eq_some_iff.1 hj).1
        rwa [hlen] at this
      have hjl : j / 3 < l.length := by omega
      obtain ⟨g0, g1, g2⟩ := Px.cvsC_get (l := l.map (·.1)) (k := j / 3) (by rw [List.length_map]; exact hjl)
      rw [List.getElem_map] at g0 g1 g2
      obtain ⟨_, _, _, q0, q1, q2⟩ := hq _ hjl
      have h3 : j % 3 = 0 ∨ j % 3 = 1 ∨ j % 3 = 2 := by omega
      rcases h3 with h3 | h3 | h3
      · have e : j = j / 3 * 3 := by omega
        rw [e] at hj ⊢
        rw [g0] at hj
        cases hj
        exact q0
      · have e : j = j / 3 * 3 + 1 := by omega
        rw [e] at hj ⊢
        rw [g1] at hj
        cases hj
        exact q1
      · have e : j = j / 3 * 3 + 2 := by omega
        rw [e] at hj ⊢
        rw [g2] at hj
        cases hj
        exact q2
    · obtain ⟨y, hy, rfl⟩ := List.mem_map.1 hx
      obtain ⟨j, hj, rfl⟩ := List.getElem_of_mem hy
      exact (hq j hj).2.1
    · obtain ⟨y, hy, rfl⟩ := List.mem_map.1 hx
      obtain ⟨j, hj, rfl⟩ := List.getElem_of_mem hy
      exact (hq j hj).2.2.1
end

set_option maxRecDepth 100000 in
theorem contract (H : Type) (enc : TypeId × Value → H) (W : World) (base : Nat) (args : Array Value) (ds gs : List (DataW H)) (before : List MemPlace)
    (hval : ∀ (j : Nat) t v, Tryz.f5.params[j]? = some t → args[j]? = some v → Value.okWide Tryz.prog W .any base t v)
    (hW : DataW.Whole enc Tryz.prog Tryz.f5.params.toList Rows.shellArgsSpec.vars false W args.toList ds gs before)
    (hsz : (DataW.weightsEach Tryz.prog (Tryz.f5.params.toList ++ Rows.shellArgsSpec.plain.varTypes Tryz.prog) (ds ++ gs)).all (· ≤ reachBytes) = true) (hL : laidMetH Tryz.prog Rows.shellArgsRow.laid W) (hsh : W.ShapedOpen Tryz.prog) :
    Calls Tryz.prog 5 args W fun e W' => ∃ v, e = .returned v ∧ Rows.shellArgsSpec.post enc Tryz.prog Tryz.f5 false true false false W args v W' := by
  have hW' := hW
  obtain ⟨p, q, hA0, hV, rfl, hfz, hnd⟩ := hW
  have hA : DataW.TrodAll enc Tryz.prog W 0 (fun _ => true) true Tryz.f5.params.toList args.toList ds p := hA0
  rw [Tryz.params5] at hA hval hsz
  obtain ⟨v0, vs0, d0, ds0, p0, q0, hargs, rfl, rfl, h0, r0⟩ := trodAll_cons hA
  obtain ⟨v1, v2, d1, d2, p1, p2, hvs, rfl, rfl, h1, h2⟩ := trodAll_two (args := vs0.toArray) (by simpa using r0)
  obtain rfl : args = #[v0, v1, v2] := by
    have : vs0 = [v1, v2] := by simpa using congrArg Array.toList hvs
    rw [this] at hargs
    exact Array.toList_inj.1 hargs
  obtain ⟨rfl, rfl⟩ := trodVars_none hV
  obtain ⟨a, rfl, rfl, rfl, wa⟩ := open_string Tryz.underlying9 (hval 0 9 v0 rfl rfl) h0
  obtain ⟨b, rfl, rfl, rfl, wb⟩ := open_string Tryz.underlying9 (hval 1 9 v1 rfl rfl) h1
  obtain ⟨a0, len0, cap0, rfl⟩ := okWide_slice Tryz.underlying37 (hval 2 37 v2 rfl rfl)
  have h2k := h2
  obtain ⟨fuel0, hf0⟩ := h2
  clear hA0 h0 h1
  have e : reachBytes = 140737488351232 := rfl
  have sa : a.size ≤ 140737488355328 := by
    have := sized_string hsz (j := 0) (t := 9) (bytes := a.data.toList) rfl rfl
    rw [← Lib.size_eq] at this; omega
  have sb : b.size ≤ 140737488355328 := by
    have := sized_string hsz (j := 1) (t := 9) (bytes := b.data.toList) rfl rfl
    rw [← Lib.size_eq] at this; omega
  have hf0' : DataW.trod enc Tryz.prog W 0 (fun _ => true) true fuel0 37 [.slice a0 len0 cap0] = some (d2, p2) := by simpa [Value.cells] using hf0
  obtain ⟨X, hX, hXl, hXf⟩ := cmds_of hf0'
  have hG : Lx.Glob W := ⟨fun k hk => mark_cell hL hk, max_cell hsh⟩
  obtain ⟨a1, c1, hs, _⟩ := hX.1.shape
  cases hs
  have walk : Calls Tryz.prog 5 #[.string a, .string b, .slice a0 X.length cap0] W fun e w' => e = .returned (.bool true) ∧ Below W.heap.size W w' := by
    by_cases hbig : 100 < a.size ∨ 100 < b.size ∨ 20 < X.length
    · exact Hx.ShellArgsL_any W a b a0 X.length cap0 hG sa sb hXl hbig
    · exact Hx.ShellArgs_any W a b a0 cap0 X hG (by omega) (by omega) (by omega) hX ⟨by omega, hXf⟩
  refine walk.mono fun e W' ⟨he, hnx⟩ => ?_
  subst he
  have hlt : ∀ x ∈ p2, x.block < W.heap.size := fun x hx => hW'.lt x (by simp [hx])
  have t2 := Below.trod laidOut (by kernel_rfl) (of_decide_eq_true (by kernel_rfl)) h2k hnx (fun x hx => hlt x hx)
  exact ⟨_, rfl, _, _, _, [], _, [], hW', trodAll_mk1 (shut_bool Tryz.underlying4 _), trodAll_mk3 (shut_string Tryz.underlying9 wa) (shut_string Tryz.underlying9 wb) t2, rfl, hnx.frame _, fun h => by cases h⟩

set_option maxRecDepth 100000 in
theorem lifted (os : Os) (started : os.Started) (H : Type) (enc : TypeId × Value → H) (F : Stop.Interp) :
    ReturnsInHanded {} Tryz.checked os 5 .any ((OpenSpec.ofChange Rows.shellArgsSpec).preRow enc Tryz.prog Tryz.f5 Rows.shellArgsRow.domain false Rows.shellArgsRow.laid) (((OpenSpec.ofChange Rows.shellArgsSpec).at F).post enc Tryz.prog Tryz.f5 false true false false) := by
  obtain ⟨places, hx⟩ := reads os enc
  refine returnsInHanded_of_row (C := Tryz.checked) (s := OpenSpec.ofChange Rows.shellArgsSpec) own started (by kernel_rfl) Tryz.func5
    (witness_row_at (enc := enc) (C := Tryz.checked) false (laidWorld os) #[.string ⟨#[]⟩, .string ⟨#[]⟩, .slice none 0 0] rfl (by kernel_rfl) (by kernel_rfl) (by kernel_rfl)
      (OpenSpec.preRow_of_cond 8 hx (by kernel_rfl) (fun k hk => by cases hk) (by kernel_rfl) (laid_met os _))) ?_
  intro W base args ds gs before hval hW _ _ hsz hL hsh _
  exact contract H enc W base args ds gs before hval hW hsz hL hsh

theorem said : Rows.ShellArgsSaid :=
  OpenClaim.holds_of_cond 5 Tryz.f5 rfl rfl rfl rfl rfl rfl rfl ⟨rfl, rfl, rfl, rfl, rfl⟩ rfl rfl rfl rfl rfl (by kernel_rfl) Tryz.func5 (by kernel_rfl)
    (of_decide_eq_true (by kernel_rfl)) (by unfold Func.isWrapper; first | (rw [if_pos (by decide +kernel)]; kernel_rfl) | (rw [if_neg (by decide +kernel)]; exact ⟨rfl, rfl⟩))
    (fun os started H enc _ F => by rw [OpenClaim.pre_eq_preRow]; exact lifted os started H enc F)

/-- No parameter wants a stand-in; the program asks for its own looks. -/
theorem plain (f : FuncId) (fn : Func) (hf : Tryz.pinned.checked.prog.funcNamed "flatiron/flatironlaw07.ShellArgs" = some f) (hfn : Tryz.pinned.checked.prog.funcs[f]? = some fn) :
    true = Tryz.pinned.checked.prog.looks [] ∧ ∀ (j : Nat) t, fn.params[j]? = some t → Tryz.pinned.checked.prog.wantsStandIn t = false := by
  obtain rfl : f = 5 := Option.some.inj ((show Tryz.prog.funcNamed "flatiron/flatironlaw07.ShellArgs" = some 5 by kernel_rfl).symm.trans hf) |>.symm
  obtain rfl : fn = Tryz.f5 := (Option.some.inj (Tryz.func5.symm.trans hfn)).symm
  refine ⟨by kernel_rfl, fun j t ht => ?_⟩
  rw [Tryz.params5] at ht
  rcases (show t = 9 ∨ t = 37 by simpa using Array.mem_of_getElem? ht) with rfl | rfl
  · exact (show Tryz.prog.wantsStandIn 9 = false by kernel_rfl)
  · exact (show Tryz.prog.wantsStandIn 37 = false by kernel_rfl)

/-- The card. -/
theorem card : Rows.ShellArgsCardSaid :=
  Claim7.holds_tied_plain_at .later [] _ _ _ _ said (fun _ h => by cases h) (by kernel_rfl) (fun _ h => by cases h) shellArgs_row_tie rfl ⟨rfl, rfl⟩ (by kernel_rfl) rfl plain (by kernel_rfl)
end Go.Proofs.YtaolccibflniiaaGreatDoor.shellargs
