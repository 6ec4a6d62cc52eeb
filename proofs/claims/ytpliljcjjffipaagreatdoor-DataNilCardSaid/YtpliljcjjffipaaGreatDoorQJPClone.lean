/-
  flatironref11.Export.
  flatironref11.Export, whatever it is told.
  (*Table).Export.
  (*Table).exports, Exports.
  (*Table).Clone.
-/
import Derived.StillTailTactics
import Derived.Deep.RegionLaw
import Derived.Test.YtpliljcjjffipaaGreatDoorQJMore
import Derived.Test.YtpliljcjjffipaaGreatDoorQJPAll
import Derived.Deep.RegionHeld3
import Derived.Deep.DeepCutAuto
import Derived.Shelf.SlMaps.Clone
namespace Go.Proofs.YtpliljcjjffipaaGreatDoor.Jw
open Go.RowKit Go.Proofs.YtpliljcjjffipaaGreatDoor Go.Proofs.YtpliljcjjffipaaGreatDoor.Ww Go.Proofs.YtpliljcjjffipaaGreatDoor.Tw
set_option maxRecDepth 100000

theorem step_append_own {P : Program} {ops : Array Oper} {o : Oper} {a : Act} {w : World} {K : Act → World → Prop} {Q : Exit → Act → World → Prop} {E : Prop} (hgd : o.guard = none) (s x : Operand) (t : TypeId)
    (ho : o.op = .call { callee := .builtin .append, args := #[s, x], argTypes := #[t, t] })
    (base : Nat) (e : TypeId) (i : TypeInfo) (z : Value) (size bytes : Nat) (ht : P.underlying t = some (.slice e)) (hi : P.info? e = some i) (hz : i.zero = some z)
    (hsize : i.size = size) (hby : i.bytes = bytes) (hzs : z.cells.size = size) (hsz : 0 < size)
    (v : Value) (n : Nat) (xs : List Value) (hs : a.eval s = v) (hown : w.ownsRow base e size v n xs) (ad : Addr) (m c : Nat) (news : List Value) (hx : a.eval x = .slice (some ad) m c) (hl : news.length = m * size)
    (hnews : ∀ j u, news[j]? = some u → w.cell? (ad.add j) = some u) (h1 : ∀ u ∈ news, u.oneCell' = true)
    (h63 : n + m ≤ maxLen) (hbytes : (n + m) * bytes ≤ 140737488355328) (hbase : base ≤ w.heap.size)
    (h : ∀ v' w', w'.ownsRow base e size v' (n + m) (xs ++ news) → w.grownBy w' v.ownBlock → (v'.ownBlock = v.ownBlock ∨ v'.ownBlock = some w.heap.size) → K (a.put o.dst v') w') :
    if Region.wanted o (yielded ops a.tmps) = true then Oper.wp P o a w K Q else E := by
  rw [if_pos (by simp [Region.wanted, hgd])]
  obtain ⟨v', w', run, own, grew, _, hat⟩ := run_append_own_at (P := P) (w := w) base t o.type e i z size bytes ht hi hz hsize hby hzs hsz v n xs hown ad m c news hl hnews h1 h63 hbytes hbase
  unfold Oper.wp
  simp [execOp, ho, resolve, invoke, builtin, hs, hx, run, Result.andThen]
  exact h v' w' own grew hat

/-- Export's two boxes. -/
structure ExB (w : World) (t : Array Value) (W : World) : Prop where
  t : W.heap[w.heap.size]? = some (.cells t TT (0, 0))
  o : W.heap[w.heap.size + 1]? = some (.cells zeroT TT (0, 0))
  below : Below w.heap.size w W
theorem ExB.new (w : World) (t : Array Value) : ExB w t ((w.alloc (.cells t TT)).alloc (.cells zeroT TT)) := by
  have h1 := heap_last w (.cells t TT)
  have h2 := heap_last (w.alloc (.cells t TT)) (.cells zeroT TT)
  rw [World.size_alloc] at h2
  have B1 := (Below.refl (w.alloc (.cells t TT)).heap.size (w.alloc (.cells t TT))).alloc (Nat.le_refl _) (.cells zeroT TT)
  exact ⟨(B1.block _ (by simp)).trans h1, h2, ((Below.refl _ _).alloc (Nat.le_refl _) _).alloc (by simp) _⟩
theorem ExB.on {w W W' : World} {t : Array Value} (h : ExB w t W) (hB : Below W.heap.size W W') : ExB w t W' :=
  ⟨(hB.block _ (Array.getElem?_eq_some_iff.1 h.t).1).trans h.t, (hB.block _ (Array.getElem?_eq_some_iff.1 h.o).1).trans h.o, h.below.trans (hB.mono h.below.size)⟩
theorem ExB.put {w W : World} {t : Array Value} (h : ExB w t W) (i : Nat) (u : Value) : ExB w (t.setIfInBounds i u) (W.setCell ⟨w.heap.size, i, none⟩ u) :=
  ⟨heap_set h.t u, heap_set_ne h.o (by omega) u, h.below.setCell (p := ⟨w.heap.size, i, none⟩) (Nat.le_refl _) u⟩
theorem ExB.drew {w W : World} {t : Array Value} (h : ExB w t W) : ExB w t W.drew := ⟨h.t, h.o, h.below.drew⟩
theorem ExB.grown {w W W' : World} {t : Array Value} {row : Option Nat} (h : ExB w t W) (hg : W.grownBy W' row) (hr : ∀ k, row = some k → w.heap.size + 1 < k) : ExB w t W' :=
  ⟨(hg.block _ (Array.getElem?_eq_some_iff.1 h.t).1 (fun e => by have := hr _ e.symm; omega)).trans h.t, (hg.block _ (Array.getElem?_eq_some_iff.1 h.o).1 (fun e => by have := hr _ e.symm; omega)).trans h.o, h.below.grown hg h.below.size (fun k hk => by have := hr k hk; omega)⟩
theorem ExB.lt {w W : World} {t : Array Value} (h : ExB w t W) : w.heap.size < W.heap.size := (Array.getElem?_eq_some_iff.1 h.t).1
/-- What Export returns. -/
def ExPost (w : World) (lo : Nat) (vl : Value) (T : Jp.T) (e : Ending) (w' : World) : Prop :=
  ∃ a1 c1 a2 c2, e = .returned (.agg #[vl, .slice a1 T.yes.length c1, .slice a2 T.no.length c2, .bool T.all]) ∧ w'.ownsRow lo ST 1 (.slice a1 T.yes.length c1) T.yes.length (nC T.yes) ∧ w'.ownsRow lo ST 1 (.slice a2 T.no.length c2) T.no.length (nC T.no) ∧ Below w.heap.size w w'
def ERel (w : World) (lo : Nat) (vl : Value) (T0 : Jp.T) (yes : Bool) (L : List Bs) (N : Nat) (vi : Value) (wr : World) : Prop :=
  ∃ (i : Nat) (T : Jp.T) (a1 a2 : Option Addr) (c1 c2 : Nat), vi = .int .i64 i ∧ i ≤ L.length ∧ L.foldl (Jp.stepA yes) T0 = (L.drop i).foldl (Jp.stepA yes) T ∧
    ExB w #[vl, .slice a1 T.yes.length c1, .slice a2 T.no.length c2, .bool T.all] wr ∧ wr.ownsRow lo ST 1 (.slice a1 T.yes.length c1) T.yes.length (nC T.yes) ∧ wr.ownsRow lo ST 1 (.slice a2 T.no.length c2) T.no.length (nC T.no) ∧ T.yes.length ≤ N + i ∧ T.no.length ≤ N + i
end Go.Proofs.YtpliljcjjffipaaGreatDoor.Jw
namespace Go.Proofs.YtpliljcjjffipaaGreatDoor.Jw
open Go.RowKit Go.Proofs.YtpliljcjjffipaaGreatDoor Go.Proofs.YtpliljcjjffipaaGreatDoor.Ww Go.Proofs.YtpliljcjjffipaaGreatDoor.Tw
set_option maxRecDepth 100000

end Go.Proofs.YtpliljcjjffipaaGreatDoor.Jw
namespace Go.Proofs.YtpliljcjjffipaaGreatDoor.Jw
open Go.RowKit Go.Proofs.YtpliljcjjffipaaGreatDoor Go.Proofs.YtpliljcjjffipaaGreatDoor.Ww Go.Proofs.YtpliljcjjffipaaGreatDoor.Tw Go.Proofs.YtpliljcjjffipaaGreatDoor.Kw
set_option maxRecDepth 100000

/-- What was chosen, in words. -/
def chosen (yes : Bool) : Int := if yes = true then 1 else 2
def nameM (yes : Bool) (M : List (Bs × Int)) (k : Bs) : List (Bs × Int) := Kp.ins M (k, chosen yes)
section
variable {w w2 : World} {tb : Nat} {X : List Nat} {E : List (Bs × KE)} {M : List (Bs × Int)} {all : Bool} {mv mn : Option Nat} {O : Bs → List Nat}
theorem TabAt.turn (h : TabAt w tb X E M all mv mn O) {X2 : List Nat} {M2 : List (Bs × Int)} {all2 : Bool} {mn2 : Option Nat} (hc : w2.heap[tb]? = some (.cells #[.map mv, .map mn2, .bool all2] PT (0, 0))) (hn : MOpt CK w2 mn2 M2) (hne : ∀ b, mv = some b → mn2 ≠ some b)
    (hmn : ∀ b, mn2 = some b → b < w.heap.size → ∃ es ck, w.heap[b]? = some (.map es ck)) (hkeep : ∀ i, i < w.heap.size → i ≠ tb → mn2 ≠ some i → w2.heap[i]? = w.heap[i]?) (hX : ∀ i ∈ X, i ∈ X2) (hnX : ∀ b, mn2 = some b → b ∈ X2) : TabAt w2 tb X2 E M2 all2 mv mn2 O :=
  ⟨hc, h.vars.block fun b e => hkeep b (h.vars.lt b e) (fun e2 => h.vars.not_cells h.cells (e2 ▸ e)) (hne b e), hn, hne, h.keys,
    h.grown.block (fun e he hg i hi => (by
      obtain ⟨cs, T, fz, h1, h2⟩ := h.grown.kind e he hg i hi
      have hl := h.grown.ltO e he hg i hi
      refine hkeep i hl (fun e2 => ?_) (fun e2 => ?_)
      · rw [e2, h.cells] at h1; cases h1; exact h2 rfl
      · obtain ⟨es, ck, h3⟩ := hmn i e2 hl
        rw [h3] at h1; cases h1)),
    hX _ h.tX, fun b e => hX b (h.vX b e), hnX, fun e he hg i hi => hX i (h.oX e he hg i hi)⟩
theorem TabAt.name {bn : Nat} (h : TabAt w tb X E M all mv (some bn) O) {M2 : List (Bs × Int)} (hM : Kw.MapAt CK w2 bn M2) (ht : w.mapTurned w2 bn) : TabAt w2 tb X E M2 all mv (some bn) O := by
  have hg := ht.grown
  refine h.turn ((hg.block tb h.lt fun e => Kw.MapAt.not_cells h.named h.cells (Option.some.inj e).symm).trans h.cells) hM h.ne (fun b e _ => ?_) (fun i hi _ hn => hg.block i hi fun e => hn e.symm) (fun _ hi => hi) h.nX
  cases e
  exact Kw.MapAt.obj h.named
end

/-- What Export leaves. -/
def XPost (w : World) (tb : Nat) (X : List Nat) (L : List Jp.V) (M : List (Bs × Int)) (all : Bool) (e : Ending) (w' : World) : Prop :=
  e = .returned (.tuple #[]) ∧ ∃ X', Tab w' tb X' L M all ∧ Kept X w w' ∧ ∀ i ∈ X', i ∈ X ∨ w.heap.size ≤ i
def NRel (w : World) (tb : Nat) (X1 : List Nat) (E : List (Bs × KE)) (M : List (Bs × Int)) (all yes : Bool) (mv : Option Nat) (bn : Nat) (O : Bs → List Nat) (L : List Bs) (N : Nat) (vi : Value) (wr : World) : Prop :=
  ∃ (i : Nat) (M1 : List (Bs × Int)), vi = .int .i64 i ∧ i ≤ L.length ∧ L.foldl (nameM yes) M = (L.drop i).foldl (nameM yes) M1 ∧ TabAt wr tb X1 E M1 all mv (some bn) O ∧ Kept [tb, bn] w wr ∧ M1.length ≤ N + i
/-- What Export makes of what was chosen. -/
def exportM (M : List (Bs × Int)) (yes : Bool) (L : List Bs) : List (Bs × Int) := L.foldl (nameM yes) M
end Go.Proofs.YtpliljcjjffipaaGreatDoor.Jw
namespace Go.Proofs.YtpliljcjjffipaaGreatDoor.Jw
open Go.RowKit Go.Proofs.YtpliljcjjffipaaGreatDoor Go.Proofs.YtpliljcjjffipaaGreatDoor.Ww Go.Proofs.YtpliljcjjffipaaGreatDoor.Tw Go.Proofs.YtpliljcjjffipaaGreatDoor.Kw Go.Maps
set_option maxRecDepth 100000

/-- Is a variable exported? -/
def outP (M : List (Bs × Int)) (all : Bool) (v : Jp.V) : Bool := valA CK M v.n == 1 || (!(valA CK M v.n == 2) && (v.f == 1 || v.f == 3 || (v.f == 2 && all)))
def exportsP (L : List Jp.V) (M : List (Bs × Int)) (all : Bool) : List Jp.V := L.filter (outP M all)























































































































def PXRel (W : World) (M : List (Bs × Int)) (all : Bool) (L : List Jp.V) (vo vi : Value) (wr : World) : Prop :=
  ∃ (i : Nat) (q : List Jp.V) (a : Option Addr) (c : Nat), vi = .int .i64 i ∧ i ≤ L.length ∧ q = (L.take i).filter (outP M all) ∧ q.length ≤ i ∧ vo = .slice a q.length c ∧ wr.ownsRow W.heap.size PV 4 (.slice a q.length c) q.length (vsC q) ∧ Below W.heap.size W wr

















































































































end Go.Proofs.YtpliljcjjffipaaGreatDoor.Jw
namespace Go.Proofs.YtpliljcjjffipaaGreatDoor.Jw
open Go.RowKit Go.Proofs.YtpliljcjjffipaaGreatDoor Go.Proofs.YtpliljcjjffipaaGreatDoor.Ww Go.Proofs.YtpliljcjjffipaaGreatDoor.Tw Go.Proofs.YtpliljcjjffipaaGreatDoor.Kw Go.Maps Go.Shelf
set_option maxRecDepth 100000

theorem mapClone_any (w : World) {m : Option Nat} {L : List (Bs × Int)} (hM : MOpt CK w m L) :
    Calls Tryz.prog 67 #[.map m] w fun e w' => ∃ m2, e = .returned (.map m2) ∧ (∀ b, m2 = some b → w.heap.size ≤ b) ∧ MOpt CK w' m2 L ∧ Below w.heap.size w w' := by
  cases m with
  | none =>
    refine (AnyW.maps_Clone_nil Tryz.laysClone w).mono ?_
    rintro e w' ⟨he, rfl⟩
    exact ⟨none, he, fun b h => (by cases h), hM, Below.refl _ _⟩
  | some bm =>
    refine (AnyW.maps_Clone_owns Tryz.laysClone SK CK.elem bm _ _ w (Kw.MapAt.own hM)).mono ?_
    rintro e w' ⟨he, h1, _, h3⟩
    exact ⟨_, he, fun b h => by rw [← Option.some.inj h]; exact Nat.le_refl _, (⟨h1, Kw.MapAt.sorted hM⟩ : Kw.MapAt CK w' _ L), h3⟩
theorem run_makeMapH (n : Int) (w : World) : (Instr.makeMap MK (some (.int .i64 n))).run Tryz.prog w = .ok (.map (some w.heap.size)) (w.alloc (.map #[] 0)) := by
  simp [Instr.makeMap, run_underlying Tryz.underlying132, asInt, asIntOf, Result.andThen]
/-- The copy, before the loop. -/
structure Fresh (w : World) (M : List (Bs × Int)) (all : Bool) (cb bm : Nat) (nm : Option Nat) (W : World) : Prop where
  box : W.heap[cb]? = some (.cells #[.map (some bm), .map nm, .bool all] PT (0, 0))
  vars : Kw.MapAt KK W bm []
  named : MOpt CK W nm M
  ne : nm ≠ some bm
  cl : w.heap.size ≤ cb
  bl : w.heap.size ≤ bm
  nl : ∀ b, nm = some b → w.heap.size ≤ b
  below : Below w.heap.size w W
theorem Fresh.one {w W w3 : World} {M : List (Bs × Int)} {all : Bool} {nm : Option Nat} (hB : Below w.heap.size w W) (hn : MOpt CK w3 nm M) (hl : ∀ b, nm = some b → W.heap.size ≤ b) (B3 : Below W.heap.size W w3) :
    Fresh w M all (w3.heap.size + 1) w3.heap.size nm ((w3.alloc (.map #[] 0)).alloc (.cells #[.map (some w3.heap.size), .map nm, .bool all] PT)) := by
  have b1 := (Below.refl w3.heap.size w3).alloc (Nat.le_refl _) (.map #[] 0)
  have b2 := (Below.refl (w3.alloc (.map #[] 0)).heap.size (w3.alloc (.map #[] 0))).alloc (Nat.le_refl _) (.cells #[.map (some w3.heap.size), .map nm, .bool all] PT)
  have h1 := heap_last (w3.alloc (.map #[] 0)) (.cells #[.map (some w3.heap.size), .map nm, .bool all] PT)
  rw [World.size_alloc] at h1
  have hs := hB.size
  have hs3 := B3.size
  refine ⟨h1, (Kw.MapAt.new w3).below b2, (hn.below b1).below b2, fun e => Nat.lt_irrefl _ (hn.lt _ e), by omega, by omega, fun b e => Nat.le_trans hs (hl b e), ((hB.trans (B3.mono hs)).alloc (by omega) _).alloc (by simp; omega) _⟩
theorem Fresh.two {w w3 : World} {M : List (Bs × Int)} {all : Bool} {nm : Option Nat} {b0 : Nat} (hb : b0 = w.heap.size) (hn : MOpt CK w3 nm M) (hl : ∀ b, nm = some b → b0 < b) (hv : Kw.MapAt KK w3 b0 []) (hB : Below w.heap.size w w3) :
    Fresh w M all w3.heap.size b0 nm (w3.alloc (.cells #[.map (some b0), .map nm, .bool all] PT)) := by
  have b2 := (Below.refl w3.heap.size w3).alloc (Nat.le_refl _) (.cells #[.map (some b0), .map nm, .bool all] PT)
  exact ⟨heap_last _ _, hv.below b2, hn.below b2, fun e => Nat.lt_irrefl _ (hl _ e), hB.size, by omega, fun b e => by have := hl b e; omega, hB.alloc hB.size _⟩
/-- An entry without its builder. -/
def strip (e : Bs × KE) : Bs × KE := (e.1, ⟨e.2.v, none⟩)
/-- What is copied so far. -/
def Copied (E : List (Bs × KE)) (left : Lit → Bool) (E2 : List (Bs × KE)) : Prop := ∀ g, g ∈ E2 ↔ ∃ f ∈ E, left (.string f.1) = false ∧ g = strip f
theorem Copied.start (E : List (Bs × KE)) : Copied E (Maps.has (Kp.mapOf KK.enc E)) [] := by
  intro g
  constructor
  · intro h; cases h
  · rintro ⟨f, hf, h, _⟩
    rw [Kp.has_mapOf, Option.isSome_eq_false_iff, Option.isNone_iff_eq_none] at h
    exact absurd rfl (Kp.get_none.1 h f hf)
theorem Copied.step {E E2 : List (Bs × KE)} {left : Lit → Bool} (h : Copied E left E2) (hs : Kp.Sorted E) (hs2 : Kp.Sorted E2) {f : Bs × KE} (hf : f ∈ E) (hl : left (.string f.1) = true) :
    Copied E (fun z => left z && !z.sameKey (.string f.1)) (Kp.ins E2 (strip f)) := by
  intro g
  rw [Kp.mem_ins hs2 g]
  constructor
  · rintro (rfl | ⟨hg, hn⟩)
    · exact ⟨f, hf, by show (left (.string f.1) && !(f.1 == f.1)) = false; simp, rfl⟩
    · obtain ⟨f', hf', h1, rfl⟩ := (h g).1 hg
      exact ⟨f', hf', by show (left (.string f'.1) && _) = false; rw [h1]; rfl, rfl⟩
  · rintro ⟨f', hf', h1, rfl⟩
    by_cases e : f'.1 = f.1
    · obtain rfl := Kp.sorted_uni hs hf' hf e
      exact .inl rfl
    · refine .inr ⟨(h _).2 ⟨f', hf', ?_, rfl⟩, e⟩
      have h2 : (left (.string f'.1) && !(f'.1 == f.1)) = false := h1
      rw [show (f'.1 == f.1) = false by simpa using e] at h2
      simpa using h2
theorem Copied.all {E E2 : List (Bs × KE)} {left : Lit → Bool} (h : Copied E left E2) (hs : Kp.Sorted E) (hs2 : Kp.Sorted E2) (hl : ∀ kl, left kl = false) : E2 = E.map strip := by
  refine Kp.sorted_ext hs2 (List.pairwise_map.2 hs) fun g => ?_
  rw [h g, List.mem_map]
  constructor
  · rintro ⟨f, hf, _, rfl⟩; exact ⟨f, hf, rfl⟩
  · rintro ⟨f, hf, rfl⟩; exact ⟨f, hf, hl _, rfl⟩
/-- What Clone returns. -/
def CPost (w : World) (L : List Jp.V) (M : List (Bs × Int)) (all : Bool) (e : Ending) (w' : World) : Prop :=
  ∃ cb X', e = .returned (.pointer (some ⟨cb, 0, none⟩)) ∧ Tab w' cb X' L M all ∧ (∀ i ∈ X', w.heap.size ≤ i) ∧ Below w.heap.size w w'
theorem clone_done {w w' : World} {M : List (Bs × Int)} {all : Bool} {cb bm : Nat} {nm : Option Nat} {E : List (Bs × KE)} (hc : w'.heap[cb]? = some (.cells #[.map (some bm), .map nm, .bool all] PT (0, 0))) (hv : Kw.MapAt KK w' bm (E.map strip)) (hn : MOpt CK w' nm M) (hne : nm ≠ some bm) (cl : w.heap.size ≤ cb) (bl : w.heap.size ≤ bm) (nl : ∀ b, nm = some b → w.heap.size ≤ b)
    (hB : Below w.heap.size w w') (hk : ∀ e ∈ E, e.1 = e.2.v.n) : CPost w (E.map fun e => e.2.v) M all (.returned (.pointer (some ⟨cb, 0, none⟩))) w' := by
  have hg : ∀ e ∈ E.map strip, e.2.g = none := fun e he => by
    obtain ⟨f, _, rfl⟩ := List.mem_map.1 he
    rfl
  refine ⟨cb, cb :: bm :: nm.toList, rfl, ⟨E.map strip, some bm, nm, fun _ => [], ⟨hc, hv, hn, fun b e => (by cases e; exact hne), fun e he => ?_, ⟨fun e he b h => (by rw [hg e he] at h; cases h), fun e he e' _ _ h => absurd (hg e he) h⟩, by simp, fun b e => (by cases e; simp), fun b e => (by simp [e]), fun e he h => absurd (hg e he) h⟩, ?_⟩, fun i hi => ?_, hB⟩
  · obtain ⟨f, hf, rfl⟩ := List.mem_map.1 he
    exact hk f hf
  · rw [List.map_map]; rfl
  · rcases List.mem_cons.1 hi with rfl | hi
    · exact cl
    · rcases List.mem_cons.1 hi with rfl | hi
      · exact bl
      · exact nl i (by simpa using hi)
def CRel (w : World) (M : List (Bs × Int)) (all : Bool) (E : List (Bs × KE)) (cb bm : Nat) (nm : Option Nat) (bv r : Nat) (wr : World) : Prop :=
  ∃ (left : Lit → Bool) (cnt : Nat) (E2 : List (Bs × KE)), wr.ranges Tryz.prog SK KK.elem bv r E.length (Kp.mapOf KK.enc E) left cnt ∧ wr.heap[cb]? = some (.cells #[.map (some bm), .map nm, .bool all] PT (0, 0)) ∧ Kw.MapAt KK wr bm E2 ∧ MOpt CK wr nm M ∧ Copied E left E2 ∧ Below w.heap.size w wr ∧ E2.length + cnt ≤ E.length
theorem elemK (v : Value) (y : DataW Unit × List MemPlace) (h : KK.elem v = some y) : ∃ c : Jp.V × Option Addr, v = Value.agg #[.string (str c.1.n), .string (str c.1.x), .bool c.1.s, .int .i64 c.1.f, .pointer c.2] := by
  obtain ⟨e, rfl, _⟩ := KK.elem_inv _ _ h
  exact ⟨(e.v, _), rfl⟩
theorem found {E : List (Bs × KE)} {V : Value} {x : Bs} {yd : DataW Unit} {yp : List MemPlace} (hv : KK.elem V = some (yd, yp)) (hat : ∀ zd, (Kp.mapOf KK.enc E).atKey (.string x) zd = yd) : ∃ f, Kp.get E x = some f ∧ V = KK.val f.2 := by
  obtain ⟨a, rfl, h⟩ := KK.elem_inv _ _ hv
  cases hq : Kp.get E x with
  | none =>
    have h1 := hat .nil
    have h2 := hat (.agg [])
    rw [Kp.at_mapOf_none KK.enc hq] at h1 h2
    rw [← h1] at h2; cases h2
  | some f =>
    have h1 := hat .nil
    rw [Kp.at_mapOf_some KK.enc hq] at h1
    have h2 : yd = KK.enc a := congrArg Prod.fst h
    exact ⟨f, rfl, by rw [KK.enc_inj _ _ (h1.trans h2)]⟩
theorem val_inj {e : KE} {v : Jp.V} {q : Option Addr} (h : Value.agg #[.string (str v.n), .string (str v.x), .bool v.s, .int .i64 v.f, .pointer q] = KK.val e) : e.v = v := by
  obtain ⟨⟨n, x, s, f⟩, g⟩ := e
  obtain ⟨n', x', s', f'⟩ := v
  have h1 : Value.agg #[.string (str n'), .string (str x'), .bool s', .int .i64 f', .pointer q] = Value.agg #[.string (str n), .string (str x), .bool s, .int .i64 f, gP g] := h
  injection h1 with h1
  have h2 := congrArg Array.toList h1
  simp only [List.cons.injEq, Value.string.injEq, Value.bool.injEq, Value.int.injEq, true_and] at h2
  obtain ⟨e1, e2, e3, e4, _⟩ := h2
  have k1 := congrArg by8 e1
  have k2 := congrArg by8 e2
  rw [by8_str, by8_str] at k1 k2
  rw [k1, k2, e3, e4]
theorem iter_obj {w : World} {P : Program} {k : TypeId} {R : Value → Option (DataW Unit × List MemPlace)} {b r n cnt : Nat} {D : DataW Unit} {left : Lit → Bool} (h : w.ranges P k R b r n D left cnt) : ∃ a b c d, w.heap[r]? = some (.mapIter a b c d) := by
  obtain ⟨es, clock, since, seen, c0, _, _, _, _, hr, _⟩ := h
  exact ⟨_, _, _, _, hr⟩
set_option maxHeartbeats 8000000 in
theorem PClone_some (w : World) {tb bv : Nat} {X : List Nat} {E : List (Bs × KE)} {M : List (Bs × Int)} {all : Bool} {mn : Option Nat} {O : Bs → List Nat} (h : TabAt w tb X E M all (some bv) mn O) (hl : E.length ≤ 1000000) (hzs : ∀ e ∈ E, e.1.length ≤ 1000000) :
    Calls Tryz.prog 37 #[.pointer (some ⟨tb, 0, none⟩)] w (CPost w (E.map fun e => e.2.v) M all) := by
  have c0 := h.c0
  have c1 := h.c1
  have c2 := h.c2
  have hlt := h.lt
  have H := Lib.hid h
  have hs := h.vars.sorted
  have hk := h.keys
  have hmm := run_makeMapH
  clear h
  go_enter Tryz.func37, Tryz.ntmps37
  go_upto_region 3 with (fail)
  go_cut [3] (fun v wx => ∃ cb bm nm, v = .pointer (some ⟨cb, 0, none⟩) ∧ Fresh w M all cb bm nm wx)
  case first =>
    have HSX := Lib.hid (show ∀ W, Below w.heap.size w W → W.cell? ⟨tb, 0, none⟩ = some (.map (some bv)) ∧ W.cell? ⟨tb, 1, none⟩ = some (.map mn) ∧ W.cell? ⟨tb, 2, none⟩ = some (.bool all) ∧ (Builtin.len_ #[MK] 3 #[.map (some bv)]).run Tryz.prog W = .ok (.int .i64 E.length) W from fun W hW => ⟨(hW.cell (p := ⟨tb, 0, none⟩) hlt).trans c0, (hW.cell (p := ⟨tb, 1, none⟩) hlt).trans c1, (hW.cell (p := ⟨tb, 2, none⟩) hlt).trans c2, (H.out.vars.below hW).len _⟩)
    have D0 : Below w.heap.size w w.drew := (Below.refl _ _).drew
    have DA0 := fun o => ((Below.refl w.heap.size w).alloc (Nat.le_refl _) o).drew
    go_region_held3 (fun W => W.cell? ⟨tb, 0, none⟩ = some (.map (some bv)) ∧ W.cell? ⟨tb, 1, none⟩ = some (.map mn) ∧ W.cell? ⟨tb, 2, none⟩ = some (.bool all) ∧ (Builtin.len_ #[MK] 3 #[.map (some bv)]).run Tryz.prog W = .ok (.int .i64 E.length) W)
      ((refine HSX.out _ ?_; first | exact D0 | exact DA0 _ | exact D3 | exact D3.alloc D3.size _ | exact (D3.alloc D3.size _).alloc (D3.alloc D3.size _).size _))
      (first
        | (go_at_call 67; refine (mapClone_any _ (H.out.named.below D0)).mono ?_; rintro e w3 ⟨nm, rfl, hnl, hnm, B3⟩; have D3 := D0.trans (B3.mono D0.size); have HF : Hid (Fresh w M all (w3.heap.size + 1) w3.heap.size nm ((w3.alloc (.map #[] 0)).alloc (.cells #[.map (some w3.heap.size), .map nm, .bool all] PT))) := Lib.hid (Fresh.one D0 hnm hnl B3); clear hnm)
        | (go_at_call 67; refine (mapClone_any _ (H.out.named.below (DA0 _))).mono ?_; rintro e w3 ⟨nm, rfl, hnl, hnm, B3⟩; have D3 := (DA0 _).trans (B3.mono (DA0 _).size); have HF : Hid (Fresh w M all w3.heap.size w.heap.size nm (w3.alloc (.cells #[.map (some w.heap.size), .map nm, .bool all] PT))) := Lib.hid (Fresh.two rfl hnm (fun b e => by have := hnl b e; simp at this; omega) ((Kw.MapAt.new w).below (((Below.refl _ _).drew).trans B3)) D3); clear hnm))
    all_goals go_wp2_with fail
    all_goals go_meet
    all_goals exact ⟨_, _, _, rfl, HF.out⟩
  case rest =>
    obtain ⟨cb, bm, nm, rfl, hF⟩ := hcut
    have hT := H.out.below hF.below
    have d0 := hT.c0
    have hltx := hT.lt
    have hM : Kw.MapAt KK wc bv E := hT.vars
    have hbm := hF.vars.lt
    have hcbl := (Array.getElem?_eq_some_iff.1 hF.box).1
    have hbv : bv < w.heap.size := H.out.vars.lt bv rfl
    have hbl := hF.bl
    have hcl := hF.cl
    have hnl := Lib.hid hF.nl
    have hne := Lib.hid hF.ne
    have hBW := Lib.hid hF.below
    have HBox := Lib.hid hF.box
    have HV := Lib.hid hF.vars
    have HN := Lib.hid hF.named
    have hws := hF.below.size
    have hcv : bm ≠ cb := Kw.MapAt.not_cells hF.vars hF.box
    clear hT hF c0 c1 c2 hlt hmm
    go_wp2_with (at_range; refine wpList_range_own _ rfl _ MK rfl SK PK key Tryz.underlying132 _ bv _ _ rfl hM.own ?_; intro w0 hrg0 hg0 hs0)
    go_frame
    generalize hrr : wc.heap.size = r at *
    have HStart : Hid (CRel w M all E cb bm nm bv r w0) := Lib.hid ⟨_, _, [], hrg0, (hg0.block cb (by omega) (by simp)).trans HBox.out, HV.out.block (hg0.block bm (by omega) (by simp)), HN.out.block (fun b e => hg0.block b (by have := HN.out.lt b e; omega) (by simp)), Copied.start E, hBW.out.grown hg0 (by rw [hrr]; exact hws) (fun r e => (by cases e)), by rw [Kp.size_mapOf]; simp⟩
    clear hrg0 hg0 hs0 hM HBox HV HN hBW
    go_loopw [4] (fun _ wr => CRel w M all E cb bm nm bv r wr) (fun _ wr => wr.rangeLeft bv r)
    case atStart => exact HStart.out
    case round =>
      obtain ⟨left, cnt, E2, hrg, hbox, hV2, hN2, hC, hB, hcnt⟩ := hrel
      clear HStart
      go_wp2_with (at_next; refine wpList_next_ranges _ rfl _ rfl SK key KK.elem (fun x : Bs => Value.string (str x)) (fun c : Jp.V × Option Addr => Value.agg #[.string (str c.1.n), .string (str c.1.x), .bool c.1.s, .int .i64 c.1.f, .pointer c.2]) keyS elemK bv r _ _ _ _ rfl hrg ?_ ?_)
      · intro hc0 hl0
        have hE := hC.all hs hV2.sorted hl0
        subst hE
        go_wp2_with fail
        go_ret
        exact clone_done hbox hV2 hN2 hne.out hcl hbl hnl.out hB hk
      · intro x c q kl yd yp w2 cnt2 hkey hlk hv hat hrg2 hlt2 hg2 hs2 hen
        obtain rfl := keyS_inv hkey
        obtain ⟨f, hgf, hVf⟩ := found hv hat
        obtain ⟨hfE, hfx⟩ := (Kp.get_some hs).1 hgf
        have hfc : f.2.v = c := val_inj hVf
        have hstrip : strip f = (x, ⟨c, none⟩) := by unfold strip; rw [hfx, hfc]
        have hC2 := hC.step hs hV2.sorted hfE (by rw [hfx]; exact hlk)
        rw [hstrip, hfx] at hC2
        have hxl := hzs f hfE
        rw [hfx] at hxl
        have hrne := hrg.ne
        have hrl := hrg.lt
        have hrm : r ≠ bm := fun e => by
          obtain ⟨es, ck, h1⟩ := Kw.MapAt.obj hV2
          obtain ⟨_, _, _, _, h2⟩ := iter_obj hrg
          rw [e, h1] at h2; cases h2
        have hrb : r ≠ cb := fun e => by
          obtain ⟨_, _, _, _, h2⟩ := iter_obj hrg
          rw [e, hbox] at h2; cases h2
        have hrn : ∀ b, nm = some b → b ≠ r := fun b e e2 => by
          subst e
          obtain ⟨es, ck, h1⟩ := Kw.MapAt.obj hN2
          obtain ⟨_, _, _, _, h2⟩ := iter_obj hrg
          rw [← e2, h1] at h2; cases h2
        have hg2b := fun i (hi : i < wr.heap.size) (hir : i ≠ r) => hg2.block i hi (fun e => hir (Option.some.inj e))
        have hbml := hV2.lt
        have hcbl2 := (Array.getElem?_eq_some_iff.1 hbox).1
        have hbox2 := (hg2b cb hcbl2 hrb.symm).trans hbox
        have hV3 := hV2.block (hg2b bm hbml hrm.symm)
        have hN3 := hN2.block (fun b e => hg2b b (hN2.lt b e) (hrn b e))
        have hB2 := hB.grown hg2 hB.size (fun k e => by rw [← Option.some.inj e]; exact hws)
        have hle := Lib.hid hrg.left_eq
        clear hs2 hkey hat hrg hv hVf hgf hlk hC hfE hfx hfc hstrip hg2b hV2 hN2 hbox hB hg2 hcbl2 hbml
        have Ba := (Below.refl w2.heap.size w2).alloc (Nat.le_refl _) (.cells #[.string (str c.n), .string (str c.x), .bool c.s, .int .i64 c.f, .pointer q] PK)
        have hx := heap_last w2 (.cells #[.string (str c.n), .string (str c.x), .bool c.s, .int .i64 c.f, .pointer q] PK)
        have hrg3 := hrg2.alloc (.cells #[.string (str c.n), .string (str c.x), .bool c.s, .int .i64 c.f, .pointer q] PK)
        have hboxa := (Ba.block _ (Array.getElem?_eq_some_iff.1 hbox2).1).trans hbox2
        have hVa := hV3.below Ba
        have hNa := hN3.below Ba
        have hBa := hB2.trans (Ba.mono hB2.size)
        clear hbox2 hV3 hN3 hB2 Ba
        go_wp2_with fail
        generalize w2.alloc (.cells #[.string (str c.n), .string (str c.x), .bool c.s, .int .i64 c.f, .pointer q] PK) = W at *
        have y0 := cell_at (i := 0) hx rfl
        have y1 := cell_at (i := 1) hx rfl
        have y2 := cell_at (i := 2) hx rfl
        have y3 := cell_at (i := 3) hx rfl
        have z0 := cell_at (i := 0) hboxa rfl
        have yl := (Array.getElem?_eq_some_iff.1 hx).1
        have zl := (Array.getElem?_eq_some_iff.1 hboxa).1
        have HRg := Lib.hid hrg3
        have HBx := Lib.hid hboxa
        have HVa := Lib.hid hVa
        have HNa := Lib.hid hNa
        have HBa := Lib.hid hBa
        clear hx hrg3 hboxa hVa hNa hBa hrg2 hen
        go_still_tail 8, (by kernel_rfl)
        change wpList _ _ _ _ _ W.drew
        have gd : W.grownBy W.drew none := ⟨rfl, rfl, rfl, Nat.le_refl _, fun _ _ _ => rfl⟩
        have hVd : Kw.MapAt KK W.drew bm E2 := HVa.out.block rfl
        have HRd := Lib.hid (HRg.out.kept gd (by simp) (by simp))
        have HBxd : Hid (W.drew.heap[cb]? = some (.cells #[.map (some bm), .map nm, .bool all] PT (0, 0))) := Lib.hid HBx.out
        have HNd := Lib.hid (HNa.out.below (Below.refl _ W).drew)
        have HBd := Lib.hid HBa.out.drew
        clear y0 y1 y2 y3 z0 yl zl HRg HBx HVa HNa HBa gd
        generalize W.drew = W2 at *
        go_wp2_with (at_mapUpdate; refine wpList_put (K := KK) (p := x) (c := ⟨c, none⟩) _ rfl _ _ _ rfl rfl rfl rfl hVd (by unfold maxLen; omega) (by unfold maxLen; omega) ?_; intro w3 hV3 ht; go_frame)
        have hg3 := ht.grown
        have hrg4 := HRd.out.kept hg3 (fun e => by have := Option.some.inj e; omega) (fun e => hrm (Option.some.inj e))
        go_roundw
        case rel =>
          refine ⟨_, cnt2, _, hrg4, (hg3.block cb (Array.getElem?_eq_some_iff.1 HBxd.out).1 (fun e => hcv (Option.some.inj e).symm)).trans HBxd.out, hV3, HNd.out.block (fun b e => hg3.block b (HNd.out.lt b e) (fun e2 => hne.out (by rw [e, Option.some.inj e2]))), hC2, HBd.out.grown hg3 HBd.out.size (fun k e => by rw [← Option.some.inj e]; exact hbl), ?_⟩
          have := Kp.len_ins_le E2 (x, (⟨c, none⟩ : KE))
          omega
        case measure => rw [hrg4.left_eq, hle.out]; exact hlt2

set_option maxHeartbeats 4000000 in
theorem PClone_none (w : World) {tb : Nat} {X : List Nat} {M : List (Bs × Int)} {all : Bool} {mn : Option Nat} {O : Bs → List Nat} (h : TabAt w tb X [] M all none mn O) :
    Calls Tryz.prog 37 #[.pointer (some ⟨tb, 0, none⟩)] w (CPost w [] M all) := by
  have c0 := h.c0
  have c1 := h.c1
  have c2 := h.c2
  have hlt := h.lt
  have H := Lib.hid h
  have hmm := run_makeMapH
  clear h
  go_enter Tryz.func37, Tryz.ntmps37
  go_upto_region 3 with (fail)
  go_cut [3] (fun v wx => ∃ cb bm nm, v = .pointer (some ⟨cb, 0, none⟩) ∧ Fresh w M all cb bm nm wx)
  case first =>
    have HSX := Lib.hid (show ∀ W, Below w.heap.size w W → W.cell? ⟨tb, 0, none⟩ = some (.map none) ∧ W.cell? ⟨tb, 1, none⟩ = some (.map mn) ∧ W.cell? ⟨tb, 2, none⟩ = some (.bool all) ∧ (Builtin.len_ #[MK] 3 #[.map none]).run Tryz.prog W = .ok (.int .i64 ([] : List (Bs × KE)).length) W from fun W hW => ⟨(hW.cell (p := ⟨tb, 0, none⟩) hlt).trans c0, (hW.cell (p := ⟨tb, 1, none⟩) hlt).trans c1, (hW.cell (p := ⟨tb, 2, none⟩) hlt).trans c2, (H.out.vars.below hW).len _⟩)
    have D0 : Below w.heap.size w w.drew := (Below.refl _ _).drew
    have DA0 := fun o => ((Below.refl w.heap.size w).alloc (Nat.le_refl _) o).drew
    go_region_held3 (fun W => W.cell? ⟨tb, 0, none⟩ = some (.map none) ∧ W.cell? ⟨tb, 1, none⟩ = some (.map mn) ∧ W.cell? ⟨tb, 2, none⟩ = some (.bool all) ∧ (Builtin.len_ #[MK] 3 #[.map none]).run Tryz.prog W = .ok (.int .i64 ([] : List (Bs × KE)).length) W)
      ((refine HSX.out _ ?_; first | exact D0 | exact DA0 _ | exact D3 | exact D3.alloc D3.size _ | exact (D3.alloc D3.size _).alloc (D3.alloc D3.size _).size _))
      (first
        | (go_at_call 67; refine (mapClone_any _ (H.out.named.below D0)).mono ?_; rintro e w3 ⟨nm, rfl, hnl, hnm, B3⟩; have D3 := D0.trans (B3.mono D0.size); have HF : Hid (Fresh w M all (w3.heap.size + 1) w3.heap.size nm ((w3.alloc (.map #[] 0)).alloc (.cells #[.map (some w3.heap.size), .map nm, .bool all] PT))) := Lib.hid (Fresh.one D0 hnm hnl B3); clear hnm)
        | (go_at_call 67; refine (mapClone_any _ (H.out.named.below (DA0 _))).mono ?_; rintro e w3 ⟨nm, rfl, hnl, hnm, B3⟩; have D3 := (DA0 _).trans (B3.mono (DA0 _).size); have HF : Hid (Fresh w M all w3.heap.size w.heap.size nm (w3.alloc (.cells #[.map (some w.heap.size), .map nm, .bool all] PT))) := Lib.hid (Fresh.two rfl hnm (fun b e => by have := hnl b e; simp at this; omega) ((Kw.MapAt.new w).below (((Below.refl _ _).drew).trans B3)) D3); clear hnm))
    all_goals go_wp2_with fail
    all_goals go_meet
    all_goals exact ⟨_, _, _, rfl, HF.out⟩
  case rest =>
    obtain ⟨cb, bm, nm, rfl, hF⟩ := hcut
    have hT := H.out.below hF.below
    have d0 := hT.c0
    have hltx := hT.lt
    have hrg := run_range_nilMap (P := Tryz.prog) wc MK SK PK Tryz.underlying132
    have hnx : ∀ ty, (Instr.next (.pointer (some ⟨wc.heap.size, 0, none⟩)) false ty).run Tryz.prog (wc.alloc (.mapIter none 0 #[] 0)) = _ := fun ty => run_next_nilMap _ ty 0 0 #[]
    have Ba := (Below.refl wc.heap.size wc).alloc (Nat.le_refl _) (.mapIter none 0 #[] 0)
    have HF := Lib.hid hF
    have HBa := Lib.hid Ba
    clear hT hF c0 c1 c2 hlt hmm Ba
    go_wp2_with fail
    refine wp_loop_rounds 1 ?_
    rw [rounds_succ]
    go_wp2_with fail
    go_ret
    exact clone_done (E := []) ((HBa.out.block _ (Array.getElem?_eq_some_iff.1 HF.out.box).1).trans HF.out.box) (HF.out.vars.below HBa.out) (HF.out.named.below HBa.out) HF.out.ne HF.out.cl HF.out.bl HF.out.nl (HF.out.below.trans (HBa.out.mono HF.out.below.size)) (fun e h => (by cases h))
/-- (*Table).Clone. -/
theorem PClone_any (w : World) {tb : Nat} {X : List Nat} {L : List Jp.V} {M : List (Bs × Int)} {all : Bool} (h : Tab w tb X L M all) (hl : L.length ≤ 1000000) (hzs : ∀ v ∈ L, v.n.length ≤ 1000000) :
    Calls Tryz.prog 37 #[.pointer (some ⟨tb, 0, none⟩)] w (CPost w L M all) := by
  obtain ⟨E, mv, mn, O, h, rfl⟩ := h
  cases mv with
  | none =>
    obtain rfl : E = [] := h.vars
    exact PClone_none w h
  | some bv =>
    exact PClone_some w h (by simpa using hl) (fun e he => by rw [h.keys e he]; exact hzs _ (List.mem_map.2 ⟨e, he, rfl⟩))
end Go.Proofs.YtpliljcjjffipaaGreatDoor.Jw
