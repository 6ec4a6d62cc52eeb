/-
  flatironref11.Export.
  flatironref11.Export, whatever it is told.
  (*Table).Export.
  (*Table).exports, Exports.
  (*Table).Clone.
  A table without variables: made, copied, set; the document's own.
-/
import Derived.StillTailTactics
import Derived.Deep.RegionLaw
import Derived.Test.YtgednccpjegbmaaGreatDoorQJMore
import Derived.Test.YtgednccpjegbmaaGreatDoorQJPAll
import Derived.Deep.RegionHeld3
import Derived.Deep.DeepCutAuto
import Derived.Shelf.SlMaps.Clone
import Derived.Test.YtgednccpjegbmaaGreatDoorQJPGet
import Derived.Test.YtgednccpjegbmaaGreatDoorQJPSet
namespace Go.Proofs.YtgednccpjegbmaaGreatDoor.Jw
open Go.RowKit Go.Proofs.YtgednccpjegbmaaGreatDoor Go.Proofs.YtgednccpjegbmaaGreatDoor.Ww Go.Proofs.YtgednccpjegbmaaGreatDoor.Tw
set_option maxRecDepth 100000

end Go.Proofs.YtgednccpjegbmaaGreatDoor.Jw
namespace Go.Proofs.YtgednccpjegbmaaGreatDoor.Jw
open Go.RowKit Go.Proofs.YtgednccpjegbmaaGreatDoor Go.Proofs.YtgednccpjegbmaaGreatDoor.Ww Go.Proofs.YtgednccpjegbmaaGreatDoor.Tw
set_option maxRecDepth 100000














































































































































































end Go.Proofs.YtgednccpjegbmaaGreatDoor.Jw
namespace Go.Proofs.YtgednccpjegbmaaGreatDoor.Jw
open Go.RowKit Go.Proofs.YtgednccpjegbmaaGreatDoor Go.Proofs.YtgednccpjegbmaaGreatDoor.Ww Go.Proofs.YtgednccpjegbmaaGreatDoor.Tw Go.Proofs.YtgednccpjegbmaaGreatDoor.Kw
set_option maxRecDepth 100000

section
variable {w w2 : World} {tb : Nat} {X : List Nat} {E : List (Bs × KE)} {M : List (Bs × Int)} {all : Bool} {mv mn : Option Nat} {O : Bs → List Nat}
end

end Go.Proofs.YtgednccpjegbmaaGreatDoor.Jw
namespace Go.Proofs.YtgednccpjegbmaaGreatDoor.Jw
open Go.RowKit Go.Proofs.YtgednccpjegbmaaGreatDoor Go.Proofs.YtgednccpjegbmaaGreatDoor.Ww Go.Proofs.YtgednccpjegbmaaGreatDoor.Tw Go.Proofs.YtgednccpjegbmaaGreatDoor.Kw Go.Maps
set_option maxRecDepth 100000

end Go.Proofs.YtgednccpjegbmaaGreatDoor.Jw
namespace Go.Proofs.YtgednccpjegbmaaGreatDoor.Jw
open Go.RowKit Go.Proofs.YtgednccpjegbmaaGreatDoor Go.Proofs.YtgednccpjegbmaaGreatDoor.Ww Go.Proofs.YtgednccpjegbmaaGreatDoor.Tw Go.Proofs.YtgednccpjegbmaaGreatDoor.Kw Go.Maps Go.Shelf
set_option maxRecDepth 100000

theorem mapClone_any (w : World) {m : Option Nat} {L : List (Bs × Int)} (hM : MOpt CK w m L) :
    Calls Tryz.prog 45 #[.map m] w fun e w' => ∃ m2, e = .returned (.map m2) ∧ (∀ b, m2 = some b → w.heap.size ≤ b) ∧ MOpt CK w' m2 L ∧ Below w.heap.size w w' := by
  cases m with
  | none =>
    refine (AnyW.maps_Clone_nil Tryz.laysClone w).mono ?_
    rintro e w' ⟨he, rfl⟩
    exact ⟨none, he, fun b h => (by cases h), hM, Below.refl _ _⟩
  | some bm =>
    refine (AnyW.maps_Clone_owns Tryz.laysClone SK CK.elem bm _ _ w (Kw.MapAt.own hM)).mono ?_
    rintro e w' ⟨he, h1, _, h3⟩
    exact ⟨_, he, fun b h => by rw [← Option.some.inj h]; exact Nat.le_refl _, (⟨h1, Kw.MapAt.sorted hM⟩ : Kw.MapAt CK w' _ L), h3⟩
theorem run_makeMapH (n : Int) (w : World) : (Instr.makeMap MK (some (.int .i64 n))).run Tryz.prog w = .ok (.map (some w.heap.size)) (w.alloc (.map #[] 0)) := by
  simp [Instr.makeMap, run_underlying Tryz.underlying89, asInt, asIntOf, Result.andThen]
/-- The copy, before the loop. -/
structure Fresh (w : World) (M : List (Bs × Int)) (all : Bool) (cb bm : Nat) (nm : Option Nat) (W : World) : Prop where
  box : W.heap[cb]? = some (.cells #[.map (some bm), .map nm, .bool all] PT (0, 0))
  vars : Kw.MapAt KK W bm []
  named : MOpt CK W nm M
  ne : nm ≠ some bm
  cl : w.heap.size ≤ cb
  bl : w.heap.size ≤ bm
  nl : ∀ b, nm = some b → w.heap.size ≤ b
  below : Below w.heap.size w W
theorem Fresh.one {w W w3 : World} {M : List (Bs × Int)} {all : Bool} {nm : Option Nat} (hB : Below w.heap.size w W) (hn : MOpt CK w3 nm M) (hl : ∀ b, nm = some b → W.heap.size ≤ b) (B3 : Below W.heap.size W w3) :
    Fresh w M all (w3.heap.size + 1) w3.heap.size nm ((w3.alloc (.map #[] 0)).alloc (.cells #[.map (some w3.heap.size), .map nm, .bool all] PT)) := by
  have b1 := (Below.refl w3.heap.size w3).alloc (Nat.le_refl _) (.map #[] 0)
  have b2 := (Below.refl (w3.alloc (.map #[] 0)).heap.size (w3.alloc (.map #[] 0))).alloc (Nat.le_refl _) (.cells #[.map (some w3.heap.size), .map nm, .bool all] PT)
  have h1 := heap_last (w3.alloc (.map #[] 0)) (.cells #[.map (some w3.heap.size), .map nm, .bool all] PT)
  rw [World.size_alloc] at h1
  have hs := hB.size
  have hs3 := B3.size
  refine ⟨h1, (Kw.MapAt.new w3).below b2, (hn.below b1).below b2, fun e => Nat.lt_irrefl _ (hn.lt _ e), by omega, by omega, fun b e => Nat.le_trans hs (hl b e), ((hB.trans (B3.mono hs)).alloc (by omega) _).alloc (by simp; omega) _⟩
theorem Fresh.two {w w3 : World} {M : List (Bs × Int)} {all : Bool} {nm : Option Nat} {b0 : Nat} (hb : b0 = w.heap.size) (hn : MOpt CK w3 nm M) (hl : ∀ b, nm = some b → b0 < b) (hv : Kw.MapAt KK w3 b0 []) (hB : Below w.heap.size w w3) :
    Fresh w M all w3.heap.size b0 nm (w3.alloc (.cells #[.map (some b0), .map nm, .bool all] PT)) := by
  have b2 := (Below.refl w3.heap.size w3).alloc (Nat.le_refl _) (.cells #[.map (some b0), .map nm, .bool all] PT)
  exact ⟨heap_last _ _, hv.below b2, hn.below b2, fun e => Nat.lt_irrefl _ (hl _ e), hB.size, by omega, fun b e => by have := hl b e; omega, hB.alloc hB.size _⟩
/-- An entry without its builder. -/
def strip (e : Bs × KE) : Bs × KE := (e.1, ⟨e.2.v, none⟩)
/-- What is copied so far. -/
def Copied (E : List (Bs × KE)) (left : Lit → Bool) (E2 : List (Bs × KE)) : Prop := ∀ g, g ∈ E2 ↔ ∃ f ∈ E, left (.string f.1) = false ∧ g = strip f
theorem Copied.all {E E2 : List (Bs × KE)} {left : Lit → Bool} (h : Copied E left E2) (hs : Kp.Sorted E) (hs2 : Kp.Sorted E2) (hl : ∀ kl, left kl = false) : E2 = E.map strip := by
  refine Kp.sorted_ext hs2 (List.pairwise_map.2 hs) fun g => ?_
  rw [h g, List.mem_map]
  constructor
  · rintro ⟨f, hf, _, rfl⟩; exact ⟨f, hf, rfl⟩
  · rintro ⟨f, hf, rfl⟩; exact ⟨f, hf, hl _, rfl⟩
/-- What Clone returns. -/
def CPost (w : World) (L : List Jp.V) (M : List (Bs × Int)) (all : Bool) (e : Ending) (w' : World) : Prop :=
  ∃ cb X', e = .returned (.pointer (some ⟨cb, 0, none⟩)) ∧ Tab w' cb X' L M all ∧ (∀ i ∈ X', w.heap.size ≤ i) ∧ Below w.heap.size w w'
theorem clone_done {w w' : World} {M : List (Bs × Int)} {all : Bool} {cb bm : Nat} {nm : Option Nat} {E : List (Bs × KE)} (hc : w'.heap[cb]? = some (.cells #[.map (some bm), .map nm, .bool all] PT (0, 0))) (hv : Kw.MapAt KK w' bm (E.map strip)) (hn : MOpt CK w' nm M) (hne : nm ≠ some bm) (cl : w.heap.size ≤ cb) (bl : w.heap.size ≤ bm) (nl : ∀ b, nm = some b → w.heap.size ≤ b)
    (hB : Below w.heap.size w w') (hk : ∀ e ∈ E, e.1 = e.2.v.n) : CPost w (E.map fun e => e.2.v) M all (.returned (.pointer (some ⟨cb, 0, none⟩))) w' := by
  have hg : ∀ e ∈ E.map strip, e.2.g = none := fun e he => by
    obtain ⟨f, _, rfl⟩ := List.mem_map.1 he
    rfl
  refine ⟨cb, cb :: bm :: nm.toList, rfl, ⟨E.map strip, some bm, nm, fun _ => [], ⟨hc, hv, hn, fun b e => (by cases e; exact hne), fun e he => ?_, ⟨fun e he b h => (by rw [hg e he] at h; cases h), fun e he e' _ _ h => absurd (hg e he) h⟩, by simp, fun b e => (by cases e; simp), fun b e => (by simp [e]), fun e he h => absurd (hg e he) h⟩, ?_⟩, fun i hi => ?_, hB⟩
  · obtain ⟨f, hf, rfl⟩ := List.mem_map.1 he
    exact hk f hf
  · rw [List.map_map]; rfl
  · rcases List.mem_cons.1 hi with rfl | hi
    · exact cl
    · rcases List.mem_cons.1 hi with rfl | hi
      · exact bl
      · exact nl i (by simpa using hi)
set_option maxHeartbeats 4000000 in
theorem PClone_none (w : World) {tb : Nat} {X : List Nat} {M : List (Bs × Int)} {all : Bool} {mn : Option Nat} {O : Bs → List Nat} (h : TabAt w tb X [] M all none mn O) :
    Calls Tryz.prog 23 #[.pointer (some ⟨tb, 0, none⟩)] w (CPost w [] M all) := by
  have c0 := h.c0
  have c1 := h.c1
  have c2 := h.c2
  have hlt := h.lt
  have H := Lib.hid h
  have hmm := run_makeMapH
  clear h
  go_enter Tryz.func23, Tryz.ntmps23
  go_upto_region 3 with (fail)
  go_cut [3] (fun v wx => ∃ cb bm nm, v = .pointer (some ⟨cb, 0, none⟩) ∧ Fresh w M all cb bm nm wx)
  case first =>
    have HSX := Lib.hid (show ∀ W, Below w.heap.size w W → W.cell? ⟨tb, 0, none⟩ = some (.map none) ∧ W.cell? ⟨tb, 1, none⟩ = some (.map mn) ∧ W.cell? ⟨tb, 2, none⟩ = some (.bool all) ∧ (Builtin.len_ #[MK] 3 #[.map none]).run Tryz.prog W = .ok (.int .i64 ([] : List (Bs × KE)).length) W from fun W hW => ⟨(hW.cell (p := ⟨tb, 0, none⟩) hlt).trans c0, (hW.cell (p := ⟨tb, 1, none⟩) hlt).trans c1, (hW.cell (p := ⟨tb, 2, none⟩) hlt).trans c2, (H.out.vars.below hW).len _⟩)
    have D0 : Below w.heap.size w w.drew := (Below.refl _ _).drew
    have DA0 := fun o => ((Below.refl w.heap.size w).alloc (Nat.le_refl _) o).drew
    go_region_held3 (fun W => W.cell? ⟨tb, 0, none⟩ = some (.map none) ∧ W.cell? ⟨tb, 1, none⟩ = some (.map mn) ∧ W.cell? ⟨tb, 2, none⟩ = some (.bool all) ∧ (Builtin.len_ #[MK] 3 #[.map none]).run Tryz.prog W = .ok (.int .i64 ([] : List (Bs × KE)).length) W)
      ((refine HSX.out _ ?_; first | exact D0 | exact DA0 _ | exact D3 | exact D3.alloc D3.size _ | exact (D3.alloc D3.size _).alloc (D3.alloc D3.size _).size _))
      (first
        | (go_at_call 45; refine (mapClone_any _ (H.out.named.below D0)).mono ?_; rintro e w3 ⟨nm, rfl, hnl, hnm, B3⟩; have D3 := D0.trans (B3.mono D0.size); have HF : Hid (Fresh w M all (w3.heap.size + 1) w3.heap.size nm ((w3.alloc (.map #[] 0)).alloc (.cells #[.map (some w3.heap.size), .map nm, .bool all] PT))) := Lib.hid (Fresh.one D0 hnm hnl B3); clear hnm)
        | (go_at_call 45; refine (mapClone_any _ (H.out.named.below (DA0 _))).mono ?_; rintro e w3 ⟨nm, rfl, hnl, hnm, B3⟩; have D3 := (DA0 _).trans (B3.mono (DA0 _).size); have HF : Hid (Fresh w M all w3.heap.size w.heap.size nm (w3.alloc (.cells #[.map (some w.heap.size), .map nm, .bool all] PT))) := Lib.hid (Fresh.two rfl hnm (fun b e => by have := hnl b e; simp at this; omega) ((Kw.MapAt.new w).below (((Below.refl _ _).drew).trans B3)) D3); clear hnm))
    all_goals go_wp2_with fail
    all_goals go_meet
    all_goals exact ⟨_, _, _, rfl, HF.out⟩
  case rest =>
    obtain ⟨cb, bm, nm, rfl, hF⟩ := hcut
    have hT := H.out.below hF.below
    have d0 := hT.c0
    have hltx := hT.lt
    have hrg := run_range_nilMap (P := Tryz.prog) wc MK SK PK Tryz.underlying89
    have hnx : ∀ ty, (Instr.next (.pointer (some ⟨wc.heap.size, 0, none⟩)) false ty).run Tryz.prog (wc.alloc (.mapIter none 0 #[] 0)) = _ := fun ty => run_next_nilMap _ ty 0 0 #[]
    have Ba := (Below.refl wc.heap.size wc).alloc (Nat.le_refl _) (.mapIter none 0 #[] 0)
    have HF := Lib.hid hF
    have HBa := Lib.hid Ba
    clear hT hF c0 c1 c2 hlt hmm Ba
    go_wp2_with fail
    refine wp_loop_rounds 1 ?_
    rw [rounds_succ]
    go_wp2_with fail
    go_ret
    exact clone_done (E := []) ((HBa.out.block _ (Array.getElem?_eq_some_iff.1 HF.out.box).1).trans HF.out.box) (HF.out.vars.below HBa.out) (HF.out.named.below HBa.out) HF.out.ne HF.out.cl HF.out.bl HF.out.nl (HF.out.below.trans (HBa.out.mono HF.out.below.size)) (fun e h => (by cases h))
end Go.Proofs.YtgednccpjegbmaaGreatDoor.Jw
namespace Go.Proofs.YtgednccpjegbmaaGreatDoor.Jw
open Go.RowKit Go.Proofs.YtgednccpjegbmaaGreatDoor Go.Proofs.YtgednccpjegbmaaGreatDoor.Ww Go.Proofs.YtgednccpjegbmaaGreatDoor.Tw Go.Proofs.YtgednccpjegbmaaGreatDoor.Kw
set_option maxRecDepth 100000

/-- A table as it is made. -/
def NewT (w : World) (tb : Nat) : Prop := w.heap[tb]? = some (.cells #[.map none, .map none, .bool false] PT (0, 0))
theorem NewT.at_ {w : World} {tb : Nat} (h : NewT w tb) : TabAt w tb [tb] [] [] false none none (fun _ => []) :=
  ⟨h, rfl, rfl, fun b h => (by cases h), fun e h => (by cases h), Grown.nil _ _, by simp, fun b h => (by cases h), fun b h => (by cases h), fun e h => (by cases h)⟩
theorem NewT.lt {w : World} {tb : Nat} (h : NewT w tb) : tb < w.heap.size := (Array.getElem?_eq_some_iff.1 h).1
theorem NewT.block {w w' : World} {tb : Nat} (h : NewT w tb) (hb : w'.heap[tb]? = w.heap[tb]?) : NewT w' tb := hb.trans h
theorem NewT.below {w w' : World} {tb : Nat} (h : NewT w tb) (hB : Below w.heap.size w w') : NewT w' tb := h.block (hB.block _ h.lt)
theorem PNew_new (w : World) : Calls Tryz.prog 9 #[] w fun e w' => e = .returned (.pointer (some ⟨w.heap.size, 0, none⟩)) ∧ NewT w' w.heap.size ∧ Below w.heap.size w w' := by
  have hb := heap_last w (.cells #[.map none, .map none, .bool false] PT)
  have hB := (Below.refl w.heap.size w).alloc (Nat.le_refl _) (.cells #[.map none, .map none, .bool false] PT)
  have HB := Lib.hid hb
  clear hb
  go_enter Tryz.func9, Tryz.ntmps9
  go_wp2
  go_ret
  exact ⟨rfl, HB.out, hB⟩
theorem PClone_new (w : World) {tb : Nat} (h : NewT w tb) : Calls Tryz.prog 23 #[.pointer (some ⟨tb, 0, none⟩)] w (CPost w [] [] false) := PClone_none w h.at_
end Go.Proofs.YtgednccpjegbmaaGreatDoor.Jw
