/-
  (*Table).More whole; (*Table).Maybe.
-/
import Derived.Test.YtfbddbcedoofeaaJPMore
namespace Go.Proofs.Ytfbddbcedoofeaa.Jw
open Go.RowKit Go.Proofs.Ytfbddbcedoofeaa Go.Proofs.Ytfbddbcedoofeaa.Ww Go.Proofs.Ytfbddbcedoofeaa.Tw Go.Proofs.Ytfbddbcedoofeaa.Kw
set_option maxRecDepth 100000

/-- (*Table).More. -/
theorem PMore_any (w : World) {tb : Nat} {X : List Nat} {L : List Jp.V} {M : List (Bs × Int)} {all : Bool} (h : Tab w tb X L M all) (v : Jp.V) (T : Jp.T) (hT : T.l = L) (hz : v.n.length ≤ 1000000) (hlen : L.length ≤ 1000000) (hx : ∀ o ∈ L, o.x.length + v.x.length + 2 ≤ 1000000000) :
    Calls Try.prog 18 #[.pointer (some ⟨tb, 0, none⟩), .agg (vA v)] w (SPost w tb X (if Jp.rightA v = true then (Jp.moreA T v).l else L) M all (if Jp.rightA v = true then 0 else 1)) := by
  cases hr : Jp.rightA v with
  | false =>
    refine (PMore_wrong w tb v hr).mono ?_
    rintro e w' ⟨he, hB⟩
    exact SPost.same h (by simpa using he) hB
  | true =>
    rw [if_pos rfl, if_pos rfl]
    have hTab := h
    obtain ⟨E, mv, mn, O, h, rfl⟩ := h
    have hlen' : E.length ≤ 1000000 := by simpa using hlen
    unfold Jp.moreA
    rw [hT]
    rcases h.got v.n with ⟨h1, h2, h3⟩ | ⟨e, he, h0, hk, h1, h2, h3⟩
    · rw [h1]
      dsimp only
      have hSet := fun W (hW : TabAt W tb X E M all mv mn O) => PSet_any W (⟨E, mv, mn, O, hW, rfl⟩ : Tab W tb X (E.map fun e => e.2.v) M all) v T hT hz hlen
      rw [hr, if_pos rfl, if_pos rfl] at hSet
      exact PMore_new w h v hr hz Jp.zero none _ 0 hSet (by rw [h2]; rfl) h3
    · rw [h1]
      obtain ⟨e1, o, g⟩ := e
      dsimp only at *
      have hox := hx o (List.mem_map.2 ⟨_, he, rfl⟩)
      unfold Jp.setA
      dsimp only
      rw [hT, h1]
      dsimp only
      by_cases hlt : v.f < o.f
      · rw [if_pos hlt, hT]
        refine (PMore_less w h v hr hz o _ hlt (by rw [h2]; rfl) h3).mono ?_
        rintro e w' ⟨he, hB⟩
        exact SPost.same hTab he hB
      · rw [if_neg hlt]
        show Calls _ _ _ _ (SPost w tb X (Jp.insA _ false T.l) M all 0)
        rw [hT]
        cases mv with
        | none => rw [show E = [] from h.vars] at he; cases he
        | some bm =>
          cases g with
          | none =>
            exact PMore_grow w h v hr hz o none hlt [] { v with s := o.s } rfl (fun i hi => (by cases hi)) (fun W hW => (grow_none W o.n o.x o.s o.f { v with s := o.s } hox).mono fun e w' hp => ⟨_, hp⟩) hlen' (by rw [h2]; rfl) h3
          | some b =>
            refine PMore_grow w h v hr hz o (some ⟨b, 0, none⟩) hlt (O v.n) { v with s := o.s } rfl (fun i hi => ⟨_, he, hk, by simp, hi⟩) (fun W hW => ?_) hlen' (by rw [h2]; rfl) h3
            obtain ⟨pv, bv, hb⟩ := hW.grown.at_ _ he b rfl
            dsimp only at hb
            rw [hk] at hb
            exact (grow_some W b (O v.n) o.n o.x o.s o.f { v with s := o.s } pv bv hb hox).mono fun e w' hp => ⟨_, hp⟩

set_option maxHeartbeats 1000000 in
theorem PMaybe_nil (w : World) (v : Jp.V) : Calls Try.prog 19 #[.pointer none, .agg (vA v)] w fun e w' => e = .returned (.int .i64 1) ∧ Below w.heap.size w w' := by
  have hb := heap_last w (.cells (vA v) PV)
  have c0 := cell_at (i := 0) hb rfl
  have hB := (Below.refl w.heap.size w).alloc (Nat.le_refl _) (.cells (vA v) PV)
  have hS := fun W => PSet_nil W v
  have HBX := Lib.hid hb
  clear hb
  unfold vA at *
  have HS := Lib.hid hS
  clear hS
  go_enter Try.func19, Try.ntmps19
  go_wp2_with fail
  refine (PGet_nil _ _).mono ?_
  rintro e w1 ⟨rfl, B1⟩
  unfold gV zeroV
  have hv1 := (B1.block _ (by simp)).trans HBX.out
  have d0 := cell_at (i := 0) hv1 rfl
  have d1 := cell_at (i := 1) hv1 rfl
  have d2 := cell_at (i := 2) hv1 rfl
  have d3 := cell_at (i := 3) hv1 rfl
  have hl := (Array.getElem?_eq_some_iff.1 hv1).1
  have hB1 := hB.trans (B1.mono hB.size)
  clear c0 hv1
  go_wp2_with fail
  refine (HS.out _).mono ?_
  rintro e w2 ⟨rfl, B2⟩
  go_wp2_with fail
  go_ret
  exact ⟨rfl, (hB1.alloc hB1.size _).trans (B2.mono (hB1.alloc hB1.size _).size)⟩

/-- What Maybe makes. -/
def maybeL (T : Jp.T) (v : Jp.V) : List Jp.V := match Jp.getA T.l v.n with
  | some _ => T.l
  | none => if Jp.rightA v = true then (Jp.setA T v).l else T.l
def maybeN (T : Jp.T) (v : Jp.V) : Int := match Jp.getA T.l v.n with
  | some _ => 0
  | none => if Jp.rightA v = true then 0 else 1
set_option maxHeartbeats 2000000 in
/-- (*Table).Maybe. -/
theorem PMaybe_any (w : World) {tb : Nat} {X : List Nat} {L : List Jp.V} {M : List (Bs × Int)} {all : Bool} (h : Tab w tb X L M all) (v : Jp.V) (T : Jp.T) (hT : T.l = L) (hz : v.n.length ≤ 1000000) (hlen : L.length ≤ 1000000) :
    Calls Try.prog 19 #[.pointer (some ⟨tb, 0, none⟩), .agg (vA v)] w (SPost w tb X (maybeL T v) M all (maybeN T v)) := by
  have hps : (str v.n).size ≤ maxLen := by rw [str_size]; unfold maxLen; omega
  have hb := heap_last w (.cells (vA v) PV)
  have c0 := cell_at (i := 0) hb rfl
  have hB := (Below.refl w.heap.size w).alloc (Nat.le_refl _) (.cells (vA v) PV)
  have hG := fun W (hW : Tab W tb X L M all) => PGet_any W hW (str v.n) hps
  have hS := fun W (hW : Tab W tb X L M all) => PSet_any W hW v T hT hz hlen
  have HBX := Lib.hid hb
  have H := Lib.hid h
  rw [by8_str] at hG
  clear hb h
  unfold vA at *
  have HS := Lib.hid hS
  have HG := Lib.hid hG
  clear hS hG
  cases hg : Jp.getA L v.n with
  | some o =>
    have HL : Hid (maybeL T v = L ∧ maybeN T v = 0) := Lib.hid (by unfold maybeL maybeN; rw [hT, hg]; exact ⟨rfl, rfl⟩)
    rw [hg] at HG
    unfold gV vA at HG
    dsimp only at HG
    clear hg
    go_enter Try.func19, Try.ntmps19
    go_wp2_with fail
    refine (HG.out _ (H.out.below hB)).mono ?_
    rintro e w1 ⟨rfl, B1⟩
    have hB1 := hB.trans (B1.mono hB.size)
    clear c0
    go_wp2_with fail
    go_ret
    rw [HL.out.1, HL.out.2]
    exact SPost.same H.out rfl (by first | exact hB1 | exact hB1.alloc hB1.size _)
  | none =>
    have HL : Hid (maybeL T v = (if Jp.rightA v = true then (Jp.setA T v).l else L) ∧ maybeN T v = (if Jp.rightA v = true then 0 else 1)) := Lib.hid (by unfold maybeL maybeN; rw [hT, hg]; exact ⟨rfl, rfl⟩)
    rw [hg] at HG
    unfold gV zeroV at HG
    dsimp only at HG
    rw [← HL.out.1, ← HL.out.2] at HS
    clear hg HL
    go_enter Try.func19, Try.ntmps19
    go_wp2_with fail
    refine (HG.out _ (H.out.below hB)).mono ?_
    rintro e w1 ⟨rfl, B1⟩
    have hv1 := (B1.block _ (by simp)).trans HBX.out
    have d0 := cell_at (i := 0) hv1 rfl
    have d1 := cell_at (i := 1) hv1 rfl
    have d2 := cell_at (i := 2) hv1 rfl
    have d3 := cell_at (i := 3) hv1 rfl
    have hl := (Array.getElem?_eq_some_iff.1 hv1).1
    have hB1 := hB.trans (B1.mono hB.size)
    clear c0 hv1
    go_wp2_with fail
    refine (HS.out _ (by first | exact H.out.below hB1 | exact H.out.below (hB1.alloc hB1.size _))).mono ?_
    rintro e w2 hp
    obtain ⟨X5, h5, h6, h7⟩ := hp.2
    obtain rfl := hp.1
    go_wp2_with fail
    go_ret
    exact SPost.from_ (by first | exact hB1 | exact hB1.alloc hB1.size _) ⟨rfl, X5, h5, h6, h7⟩
end Go.Proofs.Ytfbddbcedoofeaa.Jw
