/-
  Orders, with a condition that turns at one operation: reads may be taken first although the call behind them changes what they read.
-/
import Derived.OrdersHeld
import Derived.RegionTactic
import Derived.RowKit
import Derived.Lib.Hide
import Derived.Test.YtebagfadcjgllaaGreatDoorProg
namespace Go.Proofs.YtebagfadcjgllaaGreatDoor.Kw
open Go Go.RowKit Go.Proofs.YtebagfadcjgllaaGreatDoor
section
variable {P : Program} {ops : Array Oper} {Q : Exit → Act → World → Prop} {md : Region.Mode} {T : Bool → World → Prop} {U : World → Prop} {c : Nat}
/-- Whatever order is picked, and T holds behind each operation; T may turn at operation c. -/
def wpAnyD (P : Program) (md : Region.Mode) (ops : Array Oper) (Q : Exit → Act → World → Prop) (c : Nat) (T : Bool → World → Prop) : Nat → Array Bool → Act → World → Prop
  | 0, listed, a, w => Region.ready md ops listed = [] ∧ Q .normal a w
  | fuel + 1, listed, a, w =>
    (Region.ready md ops listed = [] → Q .normal a w) ∧
    ∀ i ∈ Region.ready md ops listed, wpOp P ops Q i (fun a' w' => T ((listed.setIfInBounds i true).getD c false) w' ∧ wpAnyD P md ops Q c T fuel (listed.setIfInBounds i true) a' w') a w
theorem wpAny_of_D : ∀ (fuel : Nat) (listed : Array Bool) (a : Act) (w : World), wpAnyD P md ops Q c T fuel listed a w → wpAny P md ops Q fuel listed a w
  | 0, _, _, _, h => h
  | fuel + 1, _, _, _, h => ⟨h.1, fun i hi => wpOp_mono (fun a' w' h' => wpAny_of_D fuel _ a' w' h'.2) (h.2 i hi)⟩
theorem wpAnyD_first {i : Nat} {oi : Oper} {v : Value} (hic : i ≠ c) (D : List Nat) (hdep : ∀ d ∈ D, d ≠ i → ∀ od, ops[d]? = some od → ∃ e ∈ od.after, Region.binds md e = true ∧ e.on ∈ D)
    (hTU : ∀ b w, T b w → (c ∈ D → b = false) → U w) (hi : ops[i]? = some oi) (hsel : ∀ (j : Nat) (o : Oper) cs b, ops[j]? = some o → o.op ≠ .select cs b)
    (hQ : ∀ c a w, Q (.panic c) (a.put oi.dst v) w → Q (.panic c) a w) :
    ∀ (fuel : Nat) (listed : Array Bool) (a : Act) (w : World),
      (∀ j oj, ops[j]? = some oj → j ≠ i → listed.getD j true = false → (∀ e ∈ oj.after, Region.binds md e = true → e.on ≠ i) → oi.apart ops oj = true) →
      (∀ d ∈ D, listed.getD d false = false) →
      i ∈ Region.ready md ops listed → YieldsIf P ops U oi v a → T (listed.getD c false) w →
      wpAnyD P md ops Q c T fuel (listed.setIfInBounds i true) (a.put oi.dst v) w → wpAnyD P md ops Q c T (fuel + 1) listed a w := by
  intro fuel
  induction fuel with
  | zero =>
    intro listed a w _ hd hr hy hT H
    refine ⟨fun h => (by rw [h] at hr; cases hr), fun j hj => ?_⟩
    by_cases hji : j = i
    · subst hji
      exact hy.wpOp hi (hTU _ _ hT (hd c)) ⟨by rw [getD_set_ne false hic]; exact hT, H⟩
    · have := ready_mono hj hji
      rw [H.1] at this
      cases this
  | succ fuel ih =>
    intro listed a w hfree hd hr hy hT H
    refine ⟨fun h => (by rw [h] at hr; cases hr), fun j hj => ?_⟩
    by_cases hji : j = i
    · subst hji
      exact hy.wpOp hi (hTU _ _ hT (hd c)) ⟨by rw [getD_set_ne false hic]; exact hT, H⟩
    · have h1 := H.2 j (ready_mono hj hji)
      obtain ⟨hjun, oj, hoj, hall⟩ := mem_ready.1 hj
      have hnot : ∀ e ∈ oj.after, Region.binds md e = true → e.on ≠ i := fun e he hb heq => by
        have h1 := hall e he hb
        have h0 := (mem_ready.1 hr).1
        rw [heq] at h1
        rcases Nat.lt_or_ge i listed.size with h' | h'
        · simp [h'] at h0 h1; rw [h0] at h1; cases h1
        · simp [Array.getElem?_eq_none h'] at h1
      have h2 := wpOp_putIf hoj (hfree j oj hoj hji hjun hnot) (fun cs b => hsel i oi cs b hi) (fun cs b => hsel j oj cs b hoj) hQ hy h1
      have hfree' : ∀ k ok, ops[k]? = some ok → k ≠ i → (listed.setIfInBounds j true).getD k true = false →
          (∀ e ∈ ok.after, Region.binds md e = true → e.on ≠ i) → oi.apart ops ok = true := fun k ok hk hki hun hno => by
        refine hfree k ok hk hki ?_ hno
        by_cases hjk : j = k
        · subst hjk; exact hjun
        · rw [getD_set_ne true hjk] at hun; exact hun
      have hjD : j ∉ D := fun h => by
        obtain ⟨e, he, hb, ho⟩ := hdep j h hji oj hoj
        have h5 := hall e he hb
        rw [hd _ ho] at h5
        cases h5
      have hd' : ∀ d ∈ D, (listed.setIfInBounds j true).getD d false = false := fun d h => by
        have hjd : j ≠ d := fun e => hjD (e ▸ h)
        rw [getD_set_ne false hjd]
        exact hd d h
      have ec : (((listed.setIfInBounds i true).setIfInBounds j true).getD c false) = (listed.setIfInBounds j true).getD c false := by
        rw [Array.setIfInBounds_comm _ _ (Ne.symm hji), getD_set_ne false hic]
      refine wpOp_mono (fun a' w' h3 => ⟨by have := h3.2.1; rw [ec] at this; exact this, ih (listed.setIfInBounds j true) a' w' hfree' hd' (ready_mono hr (Ne.symm hji)) h3.1 (by have := h3.2.1; rw [ec] at this; exact this) ?_⟩) h2
      rw [Array.setIfInBounds_comm _ _ hji]
      exact h3.2.2
/-- Number i first: what must stand ahead of c, by the chain D. -/
theorem wpAnyD_pre {i : Nat} (D : List Nat) {oi : Oper} {v : Value} {fuel : Nat} {listed : Array Bool} {a : Act} {w : World} (hic : (i == c) = false) (hi : ops[i]? = some oi) (hcD : D.contains c = true)
    (hdep : D.all (fun d => d == i || match ops[d]? with | none => true | some o => o.after.any (fun e => Region.binds md e && D.contains e.on)) = true) (hun : D.all (fun d => !listed.getD d false) = true)
    (hs : Region.noSelect ops = true) (hf : Region.free md ops listed i = true) (hr : (Region.ready md ops listed).contains i = true)
    (hQ : ∀ c a w, Q (.panic c) (a.put oi.dst v) w → Q (.panic c) a w) (hy : YieldsIf P ops (T false) oi v a) (hT : T false w)
    (h : wpAnyD P md ops Q c T fuel (listed.setIfInBounds i true) (a.put oi.dst v) w) : wpAnyD P md ops Q c T (fuel + 1) listed a w := by
  have hcD' : c ∈ D := by simpa using hcD
  have hun' : ∀ d ∈ D, listed.getD d false = false := fun d hd => by
    have := List.all_eq_true.1 hun d hd
    rwa [Bool.not_eq_true'] at this
  refine wpAnyD_first (U := T false) (by simpa using hic) D (fun d hd hne od ho => ?_) (fun b w h hb => by have := hb hcD'; subst this; exact h) hi (Region.noSelect_spec hs) hQ fuel listed a w (Region.free_spec hi hf) hun' (by simpa using hr) hy (by rw [hun' c hcD']; exact hT) h
  have h1 := List.all_eq_true.1 hdep d hd
  rw [ho, Bool.or_eq_true] at h1
  rcases h1 with h1 | h1
  · exact absurd (by simpa using h1) hne
  · simp only [Array.any_eq_true'] at h1
    obtain ⟨e, he, h2⟩ := h1
    simp at h2
    exact ⟨e, he, h2.1, h2.2⟩
/-- Number i first: what holds in all those worlds. -/
theorem wpAnyD_take {i : Nat} {oi : Oper} {v : Value} {fuel : Nat} {listed : Array Bool} {a : Act} {w : World} (hic : (i == c) = false) (hi : ops[i]? = some oi)
    (hs : Region.noSelect ops = true) (hf : Region.free md ops listed i = true) (hr : (Region.ready md ops listed).contains i = true) (hlc : listed.getD c false = false)
    (hQ : ∀ c a w, Q (.panic c) (a.put oi.dst v) w → Q (.panic c) a w) (hy : YieldsIf P ops (fun w => ∃ b, T b w) oi v a) (hT : T false w)
    (h : wpAnyD P md ops Q c T fuel (listed.setIfInBounds i true) (a.put oi.dst v) w) : wpAnyD P md ops Q c T (fuel + 1) listed a w :=
  wpAnyD_first (U := fun w => ∃ b, T b w) (by simpa using hic) [] (fun d h => by cases h) (fun b w h _ => ⟨b, h⟩) hi (Region.noSelect_spec hs) hQ fuel listed a w (Region.free_spec hi hf) (fun d h => by cases h) (by simpa using hr) hy (by rw [hlc]; exact hT) h
/-- One alone may come up. -/
theorem wpAnyD_one {i : Nat} {o : Oper} {fuel : Nat} {listed : Array Bool} {a : Act} {w : World} (hr : Region.ready md ops listed = [i]) (hi : ops[i]? = some o) (b : Bool) (hb : (listed.setIfInBounds i true).getD c false = b)
    (h : ∀ K' : Act → World → Prop, Hid (∀ a w, T b w → wpAnyD P md ops Q c T fuel (listed.setIfInBounds i true) a w → K' a w) → if Region.wanted o (yielded ops a.tmps) = true then Oper.wp P o a w K' Q else K' (a.put o.dst undef) w) :
    wpAnyD P md ops Q c T (fuel + 1) listed a w :=
  ⟨fun h0 => by rw [hr] at h0; simp at h0, fun j hj => by
    rw [hr] at hj
    obtain rfl : j = i := by simpa using hj
    exact wpOp_step hi (fun K' hK => h K' (Lib.hid fun a w hT hW => hK a w ⟨by rw [hb]; exact hT, hW⟩))⟩
/-- Two alone may come up. -/
theorem wpAnyD_two {i j : Nat} {oi oj : Oper} {fuel : Nat} {listed : Array Bool} {a : Act} {w : World} (hr : Region.ready md ops listed = [i, j]) (hi : ops[i]? = some oi) (hj : ops[j]? = some oj) (b c' : Bool) (hb : (listed.setIfInBounds i true).getD c false = b) (hc : (listed.setIfInBounds j true).getD c false = c')
    (h1 : ∀ K' : Act → World → Prop, Hid (∀ a w, T b w → wpAnyD P md ops Q c T fuel (listed.setIfInBounds i true) a w → K' a w) → if Region.wanted oi (yielded ops a.tmps) = true then Oper.wp P oi a w K' Q else K' (a.put oi.dst undef) w)
    (h2 : ∀ K' : Act → World → Prop, Hid (∀ a w, T c' w → wpAnyD P md ops Q c T fuel (listed.setIfInBounds j true) a w → K' a w) → if Region.wanted oj (yielded ops a.tmps) = true then Oper.wp P oj a w K' Q else K' (a.put oj.dst undef) w) :
    wpAnyD P md ops Q c T (fuel + 1) listed a w :=
  ⟨fun h0 => by rw [hr] at h0; simp at h0, fun k hk => by
    rw [hr] at hk
    rcases List.mem_cons.1 hk with rfl | hk
    · exact wpOp_step hi (fun K' hK => h1 K' (Lib.hid fun a w hT hW => hK a w ⟨by rw [hb]; exact hT, hW⟩))
    · obtain rfl : k = j := by simpa using hk
      exact wpOp_step hj (fun K' hK => h2 K' (Lib.hid fun a w hT hW => hK a w ⟨by rw [hc]; exact hT, hW⟩))⟩
theorem wpAnyD_done {listed : Array Bool} {a : Act} {w : World} (hr : Region.ready md ops listed = []) (h : Q .normal a w) :
    ∀ fuel, wpAnyD P md ops Q c T fuel listed a w
  | 0 => ⟨hr, h⟩
  | _ + 1 => ⟨fun _ => h, by rw [hr]; simp⟩
theorem wp_region_D {id : Nat} {a : Act} {w : World} (c : Nat) (T : Bool → World → Prop) (hm : P.follows .mixedOrders = true)
    (h : wpAnyD P .any ops Q c T ops.size (Array.replicate ops.size false) a w.drew) : (Code.region id ops true).wp P Q a w :=
  wp_region_any hm (wpAny_of_D _ _ _ _ h)
end
end Go.Proofs.YtebagfadcjgllaaGreatDoor.Kw
