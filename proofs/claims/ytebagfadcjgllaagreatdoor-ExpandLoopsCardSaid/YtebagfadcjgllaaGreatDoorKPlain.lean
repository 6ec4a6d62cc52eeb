/-
  The plain side of a map by strings, of whatever elements: entries by rising keys; where one is put; how a map with these entries reads. No program, no world.
-/
import Derived.Maps.Views
namespace Go.Proofs.YtebagfadcjgllaaGreatDoor.Kp
open Go
abbrev Bs := List UInt8
variable {α : Type}

def Sorted (L : List (Bs × α)) : Prop := L.Pairwise fun a b => a.1 < b.1
theorem lt_irr (a : Bs) : ¬ a < a := List.lt_irrefl a
theorem lt_tr {a b c : Bs} (h : a < b) (k : b < c) : a < c := List.lt_trans h k
theorem lt_ne {a b : Bs} (h : a < b) : a ≠ b := fun e => lt_irr b (e ▸ h)
theorem lt_or {a b : Bs} (h : ¬ a < b) (k : a ≠ b) : b < a := by
  rcases List.le_iff_lt_or_eq.1 (List.not_lt.1 h) with h | h
  · exact h
  · exact absurd h.symm k

theorem before_lt : ∀ (a b : Bs), bytesBefore a b = decide (a < b)
  | [], [] => by simp [bytesBefore]
  | [], _ :: _ => by simp [bytesBefore]
  | _ :: _, [] => by simp [bytesBefore]
  | a :: r, b :: s => by
    rw [bytesBefore, before_lt r s]
    simp only [List.cons_lt_cons_iff]
    by_cases h1 : a < b <;> by_cases h2 : a = b <;> by_cases h3 : r < s <;> simp [h1, h2, h3]

/-- An entry in its place. -/
def ins : List (Bs × α) → Bs × α → List (Bs × α)
  | [], f => [f]
  | g :: r, f => if g.1 = f.1 then f :: r else if f.1 < g.1 then f :: g :: r else g :: ins r f

def get (L : List (Bs × α)) (p : Bs) : Option (Bs × α) := L.find? fun f => f.1 == p

theorem mem_ins : ∀ {L : List (Bs × α)} {f : Bs × α}, Sorted L → ∀ g, g ∈ ins L f ↔ g = f ∨ (g ∈ L ∧ g.1 ≠ f.1)
  | [], f, _, g => by simp [ins]
  | h :: r, f, hs, g => by
    obtain ⟨h1, h2⟩ := List.pairwise_cons.1 hs
    unfold ins
    split
    · rename_i e
      constructor
      · intro hg
        rcases List.mem_cons.1 hg with rfl | hg
        · exact .inl rfl
        · exact .inr ⟨List.mem_cons_of_mem _ hg, fun e2 => lt_ne (h1 g hg) (e.trans e2.symm)⟩
      · rintro (rfl | ⟨hg, hn⟩)
        · simp
        · rcases List.mem_cons.1 hg with rfl | hg
          · exact absurd e hn
          · simp [hg]
    · split
      · rename_i e e2
        constructor
        · intro hg
          rcases List.mem_cons.1 hg with rfl | hg
          · exact .inl rfl
          · refine .inr ⟨hg, fun e3 => ?_⟩
            rcases List.mem_cons.1 hg with rfl | hg
            · exact e e3
            · exact lt_irr _ (e3 ▸ lt_tr e2 (h1 g hg))
        · rintro (rfl | ⟨hg, _⟩)
          · simp
          · exact List.mem_cons_of_mem _ hg
      · rename_i e e2
        rw [List.mem_cons, mem_ins h2 g]
        constructor
        · rintro (rfl | rfl | ⟨hg, hn⟩)
          · exact .inr ⟨by simp, e⟩
          · exact .inl rfl
          · exact .inr ⟨List.mem_cons_of_mem _ hg, hn⟩
        · rintro (rfl | ⟨hg, hn⟩)
          · exact .inr (.inl rfl)
          · rcases List.mem_cons.1 hg with rfl | hg
            · exact .inl rfl
            · exact .inr (.inr ⟨hg, hn⟩)

theorem sorted_ins : ∀ {L : List (Bs × α)} {f : Bs × α}, Sorted L → Sorted (ins L f)
  | [], f, _ => by simp [ins, Sorted]
  | h :: r, f, hs => by
    obtain ⟨h1, h2⟩ := List.pairwise_cons.1 hs
    unfold ins
    split
    · rename_i e
      exact List.pairwise_cons.2 ⟨fun g hg => e ▸ h1 g hg, h2⟩
    · split
      · rename_i e e2
        refine List.pairwise_cons.2 ⟨fun g hg => ?_, hs⟩
        rcases List.mem_cons.1 hg with rfl | hg
        · exact e2
        · exact lt_tr e2 (h1 g hg)
      · rename_i e e2
        refine List.pairwise_cons.2 ⟨fun g hg => ?_, sorted_ins h2⟩
        rcases (mem_ins h2 g).1 hg with rfl | ⟨hg, _⟩
        · exact lt_or e2 (fun e3 => e e3.symm)
        · exact h1 g hg

/-- Two rising lists with the same entries are one. -/
theorem sorted_ext : ∀ {L M : List (Bs × α)}, Sorted L → Sorted M → (∀ g, g ∈ L ↔ g ∈ M) → L = M
  | [], [], _, _, _ => rfl
  | [], b :: s, _, _, h => by have := (h b).2 (by simp); simp at this
  | a :: r, [], _, _, h => by have := (h a).1 (by simp); simp at this
  | a :: r, b :: s, h1, h2, h => by
    obtain ⟨a1, a2⟩ := List.pairwise_cons.1 h1
    obtain ⟨b1, b2⟩ := List.pairwise_cons.1 h2
    have hab : a = b := by
      rcases List.mem_cons.1 ((h a).1 (by simp)) with e | ha
      · exact e
      · rcases List.mem_cons.1 ((h b).2 (by simp)) with e | hb
        · exact e.symm
        · exact absurd (lt_tr (a1 b hb) (b1 a ha)) (lt_irr _)
    subst hab
    rw [sorted_ext a2 b2 fun g => ⟨fun hg => by
      rcases List.mem_cons.1 ((h g).1 (by simp [hg])) with e | hg'
      · exact absurd (a1 g hg) (by rw [e]; exact lt_irr _)
      · exact hg', fun hg => by
      rcases List.mem_cons.1 ((h g).2 (by simp [hg])) with e | hg'
      · exact absurd (b1 g hg) (by rw [e]; exact lt_irr _)
      · exact hg'⟩]

theorem sorted_uni {L : List (Bs × α)} (h : Sorted L) {f g : Bs × α} (hf : f ∈ L) (hg : g ∈ L) (e : f.1 = g.1) : f = g := by
  induction L with
  | nil => cases hf
  | cons a r ih =>
    obtain ⟨h1, h2⟩ := List.pairwise_cons.1 h
    rcases List.mem_cons.1 hf with ef | hf'
    · rcases List.mem_cons.1 hg with eg | hg'
      · rw [ef, eg]
      · exact absurd (ef ▸ e) (lt_ne (h1 g hg'))
    · rcases List.mem_cons.1 hg with eg | hg'
      · exact absurd (eg ▸ e).symm (lt_ne (h1 f hf'))
      · exact ih h2 hf' hg'

theorem get_some {L : List (Bs × α)} (hs : Sorted L) {p : Bs} {f : Bs × α} : get L p = some f ↔ f ∈ L ∧ f.1 = p := by
  unfold get
  constructor
  · intro h
    exact ⟨List.mem_of_find?_eq_some h, by have := List.find?_some h; simpa using this⟩
  · rintro ⟨h1, h2⟩
    cases h : L.find? (fun f => f.1 == p) with
    | none => have := List.find?_eq_none.1 h f h1; simp [h2] at this
    | some g =>
      have h3 := List.mem_of_find?_eq_some h
      have h4 := List.find?_some h
      rw [sorted_uni hs h3 h1 (by rw [h2]; simpa using h4)]
theorem get_none {L : List (Bs × α)} {p : Bs} : get L p = none ↔ ∀ f ∈ L, f.1 ≠ p := by
  unfold get
  rw [List.find?_eq_none]
  simp

theorem get_ins_same {L : List (Bs × α)} {f : Bs × α} (hs : Sorted L) : get (ins L f) f.1 = some f := (get_some (sorted_ins hs)).2 ⟨(mem_ins hs f).2 (.inl rfl), rfl⟩
theorem get_ins_other {L : List (Bs × α)} {f : Bs × α} {p : Bs} (hs : Sorted L) (h : p ≠ f.1) : get (ins L f) p = get L p := by
  cases h1 : get L p with
  | some g =>
    obtain ⟨a, b⟩ := (get_some hs).1 h1
    exact (get_some (sorted_ins hs)).2 ⟨(mem_ins hs g).2 (.inr ⟨a, by rw [b]; exact h⟩), b⟩
  | none =>
    refine get_none.2 fun g hg => ?_
    rcases (mem_ins hs g).1 hg with rfl | ⟨hg, _⟩
    · exact fun e => h e.symm
    · exact get_none.1 h1 g hg

theorem get_of_mem {L : List (Bs × α)} (hs : Sorted L) {f : Bs × α} (h : f ∈ L) : get L f.1 = some f := (get_some hs).2 ⟨h, rfl⟩
theorem len_ins_le : ∀ (L : List (Bs × α)) (f : Bs × α), (ins L f).length ≤ L.length + 1
  | [], f => by simp [ins]
  | g :: r, f => by
    unfold ins
    have := len_ins_le r f
    split
    · simp
    · split
      · simp
      · simp; omega

/-! ### how a map with these entries reads -/
section
variable (enc : α → DataW Unit)
def ent (f : Bs × α) : Lit × DataW Unit := (.string f.1, enc f.2)
def mapOf (L : List (Bs × α)) : DataW Unit := .map (L.map (ent enc))

theorem size_mapOf (L : List (Bs × α)) : Maps.size (mapOf enc L) = L.length := by show (L.map (ent enc)).length = _; simp
theorem has_mapOf (L : List (Bs × α)) (p : Bs) : Maps.has (mapOf enc L) (.string p) = (get L p).isSome := by
  show (L.map (ent enc)).any _ = (L.find? _).isSome
  rw [List.any_map, Bool.eq_iff_iff, List.find?_isSome, List.any_eq_true]; rfl
theorem at_mapOf_some {L : List (Bs × α)} {p : Bs} {f : Bs × α} (h : get L p = some f) (z : DataW Unit) : (mapOf enc L).atKey (.string p) z = enc f.2 := by
  unfold mapOf DataW.atKey
  simp only []
  rw [List.find?_map, show ((fun q : Lit × DataW Unit => q.1.sameKey (.string p)) ∘ ent enc) = (fun f => f.1 == p) from rfl, show L.find? (fun f => f.1 == p) = some f from h]
  rfl
theorem at_mapOf_none {L : List (Bs × α)} {p : Bs} (h : get L p = none) (z : DataW Unit) : (mapOf enc L).atKey (.string p) z = z := by
  unfold mapOf DataW.atKey
  simp only []
  rw [List.find?_map, show ((fun q : Lit × DataW Unit => q.1.sameKey (.string p)) ∘ ent enc) = (fun f => f.1 == p) from rfl, show L.find? (fun f => f.1 == p) = none from h]
  rfl

theorem filter_keep {L : List (Bs × α)} {p : Bs} (h : ∀ f ∈ L, f.1 ≠ p) : (L.map (ent enc)).filter (fun q => !q.1.sameKey (.string p)) = L.map (ent enc) := by
  refine List.filter_eq_self.2 fun q hq => ?_
  obtain ⟨f, hf, rfl⟩ := List.mem_map.1 hq
  show (!(f.1 == p)) = true
  have := h f hf
  simpa using this

theorem put_mapOf : ∀ {L : List (Bs × α)} {f : Bs × α}, Sorted L → (mapOf enc L).put (.string f.1) (enc f.2) = mapOf enc (ins L f)
  | [], f, _ => rfl
  | g :: r, f, hs => by
    obtain ⟨h1, h2⟩ := List.pairwise_cons.1 hs
    have ih := put_mapOf (f := f) h2
    have ih' : DataW.insert (ent enc f) ((r.map (ent enc)).filter fun q => !q.1.sameKey (.string f.1)) = (ins r f).map (ent enc) := by
      have : DataW.map (DataW.insert (ent enc f) ((r.map (ent enc)).filter fun q => !q.1.sameKey (.string f.1))) = mapOf enc (ins r f) := ih
      exact (DataW.map.injEq _ _).mp this
    show DataW.map (DataW.insert (ent enc f) ((ent enc g :: r.map (ent enc)).filter fun q => !q.1.sameKey (.string f.1))) = .map ((ins (g :: r) f).map (ent enc))
    congr 1
    unfold ins
    by_cases e : g.1 = f.1
    · have e1 : (ent enc g).1.sameKey (.string f.1) = true := by show (g.1 == f.1) = true; simpa using e
      rw [if_pos e, List.filter_cons, if_neg (by rw [e1]; simp), filter_keep enc (fun x hx e2 => lt_ne (h1 x hx) (e.trans e2.symm))]
      cases r with
      | nil => rfl
      | cons x r =>
        show DataW.insert (ent enc f) (ent enc x :: r.map (ent enc)) = _
        unfold DataW.insert
        have : (ent enc f).1.before (ent enc x).1 = true := by
          show bytesBefore f.1 x.1 = true
          rw [before_lt, ← e]; simpa using h1 x (by simp)
        rw [if_pos this]; rfl
    · have e1 : (ent enc g).1.sameKey (.string f.1) = false := by show (g.1 == f.1) = false; simpa using e
      rw [if_neg e, List.filter_cons, if_pos (by rw [e1]; rfl)]
      by_cases e2 : f.1 < g.1
      · rw [if_pos e2, filter_keep enc (fun x hx e3 => lt_irr _ (e3 ▸ lt_tr e2 (h1 x hx)))]
        unfold DataW.insert
        have : (ent enc f).1.before (ent enc g).1 = true := by
          show bytesBefore f.1 g.1 = true
          rw [before_lt]; simpa using e2
        rw [if_pos this]; rfl
      · rw [if_neg e2]
        unfold DataW.insert
        have : ¬ (ent enc f).1.before (ent enc g).1 = true := by
          show ¬ bytesBefore f.1 g.1 = true
          rw [before_lt]; simpa using e2
        rw [if_neg this, ih']; rfl

theorem mapOf_inj (hinj : ∀ a b, enc a = enc b → a = b) {L M : List (Bs × α)} (h : mapOf enc L = mapOf enc M) : L = M := by
  have h1 : L.map (ent enc) = M.map (ent enc) := (DataW.map.injEq _ _).mp h
  refine (List.map_inj_right (f := ent enc) ?_).1 h1
  rintro ⟨f, x⟩ ⟨g, y⟩ e
  have e1 : f = g := by have := congrArg Prod.fst e; exact Lit.string.inj this
  have e2 : x = y := hinj _ _ (congrArg Prod.snd e)
  rw [e1, e2]
end
end Go.Proofs.YtebagfadcjgllaaGreatDoor.Kp
