/-
  The plain side of a store: files by rising paths; what a file is put beside; how a map with these files reads. No program, no world.
-/
import Derived.Maps.Ext
namespace Go.Proofs.YtmmilnmlmgcobaaGreatDoor.Sp
open Go
abbrev Bs := List UInt8

/-- A file. -/
structure F where
  p : Bs
  t : Bs
  c : Int
  d : Bool

theorem F.ext' {f g : F} (h1 : f.p = g.p) (h2 : f.t = g.t) (h3 : f.c = g.c) (h4 : f.d = g.d) : f = g := by
  cases f; cases g; simp_all

def Sorted (L : List F) : Prop := L.Pairwise fun a b => a.p < b.p

theorem lt_irr (a : Bs) : ¬ a < a := List.lt_irrefl a
theorem lt_tr {a b c : Bs} (h : a < b) (k : b < c) : a < c := List.lt_trans h k
theorem lt_ne {a b : Bs} (h : a < b) : a ≠ b := fun e => lt_irr b (e ▸ h)
theorem lt_or {a b : Bs} (h : ¬ a < b) (k : a ≠ b) : b < a := by
  rcases List.le_iff_lt_or_eq.1 (List.not_lt.1 h) with h | h
  · exact h
  · exact absurd h.symm k

theorem before_lt : ∀ (a b : Bs), bytesBefore a b = decide (a < b)
  | [], [] => by simp [bytesBefore]
  | [], _ :: _ => by simp [bytesBefore]
  | _ :: _, [] => by simp [bytesBefore]
  | a :: r, b :: s => by
    rw [bytesBefore, before_lt r s]
    simp only [List.cons_lt_cons_iff]
    by_cases h1 : a < b <;> by_cases h2 : a = b <;> by_cases h3 : r < s <;> simp [h1, h2, h3]

/-- Where a path stands, and whether it is there. -/
def pos : List F → Bs → Nat × Bool
  | [], _ => (0, false)
  | f :: r, p => if f.p = p then (0, true) else if p < f.p then (0, false) else ((pos r p).1 + 1, (pos r p).2)

/-- A file in its place. -/
def ins : List F → F → List F
  | [], f => [f]
  | g :: r, f => if g.p = f.p then f :: r else if f.p < g.p then f :: g :: r else g :: ins r f

def get (L : List F) (p : Bs) : Option F := L.find? fun f => f.p == p

theorem pos_le : ∀ (L : List F) (p : Bs), (pos L p).1 ≤ L.length
  | [], _ => by simp [pos]
  | f :: r, p => by
    unfold pos
    have := pos_le r p
    split
    · simp
    · split
      · simp
      · simp; omega
theorem pos_lt : ∀ (L : List F) (p : Bs), (pos L p).2 = true → (pos L p).1 < L.length
  | [], _, h => by simp [pos] at h
  | f :: r, p, h => by
    unfold pos at h ⊢
    split at h
    · rename_i e; rw [if_pos e]; simp
    · rename_i e
      rw [if_neg e]
      split at h
      · cases h
      · rename_i e2
        rw [if_neg e2]
        have := pos_lt r p h
        simp; omega

theorem ins_pos : ∀ (L : List F) (f : F), ins L f = L.take (pos L f.p).1 ++ f :: L.drop ((pos L f.p).1 + if (pos L f.p).2 then 1 else 0)
  | [], f => by simp [ins]
  | g :: r, f => by
    unfold ins pos
    split
    · simp
    · split
      · simp
      · rw [ins_pos r f, Nat.add_right_comm]
        simp

theorem mem_ins : ∀ {L : List F} {f : F}, Sorted L → ∀ g, g ∈ ins L f ↔ g = f ∨ (g ∈ L ∧ g.p ≠ f.p)
  | [], f, _, g => by simp [ins]
  | h :: r, f, hs, g => by
    obtain ⟨h1, h2⟩ := List.pairwise_cons.1 hs
    unfold ins
    split
    · rename_i e
      constructor
      · intro hg
        rcases List.mem_cons.1 hg with rfl | hg
        · exact .inl rfl
        · exact .inr ⟨List.mem_cons_of_mem _ hg, fun e2 => lt_ne (h1 g hg) (e.trans e2.symm)⟩
      · rintro (rfl | ⟨hg, hn⟩)
        · simp
        · rcases List.mem_cons.1 hg with rfl | hg
          · exact absurd e hn
          · simp [hg]
    · split
      · rename_i e e2
        constructor
        · intro hg
          rcases List.mem_cons.1 hg with rfl | hg
          · exact .inl rfl
          · refine .inr ⟨hg, fun e3 => ?_⟩
            rcases List.mem_cons.1 hg with rfl | hg
            · exact e e3
            · exact lt_irr _ (e3 ▸ lt_tr e2 (h1 g hg))
        · rintro (rfl | ⟨hg, _⟩)
          · simp
          · exact List.mem_cons_of_mem _ hg
      · rename_i e e2
        rw [List.mem_cons, mem_ins h2 g]
        constructor
        · rintro (rfl | rfl | ⟨hg, hn⟩)
          · exact .inr ⟨by simp, e⟩
          · exact .inl rfl
          · exact .inr ⟨List.mem_cons_of_mem _ hg, hn⟩
        · rintro (rfl | ⟨hg, hn⟩)
          · exact .inr (.inl rfl)
          · rcases List.mem_cons.1 hg with rfl | hg
            · exact .inl rfl
            · exact .inr (.inr ⟨hg, hn⟩)

theorem sorted_ins : ∀ {L : List F} {f : F}, Sorted L → Sorted (ins L f)
  | [], f, _ => by simp [ins, Sorted]
  | h :: r, f, hs => by
    obtain ⟨h1, h2⟩ := List.pairwise_cons.1 hs
    unfold ins
    split
    · rename_i e
      exact List.pairwise_cons.2 ⟨fun g hg => e ▸ h1 g hg, h2⟩
    · split
      · rename_i e e2
        refine List.pairwise_cons.2 ⟨fun g hg => ?_, hs⟩
        rcases List.mem_cons.1 hg with rfl | hg
        · exact e2
        · exact lt_tr e2 (h1 g hg)
      · rename_i e e2
        refine List.pairwise_cons.2 ⟨fun g hg => ?_, sorted_ins h2⟩
        rcases (mem_ins h2 g).1 hg with rfl | ⟨hg, _⟩
        · exact lt_or e2 (fun e3 => e e3.symm)
        · exact h1 g hg

theorem len_ins : ∀ (L : List F) (f : F), (ins L f).length = if (pos L f.p).2 then L.length else L.length + 1
  | [], f => by simp [ins, pos]
  | g :: r, f => by
    unfold ins pos
    split
    · simp
    · split
      · simp
      · have := len_ins r f
        simp only [List.length_cons, this]
        split <;> rfl

/-- Two rising lists with the same files are one. -/
theorem sorted_ext : ∀ {L M : List F}, Sorted L → Sorted M → (∀ g, g ∈ L ↔ g ∈ M) → L = M
  | [], [], _, _, _ => rfl
  | [], b :: s, _, _, h => by have := (h b).2 (by simp); simp at this
  | a :: r, [], _, _, h => by have := (h a).1 (by simp); simp at this
  | a :: r, b :: s, h1, h2, h => by
    obtain ⟨a1, a2⟩ := List.pairwise_cons.1 h1
    obtain ⟨b1, b2⟩ := List.pairwise_cons.1 h2
    have hab : a = b := by
      rcases List.mem_cons.1 ((h a).1 (by simp)) with e | ha
      · exact e
      · rcases List.mem_cons.1 ((h b).2 (by simp)) with e | hb
        · exact e.symm
        · exact absurd (lt_tr (a1 b hb) (b1 a ha)) (lt_irr _)
    subst hab
    rw [sorted_ext a2 b2 fun g => ⟨fun hg => by
      rcases List.mem_cons.1 ((h g).1 (by simp [hg])) with e | hg'
      · exact absurd (a1 g hg) (by rw [e]; exact lt_irr _)
      · exact hg', fun hg => by
      rcases List.mem_cons.1 ((h g).2 (by simp [hg])) with e | hg'
      · exact absurd (b1 g hg) (by rw [e]; exact lt_irr _)
      · exact hg'⟩]

theorem sorted_uni {L : List F} (h : Sorted L) {f g : F} (hf : f ∈ L) (hg : g ∈ L) (e : f.p = g.p) : f = g := by
  induction L with
  | nil => cases hf
  | cons a r ih =>
    obtain ⟨h1, h2⟩ := List.pairwise_cons.1 h
    rcases List.mem_cons.1 hf with ef | hf'
    · rcases List.mem_cons.1 hg with eg | hg'
      · rw [ef, eg]
      · exact absurd (ef ▸ e) (lt_ne (h1 g hg'))
    · rcases List.mem_cons.1 hg with eg | hg'
      · exact absurd (eg ▸ e).symm (lt_ne (h1 f hf'))
      · exact ih h2 hf' hg'

theorem get_some {L : List F} (hs : Sorted L) {p : Bs} {f : F} : get L p = some f ↔ f ∈ L ∧ f.p = p := by
  unfold get
  constructor
  · intro h
    exact ⟨List.mem_of_find?_eq_some h, by have := List.find?_some h; simpa using this⟩
  · rintro ⟨h1, h2⟩
    cases h : L.find? (fun f => f.p == p) with
    | none => have := List.find?_eq_none.1 h f h1; simp [h2] at this
    | some g =>
      have h3 := List.mem_of_find?_eq_some h
      have h4 := List.find?_some h
      rw [sorted_uni hs h3 h1 (by rw [h2]; simpa using h4)]
theorem get_none {L : List F} {p : Bs} : get L p = none ↔ ∀ f ∈ L, f.p ≠ p := by
  unfold get
  rw [List.find?_eq_none]
  simp

/-- What 'pos' says of a rising list. -/
theorem pos_get : ∀ {L : List F} {p : Bs}, Sorted L → (pos L p).2 = (get L p).isSome ∧ ∀ f, get L p = some f → L[(pos L p).1]? = some f
  | [], p, _ => by simp [pos, get]
  | g :: r, p, hs => by
    obtain ⟨h1, h2⟩ := List.pairwise_cons.1 hs
    obtain ⟨i1, i2⟩ := pos_get (p := p) h2
    unfold pos get
    by_cases e : g.p = p
    · rw [if_pos e]; simp [e]
    · rw [if_neg e, List.find?_cons, show (g.p == p) = false by simpa using e]
      by_cases e2 : p < g.p
      · rw [if_pos e2]
        have : r.find? (fun f => f.p == p) = none := by
          rw [List.find?_eq_none]
          intro f hf e3
          have e4 : f.p = p := by simpa using e3
          have := h1 f hf
          rw [e4] at this
          exact lt_irr _ (lt_tr e2 this)
        simp [this]
      · rw [if_neg e2]
        refine ⟨i1, fun f hf => ?_⟩
        rw [List.getElem?_cons_succ]
        exact i2 f hf

theorem pos_yes {L : List F} {p : Bs} {f : F} (hs : Sorted L) (h : get L p = some f) : (pos L p).2 = true ∧ L[(pos L p).1]? = some f := by
  obtain ⟨a, b⟩ := pos_get (p := p) hs
  exact ⟨by rw [a, h]; rfl, b f h⟩
theorem pos_no {L : List F} {p : Bs} (hs : Sorted L) (h : get L p = none) : (pos L p).2 = false := by rw [(pos_get hs).1, h]; rfl
theorem len_ins_no {L : List F} {f : F} (hs : Sorted L) (h : get L f.p = none) : (ins L f).length = L.length + 1 := by rw [len_ins, pos_no hs h]; rfl
theorem len_ins_yes {L : List F} {f g : F} (hs : Sorted L) (h : get L f.p = some g) : (ins L f).length = L.length := by rw [len_ins, (pos_yes hs h).1]; rfl

theorem get_ins_same {L : List F} {f : F} (hs : Sorted L) : get (ins L f) f.p = some f := (get_some (sorted_ins hs)).2 ⟨(mem_ins hs f).2 (.inl rfl), rfl⟩
theorem get_ins_other {L : List F} {f : F} {p : Bs} (hs : Sorted L) (h : p ≠ f.p) : get (ins L f) p = get L p := by
  cases h1 : get L p with
  | some g =>
    obtain ⟨a, b⟩ := (get_some hs).1 h1
    exact (get_some (sorted_ins hs)).2 ⟨(mem_ins hs g).2 (.inr ⟨a, by rw [b]; exact h⟩), b⟩
  | none =>
    refine get_none.2 fun g hg => ?_
    rcases (mem_ins hs g).1 hg with rfl | ⟨hg, _⟩
    · exact fun e => h e.symm
    · exact get_none.1 h1 g hg

/-! ### how a map with these files reads -/
def fD (f : F) : DataW Unit := .agg [.lit (.string f.p), .lit (.string f.t), .lit (.int .i64 f.c), .lit (.bool f.d)]
def ent (f : F) : Lit × DataW Unit := (.string f.p, fD f)
def mapOf (L : List F) : DataW Unit := .map (L.map ent)
theorem fD_inj {f g : F} (h : fD f = fD g) : f = g := by
  unfold fD at h
  simp only [DataW.agg.injEq, List.cons.injEq, DataW.lit.injEq, Lit.string.injEq, Lit.int.injEq, Lit.bool.injEq, and_true, true_and] at h
  exact F.ext' h.1 h.2.1 h.2.2.1 h.2.2.2

theorem size_mapOf (L : List F) : Maps.size (mapOf L) = L.length := by show (L.map ent).length = _; simp
theorem same_str (a b : Bs) : (Lit.string a).sameKey (.string b) = (a == b) := rfl
theorem has_mapOf (L : List F) (p : Bs) : Maps.has (mapOf L) (.string p) = (get L p).isSome := by
  show (L.map ent).any _ = (L.find? _).isSome
  rw [List.any_map, Bool.eq_iff_iff, List.find?_isSome, List.any_eq_true]; rfl
theorem at_mapOf_some {L : List F} {p : Bs} {f : F} (h : get L p = some f) (z : DataW Unit) : (mapOf L).atKey (.string p) z = fD f := by
  unfold mapOf DataW.atKey
  simp only []
  rw [List.find?_map, show ((fun q : Lit × DataW Unit => q.1.sameKey (.string p)) ∘ ent) = (fun f => f.p == p) from rfl, show L.find? (fun f => f.p == p) = some f from h]
  rfl
theorem at_mapOf_none {L : List F} {p : Bs} (h : get L p = none) (z : DataW Unit) : (mapOf L).atKey (.string p) z = z := by
  unfold mapOf DataW.atKey
  simp only []
  rw [List.find?_map, show ((fun q : Lit × DataW Unit => q.1.sameKey (.string p)) ∘ ent) = (fun f => f.p == p) from rfl, show L.find? (fun f => f.p == p) = none from h]
  rfl

theorem filter_keep {L : List F} {p : Bs} (h : ∀ f ∈ L, f.p ≠ p) : (L.map ent).filter (fun q => !q.1.sameKey (.string p)) = L.map ent := by
  refine List.filter_eq_self.2 fun q hq => ?_
  obtain ⟨f, hf, rfl⟩ := List.mem_map.1 hq
  show (!(f.p == p)) = true
  have := h f hf
  simpa using this

theorem put_mapOf : ∀ {L : List F} {f : F}, Sorted L → (mapOf L).put (.string f.p) (fD f) = mapOf (ins L f)
  | [], f, _ => rfl
  | g :: r, f, hs => by
    obtain ⟨h1, h2⟩ := List.pairwise_cons.1 hs
    have ih := put_mapOf (f := f) h2
    have ih' : DataW.insert (ent f) ((r.map ent).filter fun q => !q.1.sameKey (.string f.p)) = (ins r f).map ent := by
      have : DataW.map (DataW.insert (ent f) ((r.map ent).filter fun q => !q.1.sameKey (.string f.p))) = mapOf (ins r f) := ih
      exact (DataW.map.injEq _ _).mp this
    show DataW.map (DataW.insert (ent f) ((ent g :: r.map ent).filter fun q => !q.1.sameKey (.string f.p))) = .map ((ins (g :: r) f).map ent)
    congr 1
    unfold ins
    by_cases e : g.p = f.p
    · have e1 : (ent g).1.sameKey (.string f.p) = true := by show (g.p == f.p) = true; simpa using e
      rw [if_pos e, List.filter_cons, if_neg (by rw [e1]; simp), filter_keep (fun x hx e2 => lt_ne (h1 x hx) (e.trans e2.symm))]
      cases r with
      | nil => rfl
      | cons x r =>
        show DataW.insert (ent f) (ent x :: r.map ent) = _
        unfold DataW.insert
        have : (ent f).1.before (ent x).1 = true := by
          show bytesBefore f.p x.p = true
          rw [before_lt, ← e]; simpa using h1 x (by simp)
        rw [if_pos this]; rfl
    · have e1 : (ent g).1.sameKey (.string f.p) = false := by show (g.p == f.p) = false; simpa using e
      rw [if_neg e, List.filter_cons, if_pos (by rw [e1]; rfl)]
      by_cases e2 : f.p < g.p
      · rw [if_pos e2, filter_keep (fun x hx e3 => lt_irr _ (e3 ▸ lt_tr e2 (h1 x hx)))]
        unfold DataW.insert
        have : (ent f).1.before (ent g).1 = true := by
          show bytesBefore f.p g.p = true
          rw [before_lt]; simpa using e2
        rw [if_pos this]; rfl
      · rw [if_neg e2]
        unfold DataW.insert
        have : ¬ (ent f).1.before (ent g).1 = true := by
          show ¬ bytesBefore f.p g.p = true
          rw [before_lt]; simpa using e2
        rw [if_neg this, ih']; rfl

theorem mapOf_inj {L M : List F} (h : mapOf L = mapOf M) : L = M := by
  have h1 : L.map ent = M.map ent := (DataW.map.injEq _ _).mp h
  refine (List.map_inj_right (f := ent) ?_).1 h1
  intro f g e
  exact fD_inj (congrArg Prod.snd e)

end Go.Proofs.YtmmilnmlmgcobaaGreatDoor.Sp
