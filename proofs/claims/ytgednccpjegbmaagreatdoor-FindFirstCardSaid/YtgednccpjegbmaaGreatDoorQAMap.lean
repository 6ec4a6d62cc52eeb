/-
  Maps of texts; the fifteen variables as entries of a map.
-/
import Derived.Test.YtgednccpjegbmaaGreatDoorQAPlain
import Derived.Test.YtgednccpjegbmaaGreatDoorQJBase
import Derived.Test.YtgednccpjegbmaaGreatDoorQEPBase
namespace Go.Proofs.YtgednccpjegbmaaGreatDoor.Aw
open Go.RowKit Go.Proofs.YtgednccpjegbmaaGreatDoor Go.Proofs.YtgednccpjegbmaaGreatDoor.Ww Go.Proofs.YtgednccpjegbmaaGreatDoor.Tw Go.Proofs.YtgednccpjegbmaaGreatDoor.Ew Go.Maps
set_option maxRecDepth 100000

/-- Maps of texts. -/
def elemS : Value → Option (DataW Unit × List MemPlace)
  | .string s => some (.lit (.string (by8 s)), [])
  | _ => none
theorem elemS_inv (v : Value) (z : DataW Unit × List MemPlace) (h : elemS v = some z) : ∃ a : ByteArray, v = .string a ∧ z = (.lit (.string (by8 a)), []) := by
  cases v <;> simp [elemS] at h
  exact ⟨_, rfl, h.symm⟩
def AK : Kw.Kind ByteArray := ⟨81, 9, fun a => .string a, fun a => .lit (.string (by8 a)), elemS, ⟨#[]⟩, fun _ => rfl, elemS_inv, fun a b h => by8_ext (by simpa using h), Tryz.underlying81, fun w => by kernel_rfl⟩
/-- A map that has these. -/
structure Has (w : World) (b : Nat) (L : List (Bs × ByteArray)) (l : List (ByteArray × ByteArray)) : Prop where
  map : Kw.MapAt AK w b L
  len : L.length = l.length
  all : ∀ p ∈ l, Kp.get L (by8 p.1) = some (by8 p.1, p.2)
/-- What auto.Of returns. -/
def AutoC : Prop := ∀ (w : World) (target stem : ByteArray) (v : Value) (needs : List ByteArray), GM w → Rd w w.heap.size v (strsC needs) → needs.length ≤ 60 → (∀ p ∈ needs, p.size ≤ 100) → target.size ≤ 500 → stem.size ≤ 500 →
  Calls Tryz.prog 57 #[.string target, v, .string stem] w fun e w' => ∃ b L, e = .returned (.map (some b)) ∧ Hid (Has w' b L (allT (plainT target stem needs))) ∧ Below w.heap.size w w'
/-! ### the entries -/
abbrev En := Bs × ByteArray
def entA (p : ByteArray × ByteArray) : En := (by8 p.1, p.2)
def dE (f : En) : En := (f.1 ++ [68], dirsT f.2)
def fE (f : En) : En := (f.1 ++ [70], nameT f.2)
/-- All entries that there are in the end. -/
def allE (P : List (ByteArray × ByteArray)) : List En := (allT P).map entA
theorem mem_allE {P : List (ByteArray × ByteArray)} {g : En} : g ∈ allE P ↔ ∃ f ∈ P.map entA, g = f ∨ g = dE f ∨ g = fE f := by
  unfold allE allT
  rw [List.mem_map]
  constructor
  · rintro ⟨p, hp, rfl⟩
    obtain ⟨q, hq, hp⟩ := List.mem_flatMap.1 hp
    refine ⟨entA q, List.mem_map.2 ⟨q, hq, rfl⟩, ?_⟩
    unfold threeT at hp
    simp only [List.mem_cons, List.not_mem_nil, or_false] at hp
    rcases hp with rfl | rfl | rfl
    · exact .inl rfl
    · exact .inr (.inl (by show (by8 (q.1 ++ ⟨#[68]⟩), _) = (by8 q.1 ++ [68], _); rw [by8_add]; rfl))
    · exact .inr (.inr (by show (by8 (q.1 ++ ⟨#[70]⟩), _) = (by8 q.1 ++ [70], _); rw [by8_add]; rfl))
  · rintro ⟨f, hf, h⟩
    obtain ⟨q, hq, rfl⟩ := List.mem_map.1 hf
    rcases h with rfl | rfl | rfl
    · exact ⟨q, List.mem_flatMap.2 ⟨q, hq, by unfold threeT; simp⟩, rfl⟩
    · exact ⟨(q.1 ++ ⟨#[68]⟩, dirsT q.2), List.mem_flatMap.2 ⟨q, hq, by unfold threeT; simp⟩, by show (by8 (q.1 ++ ⟨#[68]⟩), _) = (by8 q.1 ++ [68], _); rw [by8_add]; rfl⟩
    · exact ⟨(q.1 ++ ⟨#[70]⟩, nameT q.2), List.mem_flatMap.2 ⟨q, hq, by unfold threeT; simp⟩, by show (by8 (q.1 ++ ⟨#[70]⟩), _) = (by8 q.1 ++ [70], _); rw [by8_add]; rfl⟩
/-- No key stands twice. -/
def Uni (M : List En) : Prop := M.Pairwise fun a b => a.1 ≠ b.1
theorem uni_eq : ∀ {M : List En}, Uni M → ∀ {g h : En}, g ∈ M → h ∈ M → g.1 = h.1 → g = h
  | [], _, _, _, hg, _, _ => by cases hg
  | m :: M, hu, g, h, hg, hh, e => by
    obtain ⟨h1, h2⟩ := List.pairwise_cons.1 hu
    rcases List.mem_cons.1 hg with eg | hg <;> rcases List.mem_cons.1 hh with eh | hh
    · rw [eg, eh]
    · rw [eg] at e; exact absurd e (h1 _ hh)
    · rw [eh] at e; exact absurd e.symm (h1 _ hg)
    · exact uni_eq h2 hg hh e
theorem uni_of {M : List En} (h : (M.map (·.1)).Pairwise (· ≠ ·)) : Uni M := List.pairwise_map.1 h
theorem sorted_uniE {L : List En} (h : Kp.Sorted L) : Uni L := h.imp fun h => Kp.lt_ne h
theorem len_sub : ∀ {M E : List En}, Uni M → (∀ g ∈ M, g ∈ E) → M.length ≤ E.length
  | [], _, _, _ => Nat.zero_le _
  | m :: M, E, hu, h => by
    obtain ⟨h1, h2⟩ := List.pairwise_cons.1 hu
    obtain ⟨s, t, rfl⟩ := List.append_of_mem (h m (by simp))
    have := len_sub (M := M) (E := s ++ t) h2 fun g hg => by
      have h3 := h g (by simp [hg])
      have h4 : g ≠ m := fun e => h1 g hg (by rw [e])
      rw [List.mem_append, List.mem_cons] at h3
      rcases h3 with h3 | h3 | h3
      · exact List.mem_append.2 (.inl h3)
      · exact absurd h3 h4
      · exact List.mem_append.2 (.inr h3)
    rw [List.length_append] at this
    rw [List.length_cons, List.length_append, List.length_cons]; omega
theorem uni_all (t s : ByteArray) (l : List ByteArray) : Uni (allE (plainT t s l)) := uni_of (by
  have : (allE (plainT t s l)).map (·.1) = [[64], [64, 68], [64, 70], [60], [60, 68], [60, 70], [94], [94, 68], [94, 70], [43], [43, 68], [43, 70], [42], [42, 68], [42, 70]] := by rfl
  rw [this]; decide)
theorem len_all (t s : ByteArray) (l : List ByteArray) : (allE (plainT t s l)).length = 15 := rfl
/-- An entry that is put among others of M. -/
theorem ins_keeps {M E : List En} (hu : Uni M) (hs : Kp.Sorted E) (hE : ∀ g ∈ E, g ∈ M) {f : En} (hf : f ∈ M) (g : En) : g ∈ Kp.ins E f ↔ g = f ∨ g ∈ E := by
  rw [Kp.mem_ins hs g]
  constructor
  · rintro (h | ⟨h, _⟩)
    · exact .inl h
    · exact .inr h
  · rintro (h | h)
    · exact .inl h
    · by_cases e : g.1 = f.1
      · exact .inl (uni_eq hu (hE g h) hf e)
      · exact .inr ⟨h, e⟩
/-- How far all of them have come, when these of E are left. -/
structure Done (M E : List En) (left : Lit → Bool) (E2 : List En) : Prop where
  sub : ∀ g ∈ E2, g ∈ M
  base : ∀ f ∈ E, f ∈ E2
  both : ∀ f ∈ E, left (.string f.1) = false → dE f ∈ E2 ∧ fE f ∈ E2
theorem Done.start {M E : List En} (h : ∀ g ∈ E, g ∈ M) : Done M E (Maps.has (Kp.mapOf AK.enc E)) E :=
  ⟨h, fun _ h => h, fun f hf h => by
    rw [Kp.has_mapOf, Option.isSome_eq_false_iff, Option.isNone_iff_eq_none] at h
    exact absurd rfl (Kp.get_none.1 h f hf)⟩
theorem Done.step {M E E2 : List En} {left : Lit → Bool} (h : Done M E left E2) (hu : Uni M) (hs : Kp.Sorted E) (hs2 : Kp.Sorted E2) {f : En} (hf : f ∈ E) (hd : dE f ∈ M) (hn : fE f ∈ M) :
    Done M E (fun z => left z && !z.sameKey (.string f.1)) (Kp.ins (Kp.ins E2 (dE f)) (fE f)) := by
  have k1 := ins_keeps hu hs2 h.sub hd
  have s1 : ∀ g ∈ Kp.ins E2 (dE f), g ∈ M := fun g hg => by
    rcases (k1 g).1 hg with rfl | hg
    · exact hd
    · exact h.sub g hg
  have k2 := ins_keeps hu (Kp.sorted_ins hs2) s1 hn
  refine ⟨fun g hg => ?_, fun g hg => (k2 g).2 (.inr ((k1 g).2 (.inr (h.base g hg)))), fun g hg hl => ?_⟩
  · rcases (k2 g).1 hg with rfl | hg
    · exact hn
    · exact s1 g hg
  · by_cases e : g.1 = f.1
    · obtain rfl := Kp.sorted_uni hs hg hf e
      exact ⟨(k2 _).2 (.inr ((k1 _).2 (.inl rfl))), (k2 _).2 (.inl rfl)⟩
    · have h2 : (left (.string g.1) && !(g.1 == f.1)) = false := hl
      rw [show (g.1 == f.1) = false by simpa using e] at h2
      obtain ⟨a, b⟩ := h.both g hg (by simpa using h2)
      exact ⟨(k2 _).2 (.inr ((k1 _).2 (.inr a))), (k2 _).2 (.inr ((k1 _).2 (.inr b)))⟩
theorem Done.has {P : List (ByteArray × ByteArray)} {E E2 : List En} {left : Lit → Bool} {w : World} {b : Nat} (h : Done (allE P) E left E2) (hu : Uni (allE P)) (hE : ∀ f ∈ P.map entA, f ∈ E) (hl : ∀ kl, left kl = false) (hM : Kw.MapAt AK w b E2) : Has w b E2 (allT P) := by
  have hall : ∀ g ∈ allE P, g ∈ E2 := fun g hg => by
    obtain ⟨f, hf, hg⟩ := mem_allE.1 hg
    have hfE := hE f hf
    obtain ⟨a, b⟩ := h.both f hfE (hl _)
    rcases hg with rfl | rfl | rfl
    · exact h.base _ hfE
    · exact a
    · exact b
  refine ⟨hM, ?_, fun p hp => ?_⟩
  · have h1 := len_sub hu hall
    have h2 := len_sub (sorted_uniE hM.sorted) h.sub
    unfold allE at h1 h2
    rw [List.length_map] at h1 h2
    omega
  · exact Kp.get_of_mem hM.sorted (f := entA p) (hall _ (List.mem_map.2 ⟨p, hp, rfl⟩))
end Go.Proofs.YtgednccpjegbmaaGreatDoor.Aw
