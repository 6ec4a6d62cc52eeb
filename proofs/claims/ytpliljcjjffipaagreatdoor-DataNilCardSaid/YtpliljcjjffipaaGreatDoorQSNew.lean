/-
  maps.Values of a map of files, and slices.Collect of what it gives: the files, each once, in some order.
  (*Store).All: the files, by rising paths.
  store.New.
-/
import Derived.RangeFuncNested
import Derived.RangeFuncBound
import Derived.RangeFuncCalls
import Derived.RangeFuncLeaves
import Derived.RangeFuncBox
import Derived.Shelf.Abstract
import Derived.Shelf.RegionOpen
import Derived.OwnWalkIn
import Derived.TacticsInMore
import Derived.LoopNIn
import Derived.LoopIn
import Derived.Sort.MapsRangeIn
import Derived.Sort.KeysCollected
import Derived.Maps.AppendAt
import Derived.Test.YtpliljcjjffipaaGreatDoorQSWorld
import Derived.Shelf.SlSortCmp.NoneTotal
import Derived.Sort.OwnSorted
import Derived.Test.YtpliljcjjffipaaGreatDoorShelf
import Derived.Test.YtpliljcjjffipaaGreatDoorQSPut
import Derived.Test.YtpliljcjjffipaaGreatDoorQSAdd
namespace Go.Proofs.YtpliljcjjffipaaGreatDoor.Sw
open Go.RowKit Go.Proofs.YtpliljcjjffipaaGreatDoor Go.Maps Go.Shelf
attribute [local go_sem] Oper.semAt_some
set_option maxRecDepth 100000

/-- These files have come; those at 'left' are still to come. -/
def Came (L : List F) (left : Lit → Bool) (xs : List F) : Prop := xs.Nodup ∧ ∀ f, f ∈ xs ↔ f ∈ L ∧ left (.string f.p) = false

theorem Came.start (L : List F) : Came L (Maps.has (Sp.mapOf L)) [] := by
  refine ⟨List.nodup_nil, fun f => ⟨fun h => (by cases h), fun ⟨h, h2⟩ => ?_⟩⟩
  rw [Sp.has_mapOf, Option.isSome_eq_false_iff, Option.isNone_iff_eq_none] at h2
  exact absurd rfl (Sp.get_none.1 h2 f h)

theorem Came.step {L : List F} {left : Lit → Bool} {xs : List F} {x : List UInt8} {f : F} (h : Came L left xs) (hs : Sp.Sorted L) (hl : left (.string x) = true) (hat : ∀ zd, (Sp.mapOf L).atKey (.string x) zd = Sp.fD f) :
    Came L (fun z => left z && !z.sameKey (.string x)) (xs ++ [f]) ∧ f ∈ L ∧ f.p = x := by
  have h1 : (Sp.get L x).isSome = true := by rw [← Sp.has_mapOf]; exact has_true_of_atKey hat
  obtain ⟨g, hg⟩ := Option.isSome_iff_exists.1 h1
  have e : f = g := (Sp.fD_inj ((Sp.at_mapOf_some hg .nil).symm.trans (hat .nil))).symm
  subst e
  obtain ⟨m1, m2⟩ := (Sp.get_some hs).1 hg
  refine ⟨⟨List.nodup_append.2 ⟨h.1, by simp, fun a ha b hb => ?_⟩, fun k => ?_⟩, m1, m2⟩
  · rintro rfl
    obtain rfl : a = f := by simpa using hb
    have := (h.2 a).1 ha
    rw [m2, hl] at this; cases this.2
  · rw [List.mem_append, h.2 k, List.mem_singleton]
    constructor
    · rintro (⟨k1, k2⟩ | rfl)
      · exact ⟨k1, by show (left (.string k.p) && _) = false; rw [k2]; rfl⟩
      · exact ⟨m1, by show (_ && !(Lit.string k.p).sameKey (.string x)) = false; rw [m2, Sp.same_str]; simp⟩
    · rintro ⟨k1, k2⟩
      have k2 : (left (.string k.p) && !(Lit.string k.p).sameKey (.string x)) = false := k2
      by_cases hk : k.p = x
      · exact .inr (Sp.sorted_uni hs k1 m1 (hk.trans m2.symm))
      · refine .inl ⟨k1, ?_⟩
        rw [Sp.same_str, show (k.p == x) = false by simpa using hk] at k2
        simpa using k2

theorem Came.all {L : List F} {left : Lit → Bool} {xs : List F} (h : Came L left xs) (hs : Sp.Sorted L) (hl : ∀ k, left k = false) : xs.Perm L := by
  refine (List.perm_ext_iff_of_nodup h.1 ?_).2 fun f => by rw [h.2 f, hl]; simp
  exact hs.imp fun {a b} hab e => Sp.lt_ne hab (congrArg Sp.F.p e)

def mkF (f : F) : Value := .agg #[.string (str f.p), .string (str f.t), .int .i64 f.c, .bool f.d]
theorem elem_inv (v : Value) (y : DataW Unit × List MemPlace) (h : fElem v = some y) : ∃ f : F, v = Value.agg #[.string (str f.p), .string (str f.t), .int .i64 f.c, .bool f.d] := by
  obtain ⟨f, hf, _⟩ := fElem_inv h
  exact ⟨f, hf⟩
/-! ### AppendSeq and Collect -/
def fCs (l : List F) : List Value := l.flatMap fC
end Go.Proofs.YtpliljcjjffipaaGreatDoor.Sw
namespace Go.Proofs.YtpliljcjjffipaaGreatDoor.Sw
open Go.RowKit Go.Proofs.YtpliljcjjffipaaGreatDoor Go.Maps Go.Shelf Go.Sort
set_option maxRecDepth 100000

instance : Inhabited F := ⟨noF⟩

def cmpF (x y : F) : Int := Lib.compareBytes x.p y.p
/-- A slice that reads as these files. -/
def Files (w : World) (v : Value) (L : List F) : Prop :=
  (L = [] ∧ ∃ a c, v = .slice a 0 c) ∨ ∃ b o c, v = .slice (some ⟨b, o, none⟩) L.length c ∧ b < w.heap.size ∧ ∀ j, (h : j < L.length) →
    w.cell? ⟨b, o + j * 4, none⟩ = some (.string (str L[j].p)) ∧ w.cell? ⟨b, o + j * 4 + 1, none⟩ = some (.string (str L[j].t)) ∧ w.cell? ⟨b, o + j * 4 + 2, none⟩ = some (.int .i64 L[j].c) ∧ w.cell? ⟨b, o + j * 4 + 3, none⟩ = some (.bool L[j].d)

theorem Files.kept {X : List Nat} {w w' : World} {v : Value} {L : List F} (h : Files w v L) (hk : Kept X w w') (hx : ∀ b, v.ownBlock = some b → b ∉ X) : Files w' v L := by
  rcases h with h | ⟨b, o, c, rfl, hb, hc⟩
  · exact .inl h
  · refine .inr ⟨b, o, c, rfl, Nat.lt_of_lt_of_le hb hk.size, fun j hj => ?_⟩
    have hn : b ∉ X := hx b rfl
    obtain ⟨c0, c1, c2, c3⟩ := hc j hj
    have e := fun i => hk.cell (p := ⟨b, i, none⟩) hb hn
    exact ⟨(e _).trans c0, (e _).trans c1, (e _).trans c2, (e _).trans c3⟩
theorem Files.below {w w' : World} {v : Value} {L : List F} (h : Files w v L) (hB : Below w.heap.size w w') : Files w' v L := h.kept (X := []) (.of_below hB) (fun _ _ => by simp)

def FilesPost (w : World) (L : List F) (e : Ending) (w' : World) : Prop := ∃ v, e = .returned v ∧ Files w' v L ∧ (∃ a c, v = .slice a L.length c) ∧ Below w.heap.size w w'

end Go.Proofs.YtpliljcjjffipaaGreatDoor.Sw
namespace Go.Proofs.YtpliljcjjffipaaGreatDoor.Sw
open Go.RowKit Go.Proofs.YtpliljcjjffipaaGreatDoor Go.Maps
set_option maxRecDepth 100000

def addAll (s : St) : List F → St × Int
  | [] => (s, 0)
  | f :: r => if (addA s f).2 ≠ 0 then addA s f else addAll (addA s f).1 r
def surrAll (L : List F) : List F → List F
  | [] => L
  | f :: r => surrAll (surrA L (dirL f.p)) r
theorem addAll_cons (s : St) (f : F) (r : List F) : addAll s (f :: r) = if (addA s f).2 ≠ 0 then addA s f else addAll (addA s f).1 r := rfl
theorem surrAll_cons (L : List F) (f : F) (r : List F) : surrAll L (f :: r) = surrAll (surrA L (dirL f.p)) r := rfl
/-- A new store, or the error. -/
def newA (l : List F) : St × Int :=
  if (addAll ⟨[], 0⟩ l).2 ≠ 0 then (⟨[], 0⟩, (addAll ⟨[], 0⟩ l).2) else
  if blockedA (addAll ⟨[], 0⟩ l).1.L = true then (⟨[], 0⟩, 4) else
  if 4096 < (surrAll (addAll ⟨[], 0⟩ l).1.L l).length then (⟨[], 0⟩, 12) else (⟨surrAll (addAll ⟨[], 0⟩ l).1.L l, (addAll ⟨[], 0⟩ l).1.c⟩, 0)

def NewPost (w : World) (r : St × Int) (e : Ending) (w' : World) : Prop :=
  if r.2 = 0 then ∃ sb bm, e = .returned (.tuple #[.pointer (some ⟨sb, 0, none⟩), .int .i64 0]) ∧ w.heap.size ≤ sb ∧ w.heap.size ≤ bm ∧ StoreAt w' sb bm r.1.L r.1.c ∧ Below w.heap.size w w'
  else e = .returned (.tuple #[.pointer none, .int .i64 r.2]) ∧ Below w.heap.size w w'

theorem surrN_len : ∀ (n : Nat) (L : List F) (d : List UInt8), (surrN n L d).length ≤ max L.length 4097
  | 0, L, d => by show L.length ≤ _; omega
  | n + 1, L, d => by
    unfold surrN
    split
    · omega
    · split
      · omega
      · have := surrN_len n (Sp.ins L (dirF d)) (dirL d)
        have h2 := Sp.len_ins L (dirF d)
        split at h2 <;> omega

theorem store_new (w : World) : StoreAt ((w.alloc (.map #[] 0)).alloc (.cells #[.int .i64 0, .map (some w.heap.size)] 147)) (w.heap.size + 1) w.heap.size [] 0 := by
  have h1 := World.ownsMap_made w Tryz.prog 9 fElem
  have h2 : MapAt (w.alloc (.map #[] 0)) w.heap.size [] := ⟨h1, List.Pairwise.nil⟩
  have h3 := World.alloc_heap_new (w.alloc (.map #[] 0)) (.cells #[.int .i64 0, .map (some w.heap.size)] 147)
  simp only [World.size_alloc] at h3
  exact ⟨h3, h2.alloc _⟩

theorem addAll_mem : ∀ (l : List F) (s : St), Sp.Sorted s.L → ∀ f ∈ (addAll s l).1.L, f ∈ s.L ∨ f ∈ l
  | [], s, _, f, h => .inl h
  | g :: r, s, hs, f, h => by
    have h1 : ∀ x ∈ (addA s g).1.L, x ∈ s.L ∨ x = g := fun x hx => by
      unfold addA at hx
      split at hx
      · exact .inl hx
      · split at hx
        · exact .inl hx
        · rcases (Sp.mem_ins hs x).1 hx with e | ⟨e, _⟩
          · exact .inr e
          · exact .inl e
    have h2 : Sp.Sorted (addA s g).1.L := by
      unfold addA
      split
      · exact hs
      · split
        · exact hs
        · exact Sp.sorted_ins hs
    rw [addAll_cons] at h
    split at h
    · rcases h1 f h with e | e
      · exact .inl e
      · exact .inr (by simp [e])
    · rcases addAll_mem r _ h2 f h with e | e
      · rcases h1 f e with e | e
        · exact .inl e
        · exact .inr (by simp [e])
      · exact .inr (by simp [e])

theorem addA_len (s : St) (f : F) : (addA s f).1.L.length ≤ s.L.length + 1 := by
  unfold addA
  split
  · simp
  · split
    · simp
    · show (Sp.ins s.L f).length ≤ _
      rw [Sp.len_ins]; split <;> omega

/-- The files that were passed, and how they lie. -/
structure Given (w : World) (b o c : Nat) (l : List F) : Prop where
  lt : b < w.heap.size
  cell : ∀ j f, l[j]? = some f → w.cell? ⟨b, o + j * 4, none⟩ = some (.string (str f.p)) ∧ w.cell? ⟨b, o + j * 4 + 1, none⟩ = some (.string (str f.t)) ∧ w.cell? ⟨b, o + j * 4 + 2, none⟩ = some (.int .i64 f.c) ∧ w.cell? ⟨b, o + j * 4 + 3, none⟩ = some (.bool f.d)
  small : ∀ f ∈ l, f.p.length ≤ 100000 ∧ f.t.length ≤ 1000000000
  len : l.length ≤ 10000
theorem Given.later {w w' : World} {b o c : Nat} {l : List F} (h : Given w b o c l) (hB : Below w.heap.size w w') : Given w' b o c l :=
  ⟨Nat.lt_of_lt_of_le h.lt hB.size, fun j f hf => by
    have e := fun i => hB.cell (p := ⟨b, i, none⟩) h.lt
    obtain ⟨a0, a1, a2, a3⟩ := h.cell j f hf
    exact ⟨(e _).trans a0, (e _).trans a1, (e _).trans a2, (e _).trans a3⟩, h.small, h.len⟩

def NwRel (w : World) (l : List F) (v : Value) (wr : World) : Prop :=
  ∃ (k : Nat) (st : St), v = .int .i64 k ∧ k ≤ l.length ∧ addAll ⟨[], 0⟩ l = addAll st (l.drop k) ∧ StoreAt wr (w.heap.size + 1) w.heap.size st.L st.c ∧ Below w.heap.size w wr ∧ st.L.length ≤ k

def SwRel (w : World) (l L : List F) (c : Int) (v : Value) (wr : World) : Prop :=
  ∃ (k : Nat) (M : List F), v = .int .i64 k ∧ k ≤ l.length ∧ surrAll L l = surrAll M (l.drop k) ∧ StoreAt wr (w.heap.size + 1) w.heap.size M c ∧ Below w.heap.size w wr ∧ M.length ≤ 20000

theorem drop_at {l : List F} {k : Nat} {f : F} (h : l[k]? = some f) : l.drop k = f :: l.drop (k + 1) := by
  obtain ⟨hk, e⟩ := List.getElem?_eq_some_iff.1 h
  rw [List.drop_eq_getElem_cons hk, e]

set_option maxHeartbeats 4000000 in
theorem New_some (w : World) (b o c : Nat) (l : List F) (hG : Given w b o c l) :
    Calls Tryz.prog 24 #[.slice (some ⟨b, o, none⟩) l.length c] w (NewPost w (newA l)) := by
  have hmm := @run_makeMap Tryz.prog
  have hS := store_new w
  have hB : Below w.heap.size w ((w.alloc (.map #[] 0)).alloc (.cells #[.int .i64 0, .map (some w.heap.size)] 147)) := ((Below.refl _ w).alloc (Nat.le_refl _) _).alloc (by simp) _
  have HS := Lib.hid hS
  have hl := hG.len
  clear hS
  go_enter Tryz.func24, Tryz.ntmps24
  go_wp2
  clear hmm
  generalize ((w.alloc (.map #[] 0)).alloc (.cells #[.int .i64 0, .map (some w.heap.size)] 147)) = W at *
  go_loopw [15] (fun v wr => NwRel w l v wr) (fun v _ => l.length - (intOf v).toNat)
  case atStart => exact ⟨0, ⟨[], 0⟩, rfl, Nat.zero_le _, rfl, HS.out, hB, Nat.le_refl _⟩
  case round =>
    obtain ⟨k, st, rfl, hk, hrun, hSt, hBr, hlen⟩ := hrel
    clear HS hB
    by_cases hlt : k < l.length
    · obtain ⟨f, hf⟩ : ∃ f, l[k]? = some f := ⟨_, List.getElem?_eq_getElem hlt⟩
      obtain ⟨a0, a1, a2, a3⟩ := (hG.later hBr).cell k f hf
      obtain ⟨s1, s2⟩ := hG.small f (List.mem_of_getElem? hf)
      rw [drop_at hf, addAll_cons] at hrun
      have hcon := fun oo => add_any (wr.alloc oo) f (hSt.alloc oo) (by omega) s2 (by omega)
      have hal := addA_len st f
      obtain ⟨⟨t, n⟩, hr⟩ : ∃ r, addA st f = r := ⟨_, rfl⟩
      rw [hr] at hrun hcon hal
      simp only at hrun hal
      have HR := Lib.hid hrun
      have HC := Lib.hid hcon
      have ik : (k : Int) < l.length := by omega
      have hbl : b < wr.heap.size := (hG.later hBr).lt
      clear hrun hcon hr hf
      by_cases hn : n = 0
      · subst hn
        go_wp2_with (go_at_call 54; go_must (refine (HC.out _).mono ?_); rintro e w2 ⟨rfl, hS2, hK2⟩)
        go_roundw
        case rel => exact ⟨k + 1, t, by go_num, by omega, HR.out.trans (if_neg (by simp)), hS2, (hBr.alloc hBr.size _).trans (hK2.to_below (by have := hBr.size; simp; omega) (by simp)), by omega⟩
        case measure => simp [intOf]; omega
      · have hn' : (n == 0) = false := by simpa using hn
        have HE : Hid (newA l = (⟨[], 0⟩, n)) := Lib.hid (by
          have h1 : addAll ⟨[], 0⟩ l = (t, n) := HR.out.trans (if_pos hn)
          unfold newA; rw [h1, if_pos hn])
        go_wp2_with (go_at_call 54; go_must (refine (HC.out _).mono ?_); rintro e w2 ⟨rfl, hS2, hK2⟩)
        go_ret2
        rw [HE.out]
        unfold NewPost
        rw [if_neg hn]
        exact ⟨rfl, (hBr.alloc hBr.size _).trans (hK2.to_below (by have := hBr.size; simp; omega) (by simp))⟩
    · obtain rfl : k = l.length := by omega
      rw [List.drop_length] at hrun
      have h1 : addAll ⟨[], 0⟩ l = (st, 0) := hrun
      have hmem := fun f hf => addAll_mem l ⟨[], 0⟩ List.Pairwise.nil f (by rw [h1]; exact hf)
      have hpl : ∀ f ∈ st.L, f.p.length ≤ 1000000 := fun f hf => by
        rcases hmem f hf with h | h
        · cases h
        · have := (hG.small f h).1; omega
      clear hrun hmem
      have H1 := Lib.hid h1
      clear h1
      go_wp2_with fail
      refine (blocked_any wr hSt (by omega) hpl).mono ?_
      rintro e w1 ⟨rfl, B1⟩
      have hS1 := hSt.below B1
      have hB1 := hBr.trans (B1.mono hBr.size)
      cases hbl : blockedA st.L with
      | true =>
        have HE : Hid (newA l = (⟨[], 0⟩, 4)) := Lib.hid (by unfold newA; rw [H1.out, if_neg (by simp), if_pos hbl])
        clear hbl
        go_wp2
        go_ret2
        rw [HE.out]
        exact ⟨rfl, hB1⟩
      | false =>
        have HBl := Lib.hid hbl
        clear hbl
        go_wp2
        have hsl : st.L.length ≤ 20000 := by omega
        have hc9 := Lib.hid (rfl : st.c = st.c)
        go_loopw [30] (fun v wr => SwRel w l st.L st.c v wr) (fun v _ => l.length - (intOf v).toNat)
        case atStart => exact ⟨0, st.L, rfl, Nat.zero_le _, rfl, hS1, hB1, hsl⟩
        case round =>
          obtain ⟨k, M, rfl, hk, hrun, hSt, hBr, hlen⟩ := hrel
          clear hS1 hB1 B1
          by_cases hlt : k < l.length
          · obtain ⟨f, hf⟩ : ∃ f, l[k]? = some f := ⟨_, List.getElem?_eq_getElem hlt⟩
            obtain ⟨a0, a1, a2, a3⟩ := (hG.later hBr).cell k f hf
            obtain ⟨s1, s2⟩ := hG.small f (List.mem_of_getElem? hf)
            rw [drop_at hf, surrAll_cons] at hrun
            have hps : (str f.p).size ≤ 999999 := by rw [← bs_len, bs_str]; omega
            have hcon := fun oo => surround_any (wr.alloc oo) (str f.p) (hSt.alloc oo) hps (by omega)
            rw [bs_str] at hcon
            have hsn := surrN_len (mu (dirL f.p) + 1) M (dirL f.p)
            have hsn2 : (surrA M (dirL f.p)).length ≤ 20000 := by unfold surrA; omega
            obtain ⟨M2, hM2⟩ : ∃ M2, surrA M (dirL f.p) = M2 := ⟨_, rfl⟩
            rw [hM2] at hcon hrun hsn2
            have HR := Lib.hid hrun
            have HC := Lib.hid hcon
            have ik : (k : Int) < l.length := by omega
            have hbl : b < wr.heap.size := (hG.later hBr).lt
            clear hrun hcon hf hM2 hsn hk
            go_wp2_with (go_at_call 56; go_must (refine (HC.out _).mono ?_); rintro e w2 ⟨rfl, hS2, hK2⟩)
            go_roundw
            case rel => exact ⟨k + 1, M2, by go_num, by omega, HR.out, hS2, (hBr.alloc hBr.size _).trans (hK2.to_below (by have := hBr.size; simp; omega) (by simp)), hsn2⟩
            case measure => simp [intOf]; omega
          · obtain rfl : k = l.length := by omega
            rw [List.drop_length] at hrun
            have HR : Hid (surrAll st.L l = M) := Lib.hid hrun
            have c1 := hSt.c1
            have hlt2 := hSt.lt
            have hM := hSt.map
            clear hrun
            by_cases h4 : 4096 < M.length
            · have i4 : (4096 : Int) < M.length := by omega
              have HE : Hid (newA l = (⟨[], 0⟩, 12)) := Lib.hid (by unfold newA; rw [H1.out, if_neg (by simp), if_neg (by simp [HBl.out]), if_pos (by rw [HR.out]; exact h4)])
              go_wp2_with (at_len; refine wpList_size _ rfl _ rfl rfl hM ?_)
              go_ret2
              rw [HE.out]
              exact ⟨rfl, hBr⟩
            · have i4 : ¬ (4096 : Int) < M.length := by omega
              have HE : Hid (newA l = (⟨M, st.c⟩, 0)) := Lib.hid (by unfold newA; rw [H1.out, if_neg (by simp), if_neg (by simp [HBl.out]), if_neg (by rw [HR.out]; exact h4), HR.out])
              go_wp2_with (at_len; refine wpList_size _ rfl _ rfl rfl hM ?_)
              go_ret2
              rw [HE.out]
              exact ⟨_, _, rfl, by omega, Nat.le_refl _, hSt, hBr⟩
end Go.Proofs.YtpliljcjjffipaaGreatDoor.Sw
