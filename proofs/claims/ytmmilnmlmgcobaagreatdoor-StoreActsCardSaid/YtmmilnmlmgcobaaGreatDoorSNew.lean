/-
  store.New.
-/
import Derived.Test.YtmmilnmlmgcobaaGreatDoorSSurr
import Derived.Test.YtmmilnmlmgcobaaGreatDoorSSort
namespace Go.Proofs.YtmmilnmlmgcobaaGreatDoor.Sw
open Go.RowKit Go.Proofs.YtmmilnmlmgcobaaGreatDoor Go.Maps
set_option maxRecDepth 100000

def addAll (s : St) : List F → St × Int
  | [] => (s, 0)
  | f :: r => if (addA s f).2 ≠ 0 then addA s f else addAll (addA s f).1 r
def surrAll (L : List F) : List F → List F
  | [] => L
  | f :: r => surrAll (surrA L (dirL f.p)) r
theorem addAll_cons (s : St) (f : F) (r : List F) : addAll s (f :: r) = if (addA s f).2 ≠ 0 then addA s f else addAll (addA s f).1 r := rfl
theorem surrAll_cons (L : List F) (f : F) (r : List F) : surrAll L (f :: r) = surrAll (surrA L (dirL f.p)) r := rfl
/-- A new store, or the error. -/
def newA (l : List F) : St × Int :=
  if (addAll ⟨[], 0⟩ l).2 ≠ 0 then (⟨[], 0⟩, (addAll ⟨[], 0⟩ l).2) else
  if blockedA (addAll ⟨[], 0⟩ l).1.L = true then (⟨[], 0⟩, 4) else
  if 4096 < (surrAll (addAll ⟨[], 0⟩ l).1.L l).length then (⟨[], 0⟩, 12) else (⟨surrAll (addAll ⟨[], 0⟩ l).1.L l, (addAll ⟨[], 0⟩ l).1.c⟩, 0)

def NewPost (w : World) (r : St × Int) (e : Ending) (w' : World) : Prop :=
  if r.2 = 0 then ∃ sb bm, e = .returned (.tuple #[.pointer (some ⟨sb, 0, none⟩), .int .i64 0]) ∧ w.heap.size ≤ sb ∧ w.heap.size ≤ bm ∧ StoreAt w' sb bm r.1.L r.1.c ∧ Below w.heap.size w w'
  else e = .returned (.tuple #[.pointer none, .int .i64 r.2]) ∧ Below w.heap.size w w'

theorem surrN_len : ∀ (n : Nat) (L : List F) (d : List UInt8), (surrN n L d).length ≤ max L.length 4097
  | 0, L, d => by show L.length ≤ _; omega
  | n + 1, L, d => by
    unfold surrN
    split
    · omega
    · split
      · omega
      · have := surrN_len n (Sp.ins L (dirF d)) (dirL d)
        have h2 := Sp.len_ins L (dirF d)
        split at h2 <;> omega

theorem store_new (w : World) : StoreAt ((w.alloc (.map #[] 0)).alloc (.cells #[.int .i64 0, .map (some w.heap.size)] 57)) (w.heap.size + 1) w.heap.size [] 0 := by
  have h1 := World.ownsMap_made w Tryz.prog 9 fElem
  have h2 : MapAt (w.alloc (.map #[] 0)) w.heap.size [] := ⟨h1, List.Pairwise.nil⟩
  have h3 := World.alloc_heap_new (w.alloc (.map #[] 0)) (.cells #[.int .i64 0, .map (some w.heap.size)] 57)
  simp only [World.size_alloc] at h3
  exact ⟨h3, h2.alloc _⟩

set_option maxHeartbeats 2000000 in
theorem New_none (w : World) (a : Option Addr) (c : Nat) :
    Calls Tryz.prog 5 #[.slice a 0 c] w (NewPost w (newA [])) := by
  have hmm := @run_makeMap Tryz.prog
  have hS := store_new w
  have hB : Below w.heap.size w ((w.alloc (.map #[] 0)).alloc (.cells #[.int .i64 0, .map (some w.heap.size)] 57)) := ((Below.refl _ w).alloc (Nat.le_refl _) _).alloc (by simp) _
  have HS := Lib.hid hS
  clear hS
  go_enter Tryz.func5, Tryz.ntmps5
  go_wp2
  generalize ((w.alloc (.map #[] 0)).alloc (.cells #[.int .i64 0, .map (some w.heap.size)] 57)) = W at *
  refine wp_loop_rounds 1 ?_
  rw [rounds_succ]
  go_wp2_with fail
  refine (blocked_any W HS.out (by simp) (by simp)).mono ?_
  rintro e w1 ⟨rfl, B1⟩
  have hS1 := HS.out.below B1
  have c1 := hS1.c1
  have hlt := hS1.lt
  have hM := hS1.map
  rw [show blockedA [] = false from rfl]
  go_wp2
  refine wp_loop_rounds 1 ?_
  rw [rounds_succ]
  go_wp2_with (at_len; refine wpList_size _ rfl _ rfl rfl hM ?_)
  go_ret2
  exact ⟨_, _, rfl, by omega, Nat.le_refl _, hS1, hB.trans (B1.mono hB.size)⟩

theorem addAll_mem : ∀ (l : List F) (s : St), Sp.Sorted s.L → ∀ f ∈ (addAll s l).1.L, f ∈ s.L ∨ f ∈ l
  | [], s, _, f, h => .inl h
  | g :: r, s, hs, f, h => by
    have h1 : ∀ x ∈ (addA s g).1.L, x ∈ s.L ∨ x = g := fun x hx => by
      unfold addA at hx
      split at hx
      · exact .inl hx
      · split at hx
        · exact .inl hx
        · rcases (Sp.mem_ins hs x).1 hx with e | ⟨e, _⟩
          · exact .inr e
          · exact .inl e
    have h2 : Sp.Sorted (addA s g).1.L := by
      unfold addA
      split
      · exact hs
      · split
        · exact hs
        · exact Sp.sorted_ins hs
    rw [addAll_cons] at h
    split at h
    · rcases h1 f h with e | e
      · exact .inl e
      · exact .inr (by simp [e])
    · rcases addAll_mem r _ h2 f h with e | e
      · rcases h1 f e with e | e
        · exact .inl e
        · exact .inr (by simp [e])
      · exact .inr (by simp [e])

theorem addA_len (s : St) (f : F) : (addA s f).1.L.length ≤ s.L.length + 1 := by
  unfold addA
  split
  · simp
  · split
    · simp
    · show (Sp.ins s.L f).length ≤ _
      rw [Sp.len_ins]; split <;> omega

/-- The files that were passed, and how they lie. -/
structure Given (w : World) (b o c : Nat) (l : List F) : Prop where
  lt : b < w.heap.size
  cell : ∀ j f, l[j]? = some f → w.cell? ⟨b, o + j * 4, none⟩ = some (.string (str f.p)) ∧ w.cell? ⟨b, o + j * 4 + 1, none⟩ = some (.string (str f.t)) ∧ w.cell? ⟨b, o + j * 4 + 2, none⟩ = some (.int .i64 f.c) ∧ w.cell? ⟨b, o + j * 4 + 3, none⟩ = some (.bool f.d)
  small : ∀ f ∈ l, f.p.length ≤ 100000 ∧ f.t.length ≤ 1000000000
  len : l.length ≤ 10000
theorem Given.later {w w' : World} {b o c : Nat} {l : List F} (h : Given w b o c l) (hB : Below w.heap.size w w') : Given w' b o c l :=
  ⟨Nat.lt_of_lt_of_le h.lt hB.size, fun j f hf => by
    have e := fun i => hB.cell (p := ⟨b, i, none⟩) h.lt
    obtain ⟨a0, a1, a2, a3⟩ := h.cell j f hf
    exact ⟨(e _).trans a0, (e _).trans a1, (e _).trans a2, (e _).trans a3⟩, h.small, h.len⟩

def NwRel (w : World) (l : List F) (v : Value) (wr : World) : Prop :=
  ∃ (k : Nat) (st : St), v = .int .i64 k ∧ k ≤ l.length ∧ addAll ⟨[], 0⟩ l = addAll st (l.drop k) ∧ StoreAt wr (w.heap.size + 1) w.heap.size st.L st.c ∧ Below w.heap.size w wr ∧ st.L.length ≤ k

def SwRel (w : World) (l L : List F) (c : Int) (v : Value) (wr : World) : Prop :=
  ∃ (k : Nat) (M : List F), v = .int .i64 k ∧ k ≤ l.length ∧ surrAll L l = surrAll M (l.drop k) ∧ StoreAt wr (w.heap.size + 1) w.heap.size M c ∧ Below w.heap.size w wr ∧ M.length ≤ 20000

theorem drop_at {l : List F} {k : Nat} {f : F} (h : l[k]? = some f) : l.drop k = f :: l.drop (k + 1) := by
  obtain ⟨hk, e⟩ := List.getElem?_eq_some_iff.1 h
  rw [List.drop_eq_getElem_cons hk, e]

set_option maxHeartbeats 4000000 in
theorem New_some (w : World) (b o c : Nat) (l : List F) (hG : Given w b o c l) :
    Calls Tryz.prog 5 #[.slice (some ⟨b, o, none⟩) l.length c] w (NewPost w (newA l)) := by
  have hmm := @run_makeMap Tryz.prog
  have hS := store_new w
  have hB : Below w.heap.size w ((w.alloc (.map #[] 0)).alloc (.cells #[.int .i64 0, .map (some w.heap.size)] 57)) := ((Below.refl _ w).alloc (Nat.le_refl _) _).alloc (by simp) _
  have HS := Lib.hid hS
  have hl := hG.len
  clear hS
  go_enter Tryz.func5, Tryz.ntmps5
  go_wp2
  clear hmm
  generalize ((w.alloc (.map #[] 0)).alloc (.cells #[.int .i64 0, .map (some w.heap.size)] 57)) = W at *
  go_loopw [15] (fun v wr => NwRel w l v wr) (fun v _ => l.length - (intOf v).toNat)
  case atStart => exact ⟨0, ⟨[], 0⟩, rfl, Nat.zero_le _, rfl, HS.out, hB, Nat.le_refl _⟩
  case round =>
    obtain ⟨k, st, rfl, hk, hrun, hSt, hBr, hlen⟩ := hrel
    clear HS hB
    by_cases hlt : k < l.length
    · obtain ⟨f, hf⟩ : ∃ f, l[k]? = some f := ⟨_, List.getElem?_eq_getElem hlt⟩
      obtain ⟨a0, a1, a2, a3⟩ := (hG.later hBr).cell k f hf
      obtain ⟨s1, s2⟩ := hG.small f (List.mem_of_getElem? hf)
      rw [drop_at hf, addAll_cons] at hrun
      have hcon := fun oo => add_any (wr.alloc oo) f (hSt.alloc oo) (by omega) s2 (by omega)
      have hal := addA_len st f
      obtain ⟨⟨t, n⟩, hr⟩ : ∃ r, addA st f = r := ⟨_, rfl⟩
      rw [hr] at hrun hcon hal
      simp only at hrun hal
      have HR := Lib.hid hrun
      have HC := Lib.hid hcon
      have ik : (k : Int) < l.length := by omega
      have hbl : b < wr.heap.size := (hG.later hBr).lt
      clear hrun hcon hr hf
      by_cases hn : n = 0
      · subst hn
        go_wp2_with (go_at_call 17; go_must (refine (HC.out _).mono ?_); rintro e w2 ⟨rfl, hS2, hK2⟩)
        go_roundw
        case rel => exact ⟨k + 1, t, by go_num, by omega, HR.out.trans (if_neg (by simp)), hS2, (hBr.alloc hBr.size _).trans (hK2.to_below (by have := hBr.size; simp; omega) (by simp)), by omega⟩
        case measure => simp [intOf]; omega
      · have hn' : (n == 0) = false := by simpa using hn
        have HE : Hid (newA l = (⟨[], 0⟩, n)) := Lib.hid (by
          have h1 : addAll ⟨[], 0⟩ l = (t, n) := HR.out.trans (if_pos hn)
          unfold newA; rw [h1, if_pos hn])
        go_wp2_with (go_at_call 17; go_must (refine (HC.out _).mono ?_); rintro e w2 ⟨rfl, hS2, hK2⟩)
        go_ret2
        rw [HE.out]
        unfold NewPost
        rw [if_neg hn]
        exact ⟨rfl, (hBr.alloc hBr.size _).trans (hK2.to_below (by have := hBr.size; simp; omega) (by simp))⟩
    · obtain rfl : k = l.length := by omega
      rw [List.drop_length] at hrun
      have h1 : addAll ⟨[], 0⟩ l = (st, 0) := hrun
      have hmem := fun f hf => addAll_mem l ⟨[], 0⟩ List.Pairwise.nil f (by rw [h1]; exact hf)
      have hpl : ∀ f ∈ st.L, f.p.length ≤ 1000000 := fun f hf => by
        rcases hmem f hf with h | h
        · cases h
        · have := (hG.small f h).1; omega
      clear hrun hmem
      have H1 := Lib.hid h1
      clear h1
      go_wp2_with fail
      refine (blocked_any wr hSt (by omega) hpl).mono ?_
      rintro e w1 ⟨rfl, B1⟩
      have hS1 := hSt.below B1
      have hB1 := hBr.trans (B1.mono hBr.size)
      cases hbl : blockedA st.L with
      | true =>
        have HE : Hid (newA l = (⟨[], 0⟩, 4)) := Lib.hid (by unfold newA; rw [H1.out, if_neg (by simp), if_pos hbl])
        clear hbl
        go_wp2
        go_ret2
        rw [HE.out]
        exact ⟨rfl, hB1⟩
      | false =>
        have HBl := Lib.hid hbl
        clear hbl
        go_wp2
        have hsl : st.L.length ≤ 20000 := by omega
        have hc9 := Lib.hid (rfl : st.c = st.c)
        go_loopw [30] (fun v wr => SwRel w l st.L st.c v wr) (fun v _ => l.length - (intOf v).toNat)
        case atStart => exact ⟨0, st.L, rfl, Nat.zero_le _, rfl, hS1, hB1, hsl⟩
        case round =>
          obtain ⟨k, M, rfl, hk, hrun, hSt, hBr, hlen⟩ := hrel
          clear hS1 hB1 B1
          by_cases hlt : k < l.length
          · obtain ⟨f, hf⟩ : ∃ f, l[k]? = some f := ⟨_, List.getElem?_eq_getElem hlt⟩
            obtain ⟨a0, a1, a2, a3⟩ := (hG.later hBr).cell k f hf
            obtain ⟨s1, s2⟩ := hG.small f (List.mem_of_getElem? hf)
            rw [drop_at hf, surrAll_cons] at hrun
            have hps : (str f.p).size ≤ 999999 := by rw [← bs_len, bs_str]; omega
            have hcon := fun oo => surround_any (wr.alloc oo) (str f.p) (hSt.alloc oo) hps (by omega)
            rw [bs_str] at hcon
            have hsn := surrN_len (mu (dirL f.p) + 1) M (dirL f.p)
            have hsn2 : (surrA M (dirL f.p)).length ≤ 20000 := by unfold surrA; omega
            obtain ⟨M2, hM2⟩ : ∃ M2, surrA M (dirL f.p) = M2 := ⟨_, rfl⟩
            rw [hM2] at hcon hrun hsn2
            have HR := Lib.hid hrun
            have HC := Lib.hid hcon
            have ik : (k : Int) < l.length := by omega
            have hbl : b < wr.heap.size := (hG.later hBr).lt
            clear hrun hcon hf hM2 hsn hk
            go_wp2_with (go_at_call 19; go_must (refine (HC.out _).mono ?_); rintro e w2 ⟨rfl, hS2, hK2⟩)
            go_roundw
            case rel => exact ⟨k + 1, M2, by go_num, by omega, HR.out, hS2, (hBr.alloc hBr.size _).trans (hK2.to_below (by have := hBr.size; simp; omega) (by simp)), hsn2⟩
            case measure => simp [intOf]; omega
          · obtain rfl : k = l.length := by omega
            rw [List.drop_length] at hrun
            have HR : Hid (surrAll st.L l = M) := Lib.hid hrun
            have c1 := hSt.c1
            have hlt2 := hSt.lt
            have hM := hSt.map
            clear hrun
            by_cases h4 : 4096 < M.length
            · have i4 : (4096 : Int) < M.length := by omega
              have HE : Hid (newA l = (⟨[], 0⟩, 12)) := Lib.hid (by unfold newA; rw [H1.out, if_neg (by simp), if_neg (by simp [HBl.out]), if_pos (by rw [HR.out]; exact h4)])
              go_wp2_with (at_len; refine wpList_size _ rfl _ rfl rfl hM ?_)
              go_ret2
              rw [HE.out]
              exact ⟨rfl, hBr⟩
            · have i4 : ¬ (4096 : Int) < M.length := by omega
              have HE : Hid (newA l = (⟨M, st.c⟩, 0)) := Lib.hid (by unfold newA; rw [H1.out, if_neg (by simp), if_neg (by simp [HBl.out]), if_neg (by rw [HR.out]; exact h4), HR.out])
              go_wp2_with (at_len; refine wpList_size _ rfl _ rfl rfl hM ?_)
              go_ret2
              rw [HE.out]
              exact ⟨_, _, rfl, by omega, Nat.le_refl _, hSt, hBr⟩
end Go.Proofs.YtmmilnmlmgcobaaGreatDoor.Sw
