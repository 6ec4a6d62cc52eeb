/-
  (*Store).blocked: whether a file is where a directory must be.
-/
import Derived.Shelf.SlIter.Nil
import Derived.Test.YtmmilnmlmgcobaaGreatDoorShelf
import Derived.Test.YtmmilnmlmgcobaaGreatDoorSGet
namespace Go.Proofs.YtmmilnmlmgcobaaGreatDoor.Sw
open Go.RowKit Go.Proofs.YtmmilnmlmgcobaaGreatDoor Go.Maps Go.Shelf
set_option maxRecDepth 100000

theorem strKeys_mapOf (L : List F) : strKeys (Sp.mapOf L) = L.map (·.p) := by
  show ((L.map Sp.ent).map fun q => strOf q.1) = _
  rw [List.map_map]; rfl
theorem sorted_keys {L : List F} (hs : Sp.Sorted L) {ss : List (List UInt8)} (h : ss.Perm (strKeys (Sp.mapOf L))) : ss.mergeSort (fun x y => decide (x ≤ y)) = L.map (·.p) := by
  rw [strKeys_mapOf] at h
  have h2 : ss.mergeSort (fun x y => decide (x ≤ y)) = (L.map (·.p)).mergeSort (fun x y => decide (x ≤ y)) := mergeSort_of_perm h
  rw [h2]
  exact List.mergeSort_of_pairwise (List.pairwise_map.2 (hs.imp fun {a b} hab => by simpa using List.le_of_lt hab))

theorem Keys_any (w : World) (bm : Nat) : Calls Tryz.prog 52 #[.map (some bm)] w fun e w' =>
    e = .returned (.func (.func 78) #[] #[.pointer (some ⟨w.heap.size, 0, none⟩)]) ∧ w' = w.alloc (.cells #[.map (some bm)] 50) :=
  (callsIn_wide (n := 5)).1 (AnyZ.keys_in Tryz.laysKeys Fence.wide 5 trivial rfl (some bm) w)

theorem sorts (m : Nat) : AnyZ.SortsIn Tryz.prog Tryz.laysSorted_ren Fence.wide m :=
  ⟨fun blk off cap ss W hH hblk hsz => callsIn_wide.2 (Tryz.slices_Sort_string blk off cap ss W hH hblk hsz),
   fun p cap W => callsIn_wide.2 (Tryz.slices_Sort_string_none p cap W)⟩

set_option maxHeartbeats 1000000 in
theorem Sorted_any (w : World) {bm : Nat} {L : List F} (hM : MapAt w bm L) (hl : L.length ≤ 1000000) :
    Calls Tryz.prog 51 #[.func (.func 78) #[] #[.pointer (some ⟨w.heap.size, 0, none⟩)]] (w.alloc (.cells #[.map (some bm)] 50)) fun e w' =>
      ∃ v, e = .returned v ∧ w'.ownsRow (w.alloc (.cells #[.map (some bm)] 50)).heap.size 9 1 v (L.map fun f => str f.p).length (strC (L.map fun f => str f.p)) ∧ Below (w.alloc (.cells #[.map (some bm)] 50)).heap.size (w.alloc (.cells #[.map (some bm)] 50)) w' := by
  have hbl := hM.lt
  have hs := hM.sorted
  have hown := hM.own
  have hmax : Maps.size (Sp.mapOf L) ≤ maxLen := by rw [Sp.size_mapOf]; unfold maxLen; omega
  have hbytes : Maps.size (Sp.mapOf L) * 16 ≤ 140737488355328 := by rw [Sp.size_mapOf]; omega
  have hseq : SeqGives Fence.wide 2 Tryz.prog 78 #[.pointer (some ⟨w.heap.size, 0, none⟩)] encStr (fun ss => ss.Perm (strKeys (Sp.mapOf L))) (Maps.size (Sp.mapOf L)) (w.alloc (.cells #[.map (some bm)] 50)) :=
    AnyZ.keys_gives (ρ := Tryz.laysKeys_ren) { Tryz.laysKeys with } Fence.wide _ trivial rfl (by omega) w.heap.size bm _ (Sp.mapOf L) _ (by simp) (by simp) ((hM.alloc _).own)
  have h := AnyZ.sorted_in Tryz.laysSorted Fence.wide 5 trivial trivial trivial trivial rfl (by omega) (sorts _) (enters_of Tryz.func74 (by kernel_rfl) rfl) 78 #[.pointer (some ⟨w.heap.size, 0, none⟩)] trivial (enters_of Tryz.func78 (by kernel_rfl) rfl) _ _ hmax hbytes _ hseq
  refine ((callsIn_wide (n := 5)).1 h).mono ?_
  rintro e w' ⟨v, ss, rfl, hS, hrow, _, hb⟩
  refine ⟨v, rfl, ?_, hb⟩
  have hlen : ss.length = (L.map fun f => str f.p).length := by rw [hS.length_eq, strKeys_mapOf]; simp
  rw [sorted_keys hs hS, hlen] at hrow
  have e1 : (L.map (·.p)).map encStr = strC (L.map fun f => str f.p) := by simp [strC, encStr, str]
  rw [e1] at hrow
  exact hrow

/-! ### the plain side: who is in p -/
def child (L : List F) (p : List UInt8) : Bool := L.any fun g => (p ++ [47]).isPrefixOf g.p
def blockedA (L : List F) : Bool := L.any fun f => !f.d && child L f.p
def lb : List F → List UInt8 → Nat
  | [], _ => 0
  | f :: r, q => if f.p < q then lb r q + 1 else 0

theorem between : ∀ (t a r : List UInt8), t ≤ a → a ≤ t ++ r → t.isPrefixOf a = true
  | [], _, _, _, _ => by simp
  | x :: t, [], r, h, _ => by exact absurd h (by simp)
  | x :: t, y :: a, r, h1, h2 => by
    rw [List.cons_append] at h2
    have h1' : ¬ (y < x ∨ y = x ∧ a < t) := fun h => (List.not_lt.2 h1) (List.cons_lt_cons_iff.2 h)
    have h2' : ¬ (x < y ∨ x = y ∧ t ++ r < a) := fun h => (List.not_lt.2 h2) (List.cons_lt_cons_iff.2 h)
    have e : x = y := UInt8.le_antisymm (UInt8.not_lt.1 fun h => h1' (.inl h)) (UInt8.not_lt.1 fun h => h2' (.inl h))
    subst e
    have := between t a r (List.not_lt.1 fun h => h1' (.inr ⟨rfl, h⟩)) (List.not_lt.1 fun h => h2' (.inr ⟨rfl, h⟩))
    simpa using this

theorem le_app (t r : List UInt8) : t ≤ t ++ r := by
  refine List.not_lt.1 fun h => ?_
  induction t with
  | nil => simp at h
  | cons x t ih =>
    rw [List.cons_append] at h
    rcases List.cons_lt_cons_iff.1 h with h | ⟨_, h⟩
    · exact absurd h (UInt8.lt_irrefl x)
    · exact ih h

theorem lb_low : ∀ {L : List F} {q : List UInt8} {t : Nat}, t < lb L q → ∃ f, L[t]? = some f ∧ f.p < q
  | [], _, _, h => by simp [lb] at h
  | f :: r, q, t, h => by
    unfold lb at h
    split at h
    · rename_i hf
      cases t with
      | zero => exact ⟨f, rfl, hf⟩
      | succ t => exact lb_low (L := r) (by omega)
    · omega
theorem lb_le : ∀ (L : List F) (q : List UInt8), lb L q ≤ L.length
  | [], _ => by simp [lb]
  | f :: r, q => by
    unfold lb
    split
    · have := lb_le r q; simp; omega
    · simp
theorem lb_high : ∀ {L : List F} {q : List UInt8}, Sp.Sorted L → ∀ {t : Nat} {f : F}, lb L q ≤ t → L[t]? = some f → ¬ f.p < q
  | [], _, _, _, _, _, h => by simp at h
  | g :: r, q, hs, t, f, h, hf => by
    obtain ⟨h1, h2⟩ := List.pairwise_cons.1 hs
    intro hlt
    unfold lb at h
    split at h
    · cases t with
      | zero => omega
      | succ t => exact lb_high h2 (t := t) (by omega) (by simpa using hf) hlt
    · rename_i hg
      cases t with
      | zero => cases hf; exact hg hlt
      | succ t => exact hg (Sp.lt_tr (h1 f (List.mem_of_getElem? (by simpa using hf))) hlt)

theorem child_lb {L : List F} (hs : Sp.Sorted L) (p : List UInt8) : child L p = match L[lb L (p ++ [47])]? with
    | some g => (p ++ [47]).isPrefixOf g.p
    | none => false := by
  unfold child
  rw [Bool.eq_iff_iff, List.any_eq_true]
  constructor
  · rintro ⟨g, hg, hp⟩
    obtain ⟨t, ht⟩ := List.getElem?_of_mem hg
    obtain ⟨r, hr⟩ := List.isPrefixOf_iff_prefix.1 hp
    have hge : ¬ g.p < p ++ [47] := fun h => by rw [← hr] at h; exact (List.not_lt.2 (le_app _ r)) h
    have hle : lb L (p ++ [47]) ≤ t := by
      by_cases hlt : t < lb L (p ++ [47])
      · obtain ⟨f, hf, hlt2⟩ := lb_low hlt
        rw [ht] at hf; cases hf
        exact absurd hlt2 hge
      · omega
    have htl : t < L.length := (List.getElem?_eq_some_iff.1 ht).1
    have hk : lb L (p ++ [47]) < L.length := by omega
    rw [List.getElem?_eq_getElem hk]
    have h1 : ¬ (L[lb L (p ++ [47])]).p < p ++ [47] := lb_high hs (Nat.le_refl _) (List.getElem?_eq_getElem hk)
    refine between _ _ r (List.not_lt.1 h1) ?_
    rw [hr]
    rcases Nat.lt_or_eq_of_le hle with h | h
    · have := List.pairwise_iff_getElem.1 hs _ t hk htl h
      rw [List.getElem?_eq_getElem htl] at ht
      cases ht
      exact List.le_of_lt this
    · have : L[lb L (p ++ [47])] = g := by
        have h3 := List.getElem?_eq_getElem hk
        have h4 : L[lb L (p ++ [47])]? = some g := by rw [h]; exact ht
        exact Option.some.inj (h3.symm.trans h4)
      rw [this]; exact List.le_refl _
  · intro h
    split at h
    · rename_i g hg
      exact ⟨g, List.mem_of_getElem? hg, h⟩
    · cases h

/-! ### the walk -/
def BoolPost (w : World) (b : Bool) (e : Ending) (w' : World) : Prop := e = .returned (.bool b) ∧ Below w.heap.size w w'

theorem Search_any (w : World) {b n c : Nat} {L : List F} {q : ByteArray} (hs : Sp.Sorted L) (hn : n = L.length) (hl : n ≤ 1000000) (hc : ∀ j, j < n → w.cell? ⟨b, j, none⟩ = some (.string ((L.map fun f => str f.p)[j]?.getD ByteArray.empty))) :
    Calls Tryz.prog 53 #[.slice (some ⟨b, 0, none⟩) n c, .string q] w fun e w' => ∃ found, e = .returned (.tuple #[.int .i64 (lb L (bs q) : Nat), .bool found]) ∧ ∃ k, w' = w.drewN k := by
  subst hn
  let Sx : Nat → ByteArray := fun j => (L[j]?.map fun f => str f.p).getD q
  have hc' : ∀ j, j < L.length → w.cell? ⟨b, 0 + j, none⟩ = some (.string (Sx j)) := fun j hj => by
    have e1 : (L.map fun f => str f.p)[j]?.getD ByteArray.empty = Sx j := by simp [Sx, hj]
    rw [Nat.zero_add, ← e1]; exact hc j hj
  have h := Any2.slices_BinarySearch_string Tryz.laysSearch b 0 L.length c Sx q w (by omega) hc'
  have hk : Lib.bsGo (fun t => Op.bytesLess (Sx t).toList q.toList) L.length 0 L.length = lb L (bs q) := by
    refine Lib.bsGo_spec _ (lb L (bs q)) (fun t ht => ?_) (fun t ht => ?_) _ _ _ (by omega) (Nat.zero_le _) (lb_le _ _)
    · obtain ⟨f, hf, hlt⟩ := lb_low ht
      have : Sx t = str f.p := by simp [Sx, hf]
      rw [this, bytesLess_eq, Lib.toList_data, Lib.toList_data, decide_eq_true_eq]
      exact hlt
    · cases hf : L[t]? with
      | none =>
        have : Sx t = q := by simp [Sx, hf]
        rw [this, bytesLess_eq]
        simp
      | some f =>
        have : Sx t = str f.p := by simp [Sx, hf]
        rw [this, bytesLess_eq, Lib.toList_data, Lib.toList_data, decide_eq_false_iff_not]
        exact lb_high hs ht hf
  rw [hk] at h
  exact h.mono fun e w' ⟨a, b⟩ => ⟨_, a, b⟩

theorem prefix_is (w : World) (s p : ByteArray) (r : Bool) (h : Hid ((bs p).isPrefixOf (bs s) = r)) : Calls Tryz.prog 54 #[.string s, .string p] w fun e w' => e = .returned (.bool r) ∧ w = w' := by
  refine (Tryz.strings_HasPrefix s p w).mono ?_
  rw [show Lib.hasPrefix s.data.toList p.data.toList = r from h.out]
  exact fun e w' ⟨a, b⟩ => ⟨a, b.symm⟩

theorem sorted_at {L : List F} (hs : Sp.Sorted L) {k : Nat} {f : F} (h : L[k]? = some f) : Sp.get L f.p = some f := (Sp.get_some hs).2 ⟨List.mem_of_getElem? h, rfl⟩

/-- The first k files stand in nobody's way. -/
def Free (L : List F) (k : Nat) : Prop := ∀ j f, j < k → L[j]? = some f → f.d = false → child L f.p = false
theorem Free.step {L : List F} {k : Nat} (h : Free L k) (hk : ∀ f, L[k]? = some f → f.d = false → child L f.p = false) : Free L (k + 1) := fun j f hj hf hd => by
  by_cases e : j = k
  · subst e; exact hk f hf hd
  · exact h j f (by omega) hf hd
theorem Free.all {L : List F} (h : Free L L.length) : blockedA L = false := by
  unfold blockedA
  rw [List.any_eq_false]
  intro f hf
  obtain ⟨j, hj⟩ := List.getElem?_of_mem hf
  cases hd : f.d with
  | true => simp
  | false => rw [h j f (List.getElem?_eq_some_iff.1 hj).1 hj hd]; simp
theorem blocked_at {L : List F} {k : Nat} {f : F} (hf : L[k]? = some f) (hd : f.d = false) (hc : child L f.p = true) : blockedA L = true := by
  unfold blockedA
  rw [List.any_eq_true]
  exact ⟨f, List.mem_of_getElem? hf, by rw [hd, hc]; rfl⟩

theorem field_dir (a b c d : Value) (w : World) : (Instr.field 26 (.agg #[a, b, c, d]) 3).run Tryz.prog w = .ok d w := by kernel_rfl

def BlRel (w w2 : World) (L : List F) (i : Value) (wr : World) : Prop := ∃ k : Nat, i = .int .i64 k ∧ k ≤ L.length ∧ wr.heap = w2.heap ∧ Below w.heap.size w wr ∧ Free L k

set_option maxHeartbeats 4000000 in
theorem blocked_any (w : World) {sb bm : Nat} {L : List F} {c : Int} (hS : StoreAt w sb bm L c) (hl : L.length ≤ 1000000) (hp : ∀ f ∈ L, f.p.length ≤ 1000000) :
    Calls Tryz.prog 18 #[.pointer (some ⟨sb, 0, none⟩)] w (BoolPost w (blockedA L)) := by
  have hlt := hS.lt
  have c1 := hS.c1
  have hM := hS.map
  have hs := hM.sorted
  go_enter Tryz.func18, Tryz.ntmps18
  go_wp2_with fail
  refine (Keys_any _ bm).mono ?_
  rintro e w1 ⟨rfl, rfl⟩
  go_wp2_with fail
  refine (Sorted_any w hM hl).mono ?_
  rintro e w2 ⟨v, rfl, hrow, hB⟩
  have hB0 := ((Below.refl w.heap.size w).alloc (Nat.le_refl _) (.cells #[.map (some bm)] 50)).trans (hB.mono (by simp))
  have hlen : (L.map fun f => str f.p).length = L.length := by simp
  rcases Nat.eq_zero_or_pos L.length with h0 | h0
  · obtain rfl : L = [] := List.eq_nil_of_length_eq_zero h0
    obtain ⟨a, cp, rfl⟩ : ∃ a c, v = .slice a 0 c := by
      rcases hrow.2 with ⟨rfl, _⟩ | ⟨g, cap, cur, rfl, _⟩
      · exact ⟨_, _, rfl⟩
      · exact ⟨_, _, rfl⟩
    clear hrow hlen
    go_wp2
    refine wp_loop_rounds 1 ?_
    rw [rounds_succ]
    go_wp2
    go_ret
    exact ⟨rfl, hB0⟩
  · obtain ⟨g, cp, rfl, _, _⟩ := owns_some hrow (by rw [hlen]; exact h0)
    have hS2 := hS.below hB0
    have hcell := fun j (hj : j < L.length) => cell_str hrow (j := j) (by rw [hlen]; exact hj)
    rw [hlen]
    clear hrow hlen hS hM c1 hB
    go_wp2
    go_loopw [17] (fun i wr => BlRel w w2 L i wr) (fun i _ => L.length - (intOf i).toNat)
    case atStart => exact ⟨0, rfl, Nat.zero_le _, rfl, hB0, fun j f h => by omega⟩
    case round =>
      obtain ⟨k, rfl, hk, hheap, hBr, hfree⟩ := hrel
      have hSr : StoreAt wr sb bm L c := ⟨by rw [hheap]; exact hS2.cells, hS2.map.block (by rw [hheap])⟩
      have hcr : ∀ j, j < L.length → wr.cell? ⟨g, j, none⟩ = some (.string ((L.map fun f => str f.p)[j]?.getD ByteArray.empty)) := fun j hj => by
        rw [← hcell j hj]; exact World.cell?_of_block (w := w2) (by rw [hheap])
      have HH := Lib.hid hheap
      have HF := Lib.hid hfree
      clear hheap hfree hS2 hcell
      by_cases hlt : k < L.length
      · obtain ⟨f, hf⟩ : ∃ f, L[k]? = some f := ⟨_, List.getElem?_eq_getElem hlt⟩
        have hpk : (L.map fun f => str f.p)[k]?.getD ByteArray.empty = str f.p := by rw [List.getElem?_map, hf]; rfl
        have ck := hcr k hlt
        rw [hpk] at ck
        have hfp := hp f (List.mem_of_getElem? hf)
        have hps : (str f.p).size ≤ 1000000 := by rw [← bs_len, bs_str]; exact hfp
        have hg := sorted_at hs hf
        have hG : Hid ((Sp.get L (bs (str f.p))).getD noF = f) := Lib.hid (by rw [bs_str, hg]; rfl)
        have hpm : (str f.p).size ≤ maxLen := by unfold maxLen; omega
        have ik : (k : Int) < L.length := by omega
        have c1 := hSr.c1
        have hM := hSr.map
        have HF2 := Lib.hid hf
        have HC := Lib.hid hcr
        clear hf hcr hpk hg hSr
        obtain ⟨fp, ft, fc, fd⟩ := f
        simp only at *
        have hfd := fun (d : Value) (wx : World) => field_dir (.string (str fp)) (.string (str ft)) (.int .i64 fc) d wx
        cases fd with
        | true =>
          go_wp2_with (at_lookup; refine wpList_get _ rfl _ _ rfl rfl rfl hM hpm hG ?_)
          go_roundw
          case rel => exact ⟨k + 1, by go_num, by omega, HH.out, hBr, HF.out.step fun f hf hd => by rw [HF2.out] at hf; cases hf; cases hd⟩
          case measure => simp [intOf]; omega
        | false =>
          obtain ⟨q, hq⟩ : ∃ q, q = str fp ++ ⟨#[47]⟩ := ⟨_, rfl⟩
          have hqb : bs q = fp ++ [47] := by rw [hq, bs_app, bs_str]; rfl
          have hqs : (str fp).size + 1 ≤ 1000001 := by omega
          have hch := child_lb hs fp
          have hll := lb_le L (fp ++ [47])
          obtain ⟨m, hm⟩ : ∃ m, lb L (fp ++ [47]) = m := ⟨_, rfl⟩
          have hsr := fun wx hcx => Search_any wx (b := g) (n := L.length) (c := cp) (q := q) hs rfl hl hcx
          rw [hqb, hm] at hsr
          rw [hm] at hch hll
          have HSR := Lib.hid hsr
          rw [hq] at HSR
          have hml : Hid (lb L (fp ++ [47]) = m) := Lib.hid hm
          clear hsr hm
          by_cases hmn : m < L.length
          · obtain ⟨x, hx⟩ : ∃ x, L[m]? = some x := ⟨_, List.getElem?_eq_getElem hmn⟩
            have hxk : (L.map fun f => str f.p)[m]?.getD ByteArray.empty = str x.p := by rw [List.getElem?_map, hx]; rfl
            have cm := HC.out m hmn
            rw [hxk] at cm
            rw [hx] at hch
            simp only at hch
            have hxp := hp x (List.mem_of_getElem? hx)
            have im : (m : Int) < L.length := by omega
            obtain ⟨r, hr⟩ : ∃ r, (fp ++ [47]).isPrefixOf x.p = r := ⟨_, rfl⟩
            have hR : Hid ((bs (str fp ++ ⟨#[47]⟩)).isPrefixOf (bs (str x.p)) = r) := Lib.hid (by rw [← hq, hqb, bs_str]; exact hr)
            rw [hr] at hch
            have HCH := Lib.hid hch
            clear hch hr hx hxk hqb hq
            cases r with
            | true =>
              have HE := Lib.hid (blocked_at HF2.out rfl HCH.out)
              go_wp2_with (first
                | (at_lookup; refine wpList_get _ rfl _ _ rfl rfl rfl hM hpm hG ?_)
                | (go_at_call 53; go_must (refine (HSR.out _ HC.out).mono ?_); rintro e w4 ⟨fo, rfl, nq, rfl⟩)
                | (go_at_call 54; go_must (refine (prefix_is _ _ _ true hR).mono ?_); rintro e w5 ⟨rfl, rfl⟩))
              go_ret
              exact ⟨by rw [HE.out]; rfl, below_drewN hBr nq⟩
            | false =>
              go_wp2_with (first
                | (at_lookup; refine wpList_get _ rfl _ _ rfl rfl rfl hM hpm hG ?_)
                | (go_at_call 53; go_must (refine (HSR.out _ HC.out).mono ?_); rintro e w4 ⟨fo, rfl, nq, rfl⟩)
                | (go_at_call 54; go_must (refine (prefix_is _ _ _ false hR).mono ?_); rintro e w5 ⟨rfl, rfl⟩))
              go_roundw
              case rel => exact ⟨k + 1, by go_num, by omega, HH.out, below_drewN hBr nq, HF.out.step fun f hf hd => by rw [HF2.out] at hf; cases hf; exact HCH.out⟩
              case measure => simp [intOf]; omega
          · have im : ¬ (m : Int) < L.length := by omega
            have hn : L[m]? = none := List.getElem?_eq_none (by omega)
            rw [hn] at hch
            have HCH := Lib.hid hch
            clear hch hn hqb hq
            go_wp2_with (first
              | (at_lookup; refine wpList_get _ rfl _ _ rfl rfl rfl hM hpm hG ?_)
              | (go_at_call 53; go_must (refine (HSR.out _ HC.out).mono ?_); rintro e w4 ⟨fo, rfl, nq, rfl⟩))
            go_roundw
            case rel => exact ⟨k + 1, by go_num, by omega, HH.out, below_drewN hBr nq, HF.out.step fun f hf hd => by rw [HF2.out] at hf; cases hf; exact HCH.out⟩
            case measure => simp [intOf]; omega
      · obtain rfl : k = L.length := by omega
        have HE := Lib.hid HF.out.all
        go_wp2
        go_ret
        exact ⟨by rw [HE.out]; rfl, hBr⟩
end Go.Proofs.YtmmilnmlmgcobaaGreatDoor.Sw
