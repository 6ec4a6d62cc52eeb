/-
  (*Store).blocked: whether a file is where a directory must be.
  (*Store).add: a file is kept as it is; the clock is no less than its time.
  (*Store).surround: the directories that a path is in.
  store.New.
-/
import Derived.Shelf.SlIter.Nil
import Derived.Test.YtgednccpjegbmaaGreatDoorShelf
import Derived.Test.YtgednccpjegbmaaGreatDoorQSPut
import Derived.RegionTactic
import Derived.BigRegion
namespace Go.Proofs.YtgednccpjegbmaaGreatDoor.Sw
open Go.RowKit Go.Proofs.YtgednccpjegbmaaGreatDoor Go.Maps Go.Shelf
set_option maxRecDepth 100000

theorem strKeys_mapOf (L : List F) : strKeys (Sp.mapOf L) = L.map (·.p) := by
  show ((L.map Sp.ent).map fun q => strOf q.1) = _
  rw [List.map_map]; rfl
theorem sorted_keys {L : List F} (hs : Sp.Sorted L) {ss : List (List UInt8)} (h : ss.Perm (strKeys (Sp.mapOf L))) : ss.mergeSort (fun x y => decide (x ≤ y)) = L.map (·.p) := by
  rw [strKeys_mapOf] at h
  have h2 : ss.mergeSort (fun x y => decide (x ≤ y)) = (L.map (·.p)).mergeSort (fun x y => decide (x ≤ y)) := mergeSort_of_perm h
  rw [h2]
  exact List.mergeSort_of_pairwise (List.pairwise_map.2 (hs.imp fun {a b} hab => by simpa using List.le_of_lt hab))

theorem Keys_any (w : World) (bm : Nat) : Calls Tryz.prog 35 #[.map (some bm)] w fun e w' =>
    e = .returned (.func (.func 69) #[] #[.pointer (some ⟨w.heap.size, 0, none⟩)]) ∧ w' = w.alloc (.cells #[.map (some bm)] 56) :=
  (callsIn_wide (n := 5)).1 (AnyZ.keys_in Tryz.laysKeys Fence.wide 5 trivial rfl (some bm) w)

theorem sorts (m : Nat) : AnyZ.SortsIn Tryz.prog Tryz.laysSorted_ren Fence.wide m :=
  ⟨fun blk off cap ss W hH hblk hsz => callsIn_wide.2 (Tryz.slices_Sort_string blk off cap ss W hH hblk hsz),
   fun p cap W => callsIn_wide.2 (Tryz.slices_Sort_string_none p cap W)⟩

set_option maxHeartbeats 1000000 in
theorem Sorted_any (w : World) {bm : Nat} {L : List F} (hM : MapAt w bm L) (hl : L.length ≤ 1000000) :
    Calls Tryz.prog 34 #[.func (.func 69) #[] #[.pointer (some ⟨w.heap.size, 0, none⟩)]] (w.alloc (.cells #[.map (some bm)] 56)) fun e w' =>
      ∃ v, e = .returned v ∧ w'.ownsRow (w.alloc (.cells #[.map (some bm)] 56)).heap.size 9 1 v (L.map fun f => str f.p).length (strC (L.map fun f => str f.p)) ∧ Below (w.alloc (.cells #[.map (some bm)] 56)).heap.size (w.alloc (.cells #[.map (some bm)] 56)) w' := by
  have hbl := hM.lt
  have hs := hM.sorted
  have hown := hM.own
  have hmax : Maps.size (Sp.mapOf L) ≤ maxLen := by rw [Sp.size_mapOf]; unfold maxLen; omega
  have hbytes : Maps.size (Sp.mapOf L) * 16 ≤ 140737488355328 := by rw [Sp.size_mapOf]; omega
  have hseq : SeqGives Fence.wide 2 Tryz.prog 69 #[.pointer (some ⟨w.heap.size, 0, none⟩)] encStr (fun ss => ss.Perm (strKeys (Sp.mapOf L))) (Maps.size (Sp.mapOf L)) (w.alloc (.cells #[.map (some bm)] 56)) :=
    AnyZ.keys_gives (ρ := Tryz.laysKeys_ren) { Tryz.laysKeys with } Fence.wide _ trivial rfl (by omega) w.heap.size bm _ (Sp.mapOf L) _ (by simp) (by simp) ((hM.alloc _).own)
  have h := AnyZ.sorted_in Tryz.laysSorted Fence.wide 5 trivial trivial trivial trivial rfl (by omega) (sorts _) (enters_of Tryz.func68 (by kernel_rfl) rfl) 69 #[.pointer (some ⟨w.heap.size, 0, none⟩)] trivial (enters_of Tryz.func69 (by kernel_rfl) rfl) _ _ hmax hbytes _ hseq
  refine ((callsIn_wide (n := 5)).1 h).mono ?_
  rintro e w' ⟨v, ss, rfl, hS, hrow, _, hb⟩
  refine ⟨v, rfl, ?_, hb⟩
  have hlen : ss.length = (L.map fun f => str f.p).length := by rw [hS.length_eq, strKeys_mapOf]; simp
  rw [sorted_keys hs hS, hlen] at hrow
  have e1 : (L.map (·.p)).map encStr = strC (L.map fun f => str f.p) := by simp [strC, encStr, str]
  rw [e1] at hrow
  exact hrow

/-! ### the plain side: who is in p -/
def child (L : List F) (p : List UInt8) : Bool := L.any fun g => (p ++ [47]).isPrefixOf g.p
def blockedA (L : List F) : Bool := L.any fun f => !f.d && child L f.p
def lb : List F → List UInt8 → Nat
  | [], _ => 0
  | f :: r, q => if f.p < q then lb r q + 1 else 0

theorem between : ∀ (t a r : List UInt8), t ≤ a → a ≤ t ++ r → t.isPrefixOf a = true
  | [], _, _, _, _ => by simp
  | x :: t, [], r, h, _ => by exact absurd h (by simp)
  | x :: t, y :: a, r, h1, h2 => by
    rw [List.cons_append] at h2
    have h1' : ¬ (y < x ∨ y = x ∧ a < t) := fun h => (List.not_lt.2 h1) (List.cons_lt_cons_iff.2 h)
    have h2' : ¬ (x < y ∨ x = y ∧ t ++ r < a) := fun h => (List.not_lt.2 h2) (List.cons_lt_cons_iff.2 h)
    have e : x = y := UInt8.le_antisymm (UInt8.not_lt.1 fun h => h1' (.inl h)) (UInt8.not_lt.1 fun h => h2' (.inl h))
    subst e
    have := between t a r (List.not_lt.1 fun h => h1' (.inr ⟨rfl, h⟩)) (List.not_lt.1 fun h => h2' (.inr ⟨rfl, h⟩))
    simpa using this

theorem le_app (t r : List UInt8) : t ≤ t ++ r := by
  refine List.not_lt.1 fun h => ?_
  induction t with
  | nil => simp at h
  | cons x t ih =>
    rw [List.cons_append] at h
    rcases List.cons_lt_cons_iff.1 h with h | ⟨_, h⟩
    · exact absurd h (UInt8.lt_irrefl x)
    · exact ih h

theorem lb_low : ∀ {L : List F} {q : List UInt8} {t : Nat}, t < lb L q → ∃ f, L[t]? = some f ∧ f.p < q
  | [], _, _, h => by simp [lb] at h
  | f :: r, q, t, h => by
    unfold lb at h
    split at h
    · rename_i hf
      cases t with
      | zero => exact ⟨f, rfl, hf⟩
      | succ t => exact lb_low (L := r) (by omega)
    · omega
theorem lb_le : ∀ (L : List F) (q : List UInt8), lb L q ≤ L.length
  | [], _ => by simp [lb]
  | f :: r, q => by
    unfold lb
    split
    · have := lb_le r q; simp; omega
    · simp
theorem lb_high : ∀ {L : List F} {q : List UInt8}, Sp.Sorted L → ∀ {t : Nat} {f : F}, lb L q ≤ t → L[t]? = some f → ¬ f.p < q
  | [], _, _, _, _, _, h => by simp at h
  | g :: r, q, hs, t, f, h, hf => by
    obtain ⟨h1, h2⟩ := List.pairwise_cons.1 hs
    intro hlt
    unfold lb at h
    split at h
    · cases t with
      | zero => omega
      | succ t => exact lb_high h2 (t := t) (by omega) (by simpa using hf) hlt
    · rename_i hg
      cases t with
      | zero => cases hf; exact hg hlt
      | succ t => exact hg (Sp.lt_tr (h1 f (List.mem_of_getElem? (by simpa using hf))) hlt)

theorem child_lb {L : List F} (hs : Sp.Sorted L) (p : List UInt8) : child L p = match L[lb L (p ++ [47])]? with
    | some g => (p ++ [47]).isPrefixOf g.p
    | none => false := by
  unfold child
  rw [Bool.eq_iff_iff, List.any_eq_true]
  constructor
  · rintro ⟨g, hg, hp⟩
    obtain ⟨t, ht⟩ := List.getElem?_of_mem hg
    obtain ⟨r, hr⟩ := List.isPrefixOf_iff_prefix.1 hp
    have hge : ¬ g.p < p ++ [47] := fun h => by rw [← hr] at h; exact (List.not_lt.2 (le_app _ r)) h
    have hle : lb L (p ++ [47]) ≤ t := by
      by_cases hlt : t < lb L (p ++ [47])
      · obtain ⟨f, hf, hlt2⟩ := lb_low hlt
        rw [ht] at hf; cases hf
        exact absurd hlt2 hge
      · omega
    have htl : t < L.length := (List.getElem?_eq_some_iff.1 ht).1
    have hk : lb L (p ++ [47]) < L.length := by omega
    rw [List.getElem?_eq_getElem hk]
    have h1 : ¬ (L[lb L (p ++ [47])]).p < p ++ [47] := lb_high hs (Nat.le_refl _) (List.getElem?_eq_getElem hk)
    refine between _ _ r (List.not_lt.1 h1) ?_
    rw [hr]
    rcases Nat.lt_or_eq_of_le hle with h | h
    · have := List.pairwise_iff_getElem.1 hs _ t hk htl h
      rw [List.getElem?_eq_getElem htl] at ht
      cases ht
      exact List.le_of_lt this
    · have : L[lb L (p ++ [47])] = g := by
        have h3 := List.getElem?_eq_getElem hk
        have h4 : L[lb L (p ++ [47])]? = some g := by rw [h]; exact ht
        exact Option.some.inj (h3.symm.trans h4)
      rw [this]; exact List.le_refl _
  · intro h
    split at h
    · rename_i g hg
      exact ⟨g, List.mem_of_getElem? hg, h⟩
    · cases h

/-! ### the walk -/
def BoolPost (w : World) (b : Bool) (e : Ending) (w' : World) : Prop := e = .returned (.bool b) ∧ Below w.heap.size w w'

theorem Search_any (w : World) {b n c : Nat} {L : List F} {q : ByteArray} (hs : Sp.Sorted L) (hn : n = L.length) (hl : n ≤ 1000000) (hc : ∀ j, j < n → w.cell? ⟨b, j, none⟩ = some (.string ((L.map fun f => str f.p)[j]?.getD ByteArray.empty))) :
    Calls Tryz.prog 36 #[.slice (some ⟨b, 0, none⟩) n c, .string q] w fun e w' => ∃ found, e = .returned (.tuple #[.int .i64 (lb L (bs q) : Nat), .bool found]) ∧ ∃ k, w' = w.drewN k := by
  subst hn
  let Sx : Nat → ByteArray := fun j => (L[j]?.map fun f => str f.p).getD q
  have hc' : ∀ j, j < L.length → w.cell? ⟨b, 0 + j, none⟩ = some (.string (Sx j)) := fun j hj => by
    have e1 : (L.map fun f => str f.p)[j]?.getD ByteArray.empty = Sx j := by simp [Sx, hj]
    rw [Nat.zero_add, ← e1]; exact hc j hj
  have h := Any2.slices_BinarySearch_string Tryz.laysSearch b 0 L.length c Sx q w (by omega) hc'
  have hk : Lib.bsGo (fun t => Op.bytesLess (Sx t).toList q.toList) L.length 0 L.length = lb L (bs q) := by
    refine Lib.bsGo_spec _ (lb L (bs q)) (fun t ht => ?_) (fun t ht => ?_) _ _ _ (by omega) (Nat.zero_le _) (lb_le _ _)
    · obtain ⟨f, hf, hlt⟩ := lb_low ht
      have : Sx t = str f.p := by simp [Sx, hf]
      rw [this, bytesLess_eq, Lib.toList_data, Lib.toList_data, decide_eq_true_eq]
      exact hlt
    · cases hf : L[t]? with
      | none =>
        have : Sx t = q := by simp [Sx, hf]
        rw [this, bytesLess_eq]
        simp
      | some f =>
        have : Sx t = str f.p := by simp [Sx, hf]
        rw [this, bytesLess_eq, Lib.toList_data, Lib.toList_data, decide_eq_false_iff_not]
        exact lb_high hs ht hf
  rw [hk] at h
  exact h.mono fun e w' ⟨a, b⟩ => ⟨_, a, b⟩

theorem prefix_is (w : World) (s p : ByteArray) (r : Bool) (h : Hid ((bs p).isPrefixOf (bs s) = r)) : Calls Tryz.prog 37 #[.string s, .string p] w fun e w' => e = .returned (.bool r) ∧ w = w' := by
  refine (Tryz.strings_HasPrefix s p w).mono ?_
  rw [show Lib.hasPrefix s.data.toList p.data.toList = r from h.out]
  exact fun e w' ⟨a, b⟩ => ⟨a, b.symm⟩

theorem sorted_at {L : List F} (hs : Sp.Sorted L) {k : Nat} {f : F} (h : L[k]? = some f) : Sp.get L f.p = some f := (Sp.get_some hs).2 ⟨List.mem_of_getElem? h, rfl⟩

/-- The first k files stand in nobody's way. -/
def Free (L : List F) (k : Nat) : Prop := ∀ j f, j < k → L[j]? = some f → f.d = false → child L f.p = false
theorem Free.step {L : List F} {k : Nat} (h : Free L k) (hk : ∀ f, L[k]? = some f → f.d = false → child L f.p = false) : Free L (k + 1) := fun j f hj hf hd => by
  by_cases e : j = k
  · subst e; exact hk f hf hd
  · exact h j f (by omega) hf hd
theorem Free.all {L : List F} (h : Free L L.length) : blockedA L = false := by
  unfold blockedA
  rw [List.any_eq_false]
  intro f hf
  obtain ⟨j, hj⟩ := List.getElem?_of_mem hf
  cases hd : f.d with
  | true => simp
  | false => rw [h j f (List.getElem?_eq_some_iff.1 hj).1 hj hd]; simp
theorem blocked_at {L : List F} {k : Nat} {f : F} (hf : L[k]? = some f) (hd : f.d = false) (hc : child L f.p = true) : blockedA L = true := by
  unfold blockedA
  rw [List.any_eq_true]
  exact ⟨f, List.mem_of_getElem? hf, by rw [hd, hc]; rfl⟩

theorem field_dir (a b c d : Value) (w : World) : (Instr.field 31 (.agg #[a, b, c, d]) 3).run Tryz.prog w = .ok d w := by kernel_rfl

def BlRel (w w2 : World) (L : List F) (i : Value) (wr : World) : Prop := ∃ k : Nat, i = .int .i64 k ∧ k ≤ L.length ∧ wr.heap = w2.heap ∧ Below w.heap.size w wr ∧ Free L k

set_option maxHeartbeats 4000000 in
theorem blocked_any (w : World) {sb bm : Nat} {L : List F} {c : Int} (hS : StoreAt w sb bm L c) (hl : L.length ≤ 1000000) (hp : ∀ f ∈ L, f.p.length ≤ 1000000) :
    Calls Tryz.prog 16 #[.pointer (some ⟨sb, 0, none⟩)] w (BoolPost w (blockedA L)) := by
  have hlt := hS.lt
  have c1 := hS.c1
  have hM := hS.map
  have hs := hM.sorted
  go_enter Tryz.func16, Tryz.ntmps16
  go_wp2_with fail
  refine (Keys_any _ bm).mono ?_
  rintro e w1 ⟨rfl, rfl⟩
  go_wp2_with fail
  refine (Sorted_any w hM hl).mono ?_
  rintro e w2 ⟨v, rfl, hrow, hB⟩
  have hB0 := ((Below.refl w.heap.size w).alloc (Nat.le_refl _) (.cells #[.map (some bm)] 56)).trans (hB.mono (by simp))
  have hlen : (L.map fun f => str f.p).length = L.length := by simp
  rcases Nat.eq_zero_or_pos L.length with h0 | h0
  · obtain rfl : L = [] := List.eq_nil_of_length_eq_zero h0
    obtain ⟨a, cp, rfl⟩ : ∃ a c, v = .slice a 0 c := by
      rcases hrow.2 with ⟨rfl, _⟩ | ⟨g, cap, cur, rfl, _⟩
      · exact ⟨_, _, rfl⟩
      · exact ⟨_, _, rfl⟩
    clear hrow hlen
    go_wp2
    refine wp_loop_rounds 1 ?_
    rw [rounds_succ]
    go_wp2
    go_ret
    exact ⟨rfl, hB0⟩
  · obtain ⟨g, cp, rfl, _, _⟩ := owns_some hrow (by rw [hlen]; exact h0)
    have hS2 := hS.below hB0
    have hcell := fun j (hj : j < L.length) => cell_str hrow (j := j) (by rw [hlen]; exact hj)
    rw [hlen]
    clear hrow hlen hS hM c1 hB
    go_wp2
    go_loopw [17] (fun i wr => BlRel w w2 L i wr) (fun i _ => L.length - (intOf i).toNat)
    case atStart => exact ⟨0, rfl, Nat.zero_le _, rfl, hB0, fun j f h => by omega⟩
    case round =>
      obtain ⟨k, rfl, hk, hheap, hBr, hfree⟩ := hrel
      have hSr : StoreAt wr sb bm L c := ⟨by rw [hheap]; exact hS2.cells, hS2.map.block (by rw [hheap])⟩
      have hcr : ∀ j, j < L.length → wr.cell? ⟨g, j, none⟩ = some (.string ((L.map fun f => str f.p)[j]?.getD ByteArray.empty)) := fun j hj => by
        rw [← hcell j hj]; exact World.cell?_of_block (w := w2) (by rw [hheap])
      have HH := Lib.hid hheap
      have HF := Lib.hid hfree
      clear hheap hfree hS2 hcell
      by_cases hlt : k < L.length
      · obtain ⟨f, hf⟩ : ∃ f, L[k]? = some f := ⟨_, List.getElem?_eq_getElem hlt⟩
        have hpk : (L.map fun f => str f.p)[k]?.getD ByteArray.empty = str f.p := by rw [List.getElem?_map, hf]; rfl
        have ck := hcr k hlt
        rw [hpk] at ck
        have hfp := hp f (List.mem_of_getElem? hf)
        have hps : (str f.p).size ≤ 1000000 := by rw [← bs_len, bs_str]; exact hfp
        have hg := sorted_at hs hf
        have hG : Hid ((Sp.get L (bs (str f.p))).getD noF = f) := Lib.hid (by rw [bs_str, hg]; rfl)
        have hpm : (str f.p).size ≤ maxLen := by unfold maxLen; omega
        have ik : (k : Int) < L.length := by omega
        have c1 := hSr.c1
        have hM := hSr.map
        have HF2 := Lib.hid hf
        have HC := Lib.hid hcr
        clear hf hcr hpk hg hSr
        obtain ⟨fp, ft, fc, fd⟩ := f
        simp only at *
        have hfd := fun (d : Value) (wx : World) => field_dir (.string (str fp)) (.string (str ft)) (.int .i64 fc) d wx
        cases fd with
        | true =>
          go_wp2_with (at_lookup; refine wpList_get _ rfl _ _ rfl rfl rfl hM hpm hG ?_)
          go_roundw
          case rel => exact ⟨k + 1, by go_num, by omega, HH.out, hBr, HF.out.step fun f hf hd => by rw [HF2.out] at hf; cases hf; cases hd⟩
          case measure => simp [intOf]; omega
        | false =>
          obtain ⟨q, hq⟩ : ∃ q, q = str fp ++ ⟨#[47]⟩ := ⟨_, rfl⟩
          have hqb : bs q = fp ++ [47] := by rw [hq, bs_app, bs_str]; rfl
          have hqs : (str fp).size + 1 ≤ 1000001 := by omega
          have hch := child_lb hs fp
          have hll := lb_le L (fp ++ [47])
          obtain ⟨m, hm⟩ : ∃ m, lb L (fp ++ [47]) = m := ⟨_, rfl⟩
          have hsr := fun wx hcx => Search_any wx (b := g) (n := L.length) (c := cp) (q := q) hs rfl hl hcx
          rw [hqb, hm] at hsr
          rw [hm] at hch hll
          have HSR := Lib.hid hsr
          rw [hq] at HSR
          have hml : Hid (lb L (fp ++ [47]) = m) := Lib.hid hm
          clear hsr hm
          by_cases hmn : m < L.length
          · obtain ⟨x, hx⟩ : ∃ x, L[m]? = some x := ⟨_, List.getElem?_eq_getElem hmn⟩
            have hxk : (L.map fun f => str f.p)[m]?.getD ByteArray.empty = str x.p := by rw [List.getElem?_map, hx]; rfl
            have cm := HC.out m hmn
            rw [hxk] at cm
            rw [hx] at hch
            simp only at hch
            have hxp := hp x (List.mem_of_getElem? hx)
            have im : (m : Int) < L.length := by omega
            obtain ⟨r, hr⟩ : ∃ r, (fp ++ [47]).isPrefixOf x.p = r := ⟨_, rfl⟩
            have hR : Hid ((bs (str fp ++ ⟨#[47]⟩)).isPrefixOf (bs (str x.p)) = r) := Lib.hid (by rw [← hq, hqb, bs_str]; exact hr)
            rw [hr] at hch
            have HCH := Lib.hid hch
            clear hch hr hx hxk hqb hq
            cases r with
            | true =>
              have HE := Lib.hid (blocked_at HF2.out rfl HCH.out)
              go_wp2_with (first
                | (at_lookup; refine wpList_get _ rfl _ _ rfl rfl rfl hM hpm hG ?_)
                | (go_at_call 36; go_must (refine (HSR.out _ HC.out).mono ?_); rintro e w4 ⟨fo, rfl, nq, rfl⟩)
                | (go_at_call 37; go_must (refine (prefix_is _ _ _ true hR).mono ?_); rintro e w5 ⟨rfl, rfl⟩))
              go_ret
              exact ⟨by rw [HE.out]; rfl, below_drewN hBr nq⟩
            | false =>
              go_wp2_with (first
                | (at_lookup; refine wpList_get _ rfl _ _ rfl rfl rfl hM hpm hG ?_)
                | (go_at_call 36; go_must (refine (HSR.out _ HC.out).mono ?_); rintro e w4 ⟨fo, rfl, nq, rfl⟩)
                | (go_at_call 37; go_must (refine (prefix_is _ _ _ false hR).mono ?_); rintro e w5 ⟨rfl, rfl⟩))
              go_roundw
              case rel => exact ⟨k + 1, by go_num, by omega, HH.out, below_drewN hBr nq, HF.out.step fun f hf hd => by rw [HF2.out] at hf; cases hf; exact HCH.out⟩
              case measure => simp [intOf]; omega
          · have im : ¬ (m : Int) < L.length := by omega
            have hn : L[m]? = none := List.getElem?_eq_none (by omega)
            rw [hn] at hch
            have HCH := Lib.hid hch
            clear hch hn hqb hq
            go_wp2_with (first
              | (at_lookup; refine wpList_get _ rfl _ _ rfl rfl rfl hM hpm hG ?_)
              | (go_at_call 36; go_must (refine (HSR.out _ HC.out).mono ?_); rintro e w4 ⟨fo, rfl, nq, rfl⟩))
            go_roundw
            case rel => exact ⟨k + 1, by go_num, by omega, HH.out, below_drewN hBr nq, HF.out.step fun f hf hd => by rw [HF2.out] at hf; cases hf; exact HCH.out⟩
            case measure => simp [intOf]; omega
      · obtain rfl : k = L.length := by omega
        have HE := Lib.hid HF.out.all
        go_wp2
        go_ret
        exact ⟨by rw [HE.out]; rfl, hBr⟩
end Go.Proofs.YtgednccpjegbmaaGreatDoor.Sw
namespace Go.Proofs.YtgednccpjegbmaaGreatDoor.Sw
open Go.RowKit Go.Proofs.YtgednccpjegbmaaGreatDoor Go.Maps
set_option maxRecDepth 100000

theorem frozen_two {w : World} {b : Nat} {x y : Value} {T : TypeId} (h : w.heap[b]? = some (.cells #[x, y] T (0, 0))) : w.frozen? ⟨b, 0, none⟩ = false := by simp [World.frozen?, h]
theorem set_two {w : World} {b : Nat} {x y : Value} {T : TypeId} (h : w.heap[b]? = some (.cells #[x, y] T (0, 0))) (v : Value) : (w.setCell ⟨b, 0, none⟩ v).heap[b]? = some (.cells #[v, y] T (0, 0)) := by
  simp [World.setCell, Array.getElem?_modify, h]

/-- What is wrong with a file by itself. -/
def badA (f : F) : Int :=
  if isPath f.p = false then 1 else if f.p = [46] then 1 else if f.d = true ∧ f.t ≠ [] then 1 else
  if f.c < 0 then 5 else if 4611686018427387904 ≤ f.c then 5 else if 1048576 < f.t.length then 12 else 0
def addA (s : St) (f : F) : St × Int :=
  if badA f ≠ 0 then (s, badA f) else if (Sp.get s.L f.p).isSome then (s, 1) else (⟨Sp.ins s.L f, max s.c f.c⟩, 0)

theorem text_empty {t : List UInt8} (h : ((str t).toList.isEmpty) = true) : t = [] := by have := bs_empty h; rwa [bs_str] at this
theorem file_later {w w1 : World} {p t : List UInt8} {c : Int} {d : Bool} (hB : Below (w.alloc (.cells #[.string (str p), .string (str t), .int .i64 c, .bool d] 31)).heap.size (w.alloc (.cells #[.string (str p), .string (str t), .int .i64 c, .bool d] 31)) w1) :
    w1.cell? ⟨w.heap.size, 0, none⟩ = some (.string (str p)) ∧ w1.cell? ⟨w.heap.size, 1, none⟩ = some (.string (str t)) ∧ w1.cell? ⟨w.heap.size, 2, none⟩ = some (.int .i64 c) ∧ w1.cell? ⟨w.heap.size, 3, none⟩ = some (.bool d) := by
  obtain ⟨d0, d1, d2, d3⟩ := file_new w p t c d
  have e := fun i => hB.cell (p := ⟨w.heap.size, i, none⟩) (by simp)
  exact ⟨(e 0).trans d0, (e 1).trans d1, (e 2).trans d2, (e 3).trans d3⟩

set_option maxHeartbeats 2000000 in
theorem add_bad (w : World) (f : F) (n : Int) (hp : f.p.length ≤ 1000000) (ht : f.t.length ≤ 1000000000) (hn : Hid (badA f = n)) (h0 : n ≠ 0) (sb : Nat) :
    Calls Tryz.prog 15 #[.pointer (some ⟨sb, 0, none⟩), .agg #[.string (str f.p), .string (str f.t), .int .i64 f.c, .bool f.d]] w (IntPost w n) := by
  have hps : (str f.p).size ≤ 1000000 := by rw [← bs_len, bs_str]; exact hp
  cases hc : isPath f.p with
  | false =>
    have hC : Hid (isPath (bs (str f.p)) = false) := Lib.hid (by rw [bs_str]; exact hc)
    have en : n = 1 := by rw [← hn.out, badA, if_pos hc]
    subst en
    clear hc hn
    go_enter Tryz.func15, Tryz.ntmps15
    go_wp2_with (go_at_call 18; go_must (refine (clean_is _ _ false hps hC).mono ?_); rintro e w1 ⟨rfl, B1⟩)
    go_ret
    exact ⟨rfl, ((Below.refl _ w).alloc (Nat.le_refl _) _).trans (B1.mono (by simp))⟩
  | true =>
    have hC : Hid (isPath (bs (str f.p)) = true) := Lib.hid (by rw [bs_str]; exact hc)
    have e1 : badA f = if f.p = [46] then 1 else if f.d = true ∧ f.t ≠ [] then 1 else
      if f.c < 0 then 5 else if 4611686018427387904 ≤ f.c then 5 else if 1048576 < f.t.length then 12 else 0 := by rw [badA, if_neg (by simp [hc])]
    rw [hn.out] at e1
    clear hc hn
    obtain ⟨fp, ft, fc, fd⟩ := f
    simp only at e1 hC hps hp ht
    have hts : (str ft).size = ft.length := by rw [← bs_len, bs_str]
    by_cases h46 : ((str fp).toList == [46]) = true
    · have en : n = 1 := by rw [e1, if_pos (by have := bs_is h46; rwa [bs_str] at this)]
      subst en
      clear e1
      go_enter Tryz.func15, Tryz.ntmps15
      go_wp2_with (go_at_call 18; go_must (refine (clean_is _ _ true hps hC).mono ?_); rintro e w1 ⟨rfl, B1⟩; obtain ⟨d0, d1, d2, d3⟩ := file_later B1)
      go_ret
      exact ⟨rfl, ((Below.refl _ w).alloc (Nat.le_refl _) _).trans (B1.mono (by simp))⟩
    · have h46' : ((str fp).toList == [46]) = false := by simpa using h46
      rw [if_neg (by have := bs_not h46'; rwa [bs_str] at this)] at e1
      clear h46
      by_cases hdt : fd = true ∧ ft ≠ []
      · rw [if_pos hdt] at e1
        obtain ⟨rfl, hne⟩ := hdt
        subst e1
        have hE : (str ft).toList.isEmpty = false := by rw [Lib.toList_data]; cases ft with
          | nil => exact absurd rfl hne
          | cons a r => rfl
        have hE2 : ((str ft).toList == []) = false := by rw [Lib.toList_data, beq_eq_false_iff_ne]; exact hne
        clear hne hts
        go_enter Tryz.func15, Tryz.ntmps15
        go_wp2_with (go_at_call 18; go_must (refine (clean_is _ _ true hps hC).mono ?_); rintro e w1 ⟨rfl, B1⟩; obtain ⟨d0, d1, d2, d3⟩ := file_later B1)
        go_ret
        exact ⟨rfl, ((Below.refl _ w).alloc (Nat.le_refl _) _).trans (B1.mono (by simp))⟩
      · rw [if_neg hdt] at e1
        have hE : fd = true → (str ft).toList.isEmpty = true := fun h => by
          rw [Lib.toList_data]; cases ft with
          | nil => rfl
          | cons a r => exact absurd ⟨h, by simp⟩ hdt
        by_cases hc0 : fc < 0
        · rw [if_pos hc0] at e1
          subst e1
          cases fd with
          | true =>
            have hE := hE rfl
            clear hdt hts
            go_enter Tryz.func15, Tryz.ntmps15
            go_wp2_with (go_at_call 18; go_must (refine (clean_is _ _ true hps hC).mono ?_); rintro e w1 ⟨rfl, B1⟩; obtain ⟨d0, d1, d2, d3⟩ := file_later B1)
            go_ret
            exact ⟨rfl, ((Below.refl _ w).alloc (Nat.le_refl _) _).trans (B1.mono (by simp))⟩
          | false =>
            clear hdt hE hts
            go_enter Tryz.func15, Tryz.ntmps15
            go_wp2_with (go_at_call 18; go_must (refine (clean_is _ _ true hps hC).mono ?_); rintro e w1 ⟨rfl, B1⟩; obtain ⟨d0, d1, d2, d3⟩ := file_later B1)
            go_ret
            exact ⟨rfl, ((Below.refl _ w).alloc (Nat.le_refl _) _).trans (B1.mono (by simp))⟩
        · rw [if_neg hc0] at e1
          by_cases hc1 : 4611686018427387904 ≤ fc
          · rw [if_pos hc1] at e1
            subst e1
            cases fd with
            | true =>
              have hE := hE rfl
              clear hdt hts
              go_enter Tryz.func15, Tryz.ntmps15
              go_wp2_with (go_at_call 18; go_must (refine (clean_is _ _ true hps hC).mono ?_); rintro e w1 ⟨rfl, B1⟩; obtain ⟨d0, d1, d2, d3⟩ := file_later B1)
              go_ret
              exact ⟨rfl, ((Below.refl _ w).alloc (Nat.le_refl _) _).trans (B1.mono (by simp))⟩
            | false =>
              clear hdt hE hts
              go_enter Tryz.func15, Tryz.ntmps15
              go_wp2_with (go_at_call 18; go_must (refine (clean_is _ _ true hps hC).mono ?_); rintro e w1 ⟨rfl, B1⟩; obtain ⟨d0, d1, d2, d3⟩ := file_later B1)
              go_ret
              exact ⟨rfl, ((Below.refl _ w).alloc (Nat.le_refl _) _).trans (B1.mono (by simp))⟩
          · rw [if_neg hc1] at e1
            by_cases hl : 1048576 < ft.length
            · rw [if_pos hl] at e1
              subst e1
              have hl2 : (1048576 : Int) < (str ft).size := by omega
              cases fd with
              | true =>
                have hE := hE rfl
                exact absurd (text_empty hE) (fun e => by rw [e] at hl; simp at hl)
              | false =>
                clear hdt hE hts
                go_enter Tryz.func15, Tryz.ntmps15
                go_wp2_with (go_at_call 18; go_must (refine (clean_is _ _ true hps hC).mono ?_); rintro e w1 ⟨rfl, B1⟩; obtain ⟨d0, d1, d2, d3⟩ := file_later B1)
                go_ret
                exact ⟨rfl, ((Below.refl _ w).alloc (Nat.le_refl _) _).trans (B1.mono (by simp))⟩
            · rw [if_neg hl] at e1
              exact absurd e1 h0

theorem badA_ok {f : F} (h : badA f = 0) : isPath f.p = true ∧ f.p ≠ [46] ∧ (f.d = true → f.t = []) ∧ 0 ≤ f.c ∧ f.c < 4611686018427387904 ∧ f.t.length ≤ 1048576 := by
  unfold badA at h
  by_cases h1 : isPath f.p = false
  · rw [if_pos h1] at h; cases h
  rw [if_neg h1] at h
  by_cases h2 : f.p = [46]
  · rw [if_pos h2] at h; cases h
  rw [if_neg h2] at h
  by_cases h3 : f.d = true ∧ f.t ≠ []
  · rw [if_pos h3] at h; cases h
  rw [if_neg h3] at h
  by_cases h4 : f.c < 0
  · rw [if_pos h4] at h; cases h
  rw [if_neg h4] at h
  by_cases h5 : 4611686018427387904 ≤ f.c
  · rw [if_pos h5] at h; cases h
  rw [if_neg h5] at h
  by_cases h6 : 1048576 < f.t.length
  · rw [if_pos h6] at h; cases h
  refine ⟨by simpa using h1, h2, fun hd => ?_, by omega, by omega, by omega⟩
  by_cases ht : f.t = []
  · exact ht
  · exact absurd ⟨hd, ht⟩ h3

set_option maxHeartbeats 4000000 in
theorem add_twice (w : World) {sb bm : Nat} {s : St} (f g : F) (hS : StoreAt w sb bm s.L s.c) (hp : f.p.length ≤ 1000000) (hb : badA f = 0) (hg : Hid (Sp.get s.L f.p = some g)) :
    Calls Tryz.prog 15 #[.pointer (some ⟨sb, 0, none⟩), .agg #[.string (str f.p), .string (str f.t), .int .i64 f.c, .bool f.d]] w (IntPost w 1) := by
  have hps : (str f.p).size ≤ 1000000 := by rw [← bs_len, bs_str]; exact hp
  have hpm : (str f.p).size ≤ maxLen := by unfold maxLen; omega
  obtain ⟨b1, b2, b3, b4, b5, b6⟩ := badA_ok hb
  have hC : Hid (isPath (bs (str f.p)) = true) := Lib.hid (by rw [bs_str]; exact b1)
  have h46' : ((str f.p).toList == [46]) = false := by rw [Lib.toList_data, beq_eq_false_iff_ne]; exact b2
  have hts : ((str f.t).size : Int) ≤ 1048576 := by rw [← bs_len, bs_str]; omega
  have hc0 : ¬ f.c < 0 := by omega
  have hc1 : ¬ 4611686018427387904 ≤ f.c := by omega
  have hE : f.d = true → (str f.t).toList.isEmpty = true := fun h => by rw [b3 h, Lib.toList_data]; rfl
  clear b1 b2 b3 hb
  obtain ⟨fp, ft, fc, fd⟩ := f
  simp only at *
  have hlt := hS.lt
  cases fd
  all_goals
    try have hE := hE rfl
    try clear hE
    go_enter Tryz.func15, Tryz.ntmps15
    go_wp2_with (go_at_call 18; go_must (refine (clean_is _ _ true hps hC).mono ?_); rintro e w1 ⟨rfl, B1⟩; obtain ⟨d0, d1, d2, d3⟩ := file_later B1)
    have hB := ((Below.refl w.heap.size w).alloc (Nat.le_refl _) (.cells #[.string (str fp), .string (str ft), .int .i64 fc, .bool _] 31)).trans (B1.mono (by simp))
    have hS1 := hS.below hB
    have c1 := hS1.c1
    have hr0 := (hS1.map.block (w' := w1.drew) rfl).run_yes hpm hg.out
    have hr1 := fun o : Obj => ((hS1.map.alloc o).block (w' := (w1.alloc o).drew) rfl).run_yes hpm hg.out
    have hlt1 : sb < w1.heap.size := hS1.lt
    have hlt2 : w.heap.size < w1.heap.size := by have := B1.size; simp at this; omega
    clear hS hS1
    go_region
    go_wp2
    go_ret
    exact ⟨rfl, hB.drew.alloc hB.size _⟩

set_option maxHeartbeats 4000000 in
theorem add_fresh (w : World) {sb bm : Nat} {s : St} (f : F) (hS : StoreAt w sb bm s.L s.c) (hp : f.p.length ≤ 1000000) (hb : badA f = 0) (hg : Hid (Sp.get s.L f.p = none)) (hl : s.L.length ≤ 1000000) :
    Calls Tryz.prog 15 #[.pointer (some ⟨sb, 0, none⟩), .agg #[.string (str f.p), .string (str f.t), .int .i64 f.c, .bool f.d]] w (OpPost w sb bm (⟨Sp.ins s.L f, max s.c f.c⟩, 0)) := by
  have hps : (str f.p).size ≤ 1000000 := by rw [← bs_len, bs_str]; exact hp
  have hpm : (str f.p).size ≤ maxLen := by unfold maxLen; omega
  have hpl : f.p.length ≤ maxLen := by unfold maxLen; omega
  have hlm : s.L.length < maxLen := by unfold maxLen; omega
  obtain ⟨b1, b2, b3, b4, b5, b6⟩ := badA_ok hb
  have hC : Hid (isPath (bs (str f.p)) = true) := Lib.hid (by rw [bs_str]; exact b1)
  have h46' : ((str f.p).toList == [46]) = false := by rw [Lib.toList_data, beq_eq_false_iff_ne]; exact b2
  have hts : ((str f.t).size : Int) ≤ 1048576 := by rw [← bs_len, bs_str]; omega
  have hc0 : ¬ f.c < 0 := by omega
  have hc1 : ¬ 4611686018427387904 ≤ f.c := by omega
  have hE : f.d = true → (str f.t).toList.isEmpty = true := fun h => by rw [b3 h, Lib.toList_data]; rfl
  clear b1 b2 b3 hb
  obtain ⟨fp, ft, fc, fd⟩ := f
  simp only at *
  have hlt := hS.lt
  have hbm := hS.map.lt
  cases fd
  all_goals
    try have hE := hE rfl
    try clear hE
    go_enter Tryz.func15, Tryz.ntmps15
    go_wp2_with (go_at_call 18; go_must (refine (clean_is _ _ true hps hC).mono ?_); rintro e w1 ⟨rfl, B1⟩; obtain ⟨d0, d1, d2, d3⟩ := file_later B1)
    have hB := ((Below.refl w.heap.size w).alloc (Nat.le_refl _) (.cells #[.string (str fp), .string (str ft), .int .i64 fc, .bool _] 31)).trans (B1.mono (by simp))
    have hS1 := hS.below hB
    have c1 := hS1.c1
    have hr0 := (hS1.map.block (w' := w1.drew) rfl).run_no hpm hg.out
    have hr1 := fun o : Obj => ((hS1.map.alloc o).block (w' := (w1.alloc o).drew) rfl).run_no hpm hg.out
    have hlt1 : sb < w1.heap.size := hS1.lt
    have hlt2 : w.heap.size < w1.heap.size := by have := B1.size; simp at this; omega
    clear hS
    go_region
    go_wp2
    clear hr0 hr1
    have hB2 : Below w.heap.size w (w1.alloc (.cells #[.string ⟨#[]⟩, .string ⟨#[]⟩, .int .i64 0, .bool false] 31)).drew := (hB.alloc hB.size _).drew
    have hS2 : StoreAt (w1.alloc (.cells #[.string ⟨#[]⟩, .string ⟨#[]⟩, .int .i64 0, .bool false] 31)).drew sb bm s.L s.c := ⟨(hS1.alloc _).cells, (hS1.alloc _).map.block rfl⟩
    have hd : ∀ i, (w1.alloc (.cells #[.string ⟨#[]⟩, .string ⟨#[]⟩, .int .i64 0, .bool false] 31)).drew.cell? ⟨w.heap.size, i, none⟩ = w1.cell? ⟨w.heap.size, i, none⟩ := fun i => ((Below.refl w1.heap.size w1).alloc (Nat.le_refl _) _).drew.cell (p := ⟨w.heap.size, i, none⟩) hlt2
    have d0' := (hd 0).trans d0
    have d1' := (hd 1).trans d1
    have d2' := (hd 2).trans d2
    have d3' := (hd 3).trans d3
    clear hd d0 d1 d2 d3 hS1 c1 hlt1 hlt2
    have hne := hS2.ne
    generalize (w1.alloc (.cells #[.string ⟨#[]⟩, .string ⟨#[]⟩, .int .i64 0, .bool false] 31)).drew = W at *
    have c1 := hS2.c1
    have hwl : w.heap.size < W.heap.size := by have := World.block_lt_of_cell? _ _ d0'; simpa using this
    go_still_tail 7, (by kernel_rfl)
    change wpList _ _ _ _ _ W.drew
    have hM2 : MapAt W.drew bm s.L := hS2.map.block rfl
    have hC2 : W.drew.heap[sb]? = some (.cells #[.int .i64 s.c, .map (some bm)] 63 (0, 0)) := hS2.cells
    have hB3 : Below w.heap.size w W.drew := hB2.drew
    have e2 : W.drew.cell? ⟨w.heap.size, 2, none⟩ = some (.int .i64 fc) := d2'
    have hwl' : w.heap.size < W.drew.heap.size := hwl
    clear d0' d1' d2' d3' hB2 hS2 c1 hwl
    generalize W.drew = W2 at *
    clear hB
    go_wp2_with (at_mapUpdate; refine wpList_put (f := ⟨fp, ft, fc, _⟩) _ rfl _ _ _ rfl rfl rfl rfl hM2 hpl hlm ?_; intro w3 hM3 htn)
    go_frame
    have hC3 : w3.heap[sb]? = some (.cells #[.int .i64 s.c, .map (some bm)] 63 (0, 0)) := (htn.grown.block sb (Array.getElem?_eq_some_iff.1 hC2).1 (by simpa using fun e => hne e.symm)).trans hC2
    have e3 : w3.cell? ⟨w.heap.size, 2, none⟩ = some (.int .i64 fc) := (World.cell?_of_block (w := W2) (htn.grown.block w.heap.size hwl' (by simp; omega))).trans e2
    have hK3 : Kept [sb, bm] w w3 := (Kept.of_below hB3).grown htn.grown (by simp)
    have c0 : w3.cell? ⟨sb, 0, none⟩ = some (.int .i64 s.c) := by simp [World.cell?, hC3]
    clear hM2 hC2 hB3 e2 hwl' htn
    refine wp_region_still_tail 10 (by kernel_rfl) (by kernel_rfl) ?_
    simp only [List.take_succ_cons, List.take_zero, List.drop_succ_cons, List.drop_zero]
    repeat still_step
    have hcall : Calls Tryz.prog 33 #[.pointer (some ⟨sb, 0, none⟩)] ⟨w3.heap, w3.tape, w3.drawn + 1, w3.os, w3.output⟩ (fun e w'' => e = .returned (.int .i64 s.c) ∧ w'' = ⟨w3.heap, w3.tape, w3.drawn + 1, w3.os, w3.output⟩) :=
      (Load_any ⟨w3.heap, w3.tape, w3.drawn + 1, w3.os, w3.output⟩ sb 0 s.c c0).mono fun e w' ⟨a, b⟩ => ⟨a, b.symm⟩
    still_call hcall
    clear hcall
    repeat still_step
    refine wpStill_nil ?_
    change wpList _ _ _ _ _ w3.drew
    have c0d : w3.drew.cell? ⟨sb, 0, none⟩ = some (.int .i64 s.c) := c0
    have f0d : w3.drew.frozen? ⟨sb, 0, none⟩ = false := frozen_two (w := w3.drew) hC3
    have hC4 : ∀ y, (w3.drew.setCell ⟨sb, 0, none⟩ (.int .i64 y)).heap[sb]? = some (.cells #[.int .i64 y, .map (some bm)] 63 (0, 0)) := fun y => set_two (w := w3.drew) hC3 _
    have hM4 : ∀ y, MapAt (w3.drew.setCell ⟨sb, 0, none⟩ (.int .i64 y)) bm (Sp.ins s.L ⟨fp, ft, fc, _⟩) := fun y => (hM3.block (w' := w3.drew) rfl).setCell hne _
    have hK4 : ∀ y, Kept [sb, bm] w (w3.drew.setCell ⟨sb, 0, none⟩ (.int .i64 y)) := fun y => (hK3.drewN 1).setCell (.inl (by simp)) _
    clear c0 e3 hC3 hM3 hK3
    generalize w3.drew = W4 at *
    go_wp2_with (go_at_call 32; go_must (refine (Stor_any _ sb 0 s.c _ c0d f0d).mono ?_); rintro e w4 ⟨rfl, rfl⟩)
    go_ret
    exact ⟨rfl, ⟨hC4 _, hM4 _⟩, hK4 _⟩

theorem add_any (w : World) {sb bm : Nat} {s : St} (f : F) (hS : StoreAt w sb bm s.L s.c) (hp : f.p.length ≤ 1000000) (ht : f.t.length ≤ 1000000000) (hl : s.L.length ≤ 1000000) :
    Calls Tryz.prog 15 #[.pointer (some ⟨sb, 0, none⟩), .agg #[.string (str f.p), .string (str f.t), .int .i64 f.c, .bool f.d]] w (OpPost w sb bm (addA s f)) := by
  by_cases hb : badA f = 0
  · cases hg : Sp.get s.L f.p with
    | none =>
      have e : addA s f = (⟨Sp.ins s.L f, max s.c f.c⟩, 0) := by unfold addA; rw [if_neg (by simp [hb]), hg]; rfl
      rw [e]
      exact add_fresh w f hS hp hb (Lib.hid hg) hl
    | some g =>
      have e : addA s f = (s, 1) := by unfold addA; rw [if_neg (by simp [hb]), hg]; rfl
      rw [e]
      exact (add_twice w f g hS hp hb (Lib.hid hg)).mono fun _ _ ⟨a, b⟩ => ⟨a, hS.below b, .of_below b⟩
  · have e : addA s f = (s, badA f) := by unfold addA; rw [if_pos hb]
    rw [e]
    exact (add_bad w f _ hp ht (Lib.hid rfl) hb sb).mono fun _ _ ⟨a, b⟩ => ⟨a, hS.below b, .of_below b⟩
end Go.Proofs.YtgednccpjegbmaaGreatDoor.Sw
namespace Go.Proofs.YtgednccpjegbmaaGreatDoor.Sw
open Go.RowKit Go.Proofs.YtgednccpjegbmaaGreatDoor Go.Maps
set_option maxRecDepth 100000

def dirF (d : List UInt8) : F := ⟨d, [], 0, true⟩
def surrN : Nat → List F → List UInt8 → List F
  | 0, L, _ => L
  | n + 1, L, d => if 4096 < L.length then L else match getR L d with
    | some _ => L
    | none => surrN n (Sp.ins L (dirF d)) (dirL d)
def mu (d : List UInt8) : Nat := if d = [46] then 0 else d.length + 1
def surrA (L : List F) (d : List UInt8) : List F := surrN (mu d + 1) L d

theorem last_le (d : List UInt8) : Lib.Pa.lastIndexByte d 47 < d.length := by
  have h := Lib.Pa.lastIndexByte_bounds d 47
  exact h.2
theorem mu_dir {d : List UInt8} (h : d ≠ [46]) : mu (dirL d) < mu d := by
  unfold mu
  rw [if_neg h]
  unfold dirL
  split
  · rename_i h0
    have h1 := last_le d
    split
    · omega
    · rw [List.length_take]; omega
  · rw [if_pos rfl]; omega
theorem surrN_fuel : ∀ (n m : Nat) (L : List F) (d : List UInt8), mu d + 1 ≤ n → mu d + 1 ≤ m → surrN n L d = surrN m L d
  | 0, _, _, _, h, _ => by omega
  | _, 0, _, _, _, h => by omega
  | n + 1, m + 1, L, d, hn, hm => by
    unfold surrN
    split
    · rfl
    · cases hg : getR L d with
      | some f => rfl
      | none =>
        have hd : d ≠ [46] := fun e => by subst e; cases hg
        have := mu_dir hd
        exact surrN_fuel n m _ _ (by omega) (by omega)
theorem surr_full {L : List F} {d : List UInt8} (h : 4096 < L.length) : surrA L d = L := by unfold surrA surrN; rw [if_pos h]
theorem surr_there {L : List F} {d : List UInt8} {f : F} (h : getR L d = some f) : surrA L d = L := by
  unfold surrA surrN
  split
  · rfl
  · rw [h]
theorem surr_step {L : List F} {d : List UInt8} (h : ¬ 4096 < L.length) (hg : getR L d = none) : surrA L d = surrA (Sp.ins L (dirF d)) (dirL d) := by
  have hd : d ≠ [46] := fun e => by subst e; cases hg
  have h1 : surrA L d = surrN (mu d) (Sp.ins L (dirF d)) (dirL d) := by
    show surrN (mu d + 1) L d = _
    rw [surrN, if_neg h, hg]
  rw [h1]
  exact surrN_fuel _ _ _ _ (mu_dir hd) (Nat.le_refl _)

def muV : Value → Nat
  | .string s => mu (bs s)
  | _ => 0

def SuRel (w : World) (sb bm : Nat) (L : List F) (c : Int) (d0 : List UInt8) (v : Value) (wr : World) : Prop :=
  ∃ (d : ByteArray) (M : List F), v = .string d ∧ d.size ≤ 1000000 ∧ M.length ≤ 1000000 ∧ StoreAt wr sb bm M c ∧ Kept [sb, bm] w wr ∧ surrA M (bs d) = surrA L d0

set_option maxHeartbeats 2000000 in
theorem surround_any (w : World) {sb bm : Nat} {L : List F} {c : Int} (p : ByteArray) (hS : StoreAt w sb bm L c) (hp : p.size ≤ 999999) (hl : L.length ≤ 1000000) :
    Calls Tryz.prog 17 #[.pointer (some ⟨sb, 0, none⟩), .string p] w fun e w' => e = .returned (.tuple #[]) ∧ StoreAt w' sb bm (surrA L (dirL (bs p))) c ∧ Kept [sb, bm] w w' := by
  have hsz : ∀ (q : ByteArray), q.size ≤ 1000000 → ∃ d : ByteArray, dirL (bs q) = bs d ∧ d.size ≤ 1000000 := fun q hq => by
    refine ⟨str (dirL (bs q)), rfl, ?_⟩
    rw [← bs_len, bs_str]
    unfold dirL
    split
    · rw [List.length_take, bs_len]; omega
    · simp
  obtain ⟨d, hd, hds⟩ := hsz p (by omega)
  have HD := Lib.hid hd
  rw [hd]
  clear hd
  go_enter Tryz.func17, Tryz.ntmps17
  go_wp2_with (go_at_call 38; go_must (refine (dir_is _ p d (by omega) HD).mono ?_); rintro e w2 ⟨rfl, rfl⟩)
  go_loopw [4] (fun v wr => SuRel w sb bm L c (bs d) v wr) (fun v _ => muV v)
  case atStart => exact ⟨d, L, rfl, hds, hl, hS, .refl _ _, rfl⟩
  case round =>
    obtain ⟨d, M, rfl, hds, hMl, hSr, hK, hrun⟩ := hrel
    have c1 := hSr.c1
    have hM := hSr.map
    have hlt := hSr.lt
    have HR := Lib.hid hrun
    clear hrun
    by_cases h4 : 4096 < M.length
    · have i4 : ¬ (M.length : Int) ≤ 4096 := by omega
      have HE : Hid (surrA L (bs _) = M) := Lib.hid (HR.out.symm.trans (surr_full h4))
      go_wp2_with (at_len; refine wpList_size _ rfl _ rfl rfl hM ?_)
      go_end0
      exact ⟨rfl, by rw [HE.out]; exact hSr, hK⟩
    · have i4 : (M.length : Int) ≤ 4096 := by omega
      have hdm : d.size ≤ maxLen := by unfold maxLen; omega
      cases hg : getR M (bs d) with
      | some f =>
        have hG := Lib.hid hg
        have HE : Hid (surrA L (bs _) = M) := Lib.hid (HR.out.symm.trans (surr_there hg))
        clear hg
        go_wp2_with (first
          | (at_len; refine wpList_size _ rfl _ rfl rfl hM ?_)
          | (go_at_call 39; go_must (refine (Get_yes _ d hSr hdm hG).mono ?_); rintro e w1 ⟨rfl, B1⟩; unfold fV))
        refine bodyPost_ret (results_none rfl _ _ _) rfl ?_
        exact ⟨rfl, by rw [HE.out]; exact (hSr.below B1).alloc _, (hK.below B1).alloc _⟩
      | none =>
        have hG := Lib.hid hg
        have HE := Lib.hid ((surr_step (by omega) hg).symm.trans HR.out)
        have hdn : bs d ≠ [46] := fun e => by rw [e] at hg; cases hg
        have hmu := mu_dir hdn
        obtain ⟨d2, hd2, hds2⟩ := hsz d hds
        rw [hd2] at HE hmu
        have HD2 := Lib.hid hd2
        have HN := Lib.hid hdn
        have hbl : (bs d).length ≤ maxLen := by rw [bs_len]; exact hdm
        have hml : M.length < maxLen := by unfold maxLen; omega
        have hne := hSr.ne
        clear hg hd2 hdn
        go_wp2_with (first
          | (at_len; refine wpList_size _ rfl _ rfl rfl hM ?_)
          | (go_at_call 39; go_must (refine (Get_no _ d hSr hdm hG).mono ?_); rintro e w1 ⟨rfl, B1⟩; unfold fV; have hS1 := hSr.below B1; have c1' := hS1.c1; have hlt1 := hS1.lt)
          | (at_mapUpdate; refine wpList_put (f := dirF (bs d)) _ rfl _ _ _ rfl rfl rfl rfl (hS1.map.alloc _) hbl hml ?_; intro w3 hM3 htn)
          | (go_at_call 38; go_must (refine (dir_is _ d d2 hds HD2).mono ?_); rintro e w4 ⟨rfl, rfl⟩))
        go_roundw
        case rel =>
          have hS3 : StoreAt w3 sb bm (Sp.ins M (dirF (bs d))) c := ⟨(htn.grown.block sb (hS1.alloc _).lt (by simpa using fun e => hne e.symm)).trans (hS1.alloc _).cells, hM3⟩
          refine ⟨d2, Sp.ins M (dirF (bs d)), rfl, hds2, ?_, hS3, ((hK.below B1).alloc _).grown htn.grown (by simp), HE.out⟩
          rw [Sp.len_ins]; split <;> omega
        case measure => exact hmu
end Go.Proofs.YtgednccpjegbmaaGreatDoor.Sw
namespace Go.Proofs.YtgednccpjegbmaaGreatDoor.Sw
open Go.RowKit Go.Proofs.YtgednccpjegbmaaGreatDoor Go.Maps
set_option maxRecDepth 100000

def addAll (s : St) : List F → St × Int
  | [] => (s, 0)
  | f :: r => if (addA s f).2 ≠ 0 then addA s f else addAll (addA s f).1 r
def surrAll (L : List F) : List F → List F
  | [] => L
  | f :: r => surrAll (surrA L (dirL f.p)) r
theorem addAll_cons (s : St) (f : F) (r : List F) : addAll s (f :: r) = if (addA s f).2 ≠ 0 then addA s f else addAll (addA s f).1 r := rfl
theorem surrAll_cons (L : List F) (f : F) (r : List F) : surrAll L (f :: r) = surrAll (surrA L (dirL f.p)) r := rfl
/-- A new store, or the error. -/
def newA (l : List F) : St × Int :=
  if (addAll ⟨[], 0⟩ l).2 ≠ 0 then (⟨[], 0⟩, (addAll ⟨[], 0⟩ l).2) else
  if blockedA (addAll ⟨[], 0⟩ l).1.L = true then (⟨[], 0⟩, 4) else
  if 4096 < (surrAll (addAll ⟨[], 0⟩ l).1.L l).length then (⟨[], 0⟩, 12) else (⟨surrAll (addAll ⟨[], 0⟩ l).1.L l, (addAll ⟨[], 0⟩ l).1.c⟩, 0)

def NewPost (w : World) (r : St × Int) (e : Ending) (w' : World) : Prop :=
  if r.2 = 0 then ∃ sb bm, e = .returned (.tuple #[.pointer (some ⟨sb, 0, none⟩), .int .i64 0]) ∧ w.heap.size ≤ sb ∧ w.heap.size ≤ bm ∧ StoreAt w' sb bm r.1.L r.1.c ∧ Below w.heap.size w w'
  else e = .returned (.tuple #[.pointer none, .int .i64 r.2]) ∧ Below w.heap.size w w'

theorem surrN_len : ∀ (n : Nat) (L : List F) (d : List UInt8), (surrN n L d).length ≤ max L.length 4097
  | 0, L, d => by show L.length ≤ _; omega
  | n + 1, L, d => by
    unfold surrN
    split
    · omega
    · split
      · omega
      · have := surrN_len n (Sp.ins L (dirF d)) (dirL d)
        have h2 := Sp.len_ins L (dirF d)
        split at h2 <;> omega

theorem store_new (w : World) : StoreAt ((w.alloc (.map #[] 0)).alloc (.cells #[.int .i64 0, .map (some w.heap.size)] 63)) (w.heap.size + 1) w.heap.size [] 0 := by
  have h1 := World.ownsMap_made w Tryz.prog 9 fElem
  have h2 : MapAt (w.alloc (.map #[] 0)) w.heap.size [] := ⟨h1, List.Pairwise.nil⟩
  have h3 := World.alloc_heap_new (w.alloc (.map #[] 0)) (.cells #[.int .i64 0, .map (some w.heap.size)] 63)
  simp only [World.size_alloc] at h3
  exact ⟨h3, h2.alloc _⟩

theorem addAll_mem : ∀ (l : List F) (s : St), Sp.Sorted s.L → ∀ f ∈ (addAll s l).1.L, f ∈ s.L ∨ f ∈ l
  | [], s, _, f, h => .inl h
  | g :: r, s, hs, f, h => by
    have h1 : ∀ x ∈ (addA s g).1.L, x ∈ s.L ∨ x = g := fun x hx => by
      unfold addA at hx
      split at hx
      · exact .inl hx
      · split at hx
        · exact .inl hx
        · rcases (Sp.mem_ins hs x).1 hx with e | ⟨e, _⟩
          · exact .inr e
          · exact .inl e
    have h2 : Sp.Sorted (addA s g).1.L := by
      unfold addA
      split
      · exact hs
      · split
        · exact hs
        · exact Sp.sorted_ins hs
    rw [addAll_cons] at h
    split at h
    · rcases h1 f h with e | e
      · exact .inl e
      · exact .inr (by simp [e])
    · rcases addAll_mem r _ h2 f h with e | e
      · rcases h1 f e with e | e
        · exact .inl e
        · exact .inr (by simp [e])
      · exact .inr (by simp [e])

theorem addA_len (s : St) (f : F) : (addA s f).1.L.length ≤ s.L.length + 1 := by
  unfold addA
  split
  · simp
  · split
    · simp
    · show (Sp.ins s.L f).length ≤ _
      rw [Sp.len_ins]; split <;> omega

/-- The files that were passed, and how they lie. -/
structure Given (w : World) (b o c : Nat) (l : List F) : Prop where
  lt : b < w.heap.size
  cell : ∀ j f, l[j]? = some f → w.cell? ⟨b, o + j * 4, none⟩ = some (.string (str f.p)) ∧ w.cell? ⟨b, o + j * 4 + 1, none⟩ = some (.string (str f.t)) ∧ w.cell? ⟨b, o + j * 4 + 2, none⟩ = some (.int .i64 f.c) ∧ w.cell? ⟨b, o + j * 4 + 3, none⟩ = some (.bool f.d)
  small : ∀ f ∈ l, f.p.length ≤ 100000 ∧ f.t.length ≤ 1000000000
  len : l.length ≤ 10000
theorem Given.later {w w' : World} {b o c : Nat} {l : List F} (h : Given w b o c l) (hB : Below w.heap.size w w') : Given w' b o c l :=
  ⟨Nat.lt_of_lt_of_le h.lt hB.size, fun j f hf => by
    have e := fun i => hB.cell (p := ⟨b, i, none⟩) h.lt
    obtain ⟨a0, a1, a2, a3⟩ := h.cell j f hf
    exact ⟨(e _).trans a0, (e _).trans a1, (e _).trans a2, (e _).trans a3⟩, h.small, h.len⟩

def NwRel (w : World) (l : List F) (v : Value) (wr : World) : Prop :=
  ∃ (k : Nat) (st : St), v = .int .i64 k ∧ k ≤ l.length ∧ addAll ⟨[], 0⟩ l = addAll st (l.drop k) ∧ StoreAt wr (w.heap.size + 1) w.heap.size st.L st.c ∧ Below w.heap.size w wr ∧ st.L.length ≤ k

def SwRel (w : World) (l L : List F) (c : Int) (v : Value) (wr : World) : Prop :=
  ∃ (k : Nat) (M : List F), v = .int .i64 k ∧ k ≤ l.length ∧ surrAll L l = surrAll M (l.drop k) ∧ StoreAt wr (w.heap.size + 1) w.heap.size M c ∧ Below w.heap.size w wr ∧ M.length ≤ 20000

theorem drop_at {l : List F} {k : Nat} {f : F} (h : l[k]? = some f) : l.drop k = f :: l.drop (k + 1) := by
  obtain ⟨hk, e⟩ := List.getElem?_eq_some_iff.1 h
  rw [List.drop_eq_getElem_cons hk, e]

set_option maxHeartbeats 4000000 in
theorem New_some (w : World) (b o c : Nat) (l : List F) (hG : Given w b o c l) :
    Calls Tryz.prog 7 #[.slice (some ⟨b, o, none⟩) l.length c] w (NewPost w (newA l)) := by
  have hmm := @run_makeMap Tryz.prog
  have hS := store_new w
  have hB : Below w.heap.size w ((w.alloc (.map #[] 0)).alloc (.cells #[.int .i64 0, .map (some w.heap.size)] 63)) := ((Below.refl _ w).alloc (Nat.le_refl _) _).alloc (by simp) _
  have HS := Lib.hid hS
  have hl := hG.len
  clear hS
  go_enter Tryz.func7, Tryz.ntmps7
  go_wp2
  clear hmm
  generalize ((w.alloc (.map #[] 0)).alloc (.cells #[.int .i64 0, .map (some w.heap.size)] 63)) = W at *
  go_loopw [15] (fun v wr => NwRel w l v wr) (fun v _ => l.length - (intOf v).toNat)
  case atStart => exact ⟨0, ⟨[], 0⟩, rfl, Nat.zero_le _, rfl, HS.out, hB, Nat.le_refl _⟩
  case round =>
    obtain ⟨k, st, rfl, hk, hrun, hSt, hBr, hlen⟩ := hrel
    clear HS hB
    by_cases hlt : k < l.length
    · obtain ⟨f, hf⟩ : ∃ f, l[k]? = some f := ⟨_, List.getElem?_eq_getElem hlt⟩
      obtain ⟨a0, a1, a2, a3⟩ := (hG.later hBr).cell k f hf
      obtain ⟨s1, s2⟩ := hG.small f (List.mem_of_getElem? hf)
      rw [drop_at hf, addAll_cons] at hrun
      have hcon := fun oo => add_any (wr.alloc oo) f (hSt.alloc oo) (by omega) s2 (by omega)
      have hal := addA_len st f
      obtain ⟨⟨t, n⟩, hr⟩ : ∃ r, addA st f = r := ⟨_, rfl⟩
      rw [hr] at hrun hcon hal
      simp only at hrun hal
      have HR := Lib.hid hrun
      have HC := Lib.hid hcon
      have ik : (k : Int) < l.length := by omega
      have hbl : b < wr.heap.size := (hG.later hBr).lt
      clear hrun hcon hr hf
      by_cases hn : n = 0
      · subst hn
        go_wp2_with (go_at_call 15; go_must (refine (HC.out _).mono ?_); rintro e w2 ⟨rfl, hS2, hK2⟩)
        go_roundw
        case rel => exact ⟨k + 1, t, by go_num, by omega, HR.out.trans (if_neg (by simp)), hS2, (hBr.alloc hBr.size _).trans (hK2.to_below (by have := hBr.size; simp; omega) (by simp)), by omega⟩
        case measure => simp [intOf]; omega
      · have hn' : (n == 0) = false := by simpa using hn
        have HE : Hid (newA l = (⟨[], 0⟩, n)) := Lib.hid (by
          have h1 : addAll ⟨[], 0⟩ l = (t, n) := HR.out.trans (if_pos hn)
          unfold newA; rw [h1, if_pos hn])
        go_wp2_with (go_at_call 15; go_must (refine (HC.out _).mono ?_); rintro e w2 ⟨rfl, hS2, hK2⟩)
        go_ret2
        rw [HE.out]
        unfold NewPost
        rw [if_neg hn]
        exact ⟨rfl, (hBr.alloc hBr.size _).trans (hK2.to_below (by have := hBr.size; simp; omega) (by simp))⟩
    · obtain rfl : k = l.length := by omega
      rw [List.drop_length] at hrun
      have h1 : addAll ⟨[], 0⟩ l = (st, 0) := hrun
      have hmem := fun f hf => addAll_mem l ⟨[], 0⟩ List.Pairwise.nil f (by rw [h1]; exact hf)
      have hpl : ∀ f ∈ st.L, f.p.length ≤ 1000000 := fun f hf => by
        rcases hmem f hf with h | h
        · cases h
        · have := (hG.small f h).1; omega
      clear hrun hmem
      have H1 := Lib.hid h1
      clear h1
      go_wp2_with fail
      refine (blocked_any wr hSt (by omega) hpl).mono ?_
      rintro e w1 ⟨rfl, B1⟩
      have hS1 := hSt.below B1
      have hB1 := hBr.trans (B1.mono hBr.size)
      cases hbl : blockedA st.L with
      | true =>
        have HE : Hid (newA l = (⟨[], 0⟩, 4)) := Lib.hid (by unfold newA; rw [H1.out, if_neg (by simp), if_pos hbl])
        clear hbl
        go_wp2
        go_ret2
        rw [HE.out]
        exact ⟨rfl, hB1⟩
      | false =>
        have HBl := Lib.hid hbl
        clear hbl
        go_wp2
        have hsl : st.L.length ≤ 20000 := by omega
        have hc9 := Lib.hid (rfl : st.c = st.c)
        go_loopw [30] (fun v wr => SwRel w l st.L st.c v wr) (fun v _ => l.length - (intOf v).toNat)
        case atStart => exact ⟨0, st.L, rfl, Nat.zero_le _, rfl, hS1, hB1, hsl⟩
        case round =>
          obtain ⟨k, M, rfl, hk, hrun, hSt, hBr, hlen⟩ := hrel
          clear hS1 hB1 B1
          by_cases hlt : k < l.length
          · obtain ⟨f, hf⟩ : ∃ f, l[k]? = some f := ⟨_, List.getElem?_eq_getElem hlt⟩
            obtain ⟨a0, a1, a2, a3⟩ := (hG.later hBr).cell k f hf
            obtain ⟨s1, s2⟩ := hG.small f (List.mem_of_getElem? hf)
            rw [drop_at hf, surrAll_cons] at hrun
            have hps : (str f.p).size ≤ 999999 := by rw [← bs_len, bs_str]; omega
            have hcon := fun oo => surround_any (wr.alloc oo) (str f.p) (hSt.alloc oo) hps (by omega)
            rw [bs_str] at hcon
            have hsn := surrN_len (mu (dirL f.p) + 1) M (dirL f.p)
            have hsn2 : (surrA M (dirL f.p)).length ≤ 20000 := by unfold surrA; omega
            obtain ⟨M2, hM2⟩ : ∃ M2, surrA M (dirL f.p) = M2 := ⟨_, rfl⟩
            rw [hM2] at hcon hrun hsn2
            have HR := Lib.hid hrun
            have HC := Lib.hid hcon
            have ik : (k : Int) < l.length := by omega
            have hbl : b < wr.heap.size := (hG.later hBr).lt
            clear hrun hcon hf hM2 hsn hk
            go_wp2_with (go_at_call 17; go_must (refine (HC.out _).mono ?_); rintro e w2 ⟨rfl, hS2, hK2⟩)
            go_roundw
            case rel => exact ⟨k + 1, M2, by go_num, by omega, HR.out, hS2, (hBr.alloc hBr.size _).trans (hK2.to_below (by have := hBr.size; simp; omega) (by simp)), hsn2⟩
            case measure => simp [intOf]; omega
          · obtain rfl : k = l.length := by omega
            rw [List.drop_length] at hrun
            have HR : Hid (surrAll st.L l = M) := Lib.hid hrun
            have c1 := hSt.c1
            have hlt2 := hSt.lt
            have hM := hSt.map
            clear hrun
            by_cases h4 : 4096 < M.length
            · have i4 : (4096 : Int) < M.length := by omega
              have HE : Hid (newA l = (⟨[], 0⟩, 12)) := Lib.hid (by unfold newA; rw [H1.out, if_neg (by simp), if_neg (by simp [HBl.out]), if_pos (by rw [HR.out]; exact h4)])
              go_wp2_with (at_len; refine wpList_size _ rfl _ rfl rfl hM ?_)
              go_ret2
              rw [HE.out]
              exact ⟨rfl, hBr⟩
            · have i4 : ¬ (4096 : Int) < M.length := by omega
              have HE : Hid (newA l = (⟨M, st.c⟩, 0)) := Lib.hid (by unfold newA; rw [H1.out, if_neg (by simp), if_neg (by simp [HBl.out]), if_neg (by rw [HR.out]; exact h4), HR.out])
              go_wp2_with (at_len; refine wpList_size _ rfl _ rfl rfl hM ?_)
              go_ret2
              rw [HE.out]
              exact ⟨_, _, rfl, by omega, Nat.le_refl _, hSt, hBr⟩
end Go.Proofs.YtgednccpjegbmaaGreatDoor.Sw
