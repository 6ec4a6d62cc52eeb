/-
  (*Store).blocked: whether a file is where a directory must be.
  (*Store).surround: the directories that a path is in.
  (*Store).All: the files, by rising paths.
  store.New.
-/
import Derived.Shelf.SlIter.Nil
import Derived.Test.YteommneijlelkaaGreatDoorShelf
import Derived.Test.YteommneijlelkaaGreatDoorQSPut
import Derived.Test.YteommneijlelkaaGreatDoorQSAdd
import Derived.Shelf.SlSortCmp.NoneTotal
import Derived.Sort.OwnSorted
namespace Go.Proofs.YteommneijlelkaaGreatDoor.Sw
open Go.RowKit Go.Proofs.YteommneijlelkaaGreatDoor Go.Maps Go.Shelf
set_option maxRecDepth 100000

theorem strKeys_mapOf (L : List F) : strKeys (Sp.mapOf L) = L.map (·.p) := by
  show ((L.map Sp.ent).map fun q => strOf q.1) = _
  rw [List.map_map]; rfl
theorem sorted_keys {L : List F} (hs : Sp.Sorted L) {ss : List (List UInt8)} (h : ss.Perm (strKeys (Sp.mapOf L))) : ss.mergeSort (fun x y => decide (x ≤ y)) = L.map (·.p) := by
  rw [strKeys_mapOf] at h
  have h2 : ss.mergeSort (fun x y => decide (x ≤ y)) = (L.map (·.p)).mergeSort (fun x y => decide (x ≤ y)) := mergeSort_of_perm h
  rw [h2]
  exact List.mergeSort_of_pairwise (List.pairwise_map.2 (hs.imp fun {a b} hab => by simpa using List.le_of_lt hab))

theorem Keys_any (w : World) (bm : Nat) : Calls Tryz.prog 36 #[.map (some bm)] w fun e w' =>
    e = .returned (.func (.func 66) #[] #[.pointer (some ⟨w.heap.size, 0, none⟩)]) ∧ w' = w.alloc (.cells #[.map (some bm)] 55) :=
  (callsIn_wide (n := 5)).1 (AnyZ.keys_in Tryz.laysKeys Fence.wide 5 trivial rfl (some bm) w)

theorem sorts (m : Nat) : AnyZ.SortsIn Tryz.prog Tryz.laysSorted_ren Fence.wide m :=
  ⟨fun blk off cap ss W hH hblk hsz => callsIn_wide.2 (Tryz.slices_Sort_string blk off cap ss W hH hblk hsz),
   fun p cap W => callsIn_wide.2 (Tryz.slices_Sort_string_none p cap W)⟩

set_option maxHeartbeats 1000000 in
theorem Sorted_any (w : World) {bm : Nat} {L : List F} (hM : MapAt w bm L) (hl : L.length ≤ 1000000) :
    Calls Tryz.prog 35 #[.func (.func 66) #[] #[.pointer (some ⟨w.heap.size, 0, none⟩)]] (w.alloc (.cells #[.map (some bm)] 55)) fun e w' =>
      ∃ v, e = .returned v ∧ w'.ownsRow (w.alloc (.cells #[.map (some bm)] 55)).heap.size 9 1 v (L.map fun f => str f.p).length (strC (L.map fun f => str f.p)) ∧ Below (w.alloc (.cells #[.map (some bm)] 55)).heap.size (w.alloc (.cells #[.map (some bm)] 55)) w' := by
  have hbl := hM.lt
  have hs := hM.sorted
  have hown := hM.own
  have hmax : Maps.size (Sp.mapOf L) ≤ maxLen := by rw [Sp.size_mapOf]; unfold maxLen; omega
  have hbytes : Maps.size (Sp.mapOf L) * 16 ≤ 140737488355328 := by rw [Sp.size_mapOf]; omega
  have hseq : SeqGives Fence.wide 2 Tryz.prog 66 #[.pointer (some ⟨w.heap.size, 0, none⟩)] encStr (fun ss => ss.Perm (strKeys (Sp.mapOf L))) (Maps.size (Sp.mapOf L)) (w.alloc (.cells #[.map (some bm)] 55)) :=
    AnyZ.keys_gives (ρ := Tryz.laysKeys_ren) { Tryz.laysKeys with } Fence.wide _ trivial rfl (by omega) w.heap.size bm _ (Sp.mapOf L) _ (by simp) (by simp) ((hM.alloc _).own)
  have h := AnyZ.sorted_in Tryz.laysSorted Fence.wide 5 trivial trivial trivial trivial rfl (by omega) (sorts _) (enters_of Tryz.func65 (by kernel_rfl) rfl) 66 #[.pointer (some ⟨w.heap.size, 0, none⟩)] trivial (enters_of Tryz.func66 (by kernel_rfl) rfl) _ _ hmax hbytes _ hseq
  refine ((callsIn_wide (n := 5)).1 h).mono ?_
  rintro e w' ⟨v, ss, rfl, hS, hrow, _, hb⟩
  refine ⟨v, rfl, ?_, hb⟩
  have hlen : ss.length = (L.map fun f => str f.p).length := by rw [hS.length_eq, strKeys_mapOf]; simp
  rw [sorted_keys hs hS, hlen] at hrow
  have e1 : (L.map (·.p)).map encStr = strC (L.map fun f => str f.p) := by simp [strC, encStr, str]
  rw [e1] at hrow
  exact hrow

/-! ### the plain side: who is in p -/
def child (L : List F) (p : List UInt8) : Bool := L.any fun g => (p ++ [47]).isPrefixOf g.p
def blockedA (L : List F) : Bool := L.any fun f => !f.d && child L f.p
def lb : List F → List UInt8 → Nat
  | [], _ => 0
  | f :: r, q => if f.p < q then lb r q + 1 else 0

theorem between : ∀ (t a r : List UInt8), t ≤ a → a ≤ t ++ r → t.isPrefixOf a = true
  | [], _, _, _, _ => by simp
  | x :: t, [], r, h, _ => by exact absurd h (by simp)
  | x :: t, y :: a, r, h1, h2 => by
    rw [List.cons_append] at h2
    have h1' : ¬ (y < x ∨ y = x ∧ a < t) := fun h => (List.not_lt.2 h1) (List.cons_lt_cons_iff.2 h)
    have h2' : ¬ (x < y ∨ x = y ∧ t ++ r < a) := fun h => (List.not_lt.2 h2) (List.cons_lt_cons_iff.2 h)
    have e : x = y := UInt8.le_antisymm (UInt8.not_lt.1 fun h => h1' (.inl h)) (UInt8.not_lt.1 fun h => h2' (.inl h))
    subst e
    have := between t a r (List.not_lt.1 fun h => h1' (.inr ⟨rfl, h⟩)) (List.not_lt.1 fun h => h2' (.inr ⟨rfl, h⟩))
    simpa using this

theorem le_app (t r : List UInt8) : t ≤ t ++ r := by
  refine List.not_lt.1 fun h => ?_
  induction t with
  | nil => simp at h
  | cons x t ih =>
    rw [List.cons_append] at h
    rcases List.cons_lt_cons_iff.1 h with h | ⟨_, h⟩
    · exact absurd h (UInt8.lt_irrefl x)
    · exact ih h

theorem lb_low : ∀ {L : List F} {q : List UInt8} {t : Nat}, t < lb L q → ∃ f, L[t]? = some f ∧ f.p < q
  | [], _, _, h => by simp [lb] at h
  | f :: r, q, t, h => by
    unfold lb at h
    split at h
    · rename_i hf
      cases t with
      | zero => exact ⟨f, rfl, hf⟩
      | succ t => exact lb_low (L := r) (by omega)
    · omega
theorem lb_le : ∀ (L : List F) (q : List UInt8), lb L q ≤ L.length
  | [], _ => by simp [lb]
  | f :: r, q => by
    unfold lb
    split
    · have := lb_le r q; simp; omega
    · simp
theorem lb_high : ∀ {L : List F} {q : List UInt8}, Sp.Sorted L → ∀ {t : Nat} {f : F}, lb L q ≤ t → L[t]? = some f → ¬ f.p < q
  | [], _, _, _, _, _, h => by simp at h
  | g :: r, q, hs, t, f, h, hf => by
    obtain ⟨h1, h2⟩ := List.pairwise_cons.1 hs
    intro hlt
    unfold lb at h
    split at h
    · cases t with
      | zero => omega
      | succ t => exact lb_high h2 (t := t) (by omega) (by simpa using hf) hlt
    · rename_i hg
      cases t with
      | zero => cases hf; exact hg hlt
      | succ t => exact hg (Sp.lt_tr (h1 f (List.mem_of_getElem? (by simpa using hf))) hlt)

theorem child_lb {L : List F} (hs : Sp.Sorted L) (p : List UInt8) : child L p = match L[lb L (p ++ [47])]? with
    | some g => (p ++ [47]).isPrefixOf g.p
    | none => false := by
  unfold child
  rw [Bool.eq_iff_iff, List.any_eq_true]
  constructor
  · rintro ⟨g, hg, hp⟩
    obtain ⟨t, ht⟩ := List.getElem?_of_mem hg
    obtain ⟨r, hr⟩ := List.isPrefixOf_iff_prefix.1 hp
    have hge : ¬ g.p < p ++ [47] := fun h => by rw [← hr] at h; exact (List.not_lt.2 (le_app _ r)) h
    have hle : lb L (p ++ [47]) ≤ t := by
      by_cases hlt : t < lb L (p ++ [47])
      · obtain ⟨f, hf, hlt2⟩ := lb_low hlt
        rw [ht] at hf; cases hf
        exact absurd hlt2 hge
      · omega
    have htl : t < L.length := (List.getElem?_eq_some_iff.1 ht).1
    have hk : lb L (p ++ [47]) < L.length := by omega
    rw [List.getElem?_eq_getElem hk]
    have h1 : ¬ (L[lb L (p ++ [47])]).p < p ++ [47] := lb_high hs (Nat.le_refl _) (List.getElem?_eq_getElem hk)
    refine between _ _ r (List.not_lt.1 h1) ?_
    rw [hr]
    rcases Nat.lt_or_eq_of_le hle with h | h
    · have := List.pairwise_iff_getElem.1 hs _ t hk htl h
      rw [List.getElem?_eq_getElem htl] at ht
      cases ht
      exact List.le_of_lt this
    · have : L[lb L (p ++ [47])] = g := by
        have h3 := List.getElem?_eq_getElem hk
        have h4 : L[lb L (p ++ [47])]? = some g := by rw [h]; exact ht
        exact Option.some.inj (h3.symm.trans h4)
      rw [this]; exact List.le_refl _
  · intro h
    split at h
    · rename_i g hg
      exact ⟨g, List.mem_of_getElem? hg, h⟩
    · cases h

/-! ### the walk -/
def BoolPost (w : World) (b : Bool) (e : Ending) (w' : World) : Prop := e = .returned (.bool b) ∧ Below w.heap.size w w'

theorem Search_any (w : World) {b n c : Nat} {L : List F} {q : ByteArray} (hs : Sp.Sorted L) (hn : n = L.length) (hl : n ≤ 1000000) (hc : ∀ j, j < n → w.cell? ⟨b, j, none⟩ = some (.string ((L.map fun f => str f.p)[j]?.getD ByteArray.empty))) :
    Calls Tryz.prog 37 #[.slice (some ⟨b, 0, none⟩) n c, .string q] w fun e w' => ∃ found, e = .returned (.tuple #[.int .i64 (lb L (bs q) : Nat), .bool found]) ∧ ∃ k, w' = w.drewN k := by
  subst hn
  let Sx : Nat → ByteArray := fun j => (L[j]?.map fun f => str f.p).getD q
  have hc' : ∀ j, j < L.length → w.cell? ⟨b, 0 + j, none⟩ = some (.string (Sx j)) := fun j hj => by
    have e1 : (L.map fun f => str f.p)[j]?.getD ByteArray.empty = Sx j := by simp [Sx, hj]
    rw [Nat.zero_add, ← e1]; exact hc j hj
  have h := Any2.slices_BinarySearch_string Tryz.laysSearch b 0 L.length c Sx q w (by omega) hc'
  have hk : Lib.bsGo (fun t => Op.bytesLess (Sx t).toList q.toList) L.length 0 L.length = lb L (bs q) := by
    refine Lib.bsGo_spec _ (lb L (bs q)) (fun t ht => ?_) (fun t ht => ?_) _ _ _ (by omega) (Nat.zero_le _) (lb_le _ _)
    · obtain ⟨f, hf, hlt⟩ := lb_low ht
      have : Sx t = str f.p := by simp [Sx, hf]
      rw [this, bytesLess_eq, Lib.toList_data, Lib.toList_data, decide_eq_true_eq]
      exact hlt
    · cases hf : L[t]? with
      | none =>
        have : Sx t = q := by simp [Sx, hf]
        rw [this, bytesLess_eq]
        simp
      | some f =>
        have : Sx t = str f.p := by simp [Sx, hf]
        rw [this, bytesLess_eq, Lib.toList_data, Lib.toList_data, decide_eq_false_iff_not]
        exact lb_high hs ht hf
  rw [hk] at h
  exact h.mono fun e w' ⟨a, b⟩ => ⟨_, a, b⟩

theorem prefix_is (w : World) (s p : ByteArray) (r : Bool) (h : Hid ((bs p).isPrefixOf (bs s) = r)) : Calls Tryz.prog 38 #[.string s, .string p] w fun e w' => e = .returned (.bool r) ∧ w = w' := by
  refine (Tryz.strings_HasPrefix s p w).mono ?_
  rw [show Lib.hasPrefix s.data.toList p.data.toList = r from h.out]
  exact fun e w' ⟨a, b⟩ => ⟨a, b.symm⟩

theorem sorted_at {L : List F} (hs : Sp.Sorted L) {k : Nat} {f : F} (h : L[k]? = some f) : Sp.get L f.p = some f := (Sp.get_some hs).2 ⟨List.mem_of_getElem? h, rfl⟩

/-- The first k files stand in nobody's way. -/
def Free (L : List F) (k : Nat) : Prop := ∀ j f, j < k → L[j]? = some f → f.d = false → child L f.p = false
theorem Free.step {L : List F} {k : Nat} (h : Free L k) (hk : ∀ f, L[k]? = some f → f.d = false → child L f.p = false) : Free L (k + 1) := fun j f hj hf hd => by
  by_cases e : j = k
  · subst e; exact hk f hf hd
  · exact h j f (by omega) hf hd
theorem Free.all {L : List F} (h : Free L L.length) : blockedA L = false := by
  unfold blockedA
  rw [List.any_eq_false]
  intro f hf
  obtain ⟨j, hj⟩ := List.getElem?_of_mem hf
  cases hd : f.d with
  | true => simp
  | false => rw [h j f (List.getElem?_eq_some_iff.1 hj).1 hj hd]; simp
theorem blocked_at {L : List F} {k : Nat} {f : F} (hf : L[k]? = some f) (hd : f.d = false) (hc : child L f.p = true) : blockedA L = true := by
  unfold blockedA
  rw [List.any_eq_true]
  exact ⟨f, List.mem_of_getElem? hf, by rw [hd, hc]; rfl⟩

theorem field_dir (a b c d : Value) (w : World) : (Instr.field 44 (.agg #[a, b, c, d]) 3).run Tryz.prog w = .ok d w := by kernel_rfl

def BlRel (w w2 : World) (L : List F) (i : Value) (wr : World) : Prop := ∃ k : Nat, i = .int .i64 k ∧ k ≤ L.length ∧ wr.heap = w2.heap ∧ Below w.heap.size w wr ∧ Free L k

set_option maxHeartbeats 4000000 in
theorem blocked_any (w : World) {sb bm : Nat} {L : List F} {c : Int} (hS : StoreAt w sb bm L c) (hl : L.length ≤ 1000000) (hp : ∀ f ∈ L, f.p.length ≤ 1000000) :
    Calls Tryz.prog 15 #[.pointer (some ⟨sb, 0, none⟩)] w (BoolPost w (blockedA L)) := by
  have hlt := hS.lt
  have c1 := hS.c1
  have hM := hS.map
  have hs := hM.sorted
  go_enter Tryz.func15, Tryz.ntmps15
  go_wp2_with fail
  refine (Keys_any _ bm).mono ?_
  rintro e w1 ⟨rfl, rfl⟩
  go_wp2_with fail
  refine (Sorted_any w hM hl).mono ?_
  rintro e w2 ⟨v, rfl, hrow, hB⟩
  have hB0 := ((Below.refl w.heap.size w).alloc (Nat.le_refl _) (.cells #[.map (some bm)] 55)).trans (hB.mono (by simp))
  have hlen : (L.map fun f => str f.p).length = L.length := by simp
  rcases Nat.eq_zero_or_pos L.length with h0 | h0
  · obtain rfl : L = [] := List.eq_nil_of_length_eq_zero h0
    obtain ⟨a, cp, rfl⟩ : ∃ a c, v = .slice a 0 c := by
      rcases hrow.2 with ⟨rfl, _⟩ | ⟨g, cap, cur, rfl, _⟩
      · exact ⟨_, _, rfl⟩
      · exact ⟨_, _, rfl⟩
    clear hrow hlen
    go_wp2
    refine wp_loop_rounds 1 ?_
    rw [rounds_succ]
    go_wp2
    go_ret
    exact ⟨rfl, hB0⟩
  · obtain ⟨g, cp, rfl, _, _⟩ := owns_some hrow (by rw [hlen]; exact h0)
    have hS2 := hS.below hB0
    have hcell := fun j (hj : j < L.length) => cell_str hrow (j := j) (by rw [hlen]; exact hj)
    rw [hlen]
    clear hrow hlen hS hM c1 hB
    go_wp2
    go_loopw [17] (fun i wr => BlRel w w2 L i wr) (fun i _ => L.length - (intOf i).toNat)
    case atStart => exact ⟨0, rfl, Nat.zero_le _, rfl, hB0, fun j f h => by omega⟩
    case round =>
      obtain ⟨k, rfl, hk, hheap, hBr, hfree⟩ := hrel
      have hSr : StoreAt wr sb bm L c := ⟨by rw [hheap]; exact hS2.cells, hS2.map.block (by rw [hheap])⟩
      have hcr : ∀ j, j < L.length → wr.cell? ⟨g, j, none⟩ = some (.string ((L.map fun f => str f.p)[j]?.getD ByteArray.empty)) := fun j hj => by
        rw [← hcell j hj]; exact World.cell?_of_block (w := w2) (by rw [hheap])
      have HH := Lib.hid hheap
      have HF := Lib.hid hfree
      clear hheap hfree hS2 hcell
      by_cases hlt : k < L.length
      · obtain ⟨f, hf⟩ : ∃ f, L[k]? = some f := ⟨_, List.getElem?_eq_getElem hlt⟩
        have hpk : (L.map fun f => str f.p)[k]?.getD ByteArray.empty = str f.p := by rw [List.getElem?_map, hf]; rfl
        have ck := hcr k hlt
        rw [hpk] at ck
        have hfp := hp f (List.mem_of_getElem? hf)
        have hps : (str f.p).size ≤ 1000000 := by rw [← bs_len, bs_str]; exact hfp
        have hg := sorted_at hs hf
        have hG : Hid ((Sp.get L (bs (str f.p))).getD noF = f) := Lib.hid (by rw [bs_str, hg]; rfl)
        have hpm : (str f.p).size ≤ maxLen := by unfold maxLen; omega
        have ik : (k : Int) < L.length := by omega
        have c1 := hSr.c1
        have hM := hSr.map
        have HF2 := Lib.hid hf
        have HC := Lib.hid hcr
        clear hf hcr hpk hg hSr
        obtain ⟨fp, ft, fc, fd⟩ := f
        simp only at *
        have hfd := fun (d : Value) (wx : World) => field_dir (.string (str fp)) (.string (str ft)) (.int .i64 fc) d wx
        cases fd with
        | true =>
          go_wp2_with (at_lookup; refine wpList_get _ rfl _ _ rfl rfl rfl hM hpm hG ?_)
          go_roundw
          case rel => exact ⟨k + 1, by go_num, by omega, HH.out, hBr, HF.out.step fun f hf hd => by rw [HF2.out] at hf; cases hf; cases hd⟩
          case measure => simp [intOf]; omega
        | false =>
          obtain ⟨q, hq⟩ : ∃ q, q = str fp ++ ⟨#[47]⟩ := ⟨_, rfl⟩
          have hqb : bs q = fp ++ [47] := by rw [hq, bs_app, bs_str]; rfl
          have hqs : (str fp).size + 1 ≤ 1000001 := by omega
          have hch := child_lb hs fp
          have hll := lb_le L (fp ++ [47])
          obtain ⟨m, hm⟩ : ∃ m, lb L (fp ++ [47]) = m := ⟨_, rfl⟩
          have hsr := fun wx hcx => Search_any wx (b := g) (n := L.length) (c := cp) (q := q) hs rfl hl hcx
          rw [hqb, hm] at hsr
          rw [hm] at hch hll
          have HSR := Lib.hid hsr
          rw [hq] at HSR
          have hml : Hid (lb L (fp ++ [47]) = m) := Lib.hid hm
          clear hsr hm
          by_cases hmn : m < L.length
          · obtain ⟨x, hx⟩ : ∃ x, L[m]? = some x := ⟨_, List.getElem?_eq_getElem hmn⟩
            have hxk : (L.map fun f => str f.p)[m]?.getD ByteArray.empty = str x.p := by rw [List.getElem?_map, hx]; rfl
            have cm := HC.out m hmn
            rw [hxk] at cm
            rw [hx] at hch
            simp only at hch
            have hxp := hp x (List.mem_of_getElem? hx)
            have im : (m : Int) < L.length := by omega
            obtain ⟨r, hr⟩ : ∃ r, (fp ++ [47]).isPrefixOf x.p = r := ⟨_, rfl⟩
            have hR : Hid ((bs (str fp ++ ⟨#[47]⟩)).isPrefixOf (bs (str x.p)) = r) := Lib.hid (by rw [← hq, hqb, bs_str]; exact hr)
            rw [hr] at hch
            have HCH := Lib.hid hch
            clear hch hr hx hxk hqb hq
            cases r with
            | true =>
              have HE := Lib.hid (blocked_at HF2.out rfl HCH.out)
              go_wp2_with (first
                | (at_lookup; refine wpList_get _ rfl _ _ rfl rfl rfl hM hpm hG ?_)
                | (go_at_call 37; go_must (refine (HSR.out _ HC.out).mono ?_); rintro e w4 ⟨fo, rfl, nq, rfl⟩)
                | (go_at_call 38; go_must (refine (prefix_is _ _ _ true hR).mono ?_); rintro e w5 ⟨rfl, rfl⟩))
              go_ret
              exact ⟨by rw [HE.out]; rfl, below_drewN hBr nq⟩
            | false =>
              go_wp2_with (first
                | (at_lookup; refine wpList_get _ rfl _ _ rfl rfl rfl hM hpm hG ?_)
                | (go_at_call 37; go_must (refine (HSR.out _ HC.out).mono ?_); rintro e w4 ⟨fo, rfl, nq, rfl⟩)
                | (go_at_call 38; go_must (refine (prefix_is _ _ _ false hR).mono ?_); rintro e w5 ⟨rfl, rfl⟩))
              go_roundw
              case rel => exact ⟨k + 1, by go_num, by omega, HH.out, below_drewN hBr nq, HF.out.step fun f hf hd => by rw [HF2.out] at hf; cases hf; exact HCH.out⟩
              case measure => simp [intOf]; omega
          · have im : ¬ (m : Int) < L.length := by omega
            have hn : L[m]? = none := List.getElem?_eq_none (by omega)
            rw [hn] at hch
            have HCH := Lib.hid hch
            clear hch hn hqb hq
            go_wp2_with (first
              | (at_lookup; refine wpList_get _ rfl _ _ rfl rfl rfl hM hpm hG ?_)
              | (go_at_call 37; go_must (refine (HSR.out _ HC.out).mono ?_); rintro e w4 ⟨fo, rfl, nq, rfl⟩))
            go_roundw
            case rel => exact ⟨k + 1, by go_num, by omega, HH.out, below_drewN hBr nq, HF.out.step fun f hf hd => by rw [HF2.out] at hf; cases hf; exact HCH.out⟩
            case measure => simp [intOf]; omega
      · obtain rfl : k = L.length := by omega
        have HE := Lib.hid HF.out.all
        go_wp2
        go_ret
        exact ⟨by rw [HE.out]; rfl, hBr⟩
end Go.Proofs.YteommneijlelkaaGreatDoor.Sw
namespace Go.Proofs.YteommneijlelkaaGreatDoor.Sw
open Go.RowKit Go.Proofs.YteommneijlelkaaGreatDoor Go.Maps
set_option maxRecDepth 100000

def dirF (d : List UInt8) : F := ⟨d, [], 0, true⟩
def surrN : Nat → List F → List UInt8 → List F
  | 0, L, _ => L
  | n + 1, L, d => if 4096 < L.length then L else match getR L d with
    | some _ => L
    | none => surrN n (Sp.ins L (dirF d)) (dirL d)
def mu (d : List UInt8) : Nat := if d = [46] then 0 else d.length + 1
def surrA (L : List F) (d : List UInt8) : List F := surrN (mu d + 1) L d

theorem last_le (d : List UInt8) : Lib.Pa.lastIndexByte d 47 < d.length := by
  have h := Lib.Pa.lastIndexByte_bounds d 47
  exact h.2
theorem mu_dir {d : List UInt8} (h : d ≠ [46]) : mu (dirL d) < mu d := by
  unfold mu
  rw [if_neg h]
  unfold dirL
  split
  · rename_i h0
    have h1 := last_le d
    split
    · omega
    · rw [List.length_take]; omega
  · rw [if_pos rfl]; omega
theorem surrN_fuel : ∀ (n m : Nat) (L : List F) (d : List UInt8), mu d + 1 ≤ n → mu d + 1 ≤ m → surrN n L d = surrN m L d
  | 0, _, _, _, h, _ => by omega
  | _, 0, _, _, _, h => by omega
  | n + 1, m + 1, L, d, hn, hm => by
    unfold surrN
    split
    · rfl
    · cases hg : getR L d with
      | some f => rfl
      | none =>
        have hd : d ≠ [46] := fun e => by subst e; cases hg
        have := mu_dir hd
        exact surrN_fuel n m _ _ (by omega) (by omega)
theorem surr_full {L : List F} {d : List UInt8} (h : 4096 < L.length) : surrA L d = L := by unfold surrA surrN; rw [if_pos h]
theorem surr_there {L : List F} {d : List UInt8} {f : F} (h : getR L d = some f) : surrA L d = L := by
  unfold surrA surrN
  split
  · rfl
  · rw [h]
theorem surr_step {L : List F} {d : List UInt8} (h : ¬ 4096 < L.length) (hg : getR L d = none) : surrA L d = surrA (Sp.ins L (dirF d)) (dirL d) := by
  have hd : d ≠ [46] := fun e => by subst e; cases hg
  have h1 : surrA L d = surrN (mu d) (Sp.ins L (dirF d)) (dirL d) := by
    show surrN (mu d + 1) L d = _
    rw [surrN, if_neg h, hg]
  rw [h1]
  exact surrN_fuel _ _ _ _ (mu_dir hd) (Nat.le_refl _)

def muV : Value → Nat
  | .string s => mu (bs s)
  | _ => 0

def SuRel (w : World) (sb bm : Nat) (L : List F) (c : Int) (d0 : List UInt8) (v : Value) (wr : World) : Prop :=
  ∃ (d : ByteArray) (M : List F), v = .string d ∧ d.size ≤ 1000000 ∧ M.length ≤ 1000000 ∧ StoreAt wr sb bm M c ∧ Kept [sb, bm] w wr ∧ surrA M (bs d) = surrA L d0

set_option maxHeartbeats 2000000 in
theorem surround_any (w : World) {sb bm : Nat} {L : List F} {c : Int} (p : ByteArray) (hS : StoreAt w sb bm L c) (hp : p.size ≤ 999999) (hl : L.length ≤ 1000000) :
    Calls Tryz.prog 16 #[.pointer (some ⟨sb, 0, none⟩), .string p] w fun e w' => e = .returned (.tuple #[]) ∧ StoreAt w' sb bm (surrA L (dirL (bs p))) c ∧ Kept [sb, bm] w w' := by
  have hsz : ∀ (q : ByteArray), q.size ≤ 1000000 → ∃ d : ByteArray, dirL (bs q) = bs d ∧ d.size ≤ 1000000 := fun q hq => by
    refine ⟨str (dirL (bs q)), rfl, ?_⟩
    rw [← bs_len, bs_str]
    unfold dirL
    split
    · rw [List.length_take, bs_len]; omega
    · simp
  obtain ⟨d, hd, hds⟩ := hsz p (by omega)
  have HD := Lib.hid hd
  rw [hd]
  clear hd
  go_enter Tryz.func16, Tryz.ntmps16
  go_wp2_with (go_at_call 39; go_must (refine (dir_is _ p d (by omega) HD).mono ?_); rintro e w2 ⟨rfl, rfl⟩)
  go_loopw [4] (fun v wr => SuRel w sb bm L c (bs d) v wr) (fun v _ => muV v)
  case atStart => exact ⟨d, L, rfl, hds, hl, hS, .refl _ _, rfl⟩
  case round =>
    obtain ⟨d, M, rfl, hds, hMl, hSr, hK, hrun⟩ := hrel
    have c1 := hSr.c1
    have hM := hSr.map
    have hlt := hSr.lt
    have HR := Lib.hid hrun
    clear hrun
    by_cases h4 : 4096 < M.length
    · have i4 : ¬ (M.length : Int) ≤ 4096 := by omega
      have HE : Hid (surrA L (bs _) = M) := Lib.hid (HR.out.symm.trans (surr_full h4))
      go_wp2_with (at_len; refine wpList_size _ rfl _ rfl rfl hM ?_)
      go_end0
      exact ⟨rfl, by rw [HE.out]; exact hSr, hK⟩
    · have i4 : (M.length : Int) ≤ 4096 := by omega
      have hdm : d.size ≤ maxLen := by unfold maxLen; omega
      cases hg : getR M (bs d) with
      | some f =>
        have hG := Lib.hid hg
        have HE : Hid (surrA L (bs _) = M) := Lib.hid (HR.out.symm.trans (surr_there hg))
        clear hg
        go_wp2_with (first
          | (at_len; refine wpList_size _ rfl _ rfl rfl hM ?_)
          | (go_at_call 40; go_must (refine (Get_yes _ d hSr hdm hG).mono ?_); rintro e w1 ⟨rfl, B1⟩; unfold fV))
        refine bodyPost_ret (results_none rfl _ _ _) rfl ?_
        exact ⟨rfl, by rw [HE.out]; exact (hSr.below B1).alloc _, (hK.below B1).alloc _⟩
      | none =>
        have hG := Lib.hid hg
        have HE := Lib.hid ((surr_step (by omega) hg).symm.trans HR.out)
        have hdn : bs d ≠ [46] := fun e => by rw [e] at hg; cases hg
        have hmu := mu_dir hdn
        obtain ⟨d2, hd2, hds2⟩ := hsz d hds
        rw [hd2] at HE hmu
        have HD2 := Lib.hid hd2
        have HN := Lib.hid hdn
        have hbl : (bs d).length ≤ maxLen := by rw [bs_len]; exact hdm
        have hml : M.length < maxLen := by unfold maxLen; omega
        have hne := hSr.ne
        clear hg hd2 hdn
        go_wp2_with (first
          | (at_len; refine wpList_size _ rfl _ rfl rfl hM ?_)
          | (go_at_call 40; go_must (refine (Get_no _ d hSr hdm hG).mono ?_); rintro e w1 ⟨rfl, B1⟩; unfold fV; have hS1 := hSr.below B1; have c1' := hS1.c1; have hlt1 := hS1.lt)
          | (at_mapUpdate; refine wpList_put (f := dirF (bs d)) _ rfl _ _ _ rfl rfl rfl rfl (hS1.map.alloc _) hbl hml ?_; intro w3 hM3 htn)
          | (go_at_call 39; go_must (refine (dir_is _ d d2 hds HD2).mono ?_); rintro e w4 ⟨rfl, rfl⟩))
        go_roundw
        case rel =>
          have hS3 : StoreAt w3 sb bm (Sp.ins M (dirF (bs d))) c := ⟨(htn.grown.block sb (hS1.alloc _).lt (by simpa using fun e => hne e.symm)).trans (hS1.alloc _).cells, hM3⟩
          refine ⟨d2, Sp.ins M (dirF (bs d)), rfl, hds2, ?_, hS3, ((hK.below B1).alloc _).grown htn.grown (by simp), HE.out⟩
          rw [Sp.len_ins]; split <;> omega
        case measure => exact hmu
end Go.Proofs.YteommneijlelkaaGreatDoor.Sw
namespace Go.Proofs.YteommneijlelkaaGreatDoor.Sw
open Go.RowKit Go.Proofs.YteommneijlelkaaGreatDoor Go.Maps Go.Shelf Go.Sort
set_option maxRecDepth 100000

instance : Inhabited F := ⟨noF⟩

theorem cmp_lt : ∀ (a b : List UInt8), decide (Lib.compareBytes a b < 0) = decide (a < b)
  | [], [] => by simp [Lib.compareBytes]
  | [], _ :: _ => by simp [Lib.compareBytes]
  | _ :: _, [] => by simp [Lib.compareBytes]
  | a :: r, b :: s => by
    have ih := cmp_lt r s
    unfold Lib.compareBytes
    simp only [List.cons_lt_cons_iff]
    by_cases h1 : a < b
    · simp [h1]
    · by_cases h2 : b < a
      · have : a ≠ b := fun e => by subst e; exact absurd h2 h1
        simp [h1, h2, this]
      · have : a = b := UInt8.le_antisymm (UInt8.not_lt.1 h2) (UInt8.not_lt.1 h1)
        subst this
        simp only [h1, if_false, false_or, true_and]
        exact ih

def cmpF (x y : F) : Int := Lib.compareBytes x.p y.p
theorem ltF (x y : F) : ltOf cmpF x y = decide (x.p < y.p) := cmp_lt x.p y.p
theorem swoF : SWO (ltOf cmpF) where
  irrefl x := by rw [ltF]; simp [Sp.lt_irr x.p]
  trans x y z h1 h2 := by rw [ltF] at *; simp only [decide_eq_true_eq] at *; exact Sp.lt_tr h1 h2
  ntrans x y z h1 h2 := by
    rw [ltF] at *
    simp only [decide_eq_false_iff_not] at *
    exact List.not_lt.2 (List.le_trans (List.not_lt.1 h2) (List.not_lt.1 h1))

set_option maxHeartbeats 1000000 in
theorem closure_any (x y : F) (W : World) : Calls Tryz.prog 55 #[.agg #[.string (str x.p), .string (str x.t), .int .i64 x.c, .bool x.d], .agg #[.string (str y.p), .string (str y.t), .int .i64 y.c, .bool y.d]] W fun e w' => e = .returned (.int .i64 (cmpF x y)) ∧ ∃ q os', w' = grow (W.drewN q) os' := by
  obtain ⟨r, hr⟩ : ∃ r, Hid (cmpF x y = r) := ⟨_, Lib.hid rfl⟩
  have hcon : ∀ W', Calls Tryz.prog 56 #[.string (str x.p), .string (str y.p)] W' fun e w' => e = .returned (.int .i64 r) ∧ w' = W' := fun W' => by
    have := Tryz.strings_Compare (str x.p) (str y.p) W'
    rwa [show Lib.compareBytes (str x.p).data.toList (str y.p).data.toList = r from hr.out] at this
  rw [hr.out]
  go_enter Tryz.func55, Tryz.ntmps55
  go_wp2_with (go_at_call 56; go_must (refine (hcon _).mono ?_); rintro e w' ⟨rfl, rfl⟩)
  go_ret
  exact ⟨rfl, 0, _, by rw [alloc_eq_grow, alloc_eq_grow, grow_grow]; rfl⟩

/-- A slice that reads as these files. -/
def Files (w : World) (v : Value) (L : List F) : Prop :=
  (L = [] ∧ ∃ a c, v = .slice a 0 c) ∨ ∃ b o c, v = .slice (some ⟨b, o, none⟩) L.length c ∧ b < w.heap.size ∧ ∀ j, (h : j < L.length) →
    w.cell? ⟨b, o + j * 4, none⟩ = some (.string (str L[j].p)) ∧ w.cell? ⟨b, o + j * 4 + 1, none⟩ = some (.string (str L[j].t)) ∧ w.cell? ⟨b, o + j * 4 + 2, none⟩ = some (.int .i64 L[j].c) ∧ w.cell? ⟨b, o + j * 4 + 3, none⟩ = some (.bool L[j].d)

theorem Files.kept {X : List Nat} {w w' : World} {v : Value} {L : List F} (h : Files w v L) (hk : Kept X w w') (hx : ∀ b, v.ownBlock = some b → b ∉ X) : Files w' v L := by
  rcases h with h | ⟨b, o, c, rfl, hb, hc⟩
  · exact .inl h
  · refine .inr ⟨b, o, c, rfl, Nat.lt_of_lt_of_le hb hk.size, fun j hj => ?_⟩
    have hn : b ∉ X := hx b rfl
    obtain ⟨c0, c1, c2, c3⟩ := hc j hj
    have e := fun i => hk.cell (p := ⟨b, i, none⟩) hb hn
    exact ⟨(e _).trans c0, (e _).trans c1, (e _).trans c2, (e _).trans c3⟩
theorem Files.below {w w' : World} {v : Value} {L : List F} (h : Files w v L) (hB : Below w.heap.size w w') : Files w' v L := h.kept (X := []) (.of_below hB) (fun _ _ => by simp)

theorem fCs_get : ∀ (L : List F) (j c : Nat) (h : j < L.length), c < 4 → (fCs L)[j * 4 + c]? = (fC L[j])[c]?
  | f :: r, 0, c, _, hc => by
    show (fC f ++ fCs r)[0 * 4 + c]? = _
    rw [List.getElem?_append_left (by simp [fC]; omega)]; simp
  | f :: r, j + 1, c, h, hc => by
    show (fC f ++ fCs r)[(j + 1) * 4 + c]? = _
    rw [List.getElem?_append_right (by simp [fC]; omega), show (j + 1) * 4 + c - (fC f).length = j * 4 + c by simp [fC]; omega, fCs_get r j c (by simpa using h) hc]
    rfl

theorem holdsK_own {w : World} {base : Nat} {v : Value} {L : List F} (h : w.ownsRow base 44 4 v L.length (fCs L)) (hn : 0 < L.length) :
    ∃ g cap, v = .slice (some ⟨g, 0, none⟩) L.length cap ∧ base ≤ g ∧ g < w.heap.size ∧ HoldsK fC 4 w g 0 L.toArray := by
  rcases h.2 with ⟨_, h0⟩ | ⟨g, cap, cur, rfl, hb, hgb, _⟩
  · omega
  · refine ⟨g, cap, rfl, hb, (Array.getElem?_eq_some_iff.1 hgb).1, fun t ht => ?_⟩
    rw [size_flatK] at ht
    simp only [List.size_toArray] at ht
    have hj : t / 4 < L.length := by omega
    refine ⟨?_, by simp [World.frozen?, hgb]⟩
    have e1 := fCs_get L (t / 4) (t % 4) hj (by omega)
    have e2 : ∃ u, (fC L[t / 4])[t % 4]? = some u := ⟨_, List.getElem?_eq_getElem (by simp [fC]; omega)⟩
    obtain ⟨u, hu⟩ := e2
    have e3 := h.cells (g := g) rfl (t / 4 * 4 + t % 4) u (by rw [e1]; exact hu)
    rw [Addr.add_lit, Nat.zero_add, show t / 4 * 4 + t % 4 = t by omega] at e3
    rw [get_flatK _ _ _ _ (by simpa using ht), Nat.zero_add, e3]
    simp only [id]
    congr 1
    rw [show L.toArray[t / 4]! = L[t / 4] by simp [hj]]
    simp [List.getElem!_eq_getElem?_getD, hu]

theorem files_holdsK {w : World} {g : Nat} {d : Array F} {cap n : Nat} (h : HoldsK fC 4 w g 0 d) (hg : g < w.heap.size) (hd : d.size = n) : Files w (.slice (some ⟨g, 0, none⟩) n cap) d.toList := by
  refine .inr ⟨g, 0, cap, by rw [Array.length_toList, hd], hg, fun j hj => ?_⟩
  have hj' : j < d.size := by simpa using hj
  have e := fun c (hc : c < 4) => (HoldsK.cell h hj' hc).1
  have hx : d[j]! = d.toList[j] := by rw [getElem!_pos d j hj']; rfl
  rw [hx] at e
  exact ⟨e 0 (by omega), e 1 (by omega), e 2 (by omega), e 3 (by omega)⟩

theorem grown_sortedK {w : World} {g n : Nat} {os : Array Obj} (d : Array F) : w.grownBy (sortWorldK fC 4 w g 0 n d os) (some g) := by
  refine ⟨rfl, rfl, rfl, by simp [sortWorldK, putRowK], fun k hk hne => ?_⟩
  unfold sortWorldK putRowK
  rw [heap_grow_old _ _ (by simpa using hk)]
  have : g ≠ k := fun e => hne (by rw [e])
  simp [putRow, mapBlock, Sort.ahead, Array.getElem?_modify, this]

/-- A rising row of what L holds is L. -/
theorem sorted_is {L xs : List F} {d : Array F} (hs : Sp.Sorted L) (hx : xs.Perm L) (hp : PermIn 0 xs.length xs.toArray d) (ho : SortedIn (ltOf cmpF) 0 xs.length d) : d.toList = L := by
  obtain ⟨h1, _, h3⟩ := hp
  have hd : d.size = xs.length := by simpa using h1
  have h4 : d.toList.Perm L := by
    have : (d.extract 0 xs.length).toList = d.toList := by rw [← hd]; simp
    rw [this] at h3
    exact (h3.trans (by simp)).trans hx
  refine Sp.sorted_ext ?_ hs fun g => h4.mem_iff
  have hnd : d.toList.Pairwise fun a b => a.p ≠ b.p := (h4.pairwise_iff (fun {a b} (h : a.p ≠ b.p) => h.symm)).2 (hs.imp fun {a b} h => Sp.lt_ne h)
  refine List.pairwise_iff_getElem.2 fun i j hi hj hij => ?_
  have hi' : i < d.size := by simpa using hi
  have hj' : j < d.size := by simpa using hj
  have a := ho i j (by omega) hij (by omega)
  rw [ltF, getElem!_pos d i hi', getElem!_pos d j hj', decide_eq_false_iff_not] at a
  exact Sp.lt_or a fun e => List.pairwise_iff_getElem.1 hnd i j hi hj hij e.symm

def FilesPost (w : World) (L : List F) (e : Ending) (w' : World) : Prop := ∃ v, e = .returned v ∧ Files w' v L ∧ (∃ a c, v = .slice a L.length c) ∧ Below w.heap.size w w'

set_option maxHeartbeats 1000000 in
theorem Collect_any {L : List F} {bm : Nat} (n : Nat) (hn : 5 ≤ n) (B : Nat) (w : World) (hB : B < w.heap.size) (hm : w.cell? ⟨B, 0, none⟩ = some (.map (some bm))) (hM : MapAt w bm L) (hL : L.length ≤ 1000000) :
    CallsIn Fence.wide n Tryz.prog 89 #[.func (.func 91) #[] #[.pointer (some ⟨B, 0, none⟩)]] w fun e w' =>
      ∃ (v : Value) (xs : List F), e = .returned v ∧ xs.Perm L ∧ w'.ownsRow w.heap.size 44 4 v xs.length (fCs xs) ∧ Below w.heap.size w w' := by
  refine callsIn_of_wp Tryz.func89 rfl trivial ?_ rfl
  simp only [Tryz.ntmps89, List.size_toArray, List.length_cons, List.length_nil, Nat.reduceAdd, Nat.reduceSub, Array.replicate_succ, Array.replicate_zero, List.push_toArray, List.append_toArray, List.nil_append, List.cons_append]
  gi_wp2_with (refine ⟨trivial, fun _ => by omega, ?_⟩; gi_at_call 138; refine (AppendSeq_any (n - 1) (by omega) B _ hB hm hM hL).mono ?_; rintro e w' ⟨v, xs, rfl, h1, h2, h3⟩)
  go_ret
  exact ⟨v, xs, rfl, h1, h2, h3⟩

set_option maxHeartbeats 1000000 in
theorem SortedFunc_any {L : List F} {bm : Nat} (n : Nat) (hn : 6 ≤ n) (B : Nat) (w : World) (hB : B < w.heap.size) (hm : w.cell? ⟨B, 0, none⟩ = some (.map (some bm))) (hM : MapAt w bm L) (hL : L.length ≤ 1000000) :
    CallsIn Fence.wide n Tryz.prog 53 #[.func (.func 91) #[] #[.pointer (some ⟨B, 0, none⟩)], .func (.func 55) #[] #[]] w (FilesPost w L) := by
  have hs := hM.sorted
  refine callsIn_of_wp Tryz.func53 rfl trivial ?_ rfl
  simp only [Tryz.ntmps53, List.size_toArray, List.length_cons, List.length_nil, Nat.reduceAdd, Nat.reduceSub, Array.replicate_succ, Array.replicate_zero, List.push_toArray, List.append_toArray, List.nil_append, List.cons_append]
  gi_wp2_with (refine ⟨trivial, fun _ => by omega, ?_⟩; gi_at_call 89; refine (Collect_any (n - 1) (by omega) B _ hB hm hM hL).mono ?_; rintro e w1 ⟨v, xs, rfl, h1, h2, h3⟩)
  rcases Nat.eq_zero_or_pos xs.length with h0 | h0
  · obtain rfl : xs = [] := List.eq_nil_of_length_eq_zero h0
    obtain rfl : L = [] := h1.symm.eq_nil
    obtain ⟨a, c, rfl⟩ : ∃ a c, v = .slice a 0 c := by
      rcases h2.2 with ⟨rfl, _⟩ | ⟨g, cap, cur, rfl, _⟩
      · exact ⟨_, _, rfl⟩
      · exact ⟨_, _, rfl⟩
    have hcon := fun fv W => AnyF.slices_SortFunc_none Tryz.laysSortF a c fv W
    change ∀ fv W, Calls Tryz.prog 90 _ _ _ at hcon
    gi_wp2_with (refine ⟨trivial, fun _ => by omega, ?_⟩; gi_at_call 90; refine (callsIn_wide.2 (hcon _ _)).mono ?_; rintro e w2 ⟨rfl, rfl⟩)
    go_ret
    exact ⟨_, rfl, .inl ⟨rfl, _, _, rfl⟩, ⟨_, _, rfl⟩, h3⟩
  · obtain ⟨g, cap, rfl, hb, hg, hH⟩ := holdsK_own h2 h0
    have eg : ∀ args w, (callFunc 55 args).run Tryz.prog w = .ok (.enter 55 args) w := enters_of Tryz.func55 (by kernel_rfl) rfl
    have hxl := h1.length_eq
    have hcon := AnyQ.slices_SortFunc Tryz.laysSortF 4 Tryz.isAgg44 Tryz.sizeOf44 fC (fun _ => rfl) (fun x v hv => by simp [fC] at hv; rcases hv with rfl | rfl | rfl | rfl <;> rfl) cmpF swoF 55 #[] g 0 cap xs.toArray w1 eg
      (fun m os dk _ x y => closure_any x y _) hH hg (by simp; omega)
    change Calls Tryz.prog 90 _ _ _ at hcon
    simp only [List.size_toArray] at hcon
    have HC := Lib.hid hcon
    have HH := Lib.hid hH
    clear hcon hH hxl
    gi_wp2_with (refine ⟨trivial, fun _ => by omega, ?_⟩; gi_at_call 90; refine (callsIn_wide.2 HC.out).mono ?_; rintro e w2 ⟨rfl, d, nn, os, hp, ho, rfl⟩)
    go_ret
    have hd : d.size = xs.length := by simpa using hp.1
    have hxl := h1.length_eq
    have hB2 := grown_sortedK (w := w1) (g := g) (n := nn) (os := os) d
    have hL2 := sorted_is hs h1 hp ho
    refine ⟨.slice (some ⟨g, 0, none⟩) xs.length cap, rfl, ?_, ⟨some ⟨g, 0, none⟩, cap, by rw [← hxl]⟩, h3.grown hB2 h3.size (fun j e => by cases e; exact hb)⟩
    have := files_holdsK (cap := cap) (n := xs.length) (holdsK_sortWorldK fC 4 w1 g 0 nn xs.toArray d os hg HH.out (by simpa using hd)) (lt_sortWorldK fC 4 w1 g 0 nn d os hg) hd
    rw [hL2] at this
    exact this

set_option maxHeartbeats 1000000 in
theorem All_any (w : World) {sb bm : Nat} {L : List F} {c : Int} (hS : StoreAt w sb bm L c) (hL : L.length ≤ 1000000) :
    Calls Tryz.prog 29 #[.pointer (some ⟨sb, 0, none⟩)] w (FilesPost w L) := by
  have c1 := hS.c1
  have hlt := hS.lt
  have hM := (hS.map).alloc (.cells #[.map (some bm)] 55)
  have hm := (Boxed.new w 55 (.map (some bm))).cell
  clear hS
  refine (callsIn_wide (n := 9)).1 ?_
  refine callsIn_of_wp Tryz.func29 rfl trivial ?_ rfl
  simp only [Tryz.ntmps29, List.size_toArray, List.length_cons, List.length_nil, Nat.reduceAdd, Nat.reduceSub, Array.replicate_succ, Array.replicate_zero, List.push_toArray, List.append_toArray, List.nil_append, List.cons_append]
  gi_wp2_with (first
    | (refine ⟨trivial, ?_⟩; gi_at_call 54; refine (Values_any _ _ bm).mono ?_; rintro e w1 ⟨rfl, rfl⟩)
    | (refine ⟨trivial, ?_⟩; gi_at_call 53; refine (SortedFunc_any _ (by omega) w.heap.size _ (by simp) hm hM hL).mono ?_; rintro e w2 ⟨v, rfl, h1, h2, h3⟩))
  go_ret
  exact ⟨v, rfl, h1, h2, ((Below.refl _ w).alloc (Nat.le_refl _) _).trans (h3.mono (by simp))⟩

end Go.Proofs.YteommneijlelkaaGreatDoor.Sw
namespace Go.Proofs.YteommneijlelkaaGreatDoor.Sw
open Go.RowKit Go.Proofs.YteommneijlelkaaGreatDoor Go.Maps
set_option maxRecDepth 100000

def addAll (s : St) : List F → St × Int
  | [] => (s, 0)
  | f :: r => if (addA s f).2 ≠ 0 then addA s f else addAll (addA s f).1 r
def surrAll (L : List F) : List F → List F
  | [] => L
  | f :: r => surrAll (surrA L (dirL f.p)) r
theorem addAll_cons (s : St) (f : F) (r : List F) : addAll s (f :: r) = if (addA s f).2 ≠ 0 then addA s f else addAll (addA s f).1 r := rfl
theorem surrAll_cons (L : List F) (f : F) (r : List F) : surrAll L (f :: r) = surrAll (surrA L (dirL f.p)) r := rfl
/-- A new store, or the error. -/
def newA (l : List F) : St × Int :=
  if (addAll ⟨[], 0⟩ l).2 ≠ 0 then (⟨[], 0⟩, (addAll ⟨[], 0⟩ l).2) else
  if blockedA (addAll ⟨[], 0⟩ l).1.L = true then (⟨[], 0⟩, 4) else
  if 4096 < (surrAll (addAll ⟨[], 0⟩ l).1.L l).length then (⟨[], 0⟩, 12) else (⟨surrAll (addAll ⟨[], 0⟩ l).1.L l, (addAll ⟨[], 0⟩ l).1.c⟩, 0)

def NewPost (w : World) (r : St × Int) (e : Ending) (w' : World) : Prop :=
  if r.2 = 0 then ∃ sb bm, e = .returned (.tuple #[.pointer (some ⟨sb, 0, none⟩), .int .i64 0]) ∧ w.heap.size ≤ sb ∧ w.heap.size ≤ bm ∧ StoreAt w' sb bm r.1.L r.1.c ∧ Below w.heap.size w w'
  else e = .returned (.tuple #[.pointer none, .int .i64 r.2]) ∧ Below w.heap.size w w'

theorem surrN_len : ∀ (n : Nat) (L : List F) (d : List UInt8), (surrN n L d).length ≤ max L.length 4097
  | 0, L, d => by show L.length ≤ _; omega
  | n + 1, L, d => by
    unfold surrN
    split
    · omega
    · split
      · omega
      · have := surrN_len n (Sp.ins L (dirF d)) (dirL d)
        have h2 := Sp.len_ins L (dirF d)
        split at h2 <;> omega

theorem store_new (w : World) : StoreAt ((w.alloc (.map #[] 0)).alloc (.cells #[.int .i64 0, .map (some w.heap.size)] 62)) (w.heap.size + 1) w.heap.size [] 0 := by
  have h1 := World.ownsMap_made w Tryz.prog 9 fElem
  have h2 : MapAt (w.alloc (.map #[] 0)) w.heap.size [] := ⟨h1, List.Pairwise.nil⟩
  have h3 := World.alloc_heap_new (w.alloc (.map #[] 0)) (.cells #[.int .i64 0, .map (some w.heap.size)] 62)
  simp only [World.size_alloc] at h3
  exact ⟨h3, h2.alloc _⟩

set_option maxHeartbeats 2000000 in
theorem New_none (w : World) (a : Option Addr) (c : Nat) :
    Calls Tryz.prog 6 #[.slice a 0 c] w (NewPost w (newA [])) := by
  have hmm := @run_makeMap Tryz.prog
  have hS := store_new w
  have hB : Below w.heap.size w ((w.alloc (.map #[] 0)).alloc (.cells #[.int .i64 0, .map (some w.heap.size)] 62)) := ((Below.refl _ w).alloc (Nat.le_refl _) _).alloc (by simp) _
  have HS := Lib.hid hS
  clear hS
  go_enter Tryz.func6, Tryz.ntmps6
  go_wp2
  generalize ((w.alloc (.map #[] 0)).alloc (.cells #[.int .i64 0, .map (some w.heap.size)] 62)) = W at *
  refine wp_loop_rounds 1 ?_
  rw [rounds_succ]
  go_wp2_with fail
  refine (blocked_any W HS.out (by simp) (by simp)).mono ?_
  rintro e w1 ⟨rfl, B1⟩
  have hS1 := HS.out.below B1
  have c1 := hS1.c1
  have hlt := hS1.lt
  have hM := hS1.map
  rw [show blockedA [] = false from rfl]
  go_wp2
  refine wp_loop_rounds 1 ?_
  rw [rounds_succ]
  go_wp2_with (at_len; refine wpList_size _ rfl _ rfl rfl hM ?_)
  go_ret2
  exact ⟨_, _, rfl, by omega, Nat.le_refl _, hS1, hB.trans (B1.mono hB.size)⟩

theorem addAll_mem : ∀ (l : List F) (s : St), Sp.Sorted s.L → ∀ f ∈ (addAll s l).1.L, f ∈ s.L ∨ f ∈ l
  | [], s, _, f, h => .inl h
  | g :: r, s, hs, f, h => by
    have h1 : ∀ x ∈ (addA s g).1.L, x ∈ s.L ∨ x = g := fun x hx => by
      unfold addA at hx
      split at hx
      · exact .inl hx
      · split at hx
        · exact .inl hx
        · rcases (Sp.mem_ins hs x).1 hx with e | ⟨e, _⟩
          · exact .inr e
          · exact .inl e
    have h2 : Sp.Sorted (addA s g).1.L := by
      unfold addA
      split
      · exact hs
      · split
        · exact hs
        · exact Sp.sorted_ins hs
    rw [addAll_cons] at h
    split at h
    · rcases h1 f h with e | e
      · exact .inl e
      · exact .inr (by simp [e])
    · rcases addAll_mem r _ h2 f h with e | e
      · rcases h1 f e with e | e
        · exact .inl e
        · exact .inr (by simp [e])
      · exact .inr (by simp [e])

theorem addA_len (s : St) (f : F) : (addA s f).1.L.length ≤ s.L.length + 1 := by
  unfold addA
  split
  · simp
  · split
    · simp
    · show (Sp.ins s.L f).length ≤ _
      rw [Sp.len_ins]; split <;> omega

/-- The files that were passed, and how they lie. -/
structure Given (w : World) (b o c : Nat) (l : List F) : Prop where
  lt : b < w.heap.size
  cell : ∀ j f, l[j]? = some f → w.cell? ⟨b, o + j * 4, none⟩ = some (.string (str f.p)) ∧ w.cell? ⟨b, o + j * 4 + 1, none⟩ = some (.string (str f.t)) ∧ w.cell? ⟨b, o + j * 4 + 2, none⟩ = some (.int .i64 f.c) ∧ w.cell? ⟨b, o + j * 4 + 3, none⟩ = some (.bool f.d)
  small : ∀ f ∈ l, f.p.length ≤ 100000 ∧ f.t.length ≤ 1000000000
  len : l.length ≤ 10000
theorem Given.later {w w' : World} {b o c : Nat} {l : List F} (h : Given w b o c l) (hB : Below w.heap.size w w') : Given w' b o c l :=
  ⟨Nat.lt_of_lt_of_le h.lt hB.size, fun j f hf => by
    have e := fun i => hB.cell (p := ⟨b, i, none⟩) h.lt
    obtain ⟨a0, a1, a2, a3⟩ := h.cell j f hf
    exact ⟨(e _).trans a0, (e _).trans a1, (e _).trans a2, (e _).trans a3⟩, h.small, h.len⟩

def NwRel (w : World) (l : List F) (v : Value) (wr : World) : Prop :=
  ∃ (k : Nat) (st : St), v = .int .i64 k ∧ k ≤ l.length ∧ addAll ⟨[], 0⟩ l = addAll st (l.drop k) ∧ StoreAt wr (w.heap.size + 1) w.heap.size st.L st.c ∧ Below w.heap.size w wr ∧ st.L.length ≤ k

def SwRel (w : World) (l L : List F) (c : Int) (v : Value) (wr : World) : Prop :=
  ∃ (k : Nat) (M : List F), v = .int .i64 k ∧ k ≤ l.length ∧ surrAll L l = surrAll M (l.drop k) ∧ StoreAt wr (w.heap.size + 1) w.heap.size M c ∧ Below w.heap.size w wr ∧ M.length ≤ 20000

theorem drop_at {l : List F} {k : Nat} {f : F} (h : l[k]? = some f) : l.drop k = f :: l.drop (k + 1) := by
  obtain ⟨hk, e⟩ := List.getElem?_eq_some_iff.1 h
  rw [List.drop_eq_getElem_cons hk, e]

set_option maxHeartbeats 4000000 in
theorem New_some (w : World) (b o c : Nat) (l : List F) (hG : Given w b o c l) :
    Calls Tryz.prog 6 #[.slice (some ⟨b, o, none⟩) l.length c] w (NewPost w (newA l)) := by
  have hmm := @run_makeMap Tryz.prog
  have hS := store_new w
  have hB : Below w.heap.size w ((w.alloc (.map #[] 0)).alloc (.cells #[.int .i64 0, .map (some w.heap.size)] 62)) := ((Below.refl _ w).alloc (Nat.le_refl _) _).alloc (by simp) _
  have HS := Lib.hid hS
  have hl := hG.len
  clear hS
  go_enter Tryz.func6, Tryz.ntmps6
  go_wp2
  clear hmm
  generalize ((w.alloc (.map #[] 0)).alloc (.cells #[.int .i64 0, .map (some w.heap.size)] 62)) = W at *
  go_loopw [15] (fun v wr => NwRel w l v wr) (fun v _ => l.length - (intOf v).toNat)
  case atStart => exact ⟨0, ⟨[], 0⟩, rfl, Nat.zero_le _, rfl, HS.out, hB, Nat.le_refl _⟩
  case round =>
    obtain ⟨k, st, rfl, hk, hrun, hSt, hBr, hlen⟩ := hrel
    clear HS hB
    by_cases hlt : k < l.length
    · obtain ⟨f, hf⟩ : ∃ f, l[k]? = some f := ⟨_, List.getElem?_eq_getElem hlt⟩
      obtain ⟨a0, a1, a2, a3⟩ := (hG.later hBr).cell k f hf
      obtain ⟨s1, s2⟩ := hG.small f (List.mem_of_getElem? hf)
      rw [drop_at hf, addAll_cons] at hrun
      have hcon := fun oo => add_any (wr.alloc oo) f (hSt.alloc oo) (by omega) s2 (by omega)
      have hal := addA_len st f
      obtain ⟨⟨t, n⟩, hr⟩ : ∃ r, addA st f = r := ⟨_, rfl⟩
      rw [hr] at hrun hcon hal
      simp only at hrun hal
      have HR := Lib.hid hrun
      have HC := Lib.hid hcon
      have ik : (k : Int) < l.length := by omega
      have hbl : b < wr.heap.size := (hG.later hBr).lt
      clear hrun hcon hr hf
      by_cases hn : n = 0
      · subst hn
        go_wp2_with (go_at_call 14; go_must (refine (HC.out _).mono ?_); rintro e w2 ⟨rfl, hS2, hK2⟩)
        go_roundw
        case rel => exact ⟨k + 1, t, by go_num, by omega, HR.out.trans (if_neg (by simp)), hS2, (hBr.alloc hBr.size _).trans (hK2.to_below (by have := hBr.size; simp; omega) (by simp)), by omega⟩
        case measure => simp [intOf]; omega
      · have hn' : (n == 0) = false := by simpa using hn
        have HE : Hid (newA l = (⟨[], 0⟩, n)) := Lib.hid (by
          have h1 : addAll ⟨[], 0⟩ l = (t, n) := HR.out.trans (if_pos hn)
          unfold newA; rw [h1, if_pos hn])
        go_wp2_with (go_at_call 14; go_must (refine (HC.out _).mono ?_); rintro e w2 ⟨rfl, hS2, hK2⟩)
        go_ret2
        rw [HE.out]
        unfold NewPost
        rw [if_neg hn]
        exact ⟨rfl, (hBr.alloc hBr.size _).trans (hK2.to_below (by have := hBr.size; simp; omega) (by simp))⟩
    · obtain rfl : k = l.length := by omega
      rw [List.drop_length] at hrun
      have h1 : addAll ⟨[], 0⟩ l = (st, 0) := hrun
      have hmem := fun f hf => addAll_mem l ⟨[], 0⟩ List.Pairwise.nil f (by rw [h1]; exact hf)
      have hpl : ∀ f ∈ st.L, f.p.length ≤ 1000000 := fun f hf => by
        rcases hmem f hf with h | h
        · cases h
        · have := (hG.small f h).1; omega
      clear hrun hmem
      have H1 := Lib.hid h1
      clear h1
      go_wp2_with fail
      refine (blocked_any wr hSt (by omega) hpl).mono ?_
      rintro e w1 ⟨rfl, B1⟩
      have hS1 := hSt.below B1
      have hB1 := hBr.trans (B1.mono hBr.size)
      cases hbl : blockedA st.L with
      | true =>
        have HE : Hid (newA l = (⟨[], 0⟩, 4)) := Lib.hid (by unfold newA; rw [H1.out, if_neg (by simp), if_pos hbl])
        clear hbl
        go_wp2
        go_ret2
        rw [HE.out]
        exact ⟨rfl, hB1⟩
      | false =>
        have HBl := Lib.hid hbl
        clear hbl
        go_wp2
        have hsl : st.L.length ≤ 20000 := by omega
        have hc9 := Lib.hid (rfl : st.c = st.c)
        go_loopw [30] (fun v wr => SwRel w l st.L st.c v wr) (fun v _ => l.length - (intOf v).toNat)
        case atStart => exact ⟨0, st.L, rfl, Nat.zero_le _, rfl, hS1, hB1, hsl⟩
        case round =>
          obtain ⟨k, M, rfl, hk, hrun, hSt, hBr, hlen⟩ := hrel
          clear hS1 hB1 B1
          by_cases hlt : k < l.length
          · obtain ⟨f, hf⟩ : ∃ f, l[k]? = some f := ⟨_, List.getElem?_eq_getElem hlt⟩
            obtain ⟨a0, a1, a2, a3⟩ := (hG.later hBr).cell k f hf
            obtain ⟨s1, s2⟩ := hG.small f (List.mem_of_getElem? hf)
            rw [drop_at hf, surrAll_cons] at hrun
            have hps : (str f.p).size ≤ 999999 := by rw [← bs_len, bs_str]; omega
            have hcon := fun oo => surround_any (wr.alloc oo) (str f.p) (hSt.alloc oo) hps (by omega)
            rw [bs_str] at hcon
            have hsn := surrN_len (mu (dirL f.p) + 1) M (dirL f.p)
            have hsn2 : (surrA M (dirL f.p)).length ≤ 20000 := by unfold surrA; omega
            obtain ⟨M2, hM2⟩ : ∃ M2, surrA M (dirL f.p) = M2 := ⟨_, rfl⟩
            rw [hM2] at hcon hrun hsn2
            have HR := Lib.hid hrun
            have HC := Lib.hid hcon
            have ik : (k : Int) < l.length := by omega
            have hbl : b < wr.heap.size := (hG.later hBr).lt
            clear hrun hcon hf hM2 hsn hk
            go_wp2_with (go_at_call 16; go_must (refine (HC.out _).mono ?_); rintro e w2 ⟨rfl, hS2, hK2⟩)
            go_roundw
            case rel => exact ⟨k + 1, M2, by go_num, by omega, HR.out, hS2, (hBr.alloc hBr.size _).trans (hK2.to_below (by have := hBr.size; simp; omega) (by simp)), hsn2⟩
            case measure => simp [intOf]; omega
          · obtain rfl : k = l.length := by omega
            rw [List.drop_length] at hrun
            have HR : Hid (surrAll st.L l = M) := Lib.hid hrun
            have c1 := hSt.c1
            have hlt2 := hSt.lt
            have hM := hSt.map
            clear hrun
            by_cases h4 : 4096 < M.length
            · have i4 : (4096 : Int) < M.length := by omega
              have HE : Hid (newA l = (⟨[], 0⟩, 12)) := Lib.hid (by unfold newA; rw [H1.out, if_neg (by simp), if_neg (by simp [HBl.out]), if_pos (by rw [HR.out]; exact h4)])
              go_wp2_with (at_len; refine wpList_size _ rfl _ rfl rfl hM ?_)
              go_ret2
              rw [HE.out]
              exact ⟨rfl, hBr⟩
            · have i4 : ¬ (4096 : Int) < M.length := by omega
              have HE : Hid (newA l = (⟨M, st.c⟩, 0)) := Lib.hid (by unfold newA; rw [H1.out, if_neg (by simp), if_neg (by simp [HBl.out]), if_neg (by rw [HR.out]; exact h4), HR.out])
              go_wp2_with (at_len; refine wpList_size _ rfl _ rfl rfl hM ?_)
              go_ret2
              rw [HE.out]
              exact ⟨_, _, rfl, by omega, Nat.le_refl _, hSt, hBr⟩
end Go.Proofs.YteommneijlelkaaGreatDoor.Sw
