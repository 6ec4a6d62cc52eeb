/-
  slices.IndexFunc, ContainsFunc and DeleteFunc of strings; text.list.
-/
import Derived.Lib.OwnBridge
import Derived.Test.YtenokbceamcekaaGreatDoorQEPBase
namespace Go.Proofs.YtenokbceamcekaaGreatDoor.Ew
open Go.RowKit Go.Proofs.YtenokbceamcekaaGreatDoor Go.Proofs.YtenokbceamcekaaGreatDoor.Ww Go.Proofs.YtenokbceamcekaaGreatDoor.Tw
set_option maxRecDepth 100000

abbrev LT : TypeId := 22
theorem part_size (s : ByteArray) (x : Nat × Nat) : (Ww.part s x).size ≤ s.size := by
  unfold Ww.part; rw [ByteArray.size_extract]; omega

def IxPost (w : World) (l : List ByteArray) (p : ByteArray → Bool) (e : Ending) (w' : World) : Prop := ∃ i : Int, e = .returned (.int .i64 i) ∧ decide (0 ≤ i) = l.any p ∧ (l.any p = false → i = -1) ∧ Below w.heap.size w w'
theorem any_take {l : List ByteArray} {p : ByteArray → Bool} {k : Nat} (h : k < l.length) : (l.take (k + 1)).any p = ((l.take k).any p || p l[k]) := by
  rw [List.take_succ_eq_append_getElem h, List.any_append]; simp
theorem any_hit {l : List ByteArray} {p : ByteArray → Bool} {k : Nat} (h : k < l.length) (hp : p l[k] = true) : l.any p = true := by
  rw [List.any_eq_true]; exact ⟨_, List.getElem_mem h, hp⟩
set_option maxHeartbeats 2000000 in
theorem PIndexFunc_any (w : World) (v : Value) (l : List ByteArray) (p : ByteArray → Bool) (g : Nat) (lb : Array Value) (eg : ∀ args w, (callFunc g args).run Tryz.prog w = .ok (.enter g args) w) (hr : Rd w w.heap.size v (strsC l)) (hl : l.length ≤ 1000000)
    (hp : ∀ W x, x ∈ l → Below w.heap.size w W → Calls Tryz.prog g (#[.string x] ++ lb) W fun e w' => e = .returned (.bool (p x)) ∧ Below W.heap.size W w') :
    Calls Tryz.prog 121 #[v, .func (.func g) #[] lb] w (IxPost w l p) := by
  have HR := Lib.hid hr
  have HP := Lib.hid hp
  obtain ⟨a0, c0, rfl, hc0⟩ := hr.shape
  rw [strsC_len] at *
  clear hr hp
  go_enter Tryz.func121, Tryz.ntmps121
  go_wp2_with fail
  go_loopw [5, 8] (fun _ vi wr => ∃ k : Nat, vi = .int .i64 k ∧ k ≤ l.length ∧ (l.take k).any p = false ∧ Below w.heap.size w wr) (fun _ vi _ => l.length - (intOf vi).toNat)
  case atStart => exact ⟨0, rfl, Nat.zero_le _, rfl, Below.refl _ _⟩
  case round =>
    obtain ⟨k, rfl, hk, hn, hB⟩ := hrel
    by_cases hlt : k < l.length
    · obtain ⟨b, o, c', hv, hc', hb, hx⟩ := HR.out.open_ (by rw [strsC_len]; omega)
      rw [strsC_len] at hv hc'
      obtain ⟨rfl, _, rfl⟩ := (Value.slice.injEq ..).mp hv
      have hcx : wr.cell? ⟨b, o + k, none⟩ = some (.string l[k]) := (hB.cell (p := ⟨b, o + k, none⟩) hb).trans (hx k _ (strsC_get l hlt))
      have hki : (k : Int) < l.length := by omega
      have hk0 : (0 : Int) ≤ (k : Int) := Int.natCast_nonneg _
      have hgv : l.length ≤ c0 := by omega
      have HC := Lib.hid (HP.out wr l[k] (List.getElem_mem hlt) hB)
      have HBB := Lib.hid hB
      cases hq : p l[k] with
      | false =>
        have HN : Hid ((l.take (k + 1)).any p = false) := Lib.hid (by rw [any_take hlt, hn, hq]; rfl)
        rw [hq] at HC
        clear hx hq hn hB
        generalize l[k] = x at *
        go_wp2_with (go_at_fn g; refine HC.out.mono ?_; rintro e w1 ⟨rfl, B1⟩)
        go_roundw
        case rel => exact ⟨k + 1, by go_num, hlt, HN.out, HBB.out.trans (B1.mono HBB.out.size)⟩
        case measure => simp [intOf]; omega
      | true =>
        have HN : Hid (l.any p = true) := Lib.hid (any_hit hlt hq)
        rw [hq] at HC
        clear hx hq hn hB
        generalize l[k] = x at *
        go_wp2_with (go_at_fn g; refine HC.out.mono ?_; rintro e w1 ⟨rfl, B1⟩)
        go_ret
        exact ⟨_, rfl, by rw [HN.out]; exact decide_eq_true hk0, fun h => (by rw [HN.out] at h; cases h), HBB.out.trans (B1.mono HBB.out.size)⟩
    · obtain rfl : k = l.length := by omega
      have hki : ¬ (l.length : Int) < l.length := by omega
      have HN : Hid (l.any p = false) := Lib.hid (by rw [List.take_of_length_le (Nat.le_refl _)] at hn; exact hn)
      have HBB := Lib.hid hB
      clear hn hB
      go_wp2_with fail
      go_ret
      exact ⟨-1, rfl, by rw [HN.out]; rfl, fun _ => rfl, HBB.out⟩
set_option maxHeartbeats 2000000 in
theorem PContainsFunc_any (w : World) (v : Value) (l : List ByteArray) (p : ByteArray → Bool) (g : Nat) (lb : Array Value) (eg : ∀ args w, (callFunc g args).run Tryz.prog w = .ok (.enter g args) w) (hr : Rd w w.heap.size v (strsC l)) (hl : l.length ≤ 1000000)
    (hp : ∀ W x, x ∈ l → Below w.heap.size w W → Calls Tryz.prog g (#[.string x] ++ lb) W fun e w' => e = .returned (.bool (p x)) ∧ Below W.heap.size W w') :
    Calls Tryz.prog 111 #[v, .func (.func g) #[] lb] w fun e w' => e = .returned (.bool (l.any p)) ∧ Below w.heap.size w w' := by
  have HC := Lib.hid (PIndexFunc_any w v l p g lb eg hr hl hp)
  obtain ⟨a0, c0, rfl, hc0⟩ := hr.shape
  clear hp hr eg
  obtain ⟨q, HQ⟩ : ∃ q, Hid (l.any p = q) := ⟨_, Lib.hid rfl⟩
  rw [HQ.out]
  go_enter Tryz.func111, Tryz.ntmps111
  go_wp2_with fail
  refine HC.out.mono ?_
  rintro e w1 ⟨i, rfl, hi, hn, B1⟩
  have HI := Lib.hid hi
  clear hi hn
  by_cases h0 : 0 ≤ i
  · go_wp2_with fail
    go_ret
    rw [← HQ.out, ← HI.out, decide_eq_true h0]
    exact ⟨rfl, B1⟩
  · go_wp2_with fail
    go_ret
    rw [← HQ.out, ← HI.out, decide_eq_false (by omega)]
    exact ⟨rfl, B1⟩

def emptyB (x : ByteArray) : Bool := decide (by8 x = [])
def fullS (l : List ByteArray) : List ByteArray := l.filter fun p => decide (by8 p ≠ [])
theorem full_not (l : List ByteArray) : (l.filter fun x => !emptyB x) = fullS l := by
  unfold fullS
  congr 1
  funext x
  unfold emptyB
  by_cases h : by8 x = []
  · rw [decide_eq_true h, decide_eq_false (fun h' => h' h)]; rfl
  · rw [decide_eq_false h, decide_eq_true h]; rfl
theorem list1_any (w : World) (x : ByteArray) : Calls Tryz.prog 104 #[.string x] w fun e w' => e = .returned (.bool (emptyB x)) ∧ w = w' := by
  have hb : (x.toList == []) = emptyB x := by
    unfold emptyB
    rw [toList_by8]
    by_cases h : by8 x = []
    · rw [h, decide_eq_true rfl]; rfl
    · rw [decide_eq_false h]; exact beq_eq_false_iff_ne.2 h
  generalize emptyB x = q at *
  go_enter Tryz.func104, Tryz.ntmps104
  cases q
  · go_wp2_with fail
    go_ret
    exact ⟨rfl, rfl⟩
  · go_wp2_with fail
    go_ret
    exact ⟨rfl, rfl⟩
theorem list1_gives (w : World) (x : ByteArray) : Go.Proofs.FnGives Tryz.prog 104 #[] #[.string x] (.bool (emptyB x)) w :=
  (list1_any w x).mono fun e w' ⟨he, hw⟩ => ⟨he, 0, by rw [← hw]; rfl⟩
theorem keeps_below {W w5 : World} (h : Below W.heap.size W w5) : KeepsOthers W w5 :=
  ⟨h.size, fun k _ hk _ => (h.block k (Array.getElem?_eq_some_iff.1 hk).1).trans hk⟩
theorem keeps_putRow {α : Type} [Inhabited α] (enc : α → Value) (w : World) (q g : Nat) (d : Array α) : KeepsOthers w (Sort.putRow enc (Sort.ahead w q) g 0 d) :=
  ⟨by simp [Sort.putRow, Sort.mapBlock, Sort.ahead], fun k o hk hc => by
    by_cases h : g = k
    · subst h
      cases o <;> first | (cases hc; done) | (simp [Sort.putRow, Sort.mapBlock, Sort.ahead, Array.getElem?_modify, hk, Sort.onCells])
    · simp [Sort.putRow, Sort.mapBlock, Sort.ahead, Array.getElem?_modify, h, hk]⟩
def DelPost (w : World) (base : Nat) (l : List ByteArray) (e : Ending) (w' : World) : Prop := ∃ v, e = .returned v ∧ w'.ownsRow base ST 1 v l.length (strsC l) ∧ Below base w w' ∧ KeepsOthers w w'
theorem eg_list1 : ∀ args w, (callFunc 104 args).run Tryz.prog w = .ok (.enter 104 args) w := enters_of Tryz.func104 (by kernel_rfl) rfl
set_option maxHeartbeats 2000000 in
theorem PDelete_any (w : World) (base : Nat) (v : Value) (l : List ByteArray) (ho : w.ownsRow base ST 1 v l.length (strsC l)) (hb : base ≤ w.heap.size) (hl : l.length ≤ 1000000) :
    Calls Tryz.prog 103 #[v, .func (.func 104) #[] #[]] w (DelPost w base (fullS l)) := by
  by_cases hv : v = .slice none 0 0
  · subst hv
    have h0 : l = [] := by
      rcases ho.2 with ⟨_, h⟩ | ⟨g, cap, cur, h, _⟩
      · exact List.length_eq_zero_iff.1 h
      · cases h
    subst h0
    have HC := Lib.hid (PIndexFunc_any w (.slice none 0 0) [] emptyB 104 #[] eg_list1 (Rd.nil _ _ _ _) (Nat.zero_le _) (fun W x hx => by cases hx))
    clear ho
    go_enter Tryz.func103, Tryz.ntmps103
    go_wp2_with fail
    refine HC.out.mono ?_
    rintro e w1 ⟨i, rfl, _, hi, B1⟩
    obtain rfl := hi rfl
    go_wp2_with fail
    go_ret
    exact ⟨_, rfl, World.ownsRow_nil _ _ _ _, B1.mono hb, keeps_below B1⟩
  · obtain ⟨g, cap, rfl, hg, hgl, hn, hm, _, hH⟩ := Lib.holds_of_ownsRow (enc := Value.string) (zs := l) ho hv
    have HC := AnyE.slices_DeleteFunc Tryz.laysDelete Value.string (fun _ => rfl) emptyB 104 #[] eg_list1 ByteArray.empty Tryz.zeroValue9 g 0 cap l.toArray w (fun W x _ => list1_gives W x) (fun n os dk x _ => list1_gives _ x) hH (by simp; omega) (by simpa using hn)
    have e0 : l.toArray.size = l.length := by simp
    rw [e0] at HC
    refine HC.mono ?_
    rintro e w' ⟨rfl, q, rfl⟩
    rw [full_not]
    have hfl : (fullS l).length ≤ l.length := List.length_filter_le _ _
    refine ⟨_, rfl, ?_, Lib.below_putRow (Below.refl _ _) hg, keeps_putRow _ _ _ _ _⟩
    have := Lib.ownsRow_putRow (enc := Value.string) (q := q) (ys := fullS l ++ List.replicate (l.length - (fullS l).length) ByteArray.empty) (k := (fullS l).length) ho (by rw [List.length_append, List.length_replicate]; omega) hfl
    rw [List.take_left'  rfl] at this
    exact this
theorem full_size {l : List ByteArray} {n : Nat} (h : ∀ x ∈ l, x.size ≤ n) : ∀ x ∈ fullS l, x.size ≤ n := fun x hx => h x ((List.mem_filter.1 hx).1)
set_option maxHeartbeats 2000000 in
theorem Plist_any (w : World) (base : Nat) (v : Value) (l : List ByteArray) (ho : w.ownsRow base ST 1 v l.length (strsC l)) (hb : base ≤ w.heap.size) (hl : l.length ≤ 100000) (hs : ∀ x ∈ l, x.size ≤ 100000) :
    Calls Tryz.prog 84 #[v] w fun e w' => e = .returned (.string (joinS (fullS l))) ∧ Below base w w' ∧ KeepsOthers w w' := by
  have HC := Lib.hid (PDelete_any w base v l ho hb (by omega))
  have HF := Lib.hid (full_size hs)
  have hfl : (fullS l).length ≤ l.length := List.length_filter_le _ _
  obtain ⟨a, c, rfl⟩ := owns_slice ho
  clear ho hs
  generalize fullS l = F at *
  go_enter Tryz.func84, Tryz.ntmps84
  go_wp2_with fail
  refine HC.out.mono ?_
  rintro e w1 ⟨v1, rfl, ho1, B1, K1⟩
  have HJ := Lib.hid (PJoin_any w1 v1 F (Rd.of_own ho1) (by omega) HF.out)
  obtain ⟨a1, c1, rfl⟩ := owns_slice ho1
  clear ho1
  go_wp2_with fail
  refine HJ.out.mono ?_
  rintro e w2 ⟨rfl, B2⟩
  go_wp2_with fail
  go_ret
  exact ⟨rfl, B1.trans (B2.mono (by have := B1.size; omega)), K1.trans (keeps_below B2)⟩
end Go.Proofs.YtenokbceamcekaaGreatDoor.Ew
