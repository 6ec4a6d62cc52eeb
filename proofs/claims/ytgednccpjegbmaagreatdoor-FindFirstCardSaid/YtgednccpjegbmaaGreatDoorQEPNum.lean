/-
  slices.IndexFunc, ContainsFunc and DeleteFunc of strings; text.list.
  text.each: a text's words, each changed by a function, those that aren't empty put together.
  words.Trim, in the answer's words.
  package text: number, wordlist, word.
-/
import Derived.Lib.OwnBridge
import Derived.Test.YtgednccpjegbmaaGreatDoorQEPBase
import Derived.Test.YtgednccpjegbmaaGreatDoorQShelfE
import Derived.Test.YtgednccpjegbmaaGreatDoorQAPlain
namespace Go.Proofs.YtgednccpjegbmaaGreatDoor.Ew
open Go.RowKit Go.Proofs.YtgednccpjegbmaaGreatDoor Go.Proofs.YtgednccpjegbmaaGreatDoor.Ww Go.Proofs.YtgednccpjegbmaaGreatDoor.Tw
set_option maxRecDepth 100000

abbrev LT : TypeId := 76
theorem part_size (s : ByteArray) (x : Nat × Nat) : (Ww.part s x).size ≤ s.size := by
  unfold Ww.part; rw [ByteArray.size_extract]; omega

def IxPost (w : World) (l : List ByteArray) (p : ByteArray → Bool) (e : Ending) (w' : World) : Prop := ∃ i : Int, e = .returned (.int .i64 i) ∧ decide (0 ≤ i) = l.any p ∧ (l.any p = false → i = -1) ∧ Below w.heap.size w w'
theorem any_take {l : List ByteArray} {p : ByteArray → Bool} {k : Nat} (h : k < l.length) : (l.take (k + 1)).any p = ((l.take k).any p || p l[k]) := by
  rw [List.take_succ_eq_append_getElem h, List.any_append]; simp
theorem any_hit {l : List ByteArray} {p : ByteArray → Bool} {k : Nat} (h : k < l.length) (hp : p l[k] = true) : l.any p = true := by
  rw [List.any_eq_true]; exact ⟨_, List.getElem_mem h, hp⟩
set_option maxHeartbeats 2000000 in
theorem PIndexFunc_any (w : World) (v : Value) (l : List ByteArray) (p : ByteArray → Bool) (g : Nat) (lb : Array Value) (eg : ∀ args w, (callFunc g args).run Tryz.prog w = .ok (.enter g args) w) (hr : Rd w w.heap.size v (strsC l)) (hl : l.length ≤ 1000000)
    (hp : ∀ W x, x ∈ l → Below w.heap.size w W → Calls Tryz.prog g (#[.string x] ++ lb) W fun e w' => e = .returned (.bool (p x)) ∧ Below W.heap.size W w') :
    Calls Tryz.prog 305 #[v, .func (.func g) #[] lb] w (IxPost w l p) := by
  have HR := Lib.hid hr
  have HP := Lib.hid hp
  obtain ⟨a0, c0, rfl, hc0⟩ := hr.shape
  rw [strsC_len] at *
  clear hr hp
  go_enter Tryz.func305, Tryz.ntmps305
  go_wp2_with fail
  go_loopw [5, 8] (fun _ vi wr => ∃ k : Nat, vi = .int .i64 k ∧ k ≤ l.length ∧ (l.take k).any p = false ∧ Below w.heap.size w wr) (fun _ vi _ => l.length - (intOf vi).toNat)
  case atStart => exact ⟨0, rfl, Nat.zero_le _, rfl, Below.refl _ _⟩
  case round =>
    obtain ⟨k, rfl, hk, hn, hB⟩ := hrel
    by_cases hlt : k < l.length
    · obtain ⟨b, o, c', hv, hc', hb, hx⟩ := HR.out.open_ (by rw [strsC_len]; omega)
      rw [strsC_len] at hv hc'
      obtain ⟨rfl, _, rfl⟩ := (Value.slice.injEq ..).mp hv
      have hcx : wr.cell? ⟨b, o + k, none⟩ = some (.string l[k]) := (hB.cell (p := ⟨b, o + k, none⟩) hb).trans (hx k _ (strsC_get l hlt))
      have hki : (k : Int) < l.length := by omega
      have hk0 : (0 : Int) ≤ (k : Int) := Int.natCast_nonneg _
      have hgv : l.length ≤ c0 := by omega
      have HC := Lib.hid (HP.out wr l[k] (List.getElem_mem hlt) hB)
      have HBB := Lib.hid hB
      cases hq : p l[k] with
      | false =>
        have HN : Hid ((l.take (k + 1)).any p = false) := Lib.hid (by rw [any_take hlt, hn, hq]; rfl)
        rw [hq] at HC
        clear hx hq hn hB
        generalize l[k] = x at *
        go_wp2_with (go_at_fn g; refine HC.out.mono ?_; rintro e w1 ⟨rfl, B1⟩)
        go_roundw
        case rel => exact ⟨k + 1, by go_num, hlt, HN.out, HBB.out.trans (B1.mono HBB.out.size)⟩
        case measure => simp [intOf]; omega
      | true =>
        have HN : Hid (l.any p = true) := Lib.hid (any_hit hlt hq)
        rw [hq] at HC
        clear hx hq hn hB
        generalize l[k] = x at *
        go_wp2_with (go_at_fn g; refine HC.out.mono ?_; rintro e w1 ⟨rfl, B1⟩)
        go_ret
        exact ⟨_, rfl, by rw [HN.out]; exact decide_eq_true hk0, fun h => (by rw [HN.out] at h; cases h), HBB.out.trans (B1.mono HBB.out.size)⟩
    · obtain rfl : k = l.length := by omega
      have hki : ¬ (l.length : Int) < l.length := by omega
      have HN : Hid (l.any p = false) := Lib.hid (by rw [List.take_of_length_le (Nat.le_refl _)] at hn; exact hn)
      have HBB := Lib.hid hB
      clear hn hB
      go_wp2_with fail
      go_ret
      exact ⟨-1, rfl, by rw [HN.out]; rfl, fun _ => rfl, HBB.out⟩
set_option maxHeartbeats 2000000 in
theorem PContainsFunc_any (w : World) (v : Value) (l : List ByteArray) (p : ByteArray → Bool) (g : Nat) (lb : Array Value) (eg : ∀ args w, (callFunc g args).run Tryz.prog w = .ok (.enter g args) w) (hr : Rd w w.heap.size v (strsC l)) (hl : l.length ≤ 1000000)
    (hp : ∀ W x, x ∈ l → Below w.heap.size w W → Calls Tryz.prog g (#[.string x] ++ lb) W fun e w' => e = .returned (.bool (p x)) ∧ Below W.heap.size W w') :
    Calls Tryz.prog 300 #[v, .func (.func g) #[] lb] w fun e w' => e = .returned (.bool (l.any p)) ∧ Below w.heap.size w w' := by
  have HC := Lib.hid (PIndexFunc_any w v l p g lb eg hr hl hp)
  obtain ⟨a0, c0, rfl, hc0⟩ := hr.shape
  clear hp hr eg
  obtain ⟨q, HQ⟩ : ∃ q, Hid (l.any p = q) := ⟨_, Lib.hid rfl⟩
  rw [HQ.out]
  go_enter Tryz.func300, Tryz.ntmps300
  go_wp2_with fail
  refine HC.out.mono ?_
  rintro e w1 ⟨i, rfl, hi, hn, B1⟩
  have HI := Lib.hid hi
  clear hi hn
  by_cases h0 : 0 ≤ i
  · go_wp2_with fail
    go_ret
    rw [← HQ.out, ← HI.out, decide_eq_true h0]
    exact ⟨rfl, B1⟩
  · go_wp2_with fail
    go_ret
    rw [← HQ.out, ← HI.out, decide_eq_false (by omega)]
    exact ⟨rfl, B1⟩

def emptyB (x : ByteArray) : Bool := decide (by8 x = [])
def fullS (l : List ByteArray) : List ByteArray := l.filter fun p => decide (by8 p ≠ [])
theorem full_not (l : List ByteArray) : (l.filter fun x => !emptyB x) = fullS l := by
  unfold fullS
  congr 1
  funext x
  unfold emptyB
  by_cases h : by8 x = []
  · rw [decide_eq_true h, decide_eq_false (fun h' => h' h)]; rfl
  · rw [decide_eq_false h, decide_eq_true h]; rfl
theorem list1_any (w : World) (x : ByteArray) : Calls Tryz.prog 298 #[.string x] w fun e w' => e = .returned (.bool (emptyB x)) ∧ w = w' := by
  have hb : (x.toList == []) = emptyB x := by
    unfold emptyB
    rw [toList_by8]
    by_cases h : by8 x = []
    · rw [h, decide_eq_true rfl]; rfl
    · rw [decide_eq_false h]; exact beq_eq_false_iff_ne.2 h
  generalize emptyB x = q at *
  go_enter Tryz.func298, Tryz.ntmps298
  cases q
  · go_wp2_with fail
    go_ret
    exact ⟨rfl, rfl⟩
  · go_wp2_with fail
    go_ret
    exact ⟨rfl, rfl⟩
theorem list1_gives (w : World) (x : ByteArray) : Go.Proofs.FnGives Tryz.prog 298 #[] #[.string x] (.bool (emptyB x)) w :=
  (list1_any w x).mono fun e w' ⟨he, hw⟩ => ⟨he, 0, by rw [← hw]; rfl⟩
theorem keeps_below {W w5 : World} (h : Below W.heap.size W w5) : KeepsOthers W w5 :=
  ⟨h.size, fun k _ hk _ => (h.block k (Array.getElem?_eq_some_iff.1 hk).1).trans hk⟩
theorem keeps_putRow {α : Type} [Inhabited α] (enc : α → Value) (w : World) (q g : Nat) (d : Array α) : KeepsOthers w (Sort.putRow enc (Sort.ahead w q) g 0 d) :=
  ⟨by simp [Sort.putRow, Sort.mapBlock, Sort.ahead], fun k o hk hc => by
    by_cases h : g = k
    · subst h
      cases o <;> first | (cases hc; done) | (simp [Sort.putRow, Sort.mapBlock, Sort.ahead, Array.getElem?_modify, hk, Sort.onCells])
    · simp [Sort.putRow, Sort.mapBlock, Sort.ahead, Array.getElem?_modify, h, hk]⟩
def DelPost (w : World) (base : Nat) (l : List ByteArray) (e : Ending) (w' : World) : Prop := ∃ v, e = .returned v ∧ w'.ownsRow base ST 1 v l.length (strsC l) ∧ Below base w w' ∧ KeepsOthers w w'
theorem eg_list1 : ∀ args w, (callFunc 298 args).run Tryz.prog w = .ok (.enter 298 args) w := enters_of Tryz.func298 (by kernel_rfl) rfl
set_option maxHeartbeats 2000000 in
theorem PDelete_any (w : World) (base : Nat) (v : Value) (l : List ByteArray) (ho : w.ownsRow base ST 1 v l.length (strsC l)) (hb : base ≤ w.heap.size) (hl : l.length ≤ 1000000) :
    Calls Tryz.prog 297 #[v, .func (.func 298) #[] #[]] w (DelPost w base (fullS l)) := by
  by_cases hv : v = .slice none 0 0
  · subst hv
    have h0 : l = [] := by
      rcases ho.2 with ⟨_, h⟩ | ⟨g, cap, cur, h, _⟩
      · exact List.length_eq_zero_iff.1 h
      · cases h
    subst h0
    have HC := Lib.hid (PIndexFunc_any w (.slice none 0 0) [] emptyB 298 #[] eg_list1 (Rd.nil _ _ _ _) (Nat.zero_le _) (fun W x hx => by cases hx))
    clear ho
    go_enter Tryz.func297, Tryz.ntmps297
    go_wp2_with fail
    refine HC.out.mono ?_
    rintro e w1 ⟨i, rfl, _, hi, B1⟩
    obtain rfl := hi rfl
    go_wp2_with fail
    go_ret
    exact ⟨_, rfl, World.ownsRow_nil _ _ _ _, B1.mono hb, keeps_below B1⟩
  · obtain ⟨g, cap, rfl, hg, hgl, hn, hm, _, hH⟩ := Lib.holds_of_ownsRow (enc := Value.string) (zs := l) ho hv
    have HC := AnyE.slices_DeleteFunc Tryz.laysDelete Value.string (fun _ => rfl) emptyB 298 #[] eg_list1 ByteArray.empty Tryz.zeroValue9 g 0 cap l.toArray w (fun W x _ => list1_gives W x) (fun n os dk x _ => list1_gives _ x) hH (by simp; omega) (by simpa using hn)
    have e0 : l.toArray.size = l.length := by simp
    rw [e0] at HC
    refine HC.mono ?_
    rintro e w' ⟨rfl, q, rfl⟩
    rw [full_not]
    have hfl : (fullS l).length ≤ l.length := List.length_filter_le _ _
    refine ⟨_, rfl, ?_, Lib.below_putRow (Below.refl _ _) hg, keeps_putRow _ _ _ _ _⟩
    have := Lib.ownsRow_putRow (enc := Value.string) (q := q) (ys := fullS l ++ List.replicate (l.length - (fullS l).length) ByteArray.empty) (k := (fullS l).length) ho (by rw [List.length_append, List.length_replicate]; omega) hfl
    rw [List.take_left'  rfl] at this
    exact this
theorem full_size {l : List ByteArray} {n : Nat} (h : ∀ x ∈ l, x.size ≤ n) : ∀ x ∈ fullS l, x.size ≤ n := fun x hx => h x ((List.mem_filter.1 hx).1)
set_option maxHeartbeats 2000000 in
theorem Plist_any (w : World) (base : Nat) (v : Value) (l : List ByteArray) (ho : w.ownsRow base ST 1 v l.length (strsC l)) (hb : base ≤ w.heap.size) (hl : l.length ≤ 100000) (hs : ∀ x ∈ l, x.size ≤ 100000) :
    Calls Tryz.prog 282 #[v] w fun e w' => e = .returned (.string (joinS (fullS l))) ∧ Below base w w' ∧ KeepsOthers w w' := by
  have HC := Lib.hid (PDelete_any w base v l ho hb (by omega))
  have HF := Lib.hid (full_size hs)
  have hfl : (fullS l).length ≤ l.length := List.length_filter_le _ _
  obtain ⟨a, c, rfl⟩ := owns_slice ho
  clear ho hs
  generalize fullS l = F at *
  go_enter Tryz.func282, Tryz.ntmps282
  go_wp2_with fail
  refine HC.out.mono ?_
  rintro e w1 ⟨v1, rfl, ho1, B1, K1⟩
  have HJ := Lib.hid (PJoin_any w1 v1 F (Rd.of_own ho1) (by omega) HF.out)
  obtain ⟨a1, c1, rfl⟩ := owns_slice ho1
  clear ho1
  go_wp2_with fail
  refine HJ.out.mono ?_
  rintro e w2 ⟨rfl, B2⟩
  go_wp2_with fail
  go_ret
  exact ⟨rfl, B1.trans (B2.mono (by have := B1.size; omega)), K1.trans (keeps_below B2)⟩
end Go.Proofs.YtgednccpjegbmaaGreatDoor.Ew
namespace Go.Proofs.YtgednccpjegbmaaGreatDoor.Ew
open Go.RowKit Go.Shelf Go.Proofs.YtgednccpjegbmaaGreatDoor Go.Proofs.YtgednccpjegbmaaGreatDoor.Ww Go.Proofs.YtgednccpjegbmaaGreatDoor.Tw
attribute [local go_sem] Oper.semAt_some
set_option maxRecDepth 100000


abbrev FT : TypeId := 111
/-- What the loop's head knows: the answers so far, in a box; the text, in its box. -/
def EaI (w : World) (s : ByteArray) (f : ByteArray → ByteArray) (pre : List (Nat × Nat)) (W : World) : Prop :=
  (∃ v, Boxed W w.heap.size LT v ∧ W.ownsRow (w.heap.size + 2) ST 1 v pre.length (strsC (pre.map fun x => f (Ww.part s x))) ∧ True) ∧ Boxed W (w.heap.size + 1) ST (.string s) ∧ Below w.heap.size w W
theorem EaI.own (w : World) (s : ByteArray) (f : ByteArray → ByteArray) (B : Nat) (hB : w.heap.size ≤ B) : OwnFrom B (EaI w s f) :=
  OwnFrom.and (Own.from (holdsRow_own (w.heap.size + 2) w.heap.size LT ST 1 (fun pre : List (Nat × Nat) => pre.length) (fun pre => strsC (pre.map fun x => f (Ww.part s x))) (fun _ _ => True)) _)
    (OwnFrom.and (Own.from (boxed_own (w.heap.size + 1) ST (fun _ : List (Nat × Nat) => .string s)) _) (ownFrom_below (Nat.le_refl _) hB))
/-- An append at a step of a region that draws its order, in a round. -/
theorem step_append_own_in {F : Fence} {k : Nat} {P : Program} {ops : Array Oper} {o : Oper} {a : Act} {w : World} {K : Act → World → Prop} {Q : Exit → Act → World → Prop} {E : Prop} (hgd : o.guard = none) (s x : Operand) (t : TypeId)
    (ho : o.op = .call { callee := .builtin .append, args := #[s, x], argTypes := #[t, t] })
    (base : Nat) (e : TypeId) (i : TypeInfo) (z : Value) (size bytes : Nat) (ht : P.underlying t = some (.slice e)) (hi : P.info? e = some i) (hz : i.zero = some z)
    (hsize : i.size = size) (hby : i.bytes = bytes) (hzs : z.cells.size = size) (hsz : 0 < size)
    (v : Value) (n : Nat) (xs : List Value) (hs : a.eval s = v) (hown : w.ownsRow base e size v n xs) (ad : Addr) (m c : Nat) (news : List Value) (hx : a.eval x = .slice (some ad) m c) (hl : news.length = m * size)
    (hnews : ∀ j u, news[j]? = some u → w.cell? (ad.add j) = some u) (h1 : ∀ u ∈ news, u.oneCell' = true)
    (h63 : n + m ≤ maxLen) (hbytes : (n + m) * bytes ≤ 140737488355328) (hbase : base ≤ w.heap.size)
    (h : ∀ v' w', w'.ownsRow base e size v' (n + m) (xs ++ news) → w.grownBy w' v.ownBlock → (v'.ownBlock = v.ownBlock ∨ v'.ownBlock = some w.heap.size) → K (a.put o.dst v') w') :
    if Region.wanted o (yielded ops a.tmps) = true then Oper.wpIn F k P o a w K Q else E := by
  rw [if_pos (by simp [Region.wanted, hgd])]
  obtain ⟨v', w', run, own, grew, _, hat⟩ := run_append_own_at (P := P) (w := w) base t o.type e i z size bytes ht hi hz hsize hby hzs hsz v n xs hown ad m c news hl hnews h1 h63 hbytes hbase
  unfold Oper.wpIn
  refine ⟨?_, ?_⟩
  · simp [Oper.about, ho, resolve, Target.leads, Sem.run_pure]
  · rw [Oper.semAt_plain F _ _ (by rw [ho]; intro c hc'; cases hc')]
    simp [execOp, ho, resolve, invoke, builtin, hs, hx, run, Result.andThen]
    exact h v' w' own grew hat
/-- One word more. -/
theorem EaI.next {w W w5 w6 : World} {s : ByteArray} {f : ByteArray → ByteArray} {pre : List (Nat × Nat)} {x : Nat × Nat} {v : Value} {a2 : Option Addr} {c2 : Nat} {o : Obj} (hv : Boxed W w.heap.size LT v)
    (hrow : W.ownsRow (w.heap.size + 2) ST 1 v pre.length (strsC (pre.map fun x => f (Ww.part s x)))) (hs1 : Boxed W (w.heap.size + 1) ST (.string s)) (hB : Below w.heap.size w W) (B5 : Below W.heap.size W.drew w5)
    (hown : w6.ownsRow (w.heap.size + 2) ST 1 (.slice a2 (pre.length + 1) c2) (pre.length + 1) (strsC (pre.map fun x => f (Ww.part s x)) ++ [.string (f (Ww.part s x))])) (hgrow : (w5.alloc o).grownBy w6 v.ownBlock) :
    Boxed w6 w.heap.size LT v ∧ KeepsOthers W (w6.setCell ⟨w.heap.size, 0, none⟩ (.slice a2 (pre.length + 1) c2)) ∧ KeepB (w.heap.size + 1) W (w6.setCell ⟨w.heap.size, 0, none⟩ (.slice a2 (pre.length + 1) c2)) ∧ EaI w s f (pre ++ [x]) (w6.setCell ⟨w.heap.size, 0, none⟩ (.slice a2 (pre.length + 1) c2)) := by
  have B5' : Below W.drew.heap.size W.drew w5 := B5
  have hv5 : Boxed w5 w.heap.size LT v := (B5.block _ hv.lt).trans hv
  have hs5 : Boxed w5 (w.heap.size + 1) ST (.string s) := (B5.block _ hs1.lt).trans hs1
  have hrow5 := owns_below hrow.drew B5'
  have hB5 : Below w.heap.size w w5 := hB.drew.trans (B5'.mono hB.size)
  obtain ⟨hv1, hv2, _, hk2, hb2⟩ := hv5.appended (by decide) (owns_weaken hrow5 (Nat.le_add_right _ 2)) hB5.size (Nat.le_refl _) (owns_weaken hown (Nat.le_add_right _ 2)) hgrow
  have hr2 := hown.kept (grownBy_setCell' w6 w.heap.size (.slice a2 (pre.length + 1) c2)) (.inr (hv1.not_row (by decide) hown).symm)
  have hs2 := ((hs5.alloc o).kept hgrow (fun e => by have := (hrow5.lt _ e.symm).1; omega)).other (B' := w.heap.size) (by omega) (.slice a2 (pre.length + 1) c2)
  refine ⟨hv1, ((KeepsOthers.drew W).trans (keeps_below B5')).trans hk2, hs2.trans hs1.symm, ⟨_, hv2, ?_, trivial⟩, hs2, hB5.trans hb2⟩
  rw [List.map_append, List.length_append]
  simpa [strsC] using hr2

set_option maxHeartbeats 4000000 in
theorem each1_any (w : World) (s : ByteArray) (hs : s.size ≤ 9000) (cb : Nat) (g : Nat) (lb : Array Value) (f : ByteArray → ByteArray) (eg : ∀ args w, (callFunc g args).run Tryz.prog w = .ok (.enter g args) w)
    (hbox : Boxed w cb FT (.func (.func g) #[] lb)) (HG : ∀ W x, Below w.heap.size w W → x.size ≤ 9000 → Calls Tryz.prog g (#[.string x] ++ lb) W fun e w' => e = .returned (.string (f x)) ∧ Below W.heap.size W w') (hf : ∀ x, x.size ≤ 9000 → (f x).size ≤ 100000) :
    Calls Tryz.prog 289 #[.string s, .pointer (some ⟨cb, 0, none⟩)] w fun e w' => e = .returned (.string (joinS (eachS f (wordsS s)))) ∧ Below w.heap.size w w' := by
  obtain ⟨i0, hi, hz0, hz1, hz2⟩ := info_parts infoS
  have hil := items_size s
  have hmx : Tryz.prog.follows .mixedOrders = true := by kernel_rfl
  have HGG := Lib.hid HG
  have HF := Lib.hid hf
  have HBX := Lib.hid hbox
  clear HG hf hbox
  refine (callsIn_wide (n := 9)).1 ?_
  refine callsIn_of_wp_marks Tryz.func289 rfl trivial ?_ rfl
  simp only [Tryz.ntmps289, List.size_toArray, List.length_cons, List.length_nil, Nat.reduceAdd, Nat.reduceSub, Array.replicate_succ, Array.replicate_zero, List.push_toArray, List.append_toArray, List.nil_append, List.cons_append]
  gi_wp2_with (refine ⟨trivial, ?_⟩; gi_at_call 152; refine (callsIn_wide.2 (Ww.Each_any _ s)).mono ?_; rintro e w' ⟨rfl, rfl⟩)
  have k0 := Boxed.new w LT (.slice none 0 0)
  have k1 := Boxed.new (w.alloc (.cells #[.slice none 0 0] LT)) ST (.string s)
  simp only [World.size_alloc] at k1
  have hB0 : Below w.heap.size w ((w.alloc (.cells #[.slice none 0 0] LT)).alloc (.cells #[.string s] ST)) := ((Below.refl _ w).alloc (Nat.le_refl _) _).alloc (by simp) _
  refine range_law (by omega) (gf := 202) (lb := #[.pointer (some ⟨w.heap.size + 1, 0, none⟩)]) rfl (enters_of Tryz.func202 (by kernel_rfl) rfl)
    (each_iters _ (by omega) (w.heap.size + 1) s (by omega) _ k1) mineE_keeps (keepB_trans _) (keepB_put (by simp)) (fun _ => rfl)
    (EaI w s f) (fun _ _ _ => False) (EaI.own w s f _ (by simp; omega)) (fun _ _ _ _ _ h _ _ => h) (fun _ X Y h e => by cases e; exact h)
    ⟨⟨_, k0.alloc _, World.ownsRow_nil _ _ _ _, trivial⟩, k1, hB0⟩
    ?a1 ?assign ?body ?done ?stop
  case assign =>
    intro l x W K hK
    gi_wp2
    exact hK
  case body =>
    rintro l pre x W ⟨⟨v, hv, hrow, _⟩, hs1, hB⟩ hsp
    have hpl : (pre ++ [x]).length ≤ (Wp.items (by8 s)).length := hsp.length_le
    simp only [List.length_append, List.length_singleton] at hpl
    have cv0 := hv.cell
    have fv0 := hv.frozen
    have hcb : Boxed W cb FT (.func (.func g) #[] lb) := (hB.block _ HBX.out.lt).trans HBX.out
    have ccb := hcb.cell
    have HC := Lib.hid (HGG.out W.drew (Ww.part s x) hB.drew (by have := part_size s x; omega))
    have HNx := Lib.hid fun w5 w6 a2 c2 o => @EaI.next w W w5 w6 s f pre x v a2 c2 o hv hrow hs1 hB
    have HRow := Lib.hid hrow.drew
    have HV := Lib.hid hv
    have hws : w.heap.size + 2 ≤ W.heap.size := hs1.lt
    clear hrow hv hs1 hB hcb k0 k1 hB0
    obtain ⟨r, hr⟩ : ∃ r, f (Ww.part s x) = r := ⟨_, rfl⟩
    rw [hr] at HC HNx
    clear hr
    -- the region, order by order (printed by wip/tools/geneach.py)
    gi_wp2
    refine wpIn_region_any (by assumption) ?_
    change wpAnyIn _ _ _ _ _ _ _ _ _ (World.drew _)
    refine wpAnyIn_ready (rs := [0, 1, 2]) (by kernel_rfl) (by simp) ?_
    refine AllReadyIn.cons rfl (fun K hK => ?_) ?_
    · go_simp
      refine hK _ _ ?_
      clear hK K
      refine wpAnyIn_ready (rs := [1, 2]) (by kernel_rfl) (by simp) ?_
      refine AllReadyIn.cons rfl (fun K hK => ?_) ?_
      · go_simp
        refine hK _ _ ?_
        clear hK K
        refine wpAnyIn_ready (rs := [2]) (by kernel_rfl) (by simp) ?_
        refine AllReadyIn.cons rfl (fun K hK => ?_) ?_
        · go_simp
          refine hK _ _ ?_
          clear hK K
          refine wpAnyIn_ready (rs := [3]) (by kernel_rfl) (by simp) ?_
          refine AllReadyIn.cons rfl (fun K hK => ?_) ?_
          · go_simp; refine ⟨trivial, ?_⟩; gi_at_fn g; refine (CallsIn.inRound l (callsIn_wide.2 HC.out)).mono ?_; rintro e w5 ⟨rfl, B5⟩; have hs5 := B5.size; have HO5 := Lib.hid (owns_below HRow.out B5); have hv5 : Boxed w5 w.heap.size LT v := (B5.block _ HV.out.lt).trans HV.out; have cv5 := hv5.cell; have cv5a := (hv5.alloc (.cells #[.string r] ST)).cell; clear hv5
            go_simp
            refine hK _ _ ?_
            clear hK K
            refine wpAnyIn_ready (rs := [4]) (by kernel_rfl) (by simp) ?_
            refine AllReadyIn.cons rfl (fun K hK => ?_) ?_
            · go_simp
              refine hK _ _ ?_
              clear hK K
              refine wpAnyIn_ready (rs := [5]) (by kernel_rfl) (by simp) ?_
              refine AllReadyIn.cons rfl (fun K hK => ?_) ?_
              · refine step_append_own_in rfl _ _ LT rfl (w.heap.size + 2) ST i0 (.string ByteArray.empty) 1 16 Tryz.underlying76 hi hz0 hz1 hz2 rfl (by decide) v pre.length _ (by simp [go_sem]) (HO5.out.alloc _) ⟨w5.heap.size, 0, none⟩ 1 1 [.string r] (by simp [go_sem]) rfl (cell_one_new _ _ _) (by simp [Value.oneCell']) (by unfold maxLen; omega) (by omega) (by simp at hs5 ⊢; omega) ?_
                intro v' w6 own6 grew6 _
                obtain ⟨a2, c2, rfl⟩ := owns_slice own6
                obtain ⟨hv6, hko, hkb, hn⟩ := HNx.out _ _ _ _ _ B5 own6 grew6
                have cv6 := hv6.cell
                have fv6 := hv6.frozen
                have HKO := Lib.hid hko
                have HKB := Lib.hid hkb
                have HNN := Lib.hid hn
                clear hko hkb hn hv6 own6 grew6 B5
                refine hK _ _ ?_
                clear hK K
                refine wpAnyIn_ready (rs := [6]) (by kernel_rfl) (by simp) ?_
                refine AllReadyIn.cons rfl (fun K hK => ?_) ?_
                · go_simp
                  refine hK _ _ ?_
                  clear hK K
                  refine wpAnyIn_done (by kernel_rfl) ?_ _
                  gi_wp2
                  exact ⟨HKO.out, HKB.out, HNN.out⟩
                exact AllReadyIn.nil
              exact AllReadyIn.nil
            exact AllReadyIn.nil
          exact AllReadyIn.nil
        exact AllReadyIn.nil
      refine AllReadyIn.cons rfl (fun K hK => ?_) ?_
      · go_simp
        refine hK _ _ ?_
        clear hK K
        refine wpAnyIn_ready (rs := [1]) (by kernel_rfl) (by simp) ?_
        refine AllReadyIn.cons rfl (fun K hK => ?_) ?_
        · go_simp
          refine hK _ _ ?_
          clear hK K
          refine wpAnyIn_ready (rs := [3]) (by kernel_rfl) (by simp) ?_
          refine AllReadyIn.cons rfl (fun K hK => ?_) ?_
          · go_simp; refine ⟨trivial, ?_⟩; gi_at_fn g; refine (CallsIn.inRound l (callsIn_wide.2 HC.out)).mono ?_; rintro e w5 ⟨rfl, B5⟩; have hs5 := B5.size; have HO5 := Lib.hid (owns_below HRow.out B5); have hv5 : Boxed w5 w.heap.size LT v := (B5.block _ HV.out.lt).trans HV.out; have cv5 := hv5.cell; have cv5a := (hv5.alloc (.cells #[.string r] ST)).cell; clear hv5
            go_simp
            refine hK _ _ ?_
            clear hK K
            refine wpAnyIn_ready (rs := [4]) (by kernel_rfl) (by simp) ?_
            refine AllReadyIn.cons rfl (fun K hK => ?_) ?_
            · go_simp
              refine hK _ _ ?_
              clear hK K
              refine wpAnyIn_ready (rs := [5]) (by kernel_rfl) (by simp) ?_
              refine AllReadyIn.cons rfl (fun K hK => ?_) ?_
              · refine step_append_own_in rfl _ _ LT rfl (w.heap.size + 2) ST i0 (.string ByteArray.empty) 1 16 Tryz.underlying76 hi hz0 hz1 hz2 rfl (by decide) v pre.length _ (by simp [go_sem]) (HO5.out.alloc _) ⟨w5.heap.size, 0, none⟩ 1 1 [.string r] (by simp [go_sem]) rfl (cell_one_new _ _ _) (by simp [Value.oneCell']) (by unfold maxLen; omega) (by omega) (by simp at hs5 ⊢; omega) ?_
                intro v' w6 own6 grew6 _
                obtain ⟨a2, c2, rfl⟩ := owns_slice own6
                obtain ⟨hv6, hko, hkb, hn⟩ := HNx.out _ _ _ _ _ B5 own6 grew6
                have cv6 := hv6.cell
                have fv6 := hv6.frozen
                have HKO := Lib.hid hko
                have HKB := Lib.hid hkb
                have HNN := Lib.hid hn
                clear hko hkb hn hv6 own6 grew6 B5
                refine hK _ _ ?_
                clear hK K
                refine wpAnyIn_ready (rs := [6]) (by kernel_rfl) (by simp) ?_
                refine AllReadyIn.cons rfl (fun K hK => ?_) ?_
                · go_simp
                  refine hK _ _ ?_
                  clear hK K
                  refine wpAnyIn_done (by kernel_rfl) ?_ _
                  gi_wp2
                  exact ⟨HKO.out, HKB.out, HNN.out⟩
                exact AllReadyIn.nil
              exact AllReadyIn.nil
            exact AllReadyIn.nil
          exact AllReadyIn.nil
        exact AllReadyIn.nil
      exact AllReadyIn.nil
    refine AllReadyIn.cons rfl (fun K hK => ?_) ?_
    · go_simp
      refine hK _ _ ?_
      clear hK K
      refine wpAnyIn_ready (rs := [0, 2]) (by kernel_rfl) (by simp) ?_
      refine AllReadyIn.cons rfl (fun K hK => ?_) ?_
      · go_simp
        refine hK _ _ ?_
        clear hK K
        refine wpAnyIn_ready (rs := [2]) (by kernel_rfl) (by simp) ?_
        refine AllReadyIn.cons rfl (fun K hK => ?_) ?_
        · go_simp
          refine hK _ _ ?_
          clear hK K
          refine wpAnyIn_ready (rs := [3]) (by kernel_rfl) (by simp) ?_
          refine AllReadyIn.cons rfl (fun K hK => ?_) ?_
          · go_simp; refine ⟨trivial, ?_⟩; gi_at_fn g; refine (CallsIn.inRound l (callsIn_wide.2 HC.out)).mono ?_; rintro e w5 ⟨rfl, B5⟩; have hs5 := B5.size; have HO5 := Lib.hid (owns_below HRow.out B5); have hv5 : Boxed w5 w.heap.size LT v := (B5.block _ HV.out.lt).trans HV.out; have cv5 := hv5.cell; have cv5a := (hv5.alloc (.cells #[.string r] ST)).cell; clear hv5
            go_simp
            refine hK _ _ ?_
            clear hK K
            refine wpAnyIn_ready (rs := [4]) (by kernel_rfl) (by simp) ?_
            refine AllReadyIn.cons rfl (fun K hK => ?_) ?_
            · go_simp
              refine hK _ _ ?_
              clear hK K
              refine wpAnyIn_ready (rs := [5]) (by kernel_rfl) (by simp) ?_
              refine AllReadyIn.cons rfl (fun K hK => ?_) ?_
              · refine step_append_own_in rfl _ _ LT rfl (w.heap.size + 2) ST i0 (.string ByteArray.empty) 1 16 Tryz.underlying76 hi hz0 hz1 hz2 rfl (by decide) v pre.length _ (by simp [go_sem]) (HO5.out.alloc _) ⟨w5.heap.size, 0, none⟩ 1 1 [.string r] (by simp [go_sem]) rfl (cell_one_new _ _ _) (by simp [Value.oneCell']) (by unfold maxLen; omega) (by omega) (by simp at hs5 ⊢; omega) ?_
                intro v' w6 own6 grew6 _
                obtain ⟨a2, c2, rfl⟩ := owns_slice own6
                obtain ⟨hv6, hko, hkb, hn⟩ := HNx.out _ _ _ _ _ B5 own6 grew6
                have cv6 := hv6.cell
                have fv6 := hv6.frozen
                have HKO := Lib.hid hko
                have HKB := Lib.hid hkb
                have HNN := Lib.hid hn
                clear hko hkb hn hv6 own6 grew6 B5
                refine hK _ _ ?_
                clear hK K
                refine wpAnyIn_ready (rs := [6]) (by kernel_rfl) (by simp) ?_
                refine AllReadyIn.cons rfl (fun K hK => ?_) ?_
                · go_simp
                  refine hK _ _ ?_
                  clear hK K
                  refine wpAnyIn_done (by kernel_rfl) ?_ _
                  gi_wp2
                  exact ⟨HKO.out, HKB.out, HNN.out⟩
                exact AllReadyIn.nil
              exact AllReadyIn.nil
            exact AllReadyIn.nil
          exact AllReadyIn.nil
        exact AllReadyIn.nil
      refine AllReadyIn.cons rfl (fun K hK => ?_) ?_
      · go_simp
        refine hK _ _ ?_
        clear hK K
        refine wpAnyIn_ready (rs := [0, 3]) (by kernel_rfl) (by simp) ?_
        refine AllReadyIn.cons rfl (fun K hK => ?_) ?_
        · go_simp
          refine hK _ _ ?_
          clear hK K
          refine wpAnyIn_ready (rs := [3]) (by kernel_rfl) (by simp) ?_
          refine AllReadyIn.cons rfl (fun K hK => ?_) ?_
          · go_simp; refine ⟨trivial, ?_⟩; gi_at_fn g; refine (CallsIn.inRound l (callsIn_wide.2 HC.out)).mono ?_; rintro e w5 ⟨rfl, B5⟩; have hs5 := B5.size; have HO5 := Lib.hid (owns_below HRow.out B5); have hv5 : Boxed w5 w.heap.size LT v := (B5.block _ HV.out.lt).trans HV.out; have cv5 := hv5.cell; have cv5a := (hv5.alloc (.cells #[.string r] ST)).cell; clear hv5
            go_simp
            refine hK _ _ ?_
            clear hK K
            refine wpAnyIn_ready (rs := [4]) (by kernel_rfl) (by simp) ?_
            refine AllReadyIn.cons rfl (fun K hK => ?_) ?_
            · go_simp
              refine hK _ _ ?_
              clear hK K
              refine wpAnyIn_ready (rs := [5]) (by kernel_rfl) (by simp) ?_
              refine AllReadyIn.cons rfl (fun K hK => ?_) ?_
              · refine step_append_own_in rfl _ _ LT rfl (w.heap.size + 2) ST i0 (.string ByteArray.empty) 1 16 Tryz.underlying76 hi hz0 hz1 hz2 rfl (by decide) v pre.length _ (by simp [go_sem]) (HO5.out.alloc _) ⟨w5.heap.size, 0, none⟩ 1 1 [.string r] (by simp [go_sem]) rfl (cell_one_new _ _ _) (by simp [Value.oneCell']) (by unfold maxLen; omega) (by omega) (by simp at hs5 ⊢; omega) ?_
                intro v' w6 own6 grew6 _
                obtain ⟨a2, c2, rfl⟩ := owns_slice own6
                obtain ⟨hv6, hko, hkb, hn⟩ := HNx.out _ _ _ _ _ B5 own6 grew6
                have cv6 := hv6.cell
                have fv6 := hv6.frozen
                have HKO := Lib.hid hko
                have HKB := Lib.hid hkb
                have HNN := Lib.hid hn
                clear hko hkb hn hv6 own6 grew6 B5
                refine hK _ _ ?_
                clear hK K
                refine wpAnyIn_ready (rs := [6]) (by kernel_rfl) (by simp) ?_
                refine AllReadyIn.cons rfl (fun K hK => ?_) ?_
                · go_simp
                  refine hK _ _ ?_
                  clear hK K
                  refine wpAnyIn_done (by kernel_rfl) ?_ _
                  gi_wp2
                  exact ⟨HKO.out, HKB.out, HNN.out⟩
                exact AllReadyIn.nil
              exact AllReadyIn.nil
            exact AllReadyIn.nil
          exact AllReadyIn.nil
        refine AllReadyIn.cons rfl (fun K hK => ?_) ?_
        · go_simp; refine ⟨trivial, ?_⟩; gi_at_fn g; refine (CallsIn.inRound l (callsIn_wide.2 HC.out)).mono ?_; rintro e w5 ⟨rfl, B5⟩; have hs5 := B5.size; have HO5 := Lib.hid (owns_below HRow.out B5); have hv5 : Boxed w5 w.heap.size LT v := (B5.block _ HV.out.lt).trans HV.out; have cv5 := hv5.cell; have cv5a := (hv5.alloc (.cells #[.string r] ST)).cell; clear hv5
          go_simp
          refine hK _ _ ?_
          clear hK K
          refine wpAnyIn_ready (rs := [0, 4]) (by kernel_rfl) (by simp) ?_
          refine AllReadyIn.cons rfl (fun K hK => ?_) ?_
          · go_simp
            refine hK _ _ ?_
            clear hK K
            refine wpAnyIn_ready (rs := [4]) (by kernel_rfl) (by simp) ?_
            refine AllReadyIn.cons rfl (fun K hK => ?_) ?_
            · go_simp
              refine hK _ _ ?_
              clear hK K
              refine wpAnyIn_ready (rs := [5]) (by kernel_rfl) (by simp) ?_
              refine AllReadyIn.cons rfl (fun K hK => ?_) ?_
              · refine step_append_own_in rfl _ _ LT rfl (w.heap.size + 2) ST i0 (.string ByteArray.empty) 1 16 Tryz.underlying76 hi hz0 hz1 hz2 rfl (by decide) v pre.length _ (by simp [go_sem]) (HO5.out.alloc _) ⟨w5.heap.size, 0, none⟩ 1 1 [.string r] (by simp [go_sem]) rfl (cell_one_new _ _ _) (by simp [Value.oneCell']) (by unfold maxLen; omega) (by omega) (by simp at hs5 ⊢; omega) ?_
                intro v' w6 own6 grew6 _
                obtain ⟨a2, c2, rfl⟩ := owns_slice own6
                obtain ⟨hv6, hko, hkb, hn⟩ := HNx.out _ _ _ _ _ B5 own6 grew6
                have cv6 := hv6.cell
                have fv6 := hv6.frozen
                have HKO := Lib.hid hko
                have HKB := Lib.hid hkb
                have HNN := Lib.hid hn
                clear hko hkb hn hv6 own6 grew6 B5
                refine hK _ _ ?_
                clear hK K
                refine wpAnyIn_ready (rs := [6]) (by kernel_rfl) (by simp) ?_
                refine AllReadyIn.cons rfl (fun K hK => ?_) ?_
                · go_simp
                  refine hK _ _ ?_
                  clear hK K
                  refine wpAnyIn_done (by kernel_rfl) ?_ _
                  gi_wp2
                  exact ⟨HKO.out, HKB.out, HNN.out⟩
                exact AllReadyIn.nil
              exact AllReadyIn.nil
            exact AllReadyIn.nil
          refine AllReadyIn.cons rfl (fun K hK => ?_) ?_
          · go_simp
            refine hK _ _ ?_
            clear hK K
            refine wpAnyIn_ready (rs := [0]) (by kernel_rfl) (by simp) ?_
            refine AllReadyIn.cons rfl (fun K hK => ?_) ?_
            · go_simp
              refine hK _ _ ?_
              clear hK K
              refine wpAnyIn_ready (rs := [5]) (by kernel_rfl) (by simp) ?_
              refine AllReadyIn.cons rfl (fun K hK => ?_) ?_
              · refine step_append_own_in rfl _ _ LT rfl (w.heap.size + 2) ST i0 (.string ByteArray.empty) 1 16 Tryz.underlying76 hi hz0 hz1 hz2 rfl (by decide) v pre.length _ (by simp [go_sem]) (HO5.out.alloc _) ⟨w5.heap.size, 0, none⟩ 1 1 [.string r] (by simp [go_sem]) rfl (cell_one_new _ _ _) (by simp [Value.oneCell']) (by unfold maxLen; omega) (by omega) (by simp at hs5 ⊢; omega) ?_
                intro v' w6 own6 grew6 _
                obtain ⟨a2, c2, rfl⟩ := owns_slice own6
                obtain ⟨hv6, hko, hkb, hn⟩ := HNx.out _ _ _ _ _ B5 own6 grew6
                have cv6 := hv6.cell
                have fv6 := hv6.frozen
                have HKO := Lib.hid hko
                have HKB := Lib.hid hkb
                have HNN := Lib.hid hn
                clear hko hkb hn hv6 own6 grew6 B5
                refine hK _ _ ?_
                clear hK K
                refine wpAnyIn_ready (rs := [6]) (by kernel_rfl) (by simp) ?_
                refine AllReadyIn.cons rfl (fun K hK => ?_) ?_
                · go_simp
                  refine hK _ _ ?_
                  clear hK K
                  refine wpAnyIn_done (by kernel_rfl) ?_ _
                  gi_wp2
                  exact ⟨HKO.out, HKB.out, HNN.out⟩
                exact AllReadyIn.nil
              exact AllReadyIn.nil
            exact AllReadyIn.nil
          exact AllReadyIn.nil
        exact AllReadyIn.nil
      exact AllReadyIn.nil
    refine AllReadyIn.cons rfl (fun K hK => ?_) ?_
    · go_simp
      refine hK _ _ ?_
      clear hK K
      refine wpAnyIn_ready (rs := [0, 1]) (by kernel_rfl) (by simp) ?_
      refine AllReadyIn.cons rfl (fun K hK => ?_) ?_
      · go_simp
        refine hK _ _ ?_
        clear hK K
        refine wpAnyIn_ready (rs := [1]) (by kernel_rfl) (by simp) ?_
        refine AllReadyIn.cons rfl (fun K hK => ?_) ?_
        · go_simp
          refine hK _ _ ?_
          clear hK K
          refine wpAnyIn_ready (rs := [3]) (by kernel_rfl) (by simp) ?_
          refine AllReadyIn.cons rfl (fun K hK => ?_) ?_
          · go_simp; refine ⟨trivial, ?_⟩; gi_at_fn g; refine (CallsIn.inRound l (callsIn_wide.2 HC.out)).mono ?_; rintro e w5 ⟨rfl, B5⟩; have hs5 := B5.size; have HO5 := Lib.hid (owns_below HRow.out B5); have hv5 : Boxed w5 w.heap.size LT v := (B5.block _ HV.out.lt).trans HV.out; have cv5 := hv5.cell; have cv5a := (hv5.alloc (.cells #[.string r] ST)).cell; clear hv5
            go_simp
            refine hK _ _ ?_
            clear hK K
            refine wpAnyIn_ready (rs := [4]) (by kernel_rfl) (by simp) ?_
            refine AllReadyIn.cons rfl (fun K hK => ?_) ?_
            · go_simp
              refine hK _ _ ?_
              clear hK K
              refine wpAnyIn_ready (rs := [5]) (by kernel_rfl) (by simp) ?_
              refine AllReadyIn.cons rfl (fun K hK => ?_) ?_
              · refine step_append_own_in rfl _ _ LT rfl (w.heap.size + 2) ST i0 (.string ByteArray.empty) 1 16 Tryz.underlying76 hi hz0 hz1 hz2 rfl (by decide) v pre.length _ (by simp [go_sem]) (HO5.out.alloc _) ⟨w5.heap.size, 0, none⟩ 1 1 [.string r] (by simp [go_sem]) rfl (cell_one_new _ _ _) (by simp [Value.oneCell']) (by unfold maxLen; omega) (by omega) (by simp at hs5 ⊢; omega) ?_
                intro v' w6 own6 grew6 _
                obtain ⟨a2, c2, rfl⟩ := owns_slice own6
                obtain ⟨hv6, hko, hkb, hn⟩ := HNx.out _ _ _ _ _ B5 own6 grew6
                have cv6 := hv6.cell
                have fv6 := hv6.frozen
                have HKO := Lib.hid hko
                have HKB := Lib.hid hkb
                have HNN := Lib.hid hn
                clear hko hkb hn hv6 own6 grew6 B5
                refine hK _ _ ?_
                clear hK K
                refine wpAnyIn_ready (rs := [6]) (by kernel_rfl) (by simp) ?_
                refine AllReadyIn.cons rfl (fun K hK => ?_) ?_
                · go_simp
                  refine hK _ _ ?_
                  clear hK K
                  refine wpAnyIn_done (by kernel_rfl) ?_ _
                  gi_wp2
                  exact ⟨HKO.out, HKB.out, HNN.out⟩
                exact AllReadyIn.nil
              exact AllReadyIn.nil
            exact AllReadyIn.nil
          exact AllReadyIn.nil
        exact AllReadyIn.nil
      refine AllReadyIn.cons rfl (fun K hK => ?_) ?_
      · go_simp
        refine hK _ _ ?_
        clear hK K
        refine wpAnyIn_ready (rs := [0, 3]) (by kernel_rfl) (by simp) ?_
        refine AllReadyIn.cons rfl (fun K hK => ?_) ?_
        · go_simp
          refine hK _ _ ?_
          clear hK K
          refine wpAnyIn_ready (rs := [3]) (by kernel_rfl) (by simp) ?_
          refine AllReadyIn.cons rfl (fun K hK => ?_) ?_
          · go_simp; refine ⟨trivial, ?_⟩; gi_at_fn g; refine (CallsIn.inRound l (callsIn_wide.2 HC.out)).mono ?_; rintro e w5 ⟨rfl, B5⟩; have hs5 := B5.size; have HO5 := Lib.hid (owns_below HRow.out B5); have hv5 : Boxed w5 w.heap.size LT v := (B5.block _ HV.out.lt).trans HV.out; have cv5 := hv5.cell; have cv5a := (hv5.alloc (.cells #[.string r] ST)).cell; clear hv5
            go_simp
            refine hK _ _ ?_
            clear hK K
            refine wpAnyIn_ready (rs := [4]) (by kernel_rfl) (by simp) ?_
            refine AllReadyIn.cons rfl (fun K hK => ?_) ?_
            · go_simp
              refine hK _ _ ?_
              clear hK K
              refine wpAnyIn_ready (rs := [5]) (by kernel_rfl) (by simp) ?_
              refine AllReadyIn.cons rfl (fun K hK => ?_) ?_
              · refine step_append_own_in rfl _ _ LT rfl (w.heap.size + 2) ST i0 (.string ByteArray.empty) 1 16 Tryz.underlying76 hi hz0 hz1 hz2 rfl (by decide) v pre.length _ (by simp [go_sem]) (HO5.out.alloc _) ⟨w5.heap.size, 0, none⟩ 1 1 [.string r] (by simp [go_sem]) rfl (cell_one_new _ _ _) (by simp [Value.oneCell']) (by unfold maxLen; omega) (by omega) (by simp at hs5 ⊢; omega) ?_
                intro v' w6 own6 grew6 _
                obtain ⟨a2, c2, rfl⟩ := owns_slice own6
                obtain ⟨hv6, hko, hkb, hn⟩ := HNx.out _ _ _ _ _ B5 own6 grew6
                have cv6 := hv6.cell
                have fv6 := hv6.frozen
                have HKO := Lib.hid hko
                have HKB := Lib.hid hkb
                have HNN := Lib.hid hn
                clear hko hkb hn hv6 own6 grew6 B5
                refine hK _ _ ?_
                clear hK K
                refine wpAnyIn_ready (rs := [6]) (by kernel_rfl) (by simp) ?_
                refine AllReadyIn.cons rfl (fun K hK => ?_) ?_
                · go_simp
                  refine hK _ _ ?_
                  clear hK K
                  refine wpAnyIn_done (by kernel_rfl) ?_ _
                  gi_wp2
                  exact ⟨HKO.out, HKB.out, HNN.out⟩
                exact AllReadyIn.nil
              exact AllReadyIn.nil
            exact AllReadyIn.nil
          exact AllReadyIn.nil
        refine AllReadyIn.cons rfl (fun K hK => ?_) ?_
        · go_simp; refine ⟨trivial, ?_⟩; gi_at_fn g; refine (CallsIn.inRound l (callsIn_wide.2 HC.out)).mono ?_; rintro e w5 ⟨rfl, B5⟩; have hs5 := B5.size; have HO5 := Lib.hid (owns_below HRow.out B5); have hv5 : Boxed w5 w.heap.size LT v := (B5.block _ HV.out.lt).trans HV.out; have cv5 := hv5.cell; have cv5a := (hv5.alloc (.cells #[.string r] ST)).cell; clear hv5
          go_simp
          refine hK _ _ ?_
          clear hK K
          refine wpAnyIn_ready (rs := [0, 4]) (by kernel_rfl) (by simp) ?_
          refine AllReadyIn.cons rfl (fun K hK => ?_) ?_
          · go_simp
            refine hK _ _ ?_
            clear hK K
            refine wpAnyIn_ready (rs := [4]) (by kernel_rfl) (by simp) ?_
            refine AllReadyIn.cons rfl (fun K hK => ?_) ?_
            · go_simp
              refine hK _ _ ?_
              clear hK K
              refine wpAnyIn_ready (rs := [5]) (by kernel_rfl) (by simp) ?_
              refine AllReadyIn.cons rfl (fun K hK => ?_) ?_
              · refine step_append_own_in rfl _ _ LT rfl (w.heap.size + 2) ST i0 (.string ByteArray.empty) 1 16 Tryz.underlying76 hi hz0 hz1 hz2 rfl (by decide) v pre.length _ (by simp [go_sem]) (HO5.out.alloc _) ⟨w5.heap.size, 0, none⟩ 1 1 [.string r] (by simp [go_sem]) rfl (cell_one_new _ _ _) (by simp [Value.oneCell']) (by unfold maxLen; omega) (by omega) (by simp at hs5 ⊢; omega) ?_
                intro v' w6 own6 grew6 _
                obtain ⟨a2, c2, rfl⟩ := owns_slice own6
                obtain ⟨hv6, hko, hkb, hn⟩ := HNx.out _ _ _ _ _ B5 own6 grew6
                have cv6 := hv6.cell
                have fv6 := hv6.frozen
                have HKO := Lib.hid hko
                have HKB := Lib.hid hkb
                have HNN := Lib.hid hn
                clear hko hkb hn hv6 own6 grew6 B5
                refine hK _ _ ?_
                clear hK K
                refine wpAnyIn_ready (rs := [6]) (by kernel_rfl) (by simp) ?_
                refine AllReadyIn.cons rfl (fun K hK => ?_) ?_
                · go_simp
                  refine hK _ _ ?_
                  clear hK K
                  refine wpAnyIn_done (by kernel_rfl) ?_ _
                  gi_wp2
                  exact ⟨HKO.out, HKB.out, HNN.out⟩
                exact AllReadyIn.nil
              exact AllReadyIn.nil
            exact AllReadyIn.nil
          refine AllReadyIn.cons rfl (fun K hK => ?_) ?_
          · go_simp
            refine hK _ _ ?_
            clear hK K
            refine wpAnyIn_ready (rs := [0]) (by kernel_rfl) (by simp) ?_
            refine AllReadyIn.cons rfl (fun K hK => ?_) ?_
            · go_simp
              refine hK _ _ ?_
              clear hK K
              refine wpAnyIn_ready (rs := [5]) (by kernel_rfl) (by simp) ?_
              refine AllReadyIn.cons rfl (fun K hK => ?_) ?_
              · refine step_append_own_in rfl _ _ LT rfl (w.heap.size + 2) ST i0 (.string ByteArray.empty) 1 16 Tryz.underlying76 hi hz0 hz1 hz2 rfl (by decide) v pre.length _ (by simp [go_sem]) (HO5.out.alloc _) ⟨w5.heap.size, 0, none⟩ 1 1 [.string r] (by simp [go_sem]) rfl (cell_one_new _ _ _) (by simp [Value.oneCell']) (by unfold maxLen; omega) (by omega) (by simp at hs5 ⊢; omega) ?_
                intro v' w6 own6 grew6 _
                obtain ⟨a2, c2, rfl⟩ := owns_slice own6
                obtain ⟨hv6, hko, hkb, hn⟩ := HNx.out _ _ _ _ _ B5 own6 grew6
                have cv6 := hv6.cell
                have fv6 := hv6.frozen
                have HKO := Lib.hid hko
                have HKB := Lib.hid hkb
                have HNN := Lib.hid hn
                clear hko hkb hn hv6 own6 grew6 B5
                refine hK _ _ ?_
                clear hK K
                refine wpAnyIn_ready (rs := [6]) (by kernel_rfl) (by simp) ?_
                refine AllReadyIn.cons rfl (fun K hK => ?_) ?_
                · go_simp
                  refine hK _ _ ?_
                  clear hK K
                  refine wpAnyIn_done (by kernel_rfl) ?_ _
                  gi_wp2
                  exact ⟨HKO.out, HKB.out, HNN.out⟩
                exact AllReadyIn.nil
              exact AllReadyIn.nil
            exact AllReadyIn.nil
          exact AllReadyIn.nil
        exact AllReadyIn.nil
      exact AllReadyIn.nil
    exact AllReadyIn.nil
  case done =>
    rintro D xs W hD rfl ⟨⟨v, hv, hrow, _⟩, hs1, hB⟩ hK
    have hvc := hv.cell
    have el : (Wp.items (by8 s)).length = ((wordsS s).map f).length := by rw [List.length_map, wordsS_len]
    have ex : (Wp.items (by8 s)).map (fun x => f (Ww.part s x)) = (wordsS s).map f := by unfold wordsS; rw [List.map_map]; rfl
    have hrow2 : W.ownsRow w.heap.size ST 1 v ((wordsS s).map f).length (strsC ((wordsS s).map f)) := by rw [← el, ← ex]; exact owns_weaken hrow (Nat.le_add_right _ 2)
    have HL := Lib.hid (Plist_any W w.heap.size v ((wordsS s).map f) hrow2 hB.size (by rw [← el]; omega) (fun q hq => by
      obtain ⟨y, hy, rfl⟩ := List.mem_map.1 hq
      exact HF.out y (Nat.le_trans (words_size hy) hs)))
    have HB := Lib.hid hB
    have HK := Lib.hid hK
    have hD' : w.heap.size + 2 ≤ D := by simp at hD; omega
    have hDW : D < W.heap.size := (Array.getElem?_eq_some_iff.1 hK).1
    obtain ⟨a0, c0, rfl⟩ := owns_slice hrow2
    clear k0 k1 hB0 hv hs1 hrow hrow2 el ex hB hK
    simp only [List.length_map] at HL hvc
    gi_wp2_with (refine ⟨trivial, ?_⟩; gi_at_call 282; refine (callsIn_wide.2 HL.out).mono ?_; rintro e w2 ⟨rfl, B2, K2⟩)
    refine ⟨by simp, .inl ⟨_, _, rfl, run_takeDeferred (K2.same D _ HK.out rfl), ?_⟩⟩
    exact ⟨_, results_tmp rfl _ _ _, rfl, (HB.out.trans B2).trans (belowK_b (w := w) (Nat.le_refl _) w2 D _ _ (by omega) (K2.same D _ HK.out rfl) rfl rfl)⟩
  case stop =>
    rintro D c pre W _ _ h _
    exact h.elim
end Go.Proofs.YtgednccpjegbmaaGreatDoor.Ew
namespace Go.Proofs.YtgednccpjegbmaaGreatDoor.Ew
open Go.RowKit Go.Proofs.YtgednccpjegbmaaGreatDoor Go.Proofs.YtgednccpjegbmaaGreatDoor.Ww Go.Proofs.YtgednccpjegbmaaGreatDoor.Tw
set_option maxRecDepth 100000
theorem infoA2 : (Tryz.prog.info? (Tryz.laysTrim_ren.t 116)).map (fun i => (i.zero, i.size)) = some (some (.agg (Array.replicate 256 (.bool false))), 256) := by kernel_rfl
theorem PTrim_any (w : World) (s : ByteArray) (hs : s.size ≤ 1000000) :
    Calls Tryz.prog 61 #[.string s] w fun e w' => e = .returned (.string (trimT s)) ∧ Below w.heap.size w w' := by
  go_enter Tryz.func61, Tryz.ntmps61
  go_wp2_with fail
  refine (Any.strings_Trim_laid Tryz.laysTrim infoA2 s ⟨#[32, 9, 10]⟩ w (by omega) (by decide) (fun j b h => by
    match j, h with
    | 0, h => obtain rfl := Option.some.inj h; decide
    | 1, h => obtain rfl := Option.some.inj h; decide
    | 2, h => obtain rfl := Option.some.inj h; decide)).mono ?_
  rintro e w' ⟨rfl, hB⟩
  go_wp2_with fail
  go_ret
  exact ⟨rfl, hB⟩
end Go.Proofs.YtgednccpjegbmaaGreatDoor.Ew
namespace Go.Proofs.YtgednccpjegbmaaGreatDoor.Ew
open Go.RowKit Go.Proofs.YtgednccpjegbmaaGreatDoor Go.Proofs.YtgednccpjegbmaaGreatDoor.Ww Go.Proofs.YtgednccpjegbmaaGreatDoor.Tw
set_option maxRecDepth 100000

def numE (o : Option Nat) : Ending := .returned (.tuple #[.int .i64 (o.getD 0 : Nat), .bool o.isSome])
theorem numE_none {o : Option Nat} (h : o = none) : numE o = .returned (.tuple #[.int .i64 0, .bool false]) := by rw [h]; rfl
theorem numE_some {o : Option Nat} {n : Nat} (h : o = some n) : numE o = .returned (.tuple #[.int .i64 (n : Int), .bool true]) := by rw [h]; rfl
set_option maxHeartbeats 2000000 in
theorem Pnumber_any (w : World) (s : ByteArray) (hs : s.size ≤ 1000000) : Calls Tryz.prog 288 #[.string s] w fun e w' => e = numE (numS s) ∧ Below w.heap.size w w' := by
  have HT := Lib.hid (PTrim_any w s hs)
  have htl := trim_len s
  unfold numS
  generalize trimT s = t at *
  have hts : t.size ≤ 1000000 := by omega
  have HZ : Hid (by8 t = [] → (t.toList == []) = true) := Lib.hid fun h => by rw [toList_by8, h]; rfl
  have HZ2 : Hid (¬ by8 t = [] → (t.toList == []) = false) := Lib.hid fun h => by rw [toList_by8]; exact beq_eq_false_iff_ne.2 h
  have HA0 : Hid (by8 t = [] → Ep.numA (by8 t) = none) := Lib.hid fun h => by unfold Ep.numA; rw [if_pos h]
  have HA : Hid (¬ by8 t = [] → Ep.numA (by8 t) = Ep.numGo 0 (by8 t)) := Lib.hid fun h => by unfold Ep.numA; rw [if_neg h]
  have HNil : Hid (by8 t = [] ↔ t.size = 0) := Lib.hid (by rw [← by8_len]; exact List.length_eq_zero_iff.symm)
  go_enter Tryz.func288, Tryz.ntmps288
  go_wp2_with fail
  refine HT.out.mono ?_
  rintro e w1 ⟨rfl, B1⟩
  have HB := Lib.hid B1
  clear B1
  go_wp2_with fail
  go_loop [5, 12] (fun vn vi => ∃ n i : Nat, vn = .int .i64 n ∧ vi = .int .i64 i ∧ i ≤ t.size ∧ n ≤ 1073741824 ∧ Ep.numGo n ((by8 t).drop i) = Ep.numGo 0 (by8 t)) (fun _ vi => t.size - (intOf vi).toNat)
  case atStart => exact ⟨0, 0, rfl, rfl, Nat.zero_le _, by decide, rfl⟩
  case round =>
    obtain ⟨n, i, rfl, rfl, hi, hn, hg⟩ := hrel
    by_cases hlt : i < t.size
    · rw [by8_at hlt, Ep.numGo] at hg
      have hA := HA.out (fun h => by have := HNil.out.1 h; omega)
      rw [← hA] at hg
      have hc8 := t[i].toNat_lt
      have hki : (i : Int) < (t.size : Int) := by omega
      have hk0 : (0 : Int) ≤ (i : Int) := by omega
      clear hA
      by_cases hd : t[i].toNat < 48 ∨ 57 < t[i].toNat
      · have HE : Hid (numE (Ep.numA (by8 t)) = .returned (.tuple #[.int .i64 0, .bool false])) := Lib.hid (numE_none (by rw [← hg, if_pos hd]))
        clear hg
        rcases Nat.lt_or_ge t[i].toNat 48 with h1 | h1
        · have h2 : (t[i].toNat : Int) < 48 := by omega
          clear hd
          go_wp2_with fail
          go_ret2
          exact ⟨HE.out.symm, HB.out⟩
        · have h2 : ¬ (t[i].toNat : Int) < 48 := by omega
          have h3 : (57 : Int) < (t[i].toNat : Int) := by omega
          clear hd
          go_wp2_with fail
          go_ret2
          exact ⟨HE.out.symm, HB.out⟩
      · rw [if_neg hd] at hg
        have HG := Lib.hid hg
        clear hg
        have h2 : ¬ (t[i].toNat : Int) < 48 := by omega
        have h3 : ¬ (57 : Int) < (t[i].toNat : Int) := by omega
        have w1 : IntKind.u8.wrap ((t[i].toNat : Int) - 48) = (t[i].toNat : Int) - 48 := by rw [IntWalk.u8_in _ (by omega)]
        have w2 : IntKind.i64.wrap ((t[i].toNat : Int) - 48) = (t[i].toNat : Int) - 48 := by rw [IntWalk.i64_in _ (by omega)]
        have w3 : IntKind.i64.wrap ((n : Int) * 10) = (n : Int) * 10 := by rw [IntWalk.i64_in _ (by omega)]
        have w4 : IntKind.i64.wrap ((n : Int) * 10 + ((t[i].toNat : Int) - 48)) = (n : Int) * 10 + ((t[i].toNat : Int) - 48) := by rw [IntWalk.i64_in _ (by omega)]
        by_cases hbig : 1073741824 < 10 * n + (t[i].toNat - 48)
        · have HE : Hid (numE (Ep.numA (by8 t)) = .returned (.tuple #[.int .i64 0, .bool false])) := Lib.hid (numE_none (by rw [← HG.out, if_pos hbig]))
          have h4 : (1073741824 : Int) < (n : Int) * 10 + ((t[i].toNat : Int) - 48) := by omega
          clear hd hbig
          go_wp2_with fail
          go_ret2
          exact ⟨HE.out.symm, HB.out⟩
        · have HE : Hid (Ep.numGo (10 * n + (t[i].toNat - 48)) ((by8 t).drop (i + 1)) = Ep.numGo 0 (by8 t)) := Lib.hid (by
            have hA := HA.out (fun h => by have := HNil.out.1 h; omega)
            rw [← hA, ← HG.out, if_neg hbig])
          have h4 : ¬ (1073741824 : Int) < (n : Int) * 10 + ((t[i].toNat : Int) - 48) := by omega
          have HN : Hid (10 * n + (t[i].toNat - 48) ≤ 1073741824 ∧ (n : Int) * 10 + ((t[i].toNat : Int) - 48) = ((10 * n + (t[i].toNat - 48) : Nat) : Int)) := Lib.hid ⟨by omega, by omega⟩
          clear hd hbig
          go_wp2_with fail
          go_round
          case rel => exact ⟨10 * n + (t[i].toNat - 48), i + 1, by rw [HN.out.2], by go_num, hlt, HN.out.1, HE.out⟩
          case measure => simp [intOf]; omega
    · obtain rfl : i = t.size := by omega
      have hki : ¬ (t.size : Int) < (t.size : Int) := by omega
      rw [List.drop_of_length_le (by rw [by8_len]; exact Nat.le_refl _)] at hg
      by_cases h0 : by8 t = []
      · have hb := HZ.out h0
        have HE : Hid (numE (Ep.numA (by8 t)) = .returned (.tuple #[.int .i64 (n : Int), .bool false])) := Lib.hid (by
          rw [numE_none (HA0.out h0)]
          rw [h0] at hg
          have : n = 0 := by
            have h1 : some n = some 0 := hg
            exact Option.some.inj h1
          rw [this]; rfl)
        clear hg h0
        go_wp2_with fail
        go_ret2
        exact ⟨HE.out.symm, HB.out⟩
      · have hb := HZ2.out h0
        have HE : Hid (numE (Ep.numA (by8 t)) = .returned (.tuple #[.int .i64 (n : Int), .bool true])) := Lib.hid (numE_some (by
          rw [HA.out h0, ← hg]; rfl))
        clear hg h0
        go_wp2_with fail
        go_ret2
        exact ⟨HE.out.symm, HB.out⟩
end Go.Proofs.YtgednccpjegbmaaGreatDoor.Ew
