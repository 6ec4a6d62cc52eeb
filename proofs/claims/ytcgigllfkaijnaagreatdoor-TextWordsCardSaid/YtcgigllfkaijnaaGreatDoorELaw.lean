/-
  flatironlaw13.TextCalls, by what package text's functions return.
-/
import Derived.Test.YtcgigllfkaijnaaGreatDoorECall2
import Derived.Test.YtcgigllfkaijnaaGreatDoorEPBase
namespace Go.Proofs.YtcgigllfkaijnaaGreatDoor.Ew
open Go.RowKit Go.Proofs.YtcgigllfkaijnaaGreatDoor Go.Proofs.YtcgigllfkaijnaaGreatDoor.Ww Go.Proofs.YtcgigllfkaijnaaGreatDoor.Tw
set_option maxRecDepth 100000

/- What package text's functions return. -/
def CallC : Prop := ∀ (w : World) (v : Value) (A : List ByteArray) (k : Nat), GM w → k < 19 → Rd w w.heap.size v (strsC A) → A.length = takesN k → (∀ p ∈ A, p.size ≤ 9000) → Calls Tryz.prog 8 #[.string (nm k), v] w fun e w' => e = ansE (resS k A) ∧ Below w.heap.size w w'
def CallBad : Prop := ∀ (w : World) (k : Nat), k < 19 → ∀ (a : Option Addr) (n c : Nat), n ≠ takesN k → Calls Tryz.prog 8 #[.string (nm k), .slice a n c] w fun e w' => e = ansE (⟨#[]⟩, 1) ∧ Below w.heap.size w w'
def CallNone : Prop := ∀ (w : World) (f : ByteArray), NoFn f → f.size ≤ 100 → ∀ (a : Option Addr) (n c : Nat), Calls Tryz.prog 8 #[.string f, .slice a n c] w fun e w' => e = ansE (⟨#[]⟩, 3) ∧ Below w.heap.size w w'
def TakesC : Prop := ∀ (w : World) (k : Nat), k < 19 → Calls Tryz.prog 10 #[.string (nm k)] w fun e w' => e = .returned (.int .i64 (takesN k : Nat)) ∧ Below w.heap.size w w'
def TakesNone : Prop := ∀ (w : World) (f : ByteArray), NoFn f → f.size ≤ 100 → Calls Tryz.prog 10 #[.string f] w fun e w' => e = .returned (.int .i64 0) ∧ Below w.heap.size w w'
/-- All of it. -/
structure TextC : Prop where
  call : CallC
  bad : CallBad
  none : CallNone
  takes : TakesC
  takesNone : TakesNone

theorem ex_res : resS 1 [⟨#[37, 46, 99]⟩, ⟨#[37, 46, 111]⟩, ⟨#[97, 46, 99, 32, 98, 46, 104]⟩] = (⟨#[97, 46, 111, 32, 98, 46, 104]⟩, 0) := by kernel_rfl
set_option maxHeartbeats 2000000 in
theorem lives_any (H : TextC) (w : World) (hG : GM w) : Calls Tryz.prog 6 #[] w fun e w' => e = .returned (.bool true) ∧ Below w.heap.size w w' := by
  have hrd := rd_lit w [⟨#[37, 46, 99]⟩, ⟨#[37, 46, 111]⟩, ⟨#[97, 46, 99, 32, 98, 46, 104]⟩] #[.string ⟨#[37, 46, 99]⟩, .string ⟨#[37, 46, 111]⟩, .string ⟨#[97, 46, 99, 32, 98, 46, 104]⟩] rfl 3 (by decide)
  have h1 := H.call _ _ _ 1 (hG.below ((Below.refl _ w).alloc (Nat.le_refl _) _)) (by decide) hrd rfl (by decide)
  rw [ex_res] at h1
  simp only [ansE] at h1
  have H1 := Lib.hid h1
  have H2 := Lib.hid fun W => H.takes W 6 (by decide)
  have H2 : Hid (∀ W, Calls Tryz.prog 10 #[.string ⟨#[115, 111, 114, 116]⟩] W fun e w' => e = .returned (.int .i64 1) ∧ Below W.heap.size W w') := H2
  clear h1 H hrd
  go_enter Tryz.func6, Tryz.ntmps6
  go_wp2_with fail
  refine H1.out.mono ?_
  rintro e w1 ⟨rfl, B1⟩
  go_wp2_with fail
  refine (H2.out _).mono ?_
  rintro e w2 ⟨rfl, B2⟩
  go_wp2_with fail
  go_ret
  exact ⟨rfl, (((Below.refl w.heap.size w).alloc (Nat.le_refl _) _).trans (B1.mono (by simp))).trans (B2.mono (by have := B1.size; simp at this; omega))⟩

def TruePost (w : World) (e : Ending) (w' : World) : Prop := e = .returned (.bool true) ∧ Below w.heap.size w w'
/-- How much there is of some texts. -/
def sumS (l : List ByteArray) : Nat := l.length + (l.map (·.size)).sum
theorem sum_take {l : List ByteArray} {k : Nat} (h : k < l.length) : ((l.take (k + 1)).map (·.size)).sum = ((l.take k).map (·.size)).sum + l[k].size := by
  rw [List.take_succ_eq_append_getElem h, List.map_append, List.sum_append]; simp
theorem sum_mem : ∀ {l : List ByteArray} {p : ByteArray}, p ∈ l → p.size ≤ (l.map (·.size)).sum
  | x :: l, p, h => by
    rw [List.map_cons, List.sum_cons]
    rcases List.mem_cons.1 h with rfl | h
    · omega
    · have := sum_mem h; omega
theorem sum_few : ∀ {l : List ByteArray} {n : Nat}, (∀ p ∈ l, p.size ≤ n) → (l.map (·.size)).sum ≤ l.length * n
  | [], n, _ => by simp
  | x :: l, n, h => by
    have h1 := h x (by simp)
    have h2 := sum_few (l := l) (n := n) fun p hp => h p (by simp [hp])
    rw [List.map_cons, List.sum_cons, List.length_cons, Nat.succ_mul]; omega
theorem sum_part (l : List ByteArray) (k : Nat) : ((l.take k).map (·.size)).sum ≤ (l.map (·.size)).sum := by
  conv => rhs; rw [← List.take_append_drop k l, List.map_append, List.sum_append]
  omega
def LongPost (w : World) (l : List ByteArray) (e : Ending) (w' : World) : Prop := ∃ q, e = .returned (.bool q) ∧ w = w' ∧ (l.length ≤ 3 → q = decide (1000 < sumS l))
set_option maxHeartbeats 2000000 in
theorem long_any (w : World) (v : Value) (l : List ByteArray) (hr : Rd w w.heap.size v (strsC l)) (hl : l.length ≤ 140737488355328) (hs : ∀ p ∈ l, p.size ≤ 140737488355328) :
    Calls Tryz.prog 7 #[v] w (LongPost w l) := by
  have HR := Lib.hid hr
  have HS := Lib.hid hs
  obtain ⟨a0, c0, rfl, hc0⟩ := hr.shape
  simp only [strsC_len] at *
  clear hr hs
  go_enter Tryz.func7, Tryz.ntmps7
  go_wp2_with fail
  go_loopw [3, 10] (fun vn vi wr => ∃ (x : Int) (k : Nat), vn = .int .i64 x ∧ vi = .int .i64 k ∧ k ≤ l.length ∧ wr = w ∧ (l.length ≤ 3 → x = ((l.length + ((l.take k).map (·.size)).sum : Nat) : Int))) (fun _ vi _ => l.length - (intOf vi).toNat)
  case atStart => exact ⟨_, 0, rfl, rfl, Nat.zero_le _, rfl, fun _ => by simp⟩
  case round =>
    obtain ⟨x, k, rfl, rfl, hk, rfl, hx⟩ := hrel
    by_cases hlt : k < l.length
    · obtain ⟨g, o, ha, _, hc, hg, hcell⟩ := rd_cell HR.out 0 (by omega)
      subst ha
      have hcx : wr.cell? ⟨g, o + k, none⟩ = some (.string l[k]) := by
        have h := hcell k hlt
        rw [List.getD, List.getElem?_eq_getElem hlt] at h
        exact h
      have hki : (k : Int) < l.length := by omega
      have hk0 : (0 : Int) ≤ (k : Int) := Int.natCast_nonneg _
      have hst := sum_take hlt
      have hpl := sum_part l k
      have hfl : l.length ≤ 3 → (l.map (·.size)).sum ≤ 3 * 140737488355328 := fun h => Nat.le_trans (sum_few HS.out) (Nat.mul_le_mul_right _ h)
      have hps := HS.out _ (List.getElem_mem hlt)
      have HN : Hid (l.length ≤ 3 → IntKind.i64.wrap (x + (l[k].size : Int)) = ((l.length + ((l.take (k + 1)).map (·.size)).sum : Nat) : Int)) := Lib.hid fun h => by
        rw [hx h, hst, IntWalk.i64_in _ (by have := hfl h; omega)]; omega
      clear hcell hx hst hpl hfl
      generalize l[k] = p at *
      go_wp2_with fail
      go_roundw
      case rel => exact ⟨_, k + 1, rfl, by go_num, hlt, trivial, fun h => (IntWalk.i64_left _).symm.trans (HN.out h)⟩
      case measure => simp [intOf]; omega
    · obtain rfl : k = l.length := by omega
      have hki : ¬ (l.length : Int) < l.length := by omega
      have HE : Hid (l.length ≤ 3 → x = ((sumS l : Nat) : Int)) := Lib.hid fun h => by
        rw [hx h, List.take_of_length_le (Nat.le_refl _)]; rfl
      clear hx
      go_wp2_with fail
      go_ret
      exact ⟨_, rfl, rfl, fun h => by rw [HE.out h]; simp; omega⟩

set_option maxHeartbeats 4000000 in
theorem calls_one (H : TextC) (w : World) (hG : GM w) (f : ByteArray) (a : Option Addr) (n c : Nat) (l : List ByteArray) (r : ByteArray × Int) (t : Int) (hr : Rd w w.heap.size (.slice a n c) (strsC l)) (hl : l.length ≤ 140737488355328) (hs : ∀ p ∈ l, p.size ≤ 140737488355328) (hf : f.size ≤ 100)
    (HC : l.length ≤ 3 ∧ sumS l ≤ 1000 ∨ 3 < l.length → ∀ W, Below w.heap.size w W → Calls Tryz.prog 8 #[.string f, .slice a n c] W fun e w' => e = ansE r ∧ Below W.heap.size W w')
    (HD : l.length ≤ 3 ∧ sumS l ≤ 1000 ∨ 3 < l.length → ∀ W, Below w.heap.size w W → Calls Tryz.prog 9 #[.string f, .slice a n c] W fun e w' => e = ansE r ∧ Below W.heap.size W w')
    (HT : ∀ W, Calls Tryz.prog 10 #[.string f] W fun e w' => e = .returned (.int .i64 t) ∧ Below W.heap.size W w') (HU : ∀ W, Calls Tryz.prog 11 #[.string f] W fun e w' => e = .returned (.int .i64 t) ∧ W = w') :
    Calls Tryz.prog 3 #[.string f, .slice a n c] w (TruePost w) := by
  have HLv := Lib.hid fun W (hW : Below w.heap.size w W) => lives_any H W (hG.below hW)
  have HLo := Lib.hid fun W (hW : Below w.heap.size w W) => long_any W _ l ((hr.below hW).more hW.size) hl hs
  have HTT := Lib.hid HT
  have HUU := Lib.hid HU
  have hz1 : ¬ (100 : Int) < (f.size : Int) := by omega
  by_cases hq : l.length ≤ 3 ∧ sumS l ≤ 1000 ∨ 3 < l.length
  · have HC := Lib.hid (HC hq)
    have HD := Lib.hid (HD hq)
    have HQ : Hid (∀ q, (l.length ≤ 3 → q = decide (1000 < sumS l)) → q = true → 3 < l.length) := Lib.hid fun q h e => by
      rcases hq with ⟨h1, h2⟩ | h1
      · have := h h1; rw [e] at this; have := of_decide_eq_true this.symm; omega
      · exact h1
    clear hr hl hs H HT HU hq
    obtain ⟨r1, r2⟩ := r
    simp only [ansE] at HC HD
    go_enter Tryz.func3, Tryz.ntmps3
    go_wp2_with fail
    refine (HLv.out _ (Below.refl _ _)).mono ?_
    rintro e w1 ⟨rfl, B1⟩
    have HB1 := Lib.hid B1
    clear B1
    go_wp2_with fail
    refine (HLo.out _ HB1.out).mono ?_
    rintro e w' ⟨q, rfl, rfl, hq⟩
    have HQ2 := Lib.hid (HQ.out q hq)
    clear hq HQ
    cases q with
    | true =>
      go_wp2_with fail
      refine (HLv.out _ HB1.out).mono ?_
      rintro e w2 ⟨rfl, B2⟩
      go_wp2_with fail
      go_ret
      exact ⟨rfl, HB1.out.trans (B2.mono HB1.out.size)⟩
    | false =>
      go_wp2_with fail
      refine (HC.out _ HB1.out).mono ?_
      rintro e w2 ⟨rfl, B2⟩
      have HB2 := Lib.hid (HB1.out.trans (B2.mono HB1.out.size))
      clear B2
      go_wp2_with fail
      refine (HD.out _ HB2.out).mono ?_
      rintro e w3 ⟨rfl, B3⟩
      have HB3 := Lib.hid (HB2.out.trans (B3.mono HB2.out.size))
      clear B3
      have e1 : (r1.toList == r1.toList) = true := beq_self_eq_true _
      have e2 : (r2 == r2) = true := beq_self_eq_true _
      have e3 : (t == t) = true := beq_self_eq_true _
      go_wp2_with fail
      refine (HTT.out _).mono ?_
      rintro e w4 ⟨rfl, B4⟩
      have HB4 := Lib.hid (HB3.out.trans (B4.mono HB3.out.size))
      clear B4
      go_wp2_with fail
      refine (HUU.out _).mono ?_
      rintro e w' ⟨rfl, rfl⟩
      go_wp2_with fail
      go_ret
      exact ⟨rfl, HB4.out⟩
  · have HQ : Hid (∀ q, (l.length ≤ 3 → q = decide (1000 < sumS l)) → q = true) := Lib.hid fun q h => by
      have h3 : l.length ≤ 3 := by omega
      rw [h h3]; exact decide_eq_true (by omega)
    clear hr hl hs H HT HU hq HC HD
    go_enter Tryz.func3, Tryz.ntmps3
    go_wp2_with fail
    refine (HLv.out _ (Below.refl _ _)).mono ?_
    rintro e w1 ⟨rfl, B1⟩
    have HB1 := Lib.hid B1
    clear B1
    go_wp2_with fail
    refine (HLo.out _ HB1.out).mono ?_
    rintro e w' ⟨q, rfl, rfl, hq⟩
    obtain rfl := HQ.out q hq
    clear hq
    go_wp2_with fail
    refine (HLv.out _ HB1.out).mono ?_
    rintro e w2 ⟨rfl, B2⟩
    go_wp2_with fail
    go_ret
    exact ⟨rfl, HB1.out.trans (B2.mono HB1.out.size)⟩
set_option maxHeartbeats 2000000 in
theorem calls_name (H : TextC) (w : World) (hG : GM w) (f : ByteArray) (v : Value) (hf : 100 < f.size) (hf2 : f.size ≤ 9000000000000000000) : Calls Tryz.prog 3 #[.string f, v] w (TruePost w) := by
  have HLv := Lib.hid fun W (hW : Below w.heap.size w W) => lives_any H W (hG.below hW)
  have hz1 : (100 : Int) < (f.size : Int) := by omega
  clear H
  go_enter Tryz.func3, Tryz.ntmps3
  go_wp2_with fail
  refine (HLv.out _ (Below.refl _ _)).mono ?_
  rintro e w1 ⟨rfl, B1⟩
  go_wp2_with fail
  refine (HLv.out _ B1).mono ?_
  rintro e w2 ⟨rfl, B2⟩
  go_wp2_with fail
  go_ret
  exact ⟨rfl, B1.trans (B2.mono B1.size)⟩
theorem TextCallsL_any (H : TextC) (w : World) (hG : GM w) (f : ByteArray) (v : Value) (l : List ByteArray) (hr : Rd w w.heap.size v (strsC l)) (hl : l.length ≤ 140737488355328) (hs : ∀ p ∈ l, p.size ≤ 140737488355328) (hf : f.size ≤ 140737488355328) :
    Calls Tryz.prog 3 #[.string f, v] w (TruePost w) := by
  by_cases hf1 : f.size ≤ 100
  · obtain ⟨a, c, rfl, hc⟩ := hr.shape
    rcases fn_cases f with hn | ⟨k, hk, rfl⟩
    · exact calls_one H w hG f a _ c l (⟨#[]⟩, 3) 0 hr hl hs hf1 (fun _ W _ => H.none W f hn hf1 a _ c) (fun _ W _ => call_none W _ f hn) (fun W => H.takesNone W f hn hf1) (fun W => takes_none W f hn)
    · have h3 := takes_lim k
      by_cases hlt : l.length = takesN k
      · have hsz : l.length ≤ 3 ∧ sumS l ≤ 1000 ∨ 3 < l.length → ∀ p ∈ l, p.size ≤ 9000 := fun h p hp => by
          have := sum_mem hp
          rcases h with ⟨_, h⟩ | h
          · unfold sumS at h; omega
          · omega
        exact calls_one H w hG (nm k) a _ c l (resS k l) (takesN k : Nat) hr hl hs hf1 (fun h W hW => H.call W _ l k (hG.below hW) hk ((hr.below hW).more hW.size) hlt (hsz h)) (fun h W hW => call_any W _ l k hk ((hr.below hW).more hW.size) hlt (hsz h)) (fun W => H.takes W k hk) (fun W => takes_all W k hk)
      · exact calls_one H w hG (nm k) a _ c l (⟨#[]⟩, 1) (takesN k : Nat) hr hl hs hf1 (fun _ W _ => H.bad W k hk a _ c (by rw [strsC_len]; exact hlt)) (fun _ W _ => call_bad W k hk a _ c (by rw [strsC_len]; exact hlt)) (fun W => H.takes W k hk) (fun W => takes_all W k hk)
  · exact calls_name H w hG f v (by omega) (by omega)
end Go.Proofs.YtcgigllfkaijnaaGreatDoor.Ew
