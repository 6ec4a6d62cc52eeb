/-
  (*run).each: the same with each of some paths.
  flags and has: which words are flags, which letters they have.
  touch, rm, mkdir.
-/
import Derived.Test.YteommneijlelkaaGreatDoorQHTwo
import Derived.Lib.SlTrimSet
import Derived.Deep.RegionHeld3
import Derived.Test.YteommneijlelkaaGreatDoorQHDo1
namespace Go.Proofs.YteommneijlelkaaGreatDoor.Hx
open Go.RowKit Go.Proofs.YteommneijlelkaaGreatDoor Go.Maps Go.Proofs.YteommneijlelkaaGreatDoor.Sw
set_option maxRecDepth 100000

/-- What each comes to: what is left, the error that ended it, the status. -/
def eachG {S : Type} (d : Bs) (step : S → Bs → S × Int) : S → List Bs → Nat → S × Int × Nat
  | s, [], st => (s, 0, st)
  | s, x :: r, st =>
    match Hp.joinP d x with
    | none => eachG d step s r 1
    | some p => if (step s p).2 = 5 ∨ (step s p).2 = 12 then ((step s p).1, (step s p).2, st) else eachG d step (step s p).1 r (if (step s p).2 = 0 then st else 1)
section
variable {S : Type} {d : Bs} {step : S → Bs → S × Int} {s : S} {x p : Bs} {r : List Bs} {n : Nat}
theorem eachG_no (h : Hp.joinP d x = none) : eachG d step s (x :: r) n = eachG d step s r 1 := by
  conv => lhs; unfold eachG
  rw [h]
theorem eachG_yes (h : Hp.joinP d x = some p) : eachG d step s (x :: r) n = if (step s p).2 = 5 ∨ (step s p).2 = 12 then ((step s p).1, (step s p).2, n) else eachG d step (step s p).1 r (if (step s p).2 = 0 then n else 1) := by
  conv => lhs; unfold eachG
  rw [h]
end
def EachPostF {S : Type} (I : S → World → Prop) (Fr : World → World → Prop) (w : World) (r : S × Int × Nat) (e : Ending) (w' : World) : Prop :=
  (if r.2.1 = 0 then e = .returned (.int .i64 r.2.2) else e = endE r.2.1) ∧ I r.1 w' ∧ Fr w w'
def EachPost {S : Type} (I : S → World → Prop) (X : List Nat) (w : World) (r : S × Int × Nat) (e : Ending) (w' : World) : Prop := EachPostF I (Kept X) w r e w'
def EaRel {S : Type} (I : S → World → Prop) (Fr : World → World → Prop) (d : Bs) (step : S → Bs → S × Int) (w : World) (s0 : S) (l : List Bs) (v7 v14 : Value) (wr : World) : Prop :=
  ∃ (n m : Nat) (s : S), n ≤ l.length ∧ m ≤ 1 ∧ v14 = .int .i64 n ∧ v7 = .int .i64 m ∧ I s wr ∧ eachG d step s0 l 0 = eachG d step s (l.drop n) m ∧ Fr w wr

set_option maxHeartbeats 2000000 in
theorem each_gen {S : Type} (I : S → World → Prop) (Fr : World → World → Prop) (d : Bs) (step : S → Bs → S × Int) {rb sb bm : Nat} {st ran : Int} {pv bv : Value} (g : Nat) (first lb : Array Value)
    (eg : ∀ args w, (callFunc g args).run Tryz.prog w = .ok (.enter g args) w)
    (hI : ∀ s W, I s W → ∃ k, RunAt W rb sb bm k st ran pv bv ∧ k.d = d) (hB : ∀ s W W', I s W → Below W.heap.size W W' → I s W') (hF0 : ∀ W, Fr W W) (hF1 : ∀ {W W1 W2}, Fr W W1 → Fr W1 W2 → Fr W W2) (hF2 : ∀ {W W'}, Below W.heap.size W W' → Fr W W')
    (w : World) (hF3 : ∀ {W'}, Fr w W' → ∀ b, Old rb sb bm b → W'.heap[b]? = w.heap[b]?)
    (hdo : ∀ s W (p : Bs), I s W → p.length ≤ 100000 → Calls Tryz.prog g (first.push (.string (str p)) ++ lb) W fun e w' => e = .returned (.int .i64 (step s p).2) ∧ I (step s p).1 w' ∧ Fr W w')
    (s : S) (v : Value) (l : List Bs) (hs : I s w) (hv : Ws w rb sb bm v l) (hl : ∀ x ∈ l, d.length + x.length + 2 ≤ 100000) (hll : l.length ≤ 1000000) :
    Calls Tryz.prog 119 #[.pointer (some ⟨rb, 0, none⟩), v, .func (.func g) first lb] w (EachPostF I Fr w (eachG d step s l 0)) := by
  obtain ⟨a, c, rfl, hc⟩ := Px.Rg.shape hv
  have HV := Lib.hid hv
  have HL := Lib.hid hl
  obtain ⟨k0, hk0, _⟩ := hI s w hs
  have hlt := hk0.lt
  clear hv hl hk0
  go_enter Tryz.func119, Tryz.ntmps119
  go_wp2_with fail
  go_loopw [7, 14] (fun v7 v14 wr => EaRel I Fr d step w s l v7 v14 wr) (fun _ i _ => l.length - (intOf i).toNat)
  case atStart => exact ⟨0, 0, s, Nat.zero_le _, Nat.zero_le _, rfl, rfl, hs, rfl, hF0 _⟩
  case round =>
    obtain ⟨n, m, s', hn, hm, rfl, rfl, hs', he, hK⟩ := hrel
    by_cases hlt2 : n < l.length
    · obtain ⟨k, hR, hkd⟩ := hI s' wr hs'
      have hltr := hR.lt
      obtain ⟨b, o, rfl, hcp, hb, hx⟩ := Ws.cell (Px.Rg.keep HV.out (hF3 hK)) (by omega)
      have x0 := hx n hlt2
      have hg : l.drop n = l[n] :: l.drop (n + 1) := List.drop_eq_getElem_cons hlt2
      have hsz := HL.out _ (List.getElem_mem hlt2)
      obtain ⟨y, hy⟩ : ∃ y, l[n] = y := ⟨_, rfl⟩
      rw [hy] at x0 hg hsz
      rw [hg] at he
      have hsy : (str y).size ≤ 1000000000 := by rw [← bs_len, bs_str]; omega
      have hkl : k.d.length ≤ 100000 := by rw [hkd]; omega
      cases hj : Hp.joinP d y with
      | none =>
        have HJ : Hid (Hp.joinP k.d (bs (str y)) = none) := Lib.hid (by rw [hkd]; exact hj)
        rw [eachG_no hj] at he
        have HE := Lib.hid he
        have HK := Lib.hid hK
        have hs2 := hB s' wr
        clear he hj hK hg hy hx
        go_wp2_with fail
        refine (path_no _ (str y) hR hkl hsy HJ).mono ?_
        rintro e w1 ⟨rfl, B1⟩
        go_wp2_with fail
        refine (status_one _ 2 (by decide) (by decide) (by decide)).mono ?_
        rintro e w2 ⟨rfl, rfl⟩

        go_wp2_with fail
        go_roundw
        case rel => exact ⟨n + 1, 1, s', hlt2, Nat.le_refl _, by go_num, congrArg (Value.int .i64) (by omega), hs2 _ hs' B1, HE.out, hF1 HK.out (hF2 B1)⟩
        case measure => simp [intOf]; omega
      | some p =>
        have hpl := Hp.joinP_len hj
        have HJ : Hid (Hp.joinP k.d (bs (str y)) = some p) := Lib.hid (by rw [hkd]; exact hj)
        rw [eachG_yes hj] at he
        have HD := Lib.hid fun W hW => hdo s' W p hW (by omega)
        obtain ⟨⟨s2, cd⟩, hq⟩ : ∃ q, step s' p = q := ⟨_, rfl⟩
        rw [hq] at he HD
        have HK := Lib.hid hK
        have hs2 := hB s' wr
        clear hj hK hg hy hx hq
        by_cases hc : cd = 0
        · subst hc
          rw [if_neg (by simp), if_pos rfl] at he
          have HE := Lib.hid he
          clear he
          go_wp2_with fail
          refine (path_yes _ (str y) p hR hkl hsy HJ).mono ?_
          rintro e w1 ⟨rfl, B1⟩
          have hs3 := hs2 _ hs' B1
          clear hs2
          go_wp2_with fail
          refine (HD.out _ hs3).mono ?_
          rintro e w2 ⟨rfl, hs4, hK4⟩
          go_wp2_with (go_at_call 126; refine (status_zero _).mono ?_; rintro e w3 ⟨rfl, rfl⟩)
          go_roundw
          case rel => exact ⟨n + 1, m, s2, hlt2, hm, by go_num, congrArg (Value.int .i64) (by omega), hs4, HE.out, hF1 (hF1 HK.out (hF2 B1)) hK4⟩
          case measure => simp [intOf]; omega
        · by_cases h5 : cd = 5 ∨ cd = 12
          · rw [if_pos h5] at he
            have HE := Lib.hid he
            clear he
            go_wp2_with fail
            refine (path_yes _ (str y) p hR hkl hsy HJ).mono ?_
            rintro e w1 ⟨rfl, B1⟩
            have hs3 := hs2 _ hs' B1
            clear hs2
            go_wp2_with fail
            refine (HD.out _ hs3).mono ?_
            rintro e w2 ⟨rfl, hs4, hK4⟩
            go_wp2_with (go_at_call 126; refine (status_end _ cd h5).mono ?_; rintro e w3 ⟨rfl, rfl⟩; unfold endE)
            refine ⟨rfl, ?_⟩
            rw [HE.out]
            exact ⟨by rw [if_neg hc]; rfl, hs4, hF1 (hF1 HK.out (hF2 B1)) hK4⟩
          · rw [if_neg h5, if_neg hc] at he
            have HE := Lib.hid he
            have h5a : cd ≠ 5 := fun e => h5 (.inl e)
            have h5b : cd ≠ 12 := fun e => h5 (.inr e)
            clear he
            go_wp2_with fail
            refine (path_yes _ (str y) p hR hkl hsy HJ).mono ?_
            rintro e w1 ⟨rfl, B1⟩
            have hs3 := hs2 _ hs' B1
            clear hs2
            go_wp2_with fail
            refine (HD.out _ hs3).mono ?_
            rintro e w2 ⟨rfl, hs4, hK4⟩
            go_wp2_with (go_at_call 126; refine (status_one _ cd hc h5a h5b).mono ?_; rintro e w3 ⟨rfl, rfl⟩)
            go_roundw
            case rel => exact ⟨n + 1, 1, s2, hlt2, Nat.le_refl _, by go_num, congrArg (Value.int .i64) (by omega), hs4, HE.out, hF1 (hF1 HK.out (hF2 B1)) hK4⟩
            case measure => simp [intOf]; omega
    · obtain rfl : n = l.length := by omega
      rw [List.drop_length] at he
      have HE := Lib.hid he
      clear he
      go_wp2_with fail
      go_ret
      rw [HE.out]
      exact ⟨rfl, hs', hK⟩
theorem each_any {S : Type} (I : S → World → Prop) (X : List Nat) (d : Bs) (step : S → Bs → S × Int) {rb sb bm : Nat} {st ran : Int} {pv bv : Value} (g : Nat) (first lb : Array Value)
    (eg : ∀ args w, (callFunc g args).run Tryz.prog w = .ok (.enter g args) w)
    (hI : ∀ s W, I s W → ∃ k, RunAt W rb sb bm k st ran pv bv ∧ k.d = d) (hB : ∀ s W W', I s W → Below W.heap.size W W' → I s W') (hX : ∀ i ∈ X, i = sb ∨ i = bm ∨ rb ≤ i)
    (hdo : ∀ s W (p : Bs), I s W → p.length ≤ 100000 → Calls Tryz.prog g (first.push (.string (str p)) ++ lb) W fun e w' => e = .returned (.int .i64 (step s p).2) ∧ I (step s p).1 w' ∧ Kept X W w')
    (w : World) (s : S) (v : Value) (l : List Bs) (hs : I s w) (hv : Ws w rb sb bm v l) (hl : ∀ x ∈ l, d.length + x.length + 2 ≤ 100000) (hll : l.length ≤ 1000000) :
    Calls Tryz.prog 119 #[.pointer (some ⟨rb, 0, none⟩), v, .func (.func g) first lb] w (EachPost I X w (eachG d step s l 0)) := by
  obtain ⟨k0, hk0, _⟩ := hI s w hs
  have hlt := hk0.lt
  exact each_gen I (Kept X) d step g first lb eg hI hB (fun W => Kept.refl X W) (fun h k => h.trans k) (fun h => .of_below h) w (fun h => kept_old h hX hlt) hdo s v l hs hv hl hll
end Go.Proofs.YteommneijlelkaaGreatDoor.Hx
namespace Go.Proofs.YteommneijlelkaaGreatDoor.Hx
open Go.RowKit Go.Proofs.YteommneijlelkaaGreatDoor Go.Maps Go.Proofs.YteommneijlelkaaGreatDoor.Sw
set_option maxRecDepth 100000

/-! ### slices.ContainsFunc of strings -/
section
variable {rb sb bm : Nat} {l : List Bs}
theorem any_drop {p : Bs → Bool} {n : Nat} (h : n < l.length) : (l.drop n).any p = (p l[n] || (l.drop (n + 1)).any p) := by rw [List.drop_eq_getElem_cons h, List.any_cons]
set_option maxHeartbeats 1000000 in
theorem IndexFunc_any (w : World) (p : Bs → Bool) (g : Nat) (lb : Array Value) (eg : ∀ args w, (callFunc g args).run Tryz.prog w = .ok (.enter g args) w) (a : Option Addr) (c : Nat) (hv : Ws w rb sb bm (.slice a l.length c) l) (hrb : rb < w.heap.size) (hll : l.length ≤ 1000000)
    (hdo : ∀ W x, x ∈ l → Below w.heap.size w W → Calls Tryz.prog g (#[.string (str x)] ++ lb) W fun e w' => e = .returned (.bool (p x)) ∧ Below W.heap.size W w') :
    Calls Tryz.prog 205 #[.slice a l.length c, .func (.func g) #[] lb] w fun e w' => ∃ r : Int, e = .returned (.int .i64 r) ∧ decide (0 ≤ r) = l.any p ∧ Below w.heap.size w w' := by
  have HV := Lib.hid hv
  have HD := Lib.hid hdo
  clear hv hdo
  go_enter Tryz.func205, Tryz.ntmps205
  go_wp2_with fail
  go_loopw [8] (fun i wr => ∃ n : Nat, n ≤ l.length ∧ i = .int .i64 n ∧ l.any p = (l.drop n).any p ∧ Below w.heap.size w wr) (fun i _ => l.length - (intOf i).toNat)
  case atStart => exact ⟨0, Nat.zero_le _, rfl, rfl, Below.refl _ _⟩
  case round =>
    obtain ⟨n, hn, rfl, he, hB⟩ := hrel
    by_cases hlt : n < l.length
    · obtain ⟨b, o, rfl, hcp, hb, hx⟩ := Ws.cell (HV.out.below hB hrb) (by omega)
      have x0 := hx n hlt
      rw [any_drop hlt] at he
      have hm := List.getElem_mem hlt
      obtain ⟨y, hy⟩ : ∃ y, l[n] = y := ⟨_, rfl⟩
      rw [hy] at he hm x0
      have HC := Lib.hid (HD.out wr y hm hB)
      obtain ⟨q, hq⟩ : ∃ q, p y = q := ⟨_, rfl⟩
      rw [hq] at HC he
      cases q with
      | true =>
        have HE := Lib.hid he
        clear he hx hy hm hq
        go_wp2_with fail
        refine HC.out.mono ?_
        rintro e w1 ⟨rfl, B1⟩
        go_wp2_with fail
        go_ret
        exact ⟨n, rfl, by rw [HE.out]; simp, hB.trans (B1.mono hB.size)⟩
      | false =>
        have HE := Lib.hid he
        clear he hx hy hm hq
        go_wp2_with fail
        refine HC.out.mono ?_
        rintro e w1 ⟨rfl, B1⟩
        go_wp2_with fail
        go_roundw
        case rel => exact ⟨n + 1, hlt, by go_num, by rw [HE.out]; rfl, hB.trans (B1.mono hB.size)⟩
        case measure => simp [intOf]; omega
    · obtain rfl : n = l.length := by omega
      rw [List.drop_length] at he
      have HE := Lib.hid he
      clear he
      go_wp2_with fail
      go_ret
      exact ⟨-1, rfl, by rw [HE.out]; rfl, hB⟩
theorem ContainsFunc_any (w : World) (p : Bs → Bool) (g : Nat) (lb : Array Value) (eg : ∀ args w, (callFunc g args).run Tryz.prog w = .ok (.enter g args) w) (a : Option Addr) (c : Nat) (hv : Ws w rb sb bm (.slice a l.length c) l) (hrb : rb < w.heap.size) (hll : l.length ≤ 1000000)
    (hdo : ∀ W x, x ∈ l → Below w.heap.size w W → Calls Tryz.prog g (#[.string (str x)] ++ lb) W fun e w' => e = .returned (.bool (p x)) ∧ Below W.heap.size W w') :
    Calls Tryz.prog 171 #[.slice a l.length c, .func (.func g) #[] lb] w fun e w' => e = .returned (.bool (l.any p)) ∧ Below w.heap.size w w' := by
  have HI := Lib.hid (IndexFunc_any w p g lb eg a c hv hrb hll hdo)
  clear hv hdo
  go_enter Tryz.func171, Tryz.ntmps171
  go_wp2_with (go_at_call 205; refine HI.out.mono ?_; rintro e w1 ⟨r, rfl, hr, B1⟩)
  go_ret
  exact ⟨by rw [← hr]; rfl, B1⟩
end

/-! ### has -/
theorem has1_any (w : World) (x : ByteArray) (c : UInt8) (pb : Nat) (hc : w.cell? ⟨pb, 0, none⟩ = some (.string ⟨#[c]⟩)) :
    Calls Tryz.prog 174 #[.string x, .pointer (some ⟨pb, 0, none⟩)] w fun e w' => e = .returned (.bool (decide (0 ≤ Lib.indexByte x.data.toList c))) ∧ w = w' := by
  go_enter Tryz.func174, Tryz.ntmps174
  go_wp2_with (go_at_call 175; refine (Tryz.strings_Contains_one x c _).mono ?_; rintro e w1 ⟨rfl, rfl⟩)
  go_ret
  exact ⟨rfl, rfl⟩
theorem idx_contains (x : Bs) (c : UInt8) : decide (0 ≤ Lib.indexByte x c) = x.contains c := by
  rw [Bool.eq_iff_iff, decide_eq_true_eq, List.contains_iff_mem]
  have hge := Lib.indexByte_ge x c
  constructor
  · intro h
    obtain ⟨n, hn⟩ : ∃ n : Nat, Lib.indexByte x c = n := ⟨_, (Int.toNat_of_nonneg h).symm⟩
    exact List.mem_of_getElem? (Lib.indexByte_some hn).1
  · intro h
    apply Classical.byContradiction
    intro h2
    obtain ⟨k, hk⟩ := List.mem_iff_getElem?.1 h
    exact Lib.indexByte_none (by omega) k hk
theorem dw_nil {α : Type} (p : α → Bool) : ∀ l : List α, l.dropWhile p = [] ↔ ∀ x ∈ l, p x = true
  | [] => by simp
  | x :: l => by
    have ih := dw_nil p l
    by_cases h : p x = true
    · rw [List.dropWhile_cons_of_pos h, ih]
      simp [h]
    · rw [List.dropWhile_cons_of_neg h]
      simp [h]
theorem trimS_nil (l cs : List UInt8) : (Lib.trimS l cs == []) = l.all (cs.contains ·) := by
  unfold Lib.trimS Lib.trimLeftS Lib.trimRightS
  rw [Bool.eq_iff_iff, beq_iff_eq, List.all_eq_true, dw_nil]
  constructor
  · intro h x hx
    have hx2 : x ∈ l.reverse.takeWhile (cs.contains ·) ++ l.reverse.dropWhile (cs.contains ·) := by rw [List.takeWhile_append_dropWhile]; exact List.mem_reverse.2 hx
    rcases List.mem_append.1 hx2 with h1 | h1
    · exact List.all_eq_true.1 List.all_takeWhile x h1
    · exact h x (List.mem_reverse.2 h1)
  · intro h x hx
    exact h x (List.mem_reverse.1 ((List.dropWhile_sublist _).subset (List.mem_reverse.1 hx)))
section
variable {rb sb bm : Nat} {l : List Bs}
theorem has_any (w : World) (v : Value) (c : UInt8) (hv : Ws w rb sb bm v l) (hrb : rb < w.heap.size) (hll : l.length ≤ 1000000) :
    Calls Tryz.prog 129 #[v, .string ⟨#[c]⟩] w fun e w' => e = .returned (.bool (l.any (·.contains c))) ∧ Below w.heap.size w w' := by
  obtain ⟨a, cp, rfl, hc⟩ := Px.Rg.shape hv
  have hB0 := (Below.refl w.heap.size w).alloc (Nat.le_refl _) (.cells #[.string ⟨#[c]⟩] 9)
  have hz := heap_new w (.cells #[.string ⟨#[c]⟩] 9) rfl
  have HC := ContainsFunc_any (w.alloc (.cells #[.string ⟨#[c]⟩] 9)) (fun x => x.contains c) 174 #[.pointer (some ⟨w.heap.size, 0, none⟩)] (enters_of Tryz.func174 (by kernel_rfl) rfl) a cp (hv.below hB0 hrb) (by simp; omega) hll (by
    intro W x _ hB
    have hc : W.cell? ⟨w.heap.size, 0, none⟩ = some (.string ⟨#[c]⟩) := (hB.cell (p := ⟨w.heap.size, 0, none⟩) (by simp)).trans (cell_at hz rfl)
    refine (has1_any W (str x) c w.heap.size hc).mono ?_
    rintro e w' ⟨rfl, rfl⟩
    refine ⟨?_, Below.refl _ _⟩
    show Ending.returned (.bool (decide (0 ≤ Lib.indexByte x c))) = _
    rw [idx_contains])
  obtain ⟨q, hq⟩ : ∃ q, l.any (·.contains c) = q := ⟨_, rfl⟩
  rw [hq] at HC ⊢
  clear hv hq
  go_enter Tryz.func129, Tryz.ntmps129
  go_wp2_with (go_at_call 171; refine HC.mono ?_; rintro e w1 ⟨rfl, B1⟩)
  go_ret
  exact ⟨rfl, hB0.trans (B1.mono (by simp))⟩

/-! ### flags -/
theorem infoA2 : (Tryz.prog.info? (Tryz.laysTrim_ren.t 116)).map (fun i => (i.zero, i.size)) = some (some (.agg (Array.replicate 256 (.bool false))), 256) := by kernel_rfl
theorem flags1_any (w : World) (x : Bs) (d e : UInt8) (r : Bs) (cs : Bs) (hx : x = d :: e :: r) (pb : Nat) (hc : w.cell? ⟨pb, 0, none⟩ = some (.string (str cs))) (hcs : cs.length ≤ 1000) (ha : cs.all (fun b => decide (b.toNat < 128)) = true) (hl : x.length ≤ 1000000) :
    Calls Tryz.prog 172 #[.string (str x), .pointer (some ⟨pb, 0, none⟩)] w fun en w' => en = .returned (.bool (!(x.drop 1).all (cs.contains ·))) ∧ Below w.heap.size w w' := by
  have hsz : (1 : Int) < (str x).size := by rw [← bs_len, bs_str, hx]; simp; omega
  have hsn : 1 ≤ (str x).size := by omega
  have hs1 : (1 : Int) ≤ ((str x).size : Int) := by omega
  have hbig : (str x).size ≤ 1000000 := by rw [← bs_len, bs_str]; exact hl
  have D0 : Below w.heap.size w w.drew := (Below.refl _ _).drew
  have hex : (str x).extract 1 (str x).size = str (x.drop 1) := by
    apply ByteArray.ext
    apply Array.toList_inj.1
    have := Lib.extract_to_end (str x) 1
    exact this
  have hT := Any.strings_Trim_laid Tryz.laysTrim infoA2 (str (x.drop 1)) (str cs) w.drew (by rw [← bs_len, bs_str, List.length_drop]; omega) (by rw [← bs_len, bs_str]; omega) (ascii_of_all ha)
  obtain ⟨q, hq⟩ : ∃ q, (x.drop 1).all (cs.contains ·) = q := ⟨_, rfl⟩
  have hq1 : ((⟨(Lib.trimS (str (x.drop 1)).data.toList (str cs).data.toList).toArray⟩ : ByteArray).toList != []) = !q := by
    rw [Lib.toList_data, bne, ← hq, ← trimS_nil]; rfl
  rw [hq]
  obtain ⟨tr, htr⟩ : ∃ tr, (⟨(Lib.trimS (str (x.drop 1)).data.toList (str cs).data.toList).toArray⟩ : ByteArray) = tr := ⟨_, rfl⟩
  rw [htr] at hT hq1
  rw [← hex] at hT
  have HT := Lib.hid hT
  have S0 : w.drew.cell? ⟨pb, 0, none⟩ = some (.string (str cs)) := hc
  have hlt : pb < w.heap.size := by have := World.block_lt_of_cell? _ _ hc; simpa using this
  have HQ : Hid ((!tr.toList.isEmpty) = !q) := Lib.hid (by rw [← hq1]; cases tr.toList <;> rfl)
  clear hT hx hq hex htr hq1
  go_enter Tryz.func172, Tryz.ntmps172
  go_wp2_with fail
  go_region_held3 (fun w' => w'.cell? ⟨pb, 0, none⟩ = some (.string (str cs)))
    (first | exact S0 | exact S1)
    (first
      | (go_at_call 173; refine HT.out.mono ?_; rintro e w1 ⟨rfl, B1⟩; have S1 : w1.cell? ⟨pb, 0, none⟩ = some (.string (str cs)) := (B1.cell (p := ⟨pb, 0, none⟩) hlt).trans S0))
  all_goals go_wp2_with fail
  all_goals go_ret
  all_goals exact ⟨by show Ending.returned (.bool (!tr.toList.isEmpty)) = _; rw [HQ.out], D0.trans B1⟩

theorem flagB_is (x : Bs) : Hp.flagB x = true ↔ ∃ e r, x = 45 :: e :: r := by
  unfold Hp.flagB
  split
  · rename_i e r; simp
  · rename_i h; simp; intro e r hx; exact h e r hx
theorem Ws.take {w : World} {a : Option Addr} {c n : Nat} (h : Ws w rb sb bm (.slice a l.length c) l) (hn : n ≤ l.length) : Ws w rb sb bm (.slice a n c) (l.take n) := by
  obtain ⟨a', c', hv, hc, h⟩ := h
  cases hv
  have e : (l.take n).length = n := by rw [List.length_take]; omega
  refine ⟨a, c, by rw [e], by omega, ?_⟩
  rw [e]
  rcases h with h | ⟨b, o, ha, hp, hx⟩
  · left; omega
  · refine .inr ⟨b, o, ha, hp, fun j u hj => hx j u ?_⟩
    have : (Px.strsC (l.take n)) = (Px.strsC l).take n := by simp [Px.strsC, List.map_take]
    rw [this, List.getElem?_take] at hj
    split at hj
    · exact hj
    · cases hj
theorem Ws.drop {w : World} {b o c n : Nat} (h : Ws w rb sb bm (.slice (some ⟨b, o, none⟩) l.length c) l) (hn : n ≤ l.length) (a : Option Addr) (ha : n = c ∨ a = some ⟨b, o + n, none⟩) : Ws w rb sb bm (.slice a (l.length - n) (c - n)) (l.drop n) := by
  obtain ⟨a', c', hv, hc, h⟩ := h
  cases hv
  have e : (l.drop n).length = l.length - n := List.length_drop
  refine ⟨a, c - n, by rw [e], by omega, ?_⟩
  rw [e]
  rcases h with h | ⟨b', o', ha', hp, hx⟩
  · left; omega
  · cases ha'
    rcases ha with h1 | h1
    · left; omega
    · refine .inr ⟨b, o + n, h1, hp, fun j u hj => ?_⟩
      have : (Px.strsC (l.drop n)) = (Px.strsC l).drop n := by simp [Px.strsC, List.map_drop]
      rw [this, List.getElem?_drop] at hj
      rw [Nat.add_assoc]
      exact hx _ u hj
/-- What flags returns. -/
def FlagsPost (w : World) (rb sb bm : Nat) (cs : Bs) (L : List Bs) (e : Ending) (w' : World) : Prop :=
  ∃ v1 v2, e = .returned (.tuple #[v1, v2, .bool ((L.takeWhile Hp.flagB).all fun x => (x.drop 1).all (cs.contains ·))]) ∧ Ws w' rb sb bm v1 (L.takeWhile Hp.flagB) ∧ Ws w' rb sb bm v2 (L.dropWhile Hp.flagB) ∧ Below w.heap.size w w'
theorem take_prefix {p : Bs → Bool} {n : Nat} (hn : n ≤ l.length) (h : ∀ j (hj : j < l.length), j < n → p l[j] = true) (h2 : ∀ hj : n < l.length, p l[n] = false) : l.takeWhile p = l.take n ∧ l.dropWhile p = l.drop n := by
  induction l generalizing n with
  | nil => simp at hn; subst hn; simp
  | cons x r ih =>
    cases n with
    | zero =>
      have := h2 (by simp)
      simp at this
      simp [this]
    | succ n =>
      have h0 := h 0 (by simp) (by omega)
      simp at h0
      obtain ⟨a, b⟩ := ih (n := n) (by simpa using hn) (fun j hj hjn => by have := h (j + 1) (by simpa using hj) (by omega); simpa using this) (fun hj => by have := h2 (by simpa using hj); simpa using this)
      simp [h0, a, b]

set_option maxHeartbeats 2000000 in
theorem flags_any (w : World) (v : Value) (cs : Bs) (hv : Ws w rb sb bm v l) (hrb : rb < w.heap.size) (hll : l.length ≤ 1000000) (hl : ∀ x ∈ l, x.length ≤ 1000000) (hcs : cs.length ≤ 1000) (ha : cs.all (fun b => decide (b.toNat < 128)) = true) :
    Calls Tryz.prog 128 #[v, .string (str cs)] w (FlagsPost w rb sb bm cs l) := by
  obtain ⟨a, c, rfl, hc⟩ := Px.Rg.shape hv
  have hB0 := (Below.refl w.heap.size w).alloc (Nat.le_refl _) (.cells #[.string (str cs)] 9)
  have hz := heap_new w (.cells #[.string (str cs)] 9) rfl
  have HV := Lib.hid (hv.below hB0 hrb)
  have hrb1 : rb < (w.alloc (.cells #[.string (str cs)] 9)).heap.size := by simp; omega
  have hn1 : w.heap.size < (w.alloc (.cells #[.string (str cs)] 9)).heap.size := by simp
  have HL := Lib.hid hl
  clear hv hl
  go_enter Tryz.func128, Tryz.ntmps128
  go_wp2_with fail
  generalize (w.alloc (.cells #[.string (str cs)] 9)) = w1 at *
  go_loop [7] (fun v => ∃ n : Nat, v = .int .i64 n ∧ n ≤ l.length ∧ ∀ j (hj : j < l.length), j < n → Hp.flagB l[j] = true) (fun v => l.length - (intOf v).toNat)
  case atStart => exact ⟨0, rfl, Nat.zero_le _, fun j _ h => absurd h (Nat.not_lt_zero _)⟩
  case round =>
    obtain ⟨n, rfl, hn, hp⟩ := hrel
    have HP := Lib.hid hp
    clear hp
    by_cases hgo : ∃ h : n < l.length, Hp.flagB l[n] = true
    · obtain ⟨hlt, hf⟩ := hgo
      obtain ⟨b, o, rfl, hcp, hb, hx⟩ := Ws.cell HV.out (by omega)
      have x0 := hx n hlt
      have HN : Hid (∀ j (hj : j < l.length), j < n + 1 → Hp.flagB l[j] = true) := Lib.hid fun j hj hjn => by
        by_cases e : j = n
        · subst e; exact hf
        · exact HP.out j hj (by omega)
      obtain ⟨e, r, hy⟩ := (flagB_is _).1 hf
      rw [hy] at x0
      have hsz : (1 : Int) < (str (45 :: e :: r)).size := by rw [← bs_len, bs_str]; simp; omega
      have h0 : 0 < (str (45 :: e :: r)).size := by omega
      have hb0 : (((str (45 :: e :: r))[0].toNat : Int) == 45) = true := rfl
      clear hx hf hy hz
      go_wp2_with fail
      go_round
      case rel => exact ⟨n + 1, by go_num, hlt, HN.out⟩
      case measure => simp [intOf]; omega
    · have hT : l.takeWhile Hp.flagB = l.take n ∧ l.dropWhile Hp.flagB = l.drop n := take_prefix hn HP.out (fun hj => by
        cases h : Hp.flagB l[n] with
        | false => rfl
        | true => exact absurd ⟨hj, h⟩ hgo)
      have hlen : (l.take n).length = n := by rw [List.length_take]; omega
      have hC := ContainsFunc_any (l := l.take n) w1 (fun x => !(x.drop 1).all (cs.contains ·)) 172 #[.pointer (some ⟨w.heap.size, 0, none⟩)] (enters_of Tryz.func172 (by kernel_rfl) rfl) a c (by rw [hlen]; exact HV.out.take hn) hrb1 (by omega) (by
        intro W x hx hB
        have hc : W.cell? ⟨w.heap.size, 0, none⟩ = some (.string (str cs)) := (hB.cell (p := ⟨w.heap.size, 0, none⟩) hn1).trans (cell_at hz rfl)
        obtain ⟨j, hj, rfl⟩ := List.getElem_of_mem hx
        rw [List.getElem_take]
        obtain ⟨e, r, hy⟩ := (flagB_is _).1 (HP.out j (by omega) (by omega))
        exact flags1_any W _ 45 e r cs hy _ hc hcs ha (HL.out _ (List.getElem_mem _)))
      obtain ⟨q, hq⟩ : ∃ q, ((l.take n).any fun x => !(x.drop 1).all (cs.contains ·)) = q := ⟨_, rfl⟩
      rw [hq, hlen] at hC
      have HC := Lib.hid hC
      have HQ : Hid (((l.takeWhile Hp.flagB).all fun x => (x.drop 1).all (cs.contains ·)) = !q) := Lib.hid (by rw [hT.1, ← hq, List.not_any_eq_all_not]; simp)
      have HT := Lib.hid hT
      have HE : Hid (∀ (w2 : World) (a2 : Option Addr) (c1 m cp : Nat), c1 = c → m = l.length - n → cp = c - n → Below w1.heap.size w1 w2 → (0 < l.length → ∀ b o, a = some ⟨b, o, none⟩ → n = c ∨ a2 = some ⟨b, o + n, none⟩) → FlagsPost w rb sb bm cs l (.returned (.tuple #[.slice a n c1, .slice a2 m cp, .bool (!q)])) w2) := Lib.hid fun w2 a2 c1 m cp h1 hm hcp hB h2 => by
        subst h1 hm hcp
        refine ⟨_, _, by rw [HQ.out], ?_, ?_, hB0.trans (hB.mono hB0.size)⟩
        · rw [HT.out.1]; exact (HV.out.below hB hrb1).take hn
        · rw [HT.out.2]
          by_cases hl0 : 0 < l.length
          · obtain ⟨b, o, rfl, _⟩ := Ws.cell HV.out hl0
            exact (HV.out.below hB hrb1).drop hn a2 (h2 hl0 b o rfl)
          · obtain rfl : l = [] := List.eq_nil_of_length_eq_zero (by omega)
            simp at hn
            subst hn
            exact ⟨a2, _, rfl, by simp, .inl rfl⟩
      clear hT hC hq hlen hz
      by_cases hlt : n < l.length
      · obtain ⟨b, o, rfl, hcp, hb, hx⟩ := Ws.cell HV.out (by omega)
        have x0 := hx n hlt
        obtain ⟨y, hy⟩ : ∃ y, l[n] = y := ⟨_, rfl⟩
        have hny : Hp.flagB y = false := by
          cases h : Hp.flagB y with
          | false => rfl
          | true => exact absurd ⟨hlt, hy ▸ h⟩ hgo
        rw [hy] at x0
        clear hx hy hgo
        rcases y with _ | ⟨ch, _ | ⟨e, r⟩⟩
        · have hsz : ¬ (1 : Int) < (str []).size := by decide
          go_wp2_with (go_at_call 171; refine HC.out.mono ?_; rintro e w2 ⟨rfl, B2⟩)
          go_region
          all_goals go_wp2_with fail
          all_goals go_ret3
          all_goals refine HE.out _ _ _ _ _ ?_ ?_ ?_ B2.drew (fun _ b' o' e => by cases e; first | exact .inr rfl | (left; omega))
          all_goals first | rfl | omega | simp
        · have hsz : ¬ (1 : Int) < (str [ch]).size := by rw [← bs_len, bs_str]; simp
          go_wp2_with (go_at_call 171; refine HC.out.mono ?_; rintro e w2 ⟨rfl, B2⟩)
          go_region
          all_goals go_wp2_with fail
          all_goals go_ret3
          all_goals refine HE.out _ _ _ _ _ ?_ ?_ ?_ B2.drew (fun _ b' o' e => by cases e; first | exact .inr rfl | (left; omega))
          all_goals first | rfl | omega | simp
        · have hsz : (1 : Int) < (str (ch :: e :: r)).size := by rw [← bs_len, bs_str]; simp; omega
          have h0 : 0 < (str (ch :: e :: r)).size := by omega
          have hch : ch ≠ 45 := fun e1 => by subst e1; cases hny
          have hb0 : (((str (ch :: e :: r))[0].toNat : Int) == 45) = false := by
            rw [beq_eq_false_iff_ne]
            intro e1
            exact hch (UInt8.toNat_inj.1 (by have e2 : (str (ch :: e :: r))[0] = ch := rfl; rw [e2] at e1; have e3 : (45 : UInt8).toNat = 45 := rfl; omega))
          go_wp2_with (go_at_call 171; refine HC.out.mono ?_; rintro e w2 ⟨rfl, B2⟩)
          go_region
          all_goals go_wp2_with fail
          all_goals go_ret3
          all_goals refine HE.out _ _ _ _ _ ?_ ?_ ?_ B2.drew (fun _ b' o' e => by cases e; first | exact .inr rfl | (left; omega))
          all_goals first | rfl | omega | simp
      · obtain rfl : n = l.length := by omega
        by_cases hl0 : 0 < l.length
        · obtain ⟨b, o, rfl, hcp, hb, _⟩ := Ws.cell HV.out hl0
          clear hgo
          go_wp2_with (go_at_call 171; refine HC.out.mono ?_; rintro e w2 ⟨rfl, B2⟩)
          go_region
          all_goals go_wp2_with fail
          all_goals go_ret3
          all_goals refine HE.out _ _ _ _ _ ?_ ?_ ?_ B2.drew (fun _ b' o' e => by cases e; first | exact .inr rfl | (left; omega))
          all_goals first | rfl | omega | simp
        · have hl1 : l.length = 0 := by omega
          clear hgo
          rw [hl1] at *
          have h0 := Nat.lt_irrefl 0
          rcases a with _ | ⟨b, o, p⟩
          · go_wp2_with (go_at_call 171; refine HC.out.mono ?_; rintro e w2 ⟨rfl, B2⟩)
            go_region
            all_goals go_wp2_with fail
            all_goals go_ret3
            all_goals refine HE.out _ _ _ _ _ ?_ ?_ ?_ B2.drew (fun h => absurd h hl0)
            all_goals first | rfl | omega | simp
          · go_wp2_with (go_at_call 171; refine HC.out.mono ?_; rintro e w2 ⟨rfl, B2⟩)
            go_region
            all_goals go_wp2_with fail
            all_goals go_ret3
            all_goals refine HE.out _ _ _ _ _ ?_ ?_ ?_ B2.drew (fun h => absurd h hl0)
            all_goals first | rfl | omega | simp
end
end Go.Proofs.YteommneijlelkaaGreatDoor.Hx
namespace Go.Proofs.YteommneijlelkaaGreatDoor.Hx
open Go.RowKit Go.Proofs.YteommneijlelkaaGreatDoor Go.Maps Go.Proofs.YteommneijlelkaaGreatDoor.Sw
set_option maxRecDepth 100000

/-! ### the plain side -/
theorem eachA_end (a : Hp.Act) : ∀ (l : List Bs) (k : Hp.K) (n : Nat), k.code ≠ 0 → Hp.eachA a k l n = (k, n)
  | [], _, _, _ => rfl
  | _ :: _, k, n, h => by unfold Hp.eachA; rw [if_pos h]
/-- each over the store is each over the run. -/
theorem each_is (a : Hp.Act) (step : St → Bs → St × Int) (d : Bs) (inp outp : Bs) (hstep : ∀ s p, Hp.oneA a ⟨s, d, 0, inp, outp⟩ p = (⟨s, d, 0, inp, outp⟩ : Hp.K).took (step s p)) : ∀ (l : List Bs) (s : St) (n : Nat),
    (Hp.eachA a ⟨s, d, 0, inp, outp⟩ l n).1 = ⟨(eachG d step s l n).1, d, (eachG d step s l n).2.1, inp, outp⟩ ∧ ((eachG d step s l n).2.1 = 0 → (Hp.eachA a ⟨s, d, 0, inp, outp⟩ l n).2 = (eachG d step s l n).2.2)
  | [], s, n => ⟨rfl, fun _ => rfl⟩
  | x :: r, s, n => by
    unfold Hp.eachA
    rw [if_neg (by simp)]
    cases hj : Hp.joinP d x with
    | none =>
      rw [eachG_no hj]
      simp only
      exact each_is a step d inp outp hstep r s 1
    | some p =>
      rw [eachG_yes hj]
      simp only [hstep]
      obtain ⟨⟨s2, cd⟩, hq⟩ : ∃ q, step s p = q := ⟨_, rfl⟩
      rw [hq]
      by_cases h5 : cd = 5 ∨ cd = 12
      · rw [if_pos h5]
        have hne : ((⟨s, d, 0, inp, outp⟩ : Hp.K).took (s2, cd)).1.code ≠ 0 := by
          rw [took_code rfl, if_pos h5]; rcases h5 with rfl | rfl <;> decide
        rw [eachA_end _ _ _ _ hne]
        refine ⟨?_, fun h => ?_⟩
        · unfold Hp.K.took; simp [h5]
        · rcases h5 with rfl | rfl <;> cases h
      · rw [if_neg h5]
        have e : (⟨s, d, 0, inp, outp⟩ : Hp.K).took (s2, cd) = (⟨s2, d, 0, inp, outp⟩, if cd = 0 then 0 else 1) := by unfold Hp.K.took; simp [h5]
        rw [e]
        have hif : (if (if cd = 0 then 0 else 1 : Nat) = 0 then n else 1) = if cd = 0 then n else 1 := by by_cases h : cd = 0 <;> simp [h]
        simp only [hif]
        exact each_is a step d inp outp hstep r s2 _
def rmS (all force : Bool) (s : St) (p : Bs) : St × Int := if (Sw.removeA s p all).2 = 3 ∧ force = true then (s, 0) else Sw.removeA s p all
theorem rm_step (all force : Bool) (d inp outp : Bs) (s : St) (p : Bs) : Hp.oneA (.rm all force) ⟨s, d, 0, inp, outp⟩ p = (⟨s, d, 0, inp, outp⟩ : Hp.K).took (rmS all force s p) := by
  unfold Hp.oneA rmS
  simp only
  split
  · rfl
  · rfl
theorem remove_three {s : St} {p : Bs} {all : Bool} (h : (Sw.removeA s p all).2 = 3) : (Sw.removeA s p all).1 = s := by
  unfold Sw.removeA at h ⊢
  by_cases h1 : p = [46]
  · rw [if_pos h1]
  · rw [if_neg h1] at h ⊢
    cases hg : Sp.get s.L p with
    | none => rfl
    | some f =>
      simp only [hg] at h
      split at h <;> cases h

section
variable {rb sb bm : Nat} {st ran : Int} {pv bv : Value}
/-- What is known of a run while each goes on: it, and boxes that hold these values. -/
def EI (rb sb bm : Nat) (st ran : Int) (pv bv : Value) (d inp outp : Bs) (bx : List (Nat × Value)) (s : St) (W : World) : Prop :=
  RunAt W rb sb bm ⟨s, d, 0, inp, outp⟩ st ran pv bv ∧ Fine s ∧ ∀ x ∈ bx, x.1 < W.heap.size ∧ x.1 ≠ sb ∧ x.1 ≠ bm ∧ W.cell? ⟨x.1, 0, none⟩ = some x.2
theorem EI.below {W W' : World} {d inp outp : Bs} {bx : List (Nat × Value)} {s : St} (h : EI rb sb bm st ran pv bv d inp outp bx s W) (hB : Below W.heap.size W W') : EI rb sb bm st ran pv bv d inp outp bx s W' :=
  ⟨h.1.below hB, h.2.1, fun x hx => let ⟨a, b, c, e⟩ := h.2.2 x hx; ⟨Nat.lt_of_lt_of_le a hB.size, b, c, (hB.cell (p := ⟨x.1, 0, none⟩) a).trans e⟩⟩
theorem EI.op {W W' : World} {d inp outp : Bs} {bx : List (Nat × Value)} {s s2 : St} (h : EI rb sb bm st ran pv bv d inp outp bx s W) (hS : StoreAt W' sb bm s2.L s2.c) (hK : Kept [sb, bm] W W') (hF : Fine s2) : EI rb sb bm st ran pv bv d inp outp bx s2 W' :=
  ⟨h.1.stored hS hK, hF, fun x hx => let ⟨a, b, c, e⟩ := h.2.2 x hx; ⟨Nat.lt_of_lt_of_le a hK.size, b, c, (hK.cell (p := ⟨x.1, 0, none⟩) a (by simp [b, c])).trans e⟩⟩
theorem getR_path {L : List F} (hs : Sp.Sorted L) (p : Bs) : ∀ f, getR L p = some f → f.p = p := by
  intro f hf
  by_cases h : p = [46]
  · subst h; cases hf; rfl
  · rw [getR_ne h] at hf
    exact ((Sp.get_some hs).1 hf).2

theorem rm1_any (w : World) {d inp outp : Bs} {s : St} (p : Bs) (all force : Bool) (b1 b2 b3 : Nat) (h : EI rb sb bm st ran pv bv d inp outp [(b1, .pointer (some ⟨rb, 0, none⟩)), (b2, .bool all), (b3, .bool force)] s w) (hp : p.length ≤ 100000) :
    Calls Tryz.prog 131 #[.string (str p), .pointer (some ⟨b1, 0, none⟩), .pointer (some ⟨b2, 0, none⟩), .pointer (some ⟨b3, 0, none⟩)] w fun e w' =>
      e = .returned (.int .i64 (rmS all force s p).2) ∧ EI rb sb bm st ran pv bv d inp outp [(b1, .pointer (some ⟨rb, 0, none⟩)), (b2, .bool all), (b3, .bool force)] (rmS all force s p).1 w' ∧ Kept [sb, bm] w w' := by
  obtain ⟨l1, _, _, z1⟩ := h.2.2 (b1, .pointer (some ⟨rb, 0, none⟩)) (by simp)
  obtain ⟨l2, _, _, z2⟩ := h.2.2 (b2, .bool all) (by simp)
  obtain ⟨l3, n3a, n3b, z3⟩ := h.2.2 (b3, .bool force) (by simp)
  dsimp only at l1 l2 l3 n3a n3b z1 z2 z3
  obtain ⟨c0, c1, c3, c4, c8, c9⟩ := h.1.cells
  have hlt := h.1.lt
  have D0 : Below w.heap.size w w.drew := (Below.refl _ _).drew
  have hM := Remove_any w.drew (s := s) (str p) all (h.1.below D0).store h.2.1 (by rw [← bs_len, bs_str]; omega)
  have hF := h.2.1.remove p all
  obtain ⟨⟨s2, cd⟩, hq⟩ : ∃ q, Sw.removeA s p all = q := ⟨_, rfl⟩
  have hr : rmS all force s p = if cd = 3 ∧ force = true then (s, 0) else (s2, cd) := by unfold rmS; rw [hq]
  have h3 : cd = 3 → s2 = s := fun e => by have := remove_three (s := s) (p := p) (all := all) (by rw [hq]; exact e); rwa [hq] at this
  rw [show bs (str p) = p from rfl, hq] at hM
  rw [hq] at hF
  have HM := Lib.hid hM
  have HE := Lib.hid hr
  have H := Lib.hid h
  clear hM hq hr h
  obtain ⟨g, hg⟩ : ∃ g, (cd == 3) = g := ⟨_, rfl⟩
  have HG : Hid (cd = 3 ↔ g = true) := Lib.hid (by rw [← hg]; simp)
  have H3 := Lib.hid h3
  clear h3
  cases g <;> cases force
  all_goals go_enter Tryz.func131, Tryz.ntmps131
  all_goals go_wp2_with fail
  all_goals go_still_tail 6, (by kernel_rfl)
  all_goals change wpList _ _ _ _ _ w.drew
  all_goals have S3 : ∀ W, Kept [sb, bm] w.drew W → W.cell? ⟨b3, 0, none⟩ = w.cell? ⟨b3, 0, none⟩ := fun W hK => hK.cell (p := ⟨b3, 0, none⟩) l3 (by simp [n3a, n3b])
  all_goals rw [z3] at S3
  all_goals generalize w.drew = wd at *
  all_goals go_wp2_with (go_at_call 132; refine HM.out.mono ?_; rintro e w2 ⟨rfl, hS2, hK2⟩; have z3' := S3 _ hK2; have hE2 := (H.out.below D0).op hS2 hK2 hF; have l3' := Nat.lt_of_lt_of_le l3 (Nat.le_trans D0.size hK2.size); have hK3 := (Kept.of_below D0).trans hK2)
  all_goals go_ret
  all_goals rw [HE.out]
  · rw [if_neg (by simp)]; exact ⟨rfl, hE2, hK3⟩
  · rw [if_neg (fun h => by have := HG.out.1 h.1; cases this)]; exact ⟨rfl, hE2, hK3⟩
  · rw [if_neg (by simp)]; exact ⟨rfl, hE2, hK3⟩
  · rw [if_pos ⟨HG.out.2 (by trivial), (by trivial)⟩]
    have e := H3.out (HG.out.2 (by trivial))
    rw [e] at hE2
    exact ⟨rfl, hE2, hK3⟩
theorem mkdir1_any (w : World) {d inp outp : Bs} {s : St} (p : Bs) (all : Bool) (b1 b2 : Nat) (h : EI rb sb bm st ran pv bv d inp outp [(b1, .pointer (some ⟨rb, 0, none⟩)), (b2, .bool all)] s w) (hp : p.length ≤ 100000) :
    Calls Tryz.prog 133 #[.string (str p), .pointer (some ⟨b1, 0, none⟩), .pointer (some ⟨b2, 0, none⟩)] w fun e w' =>
      e = .returned (.int .i64 (Sw.mkdirA s p all).2) ∧ EI rb sb bm st ran pv bv d inp outp [(b1, .pointer (some ⟨rb, 0, none⟩)), (b2, .bool all)] (Sw.mkdirA s p all).1 w' ∧ Kept [sb, bm] w w' := by
  obtain ⟨l1, _, _, z1⟩ := h.2.2 (b1, .pointer (some ⟨rb, 0, none⟩)) (by simp)
  obtain ⟨l2, _, _, z2⟩ := h.2.2 (b2, .bool all) (by simp)
  dsimp only at l1 l2 z1 z2
  obtain ⟨c0, c1, c3, c4, c8, c9⟩ := h.1.cells
  have hlt := h.1.lt
  have D0 : Below w.heap.size w w.drew := (Below.refl _ _).drew
  have hM := Mkdir_any w.drew (s := s) (str p) all (h.1.below D0).store h.2.1 (by rw [← bs_len, bs_str]; omega)
  have hF := h.2.1.mkdir hp all
  rw [show bs (str p) = p from rfl] at hM
  obtain ⟨⟨s2, cd⟩, hq⟩ : ∃ q, Sw.mkdirA s p all = q := ⟨_, rfl⟩
  rw [hq] at hM hF ⊢
  have HM := Lib.hid hM
  have H := Lib.hid h
  clear hM hq h
  go_enter Tryz.func133, Tryz.ntmps133
  go_wp2_with fail
  go_still_tail 6, (by kernel_rfl)
  change wpList _ _ _ _ _ w.drew
  generalize w.drew = wd at *
  go_wp2_with (go_at_call 134; refine HM.out.mono ?_; rintro e w2 ⟨rfl, hS2, hK2⟩)
  go_ret
  exact ⟨rfl, (H.out.below D0).op hS2 hK2 hF, (Kept.of_below D0).trans hK2⟩

theorem DoPost.ends {w w' : World} {r : Hp.K × Nat} {e : Ending} (h : DoPost w rb sb bm st ran pv bv r e w') : (∃ n : Int, e = .returned (.int .i64 n)) ∨ ∃ c, e = endE c := by
  obtain ⟨h, _⟩ := h
  split at h
  · exact .inl ⟨_, h.1⟩
  · exact .inr ⟨_, h.1⟩
/-- What each leaves, as a command's. -/
theorem done_each {w w' : World} {d inp outp : Bs} {bx : List (Nat × Value)} {step : St → Bs → St × Int} {a : Hp.Act} {s : St} {l : List Bs} {e : Ending} {W : World} (hstep : ∀ s p, Hp.oneA a ⟨s, d, 0, inp, outp⟩ p = (⟨s, d, 0, inp, outp⟩ : Hp.K).took (step s p))
    (h : EachPost (EI rb sb bm st ran pv bv d inp outp bx) [sb, bm] W (eachG d step s l 0) e w') (hK : Kept [rb, sb, bm] w W) : DoPost w rb sb bm st ran pv bv (Hp.eachA a ⟨s, d, 0, inp, outp⟩ l 0) e w' := by
  obtain ⟨h1, h2, h3⟩ := h
  obtain ⟨g1, g2⟩ := each_is a step d inp outp hstep l s 0
  generalize eachG d step s l 0 = r at *
  obtain ⟨s2, c, n⟩ := r
  generalize hx : Hp.eachA a ⟨s, d, 0, inp, outp⟩ l 0 = x at *
  obtain ⟨k, m⟩ := x
  dsimp only at g1 g2 h1 h2
  subst g1
  have hR := h2.1
  refine ⟨?_, hK.trans (h3.mono (by simp))⟩
  dsimp only
  by_cases hc : c = 0
  · subst hc
    rw [if_pos rfl] at h1 ⊢
    rw [h1, g2 rfl]
    exact ⟨rfl, hR.box, hR.store, hR.n1, hR.n2⟩
  · rw [if_neg hc] at h1 ⊢
    exact ⟨h1, inp, outp, hR.box, hR.store, hR.n1, hR.n2⟩

theorem touch_not {k : Hp.K} : Hp.touchC k [] = (k, 1) := rfl
set_option maxHeartbeats 1000000 in
theorem touch_any (w : World) (k : Hp.K) (v : Value) (l : List Bs) (h0 : k.code = 0) (hF : Fine k.s) (hR : RunAt w rb sb bm k st ran pv bv) (hv : Ws w rb sb bm v l) (hl : ∀ x ∈ l, k.d.length + x.length + 2 ≤ 100000) (hll : l.length ≤ 1000000) :
    Calls Tryz.prog 84 #[.pointer (some ⟨rb, 0, none⟩), v] w (DoPost w rb sb bm st ran pv bv (Hp.touchC k l)) := by
  obtain ⟨a, c, rfl, hc⟩ := Px.Rg.shape hv
  obtain ⟨c0, c1, c3, c4, c8, c9⟩ := hR.cells
  have hlt := hR.lt
  obtain ⟨s, d, code, inp, outp⟩ := k
  obtain rfl : code = 0 := h0
  by_cases hn : l = []
  · subst hn
    go_enter Tryz.func84, Tryz.ntmps84
    go_wp2_with fail
    go_ret
    rw [touch_not]
    exact DoPost.ok (r := (_, 1)) rfl hR (.refl _ _)
  · have hE := each_any (EI rb sb bm st ran pv bv d inp outp []) [sb, bm] d Sw.touchA (st := st) (ran := ran) (pv := pv) (bv := bv) 135 #[.pointer (some ⟨sb, 0, none⟩)] #[] (enters_of Tryz.func135 (by kernel_rfl) rfl)
      (fun s W h => ⟨_, h.1, rfl⟩) (fun s W W' h hB => h.below hB) (by simp) (fun s W p h hp => by
        have := Touch_any W (s := s) (str p) h.1.store h.2.1 (by rw [← bs_len, bs_str]; omega) (getR_path h.2.1.sorted _)
        refine this.mono ?_
        rintro e w' ⟨rfl, hS, hK⟩
        exact ⟨rfl, h.op hS hK (h.2.1.touch hp), hK⟩) w s (.slice a l.length c) l ⟨hR, hF, by simp⟩ hv hl hll
    have HE := Lib.hid hE
    have HD : Hid (∀ e w', EachPost (EI rb sb bm st ran pv bv d inp outp []) [sb, bm] w (eachG d Sw.touchA s l 0) e w' → DoPost w rb sb bm st ran pv bv (Hp.touchC ⟨s, d, 0, inp, outp⟩ l) e w') := Lib.hid fun e w' h => by
      unfold Hp.touchC
      rw [if_neg hn]
      exact done_each (a := .touch) (fun s p => rfl) h (.refl _ _)
    have hpos : 0 < l.length := List.length_pos_iff.2 hn
    have q : ((l.length : Int) == 0) = false := by rw [beq_eq_false_iff_ne]; omega
    clear hE hv hn
    go_enter Tryz.func84, Tryz.ntmps84
    go_wp2_with fail
    refine HE.out.mono ?_
    intro e w' h
    have h2 := HD.out e w' h
    clear h
    rcases h2.ends with ⟨n, rfl⟩ | ⟨c, rfl⟩
    · go_wp2_with fail
      go_ret
      exact h2
    · unfold endE at h2 ⊢
      exact ⟨rfl, h2⟩

theorem rm_pre {k : Hp.K} {l : List Bs} {b1 b2 b3 : Bool} (h1 : ((l.takeWhile Hp.flagB).all fun x => (x.drop 1).all (([114, 102] : Bs).contains ·)) = b1) (h2 : (l.takeWhile Hp.flagB).any (·.contains 114) = b2) (h3 : (l.takeWhile Hp.flagB).any (·.contains 102) = b3) :
    Hp.rmA k l = if b1 = false then (k, 1) else if l.dropWhile Hp.flagB = [] ∧ b3 = false then (k, 1) else Hp.eachA (.rm b2 b3) k (l.dropWhile Hp.flagB) 0 := by
  have key : ∀ c : UInt8, c ≠ 45 → (Hp.flagsOf l).contains c = (l.takeWhile Hp.flagB).any (·.contains c) := fun c hc => by
    unfold Hp.flagsOf
    have : ∀ m : List Bs, (∀ x ∈ m, Hp.flagB x = true) → (m.flatMap fun x => x.drop 1).contains c = m.any (·.contains c) := fun m hm => by
      rw [Bool.eq_iff_iff]
      simp only [List.contains_iff_mem, List.mem_flatMap, List.any_eq_true]
      constructor
      · rintro ⟨x, hx, hc⟩; exact ⟨x, hx, List.mem_of_mem_drop hc⟩
      · rintro ⟨x, hx, hc2⟩
        obtain ⟨e, r, rfl⟩ := (flagB_is x).1 (hm x hx)
        refine ⟨_, hx, ?_⟩
        rcases List.mem_cons.1 hc2 with h | h
        · exact absurd h hc
        · exact h
    exact this _ fun x hx => by have := List.all_eq_true.1 (List.all_takeWhile (p := Hp.flagB) (l := l)) x hx; exact this
  have e1 : (Hp.flagsOf l).all (fun c => c == 114 || c == 102) = b1 := by
    rw [← h1, Hp.flagsOf, List.all_flatMap]
    congr 1; funext x; congr 1; funext c
    by_cases a : c = 114 <;> by_cases b : c = 102 <;> simp [a, b]
  unfold Hp.rmA Hp.restOf
  rw [e1, key 114 (by decide), key 102 (by decide), h2, h3]

theorem sub_drop {l : List Bs} : ∀ x ∈ l.dropWhile Hp.flagB, x ∈ l := fun _ h => (List.dropWhile_sublist _).subset h
set_option maxHeartbeats 4000000 in
theorem rm_any (w : World) (k : Hp.K) (v : Value) (l : List Bs) (h0 : k.code = 0) (hF : Fine k.s) (hR : RunAt w rb sb bm k st ran pv bv) (hv : Ws w rb sb bm v l) (hl : ∀ x ∈ l, k.d.length + x.length + 2 ≤ 100000) (hll : l.length ≤ 1000000) :
    Calls Tryz.prog 82 #[.pointer (some ⟨rb, 0, none⟩), v] w (DoPost w rb sb bm st ran pv bv (Hp.rmA k l)) := by
  obtain ⟨a, c, rfl, hc⟩ := Px.Rg.shape hv
  have hlt := hR.lt
  have hsb := hR.store.lt
  have hbm := hR.store.map.lt
  obtain ⟨s, d, code, inp, outp⟩ := k
  obtain rfl : code = 0 := h0
  have hB0 := (Below.refl w.heap.size w).alloc (Nat.le_refl _) (.cells #[.pointer (some ⟨rb, 0, none⟩)] 82)
  have hz := heap_new w (.cells #[.pointer (some ⟨rb, 0, none⟩)] 82) rfl
  have hlt1 : rb < (w.alloc (.cells #[.pointer (some ⟨rb, 0, none⟩)] 82)).heap.size := by simp; omega
  have hn1 : w.heap.size < (w.alloc (.cells #[.pointer (some ⟨rb, 0, none⟩)] 82)).heap.size := by simp
  have hR1 := hR.below hB0
  have hv1 := hv.below hB0 hlt
  have hFl := flags_any (w.alloc (.cells #[.pointer (some ⟨rb, 0, none⟩)] 82)) (.slice a l.length c) [114, 102] hv1 hlt1 hll (fun x hx => by have := hl x hx; omega) (by decide) (by decide)
  obtain ⟨g1, h1⟩ : ∃ g, ((l.takeWhile Hp.flagB).all fun x => (x.drop 1).all (([114, 102] : Bs).contains ·)) = g := ⟨_, rfl⟩
  obtain ⟨g2, h2⟩ : ∃ g, (l.takeWhile Hp.flagB).any (·.contains 114) = g := ⟨_, rfl⟩
  obtain ⟨g3, h3⟩ : ∃ g, (l.takeWhile Hp.flagB).any (·.contains 102) = g := ⟨_, rfl⟩
  have hE := rm_pre (k := ⟨s, d, 0, inp, outp⟩) h1 h2 h3
  unfold FlagsPost at hFl
  rw [h1] at hFl
  have hlT : (l.takeWhile Hp.flagB).length ≤ 1000000 := Nat.le_trans (List.takeWhile_sublist _).length_le hll
  have hlD : (l.dropWhile Hp.flagB).length ≤ 1000000 := Nat.le_trans (List.dropWhile_sublist _).length_le hll
  have hlD2 : ∀ x ∈ l.dropWhile Hp.flagB, d.length + x.length + 2 ≤ 100000 := fun x hx => hl x (sub_drop x hx)
  have HF := Lib.hid hFl
  have HH := Lib.hid fun (W : World) (u : Value) (ch : UInt8) (g : Bool) (hg : (l.takeWhile Hp.flagB).any (·.contains ch) = g) (hu : Ws W rb sb bm u (l.takeWhile Hp.flagB)) (hr : rb < W.heap.size) => hg ▸ has_any W u ch hu hr hlT
  have H2 := Lib.hid h2
  have H3 := Lib.hid h3
  clear hFl h1 h2 h3 hv hv1
  generalize hT : l.takeWhile Hp.flagB = T at *
  generalize hD : l.dropWhile Hp.flagB = D at *
  clear hT hD
  cases g1 with
  | false =>
    have HE := Lib.hid hE
    clear hE
    go_enter Tryz.func82, Tryz.ntmps82
    go_wp2_with (go_at_call 128; refine HF.out.mono ?_; rintro e w2 ⟨v1, v2, rfl, hw1, hw2, B2⟩)
    go_ret
    rw [HE.out, if_pos (by trivial)]
    exact DoPost.ok (r := (⟨s, d, 0, inp, outp⟩, 1)) rfl (hR1.below B2) (.of_below (hB0.trans (B2.mono hB0.size)))
  | true =>
    rw [if_neg (by decide)] at hE
    have HE := Lib.hid hE
    clear hE
    go_enter Tryz.func82, Tryz.ntmps82
    go_wp2_with fail
    refine HF.out.mono ?_
    rintro e w2 ⟨v1, v2, rfl, hw1, hw2, B2⟩
    obtain ⟨a1, cp1, rfl, _⟩ := Px.Rg.shape hw1
    obtain ⟨a2, cp2, rfl, hc2⟩ := Px.Rg.shape hw2
    have hR2 := hR1.below B2
    have hlt2 := hR2.lt
    have hz2 := (B2.block w.heap.size hn1).trans hz
    go_wp2_with fail
    refine (HH.out w2 _ 114 g2 H2.out hw1 hlt2).mono ?_
    rintro e w3 ⟨rfl, B3⟩
    have hlt3 := (hR2.below B3).lt
    go_wp2_with fail
    refine (HH.out w3 _ 102 g3 H3.out (hw1.below B3 hlt2) hlt3).mono ?_
    rintro e w4 ⟨rfl, B4⟩
    have hR4 := (hR2.below B3).below B4
    have hn2 : w.heap.size < w2.heap.size := (Array.getElem?_eq_some_iff.1 hz2).1
    have B24 : Below w2.heap.size w2 w4 := B3.trans (B4.mono B3.size)
    have hn4 : w.heap.size < w4.heap.size := Nat.lt_of_lt_of_le hn2 B24.size
    have hz4 := (B24.block w.heap.size hn2).trans hz2
    have C4 : Below w.heap.size w w4 := (hB0.trans (B2.mono hB0.size)).trans (B24.mono (Nat.le_of_lt hn2))
    have hw4 := hw2.below B24 hlt2
    by_cases hD : D = []
    · subst hD
      have HE2 : Hid (Hp.rmA ⟨s, d, 0, inp, outp⟩ l = (⟨s, d, 0, inp, outp⟩, Hp.truth g3)) := Lib.hid (by rw [HE.out]; cases g3 <;> simp [Hp.truth, Hp.eachA])
      have C6 := (C4.alloc C4.size (.cells #[.bool g2] 4)).alloc (Nat.le_trans C4.size (by simp)) (.cells #[.bool g3] 4)
      go_wp2_with (go_at_call 130; refine (truth_any _ _).mono ?_; rintro e w5 ⟨rfl, rfl⟩)
      go_ret
      rw [HE2.out]
      exact DoPost.ok (r := (_, Hp.truth g3)) rfl ((hR4.alloc _).alloc _) (.of_below C6)
    · have HE2 : Hid (Hp.rmA ⟨s, d, 0, inp, outp⟩ l = Hp.eachA (.rm g2 g3) ⟨s, d, 0, inp, outp⟩ D 0) := Lib.hid (by rw [HE.out, if_neg (fun h => hD h.1)])
      have hpos : 0 < D.length := List.length_pos_iff.2 hD
      have q : ((D.length : Int) == 0) = false := by rw [beq_eq_false_iff_ne]; omega
      have z4 : w4.cell? ⟨w.heap.size, 0, none⟩ = some (.pointer (some ⟨rb, 0, none⟩)) := cell_at hz4 rfl
      have hsb4 := hR4.store.lt
      have hbm4 := hR4.store.map.lt
      have hBB := ((Below.refl w4.heap.size w4).alloc (Nat.le_refl _) (.cells #[.bool g2] 4)).alloc (by simp) (.cells #[.bool g3] 4)
      have C6 := C4.trans (hBB.mono C4.size)
      have hI : EI rb sb bm st ran pv bv d inp outp [(w.heap.size, .pointer (some ⟨rb, 0, none⟩)), (w4.heap.size, .bool g2), (w4.heap.size + 1, .bool g3)] s ((w4.alloc (.cells #[.bool g2] 4)).alloc (.cells #[.bool g3] 4)) := by
        refine ⟨(hR4.alloc _).alloc _, hF, fun x hx => ?_⟩
        simp only [List.mem_cons, List.not_mem_nil, or_false] at hx
        rcases hx with rfl | rfl | rfl
        · exact ⟨by simp; omega, by dsimp only; omega, by dsimp only; omega, (hBB.cell (p := ⟨w.heap.size, 0, none⟩) hn4).trans z4⟩
        · refine ⟨by simp; omega, by dsimp only; omega, by dsimp only; omega, ?_⟩
          have h1 := heap_new w4 (.cells #[.bool g2] 4) rfl
          exact cell_at ((((Below.refl _ (w4.alloc (.cells #[.bool g2] 4))).alloc (Nat.le_refl _) (.cells #[.bool g3] 4)).block w4.heap.size (by simp)).trans h1) rfl
        · refine ⟨by simp, by dsimp only; omega, by dsimp only; omega, ?_⟩
          exact cell_at (heap_new (w4.alloc (.cells #[.bool g2] 4)) (.cells #[.bool g3] 4) (by simp)) rfl
      have hEa := each_any (EI rb sb bm st ran pv bv d inp outp [(w.heap.size, .pointer (some ⟨rb, 0, none⟩)), (w4.heap.size, .bool g2), (w4.heap.size + 1, .bool g3)]) [sb, bm] d (rmS g2 g3) (st := st) (ran := ran) (pv := pv) (bv := bv) 131 #[] #[.pointer (some ⟨w.heap.size, 0, none⟩), .pointer (some ⟨w4.heap.size, 0, none⟩), .pointer (some ⟨w4.heap.size + 1, 0, none⟩)] (enters_of Tryz.func131 (by kernel_rfl) rfl)
        (fun s W h => ⟨_, h.1, rfl⟩) (fun s W W' h hB => h.below hB) (by simp) (fun s W p h hp => rm1_any W p g2 g3 _ _ _ h hp) ((w4.alloc (.cells #[.bool g2] 4)).alloc (.cells #[.bool g3] 4)) s (.slice a2 D.length cp2) D hI (hw4.below hBB hR4.lt) hlD2 hlD
      have HEa := Lib.hid hEa
      clear hEa hI hD
      go_wp2_with fail
      refine HEa.out.mono ?_
      intro e w' h
      have h2 := done_each (a := .rm g2 g3) (rm_step g2 g3 d inp outp) h (.of_below C6)
      rw [← HE2.out] at h2
      clear h
      rcases h2.ends with ⟨n, rfl⟩ | ⟨c, rfl⟩
      · go_wp2_with fail
        go_ret
        exact h2
      · unfold endE at h2 ⊢
        exact ⟨rfl, h2⟩
theorem mkdir_pre {k : Hp.K} {l : List Bs} {b1 b2 : Bool} (h1 : ((l.takeWhile Hp.flagB).all fun x => (x.drop 1).all (([112] : Bs).contains ·)) = b1) (h2 : (l.takeWhile Hp.flagB).any (·.contains 112) = b2) :
    Hp.mkdirC k l = if b1 = false then (k, 1) else if l.dropWhile Hp.flagB = [] then (k, 1) else Hp.eachA (.mkdir b2) k (l.dropWhile Hp.flagB) 0 := by
  have e1 : (Hp.flagsOf l).all (fun c => c == 112) = b1 := by
    rw [← h1, Hp.flagsOf, List.all_flatMap]
    congr 1; funext x; congr 1; funext c
    by_cases a : c = 112 <;> simp [a]
  unfold Hp.mkdirC Hp.restOf
  rw [e1]
  cases b1 with
  | false => rfl
  | true =>
    have e2 : decide (Hp.flagsOf l ≠ []) = b2 := by
      rw [← h2, Hp.flagsOf, Bool.eq_iff_iff, decide_eq_true_eq, List.any_eq_true]
      have hall : ∀ x ∈ l.takeWhile Hp.flagB, Hp.flagB x = true := fun x hx => List.all_eq_true.1 (List.all_takeWhile (p := Hp.flagB) (l := l)) x hx
      have h1' := List.all_eq_true.1 h1
      constructor
      · intro h
        obtain ⟨c, hc⟩ := List.exists_mem_of_ne_nil _ h
        obtain ⟨x, hx, hcx⟩ := List.mem_flatMap.1 hc
        refine ⟨x, hx, ?_⟩
        have := List.all_eq_true.1 (h1' x hx) c hcx
        simp at this
        subst this
        rw [List.contains_iff_mem]
        exact List.mem_of_mem_drop hcx
      · rintro ⟨x, hx, _⟩ h
        obtain ⟨e, r, rfl⟩ := (flagB_is x).1 (hall x hx)
        have : e ∈ (l.takeWhile Hp.flagB).flatMap fun x => x.drop 1 := List.mem_flatMap.2 ⟨_, hx, by simp⟩
        rw [h] at this
        cases this
    rw [e2]
set_option maxHeartbeats 4000000 in
theorem mkdir_any (w : World) (k : Hp.K) (v : Value) (l : List Bs) (h0 : k.code = 0) (hF : Fine k.s) (hR : RunAt w rb sb bm k st ran pv bv) (hv : Ws w rb sb bm v l) (hl : ∀ x ∈ l, k.d.length + x.length + 2 ≤ 100000) (hll : l.length ≤ 1000000) :
    Calls Tryz.prog 83 #[.pointer (some ⟨rb, 0, none⟩), v] w (DoPost w rb sb bm st ran pv bv (Hp.mkdirC k l)) := by
  obtain ⟨a, c, rfl, hc⟩ := Px.Rg.shape hv
  have hlt := hR.lt
  have hsb := hR.store.lt
  have hbm := hR.store.map.lt
  obtain ⟨s, d, code, inp, outp⟩ := k
  obtain rfl : code = 0 := h0
  have hB0 := (Below.refl w.heap.size w).alloc (Nat.le_refl _) (.cells #[.pointer (some ⟨rb, 0, none⟩)] 82)
  have hz := heap_new w (.cells #[.pointer (some ⟨rb, 0, none⟩)] 82) rfl
  have hlt1 : rb < (w.alloc (.cells #[.pointer (some ⟨rb, 0, none⟩)] 82)).heap.size := by simp; omega
  have hn1 : w.heap.size < (w.alloc (.cells #[.pointer (some ⟨rb, 0, none⟩)] 82)).heap.size := by simp
  have hR1 := hR.below hB0
  have hv1 := hv.below hB0 hlt
  have hFl := flags_any (w.alloc (.cells #[.pointer (some ⟨rb, 0, none⟩)] 82)) (.slice a l.length c) [112] hv1 hlt1 hll (fun x hx => by have := hl x hx; omega) (by decide) (by decide)
  obtain ⟨g1, h1⟩ : ∃ g, ((l.takeWhile Hp.flagB).all fun x => (x.drop 1).all (([112] : Bs).contains ·)) = g := ⟨_, rfl⟩
  obtain ⟨g2, h2⟩ : ∃ g, (l.takeWhile Hp.flagB).any (·.contains 112) = g := ⟨_, rfl⟩
  have hE := mkdir_pre (k := ⟨s, d, 0, inp, outp⟩) h1 h2
  unfold FlagsPost at hFl
  rw [h1] at hFl
  have hlT : (l.takeWhile Hp.flagB).length ≤ 1000000 := Nat.le_trans (List.takeWhile_sublist _).length_le hll
  have hlD : (l.dropWhile Hp.flagB).length ≤ 1000000 := Nat.le_trans (List.dropWhile_sublist _).length_le hll
  have hlD2 : ∀ x ∈ l.dropWhile Hp.flagB, d.length + x.length + 2 ≤ 100000 := fun x hx => hl x (sub_drop x hx)
  have HF := Lib.hid hFl
  have HH := Lib.hid fun (W : World) (u : Value) (ch : UInt8) (g : Bool) (hg : (l.takeWhile Hp.flagB).any (·.contains ch) = g) (hu : Ws W rb sb bm u (l.takeWhile Hp.flagB)) (hr : rb < W.heap.size) => hg ▸ has_any W u ch hu hr hlT
  have H2 := Lib.hid h2
  clear hFl h1 h2 hv hv1
  generalize hT : l.takeWhile Hp.flagB = T at *
  generalize hD : l.dropWhile Hp.flagB = D at *
  clear hT hD
  cases g1 with
  | false =>
    have HE := Lib.hid hE
    clear hE
    go_enter Tryz.func83, Tryz.ntmps83
    go_wp2_with (go_at_call 128; refine HF.out.mono ?_; rintro e w2 ⟨v1, v2, rfl, hw1, hw2, B2⟩)
    go_ret
    rw [HE.out, if_pos (by trivial)]
    exact DoPost.ok (r := (⟨s, d, 0, inp, outp⟩, 1)) rfl (hR1.below B2) (.of_below (hB0.trans (B2.mono hB0.size)))
  | true =>
    rw [if_neg (by decide)] at hE
    have HE := Lib.hid hE
    clear hE
    by_cases hD : D = []
    · subst hD
      have HE2 : Hid (Hp.mkdirC ⟨s, d, 0, inp, outp⟩ l = (⟨s, d, 0, inp, outp⟩, 1)) := Lib.hid (by rw [HE.out]; rfl)
      go_enter Tryz.func83, Tryz.ntmps83
      go_wp2_with (go_at_call 128; refine HF.out.mono ?_; rintro e w2 ⟨v1, v2, rfl, hw1, hw2, B2⟩; obtain ⟨a2, cp2, rfl, hc2⟩ := Px.Rg.shape hw2)
      go_ret
      rw [HE2.out]
      exact DoPost.ok (r := (⟨s, d, 0, inp, outp⟩, 1)) rfl (hR1.below B2) (.of_below (hB0.trans (B2.mono hB0.size)))
    · have HE2 : Hid (Hp.mkdirC ⟨s, d, 0, inp, outp⟩ l = Hp.eachA (.mkdir g2) ⟨s, d, 0, inp, outp⟩ D 0) := Lib.hid (by rw [HE.out, if_neg hD])
      have hpos : 0 < D.length := List.length_pos_iff.2 hD
      have q : ((D.length : Int) == 0) = false := by rw [beq_eq_false_iff_ne]; omega
      clear hD
      go_enter Tryz.func83, Tryz.ntmps83
      go_wp2_with fail
      refine HF.out.mono ?_
      rintro e w2 ⟨v1, v2, rfl, hw1, hw2, B2⟩
      obtain ⟨a1, cp1, rfl, _⟩ := Px.Rg.shape hw1
      obtain ⟨a2, cp2, rfl, hc2⟩ := Px.Rg.shape hw2
      have hR2 := hR1.below B2
      have hlt2 := hR2.lt
      have hz2 := (B2.block w.heap.size hn1).trans hz
      go_wp2_with fail
      refine (HH.out w2 _ 112 g2 H2.out hw1 hlt2).mono ?_
      rintro e w4 ⟨rfl, B24⟩
      have hR4 := hR2.below B24
      have hn2 : w.heap.size < w2.heap.size := (Array.getElem?_eq_some_iff.1 hz2).1
      have hn4 : w.heap.size < w4.heap.size := Nat.lt_of_lt_of_le hn2 B24.size
      have hz4 := (B24.block w.heap.size hn2).trans hz2
      have C4 : Below w.heap.size w w4 := (hB0.trans (B2.mono hB0.size)).trans (B24.mono (Nat.le_of_lt hn2))
      have hw4 := hw2.below B24 hlt2
      have z4 : w4.cell? ⟨w.heap.size, 0, none⟩ = some (.pointer (some ⟨rb, 0, none⟩)) := cell_at hz4 rfl
      have hsb4 := hR4.store.lt
      have hbm4 := hR4.store.map.lt
      have hBB := (Below.refl w4.heap.size w4).alloc (Nat.le_refl _) (.cells #[.bool g2] 4)
      have C6 := C4.trans (hBB.mono C4.size)
      have hI : EI rb sb bm st ran pv bv d inp outp [(w.heap.size, .pointer (some ⟨rb, 0, none⟩)), (w4.heap.size, .bool g2)] s (w4.alloc (.cells #[.bool g2] 4)) := by
        refine ⟨hR4.alloc _, hF, fun x hx => ?_⟩
        simp only [List.mem_cons, List.not_mem_nil, or_false] at hx
        rcases hx with rfl | rfl
        · exact ⟨by simp; omega, by dsimp only; omega, by dsimp only; omega, (hBB.cell (p := ⟨w.heap.size, 0, none⟩) hn4).trans z4⟩
        · exact ⟨by simp, by dsimp only; omega, by dsimp only; omega, cell_at (heap_new w4 (.cells #[.bool g2] 4) rfl) rfl⟩
      have hEa := each_any (EI rb sb bm st ran pv bv d inp outp [(w.heap.size, .pointer (some ⟨rb, 0, none⟩)), (w4.heap.size, .bool g2)]) [sb, bm] d (fun s p => Sw.mkdirA s p g2) (st := st) (ran := ran) (pv := pv) (bv := bv) 133 #[] #[.pointer (some ⟨w.heap.size, 0, none⟩), .pointer (some ⟨w4.heap.size, 0, none⟩)] (enters_of Tryz.func133 (by kernel_rfl) rfl)
        (fun s W h => ⟨_, h.1, rfl⟩) (fun s W W' h hB => h.below hB) (by simp) (fun s W p h hp => mkdir1_any W p g2 _ _ h hp) (w4.alloc (.cells #[.bool g2] 4)) s (.slice a2 D.length cp2) D hI (hw4.below hBB hR4.lt) hlD2 hlD
      have HEa := Lib.hid hEa
      clear hEa hI
      go_wp2_with fail
      refine HEa.out.mono ?_
      intro e w' h
      have h2 := done_each (a := .mkdir g2) (fun s p => rfl) h (.of_below C6)
      rw [← HE2.out] at h2
      clear h
      rcases h2.ends with ⟨n, rfl⟩ | ⟨c, rfl⟩
      · go_wp2_with fail
        go_ret
        exact h2
      · unfold endE at h2 ⊢
        exact ⟨rfl, h2⟩
end
end Go.Proofs.YteommneijlelkaaGreatDoor.Hx
