/-
  (*run).each: the same with each of some paths.
-/
import Derived.Test.YtaolccibflniiaaGreatDoorQHTwo
namespace Go.Proofs.YtaolccibflniiaaGreatDoor.Hx
open Go.RowKit Go.Proofs.YtaolccibflniiaaGreatDoor Go.Maps Go.Proofs.YtaolccibflniiaaGreatDoor.Sw
set_option maxRecDepth 100000

/-- What each comes to: what is left, the error that ended it, the status. -/
def eachG {S : Type} (d : Bs) (step : S → Bs → S × Int) : S → List Bs → Nat → S × Int × Nat
  | s, [], st => (s, 0, st)
  | s, x :: r, st =>
    match Hp.joinP d x with
    | none => eachG d step s r 1
    | some p => if (step s p).2 = 5 ∨ (step s p).2 = 12 then ((step s p).1, (step s p).2, st) else eachG d step (step s p).1 r (if (step s p).2 = 0 then st else 1)
section
variable {S : Type} {d : Bs} {step : S → Bs → S × Int} {s : S} {x p : Bs} {r : List Bs} {n : Nat}
theorem eachG_no (h : Hp.joinP d x = none) : eachG d step s (x :: r) n = eachG d step s r 1 := by
  conv => lhs; unfold eachG
  rw [h]
theorem eachG_yes (h : Hp.joinP d x = some p) : eachG d step s (x :: r) n = if (step s p).2 = 5 ∨ (step s p).2 = 12 then ((step s p).1, (step s p).2, n) else eachG d step (step s p).1 r (if (step s p).2 = 0 then n else 1) := by
  conv => lhs; unfold eachG
  rw [h]
end
def EachPostF {S : Type} (I : S → World → Prop) (Fr : World → World → Prop) (w : World) (r : S × Int × Nat) (e : Ending) (w' : World) : Prop :=
  (if r.2.1 = 0 then e = .returned (.int .i64 r.2.2) else e = endE r.2.1) ∧ I r.1 w' ∧ Fr w w'
def EachPost {S : Type} (I : S → World → Prop) (X : List Nat) (w : World) (r : S × Int × Nat) (e : Ending) (w' : World) : Prop := EachPostF I (Kept X) w r e w'
def EaRel {S : Type} (I : S → World → Prop) (Fr : World → World → Prop) (d : Bs) (step : S → Bs → S × Int) (w : World) (s0 : S) (l : List Bs) (v7 v14 : Value) (wr : World) : Prop :=
  ∃ (n m : Nat) (s : S), n ≤ l.length ∧ m ≤ 1 ∧ v14 = .int .i64 n ∧ v7 = .int .i64 m ∧ I s wr ∧ eachG d step s0 l 0 = eachG d step s (l.drop n) m ∧ Fr w wr

set_option maxHeartbeats 2000000 in
theorem each_gen {S : Type} (I : S → World → Prop) (Fr : World → World → Prop) (d : Bs) (step : S → Bs → S × Int) {rb sb bm : Nat} {st ran : Int} {pv bv : Value} (g : Nat) (first lb : Array Value)
    (eg : ∀ args w, (callFunc g args).run Tryz.prog w = .ok (.enter g args) w)
    (hI : ∀ s W, I s W → ∃ k, RunAt W rb sb bm k st ran pv bv ∧ k.d = d) (hB : ∀ s W W', I s W → Below W.heap.size W W' → I s W') (hF0 : ∀ W, Fr W W) (hF1 : ∀ {W W1 W2}, Fr W W1 → Fr W1 W2 → Fr W W2) (hF2 : ∀ {W W'}, Below W.heap.size W W' → Fr W W')
    (w : World) (hF3 : ∀ {W'}, Fr w W' → ∀ b, Old rb sb bm b → W'.heap[b]? = w.heap[b]?)
    (hdo : ∀ s W (p : Bs), I s W → p.length ≤ 100000 → Calls Tryz.prog g (first.push (.string (str p)) ++ lb) W fun e w' => e = .returned (.int .i64 (step s p).2) ∧ I (step s p).1 w' ∧ Fr W w')
    (s : S) (v : Value) (l : List Bs) (hs : I s w) (hv : Ws w rb sb bm v l) (hl : ∀ x ∈ l, d.length + x.length + 2 ≤ 100000) (hll : l.length ≤ 1000000) :
    Calls Tryz.prog 116 #[.pointer (some ⟨rb, 0, none⟩), v, .func (.func g) first lb] w (EachPostF I Fr w (eachG d step s l 0)) := by
  obtain ⟨a, c, rfl, hc⟩ := Px.Rg.shape hv
  have HV := Lib.hid hv
  have HL := Lib.hid hl
  obtain ⟨k0, hk0, _⟩ := hI s w hs
  have hlt := hk0.lt
  clear hv hl hk0
  go_enter Tryz.func116, Tryz.ntmps116
  go_wp2_with fail
  go_loopw [7, 14] (fun v7 v14 wr => EaRel I Fr d step w s l v7 v14 wr) (fun _ i _ => l.length - (intOf i).toNat)
  case atStart => exact ⟨0, 0, s, Nat.zero_le _, Nat.zero_le _, rfl, rfl, hs, rfl, hF0 _⟩
  case round =>
    obtain ⟨n, m, s', hn, hm, rfl, rfl, hs', he, hK⟩ := hrel
    by_cases hlt2 : n < l.length
    · obtain ⟨k, hR, hkd⟩ := hI s' wr hs'
      have hltr := hR.lt
      obtain ⟨b, o, rfl, hcp, hb, hx⟩ := Ws.cell (Px.Rg.keep HV.out (hF3 hK)) (by omega)
      have x0 := hx n hlt2
      have hg : l.drop n = l[n] :: l.drop (n + 1) := List.drop_eq_getElem_cons hlt2
      have hsz := HL.out _ (List.getElem_mem hlt2)
      obtain ⟨y, hy⟩ : ∃ y, l[n] = y := ⟨_, rfl⟩
      rw [hy] at x0 hg hsz
      rw [hg] at he
      have hsy : (str y).size ≤ 1000000000 := by rw [← bs_len, bs_str]; omega
      have hkl : k.d.length ≤ 100000 := by rw [hkd]; omega
      cases hj : Hp.joinP d y with
      | none =>
        have HJ : Hid (Hp.joinP k.d (bs (str y)) = none) := Lib.hid (by rw [hkd]; exact hj)
        rw [eachG_no hj] at he
        have HE := Lib.hid he
        have HK := Lib.hid hK
        have hs2 := hB s' wr
        clear he hj hK hg hy hx
        go_wp2_with fail
        refine (path_no _ (str y) hR hkl hsy HJ).mono ?_
        rintro e w1 ⟨rfl, B1⟩
        go_wp2_with fail
        refine (status_one _ 2 (by decide) (by decide) (by decide)).mono ?_
        rintro e w2 ⟨rfl, rfl⟩

        go_wp2_with fail
        go_roundw
        case rel => exact ⟨n + 1, 1, s', hlt2, Nat.le_refl _, by go_num, congrArg (Value.int .i64) (by omega), hs2 _ hs' B1, HE.out, hF1 HK.out (hF2 B1)⟩
        case measure => simp [intOf]; omega
      | some p =>
        have hpl := Hp.joinP_len hj
        have HJ : Hid (Hp.joinP k.d (bs (str y)) = some p) := Lib.hid (by rw [hkd]; exact hj)
        rw [eachG_yes hj] at he
        have HD := Lib.hid fun W hW => hdo s' W p hW (by omega)
        obtain ⟨⟨s2, cd⟩, hq⟩ : ∃ q, step s' p = q := ⟨_, rfl⟩
        rw [hq] at he HD
        have HK := Lib.hid hK
        have hs2 := hB s' wr
        clear hj hK hg hy hx hq
        by_cases hc : cd = 0
        · subst hc
          rw [if_neg (by simp), if_pos rfl] at he
          have HE := Lib.hid he
          clear he
          go_wp2_with fail
          refine (path_yes _ (str y) p hR hkl hsy HJ).mono ?_
          rintro e w1 ⟨rfl, B1⟩
          have hs3 := hs2 _ hs' B1
          clear hs2
          go_wp2_with fail
          refine (HD.out _ hs3).mono ?_
          rintro e w2 ⟨rfl, hs4, hK4⟩
          go_wp2_with (go_at_call 123; refine (status_zero _).mono ?_; rintro e w3 ⟨rfl, rfl⟩)
          go_roundw
          case rel => exact ⟨n + 1, m, s2, hlt2, hm, by go_num, congrArg (Value.int .i64) (by omega), hs4, HE.out, hF1 (hF1 HK.out (hF2 B1)) hK4⟩
          case measure => simp [intOf]; omega
        · by_cases h5 : cd = 5 ∨ cd = 12
          · rw [if_pos h5] at he
            have HE := Lib.hid he
            clear he
            go_wp2_with fail
            refine (path_yes _ (str y) p hR hkl hsy HJ).mono ?_
            rintro e w1 ⟨rfl, B1⟩
            have hs3 := hs2 _ hs' B1
            clear hs2
            go_wp2_with fail
            refine (HD.out _ hs3).mono ?_
            rintro e w2 ⟨rfl, hs4, hK4⟩
            go_wp2_with (go_at_call 123; refine (status_end _ cd h5).mono ?_; rintro e w3 ⟨rfl, rfl⟩; unfold endE)
            refine ⟨rfl, ?_⟩
            rw [HE.out]
            exact ⟨by rw [if_neg hc]; rfl, hs4, hF1 (hF1 HK.out (hF2 B1)) hK4⟩
          · rw [if_neg h5, if_neg hc] at he
            have HE := Lib.hid he
            have h5a : cd ≠ 5 := fun e => h5 (.inl e)
            have h5b : cd ≠ 12 := fun e => h5 (.inr e)
            clear he
            go_wp2_with fail
            refine (path_yes _ (str y) p hR hkl hsy HJ).mono ?_
            rintro e w1 ⟨rfl, B1⟩
            have hs3 := hs2 _ hs' B1
            clear hs2
            go_wp2_with fail
            refine (HD.out _ hs3).mono ?_
            rintro e w2 ⟨rfl, hs4, hK4⟩
            go_wp2_with (go_at_call 123; refine (status_one _ cd hc h5a h5b).mono ?_; rintro e w3 ⟨rfl, rfl⟩)
            go_roundw
            case rel => exact ⟨n + 1, 1, s2, hlt2, Nat.le_refl _, by go_num, congrArg (Value.int .i64) (by omega), hs4, HE.out, hF1 (hF1 HK.out (hF2 B1)) hK4⟩
            case measure => simp [intOf]; omega
    · obtain rfl : n = l.length := by omega
      rw [List.drop_length] at he
      have HE := Lib.hid he
      clear he
      go_wp2_with fail
      go_ret
      rw [HE.out]
      exact ⟨rfl, hs', hK⟩
theorem each_any {S : Type} (I : S → World → Prop) (X : List Nat) (d : Bs) (step : S → Bs → S × Int) {rb sb bm : Nat} {st ran : Int} {pv bv : Value} (g : Nat) (first lb : Array Value)
    (eg : ∀ args w, (callFunc g args).run Tryz.prog w = .ok (.enter g args) w)
    (hI : ∀ s W, I s W → ∃ k, RunAt W rb sb bm k st ran pv bv ∧ k.d = d) (hB : ∀ s W W', I s W → Below W.heap.size W W' → I s W') (hX : ∀ i ∈ X, i = sb ∨ i = bm ∨ rb ≤ i)
    (hdo : ∀ s W (p : Bs), I s W → p.length ≤ 100000 → Calls Tryz.prog g (first.push (.string (str p)) ++ lb) W fun e w' => e = .returned (.int .i64 (step s p).2) ∧ I (step s p).1 w' ∧ Kept X W w')
    (w : World) (s : S) (v : Value) (l : List Bs) (hs : I s w) (hv : Ws w rb sb bm v l) (hl : ∀ x ∈ l, d.length + x.length + 2 ≤ 100000) (hll : l.length ≤ 1000000) :
    Calls Tryz.prog 116 #[.pointer (some ⟨rb, 0, none⟩), v, .func (.func g) first lb] w (EachPost I X w (eachG d step s l 0)) := by
  obtain ⟨k0, hk0, _⟩ := hI s w hs
  have hlt := hk0.lt
  exact each_gen I (Kept X) d step g first lb eg hI hB (fun W => Kept.refl X W) (fun h k => h.trans k) (fun h => .of_below h) w (fun h => kept_old h hX hlt) hdo s v l hs hv hl hll
end Go.Proofs.YtaolccibflniiaaGreatDoor.Hx
