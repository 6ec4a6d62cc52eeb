/-
  package text: the map of functions; Takes and Call. (Printed by wip/tools/genfns.py.)
-/
import Derived.Maps.OwnSet
import Derived.Maps.Views
import Derived.Test.YtenokbceamcekaaGreatDoorQEPFns2
import Derived.Test.YtenokbceamcekaaGreatDoorQEPFind
import Derived.Test.YtenokbceamcekaaGreatDoorQEPSort
import Derived.Test.YtenokbceamcekaaGreatDoorQEPFirst
import Derived.Test.YtenokbceamcekaaGreatDoorQEPJoin
namespace Go.Proofs.YtenokbceamcekaaGreatDoor.Ew
open Go.RowKit Go.Maps Go.Proofs.YtenokbceamcekaaGreatDoor Go.Proofs.YtenokbceamcekaaGreatDoor.Ww Go.Proofs.YtenokbceamcekaaGreatDoor.Tw
set_option maxRecDepth 100000

abbrev PT : TypeId := 78
/-- How an element reads: as itself. -/
def hR (v : Value) : Option (DataW Value × List MemPlace) := some (.held v, [])
theorem hR_inv {v : Value} {d : DataW Value} {ps : List MemPlace} {u : Value} (h : hR v = some (d, ps)) (hd : d = .held u) : v = u := by
  unfold hR at h
  subst hd
  injection h with h
  injection h with h1 _
  exact DataW.held.inj h1
theorem nm_inj : ∀ k j : Fin 19, by8 (nm k) = by8 (nm j) → k = j := by decide
def fnsD (V : Nat → Value) : Nat → DataW Value
  | 0 => .map []
  | n + 1 => (fnsD V n).put (.string (by8 (nm n))) (.held (V n))
theorem fns_is (V : Nat → Value) : ∀ n, IsMap (fnsD V n)
  | 0 => isMap_empty
  | n + 1 => (fns_is V n).put _ _
theorem key_ne {k n : Nat} (hk : k < 19) (hn : n < 19) (h : k ≠ n) : Lit.string (by8 (nm k)) ≠ .string (by8 (nm n)) := fun e => h (by
  have e2 := nm_inj ⟨k, hk⟩ ⟨n, hn⟩ (Lit.string.inj e)
  exact Fin.mk.inj e2)
theorem fns_at (V : Nat → Value) (z : DataW Value) : ∀ n, n ≤ 19 → ∀ k, k < n → (fnsD V n).atKey (.string (by8 (nm k))) z = .held (V k) ∧ has (fnsD V n) (.string (by8 (nm k))) = true
  | 0, _, k, hk => absurd hk (Nat.not_lt_zero _)
  | n + 1, hn, k, hk => by
    unfold fnsD
    by_cases e : k = n
    · subst e
      exact ⟨atKey_put_same (fns_is V k) (show WideAt.IsKeyLit (.string (by8 (nm k))) from trivial) _ _, has_put_same (fns_is V k) (show WideAt.IsKeyLit (.string (by8 (nm k))) from trivial) _⟩
    · rw [atKey_put_other (key_ne (by omega) (by omega) e), has_put_other (key_ne (by omega) (by omega) e)]
      exact fns_at V z n (by omega) k (by omega)
theorem fns_none (V : Nat → Value) (z : DataW Value) {s : List UInt8} : ∀ n, (∀ k, k < n → s ≠ by8 (nm k)) → (fnsD V n).atKey (.string s) z = z ∧ has (fnsD V n) (.string s) = false
  | 0, _ => ⟨rfl, rfl⟩
  | n + 1, h => by
    unfold fnsD
    have hne : Lit.string s ≠ .string (by8 (nm n)) := fun e => h n (Nat.lt_succ_self _) (Lit.string.inj e)
    rw [atKey_put_other hne, has_put_other hne]
    exact fns_none V z n fun k hk => h k (by omega)
/-- An element of the map. -/
def Elem (W : World) (k : Nat) (v : Value) : Prop := ∃ g lb, v = .agg #[.int .i64 (takesN k : Nat), FA g lb] ∧ FnL W g lb (takesN k) (resS k)
theorem Elem.later {W W' : World} {k : Nat} {v : Value} (h : Elem W k v) (c : CK W W') : Elem W' k v := by
  obtain ⟨g, lb, hv, hf⟩ := h
  exact ⟨g, lb, hv, hf.later c⟩
/-- The map, as far as it has come. -/
def FnsAt (w0 W : World) (n : Nat) : Prop := ∃ V : Nat → Value, W.ownsMap Tryz.prog ST hR w0.heap.size n (fnsD V n) ∧ ∀ k, k < n → Elem W k (V k)
theorem FnsAt.below {w0 W W' : World} {n : Nat} (h : FnsAt w0 W n) (hB : Below W.heap.size W W') : FnsAt w0 W' n := by
  obtain ⟨V, ho, he⟩ := h
  refine ⟨V, ?_, fun k hk => (he k hk).later (CK.of hB)⟩
  have hl := ho.lt
  obtain ⟨es, clock, hh, r⟩ := ho
  exact ⟨es, clock, (hB.block _ hl).trans hh, r⟩
theorem keyS : Keyed Tryz.prog ST := string_keyed Tryz.underlying9
theorem key_of {p : ByteArray} (h : p.size ≤ maxLen) : keyOf Tryz.prog ST (.string p) = some (.string (by8 p)) := WideMaps.keyOf_string_mk Tryz.underlying9 h
theorem nm_small : ∀ k, k < 19 → (nm k).size ≤ maxLen := by
  intro k hk
  have : ∀ k : Fin 19, (nm k).size ≤ 20 := by decide
  have h2 : (nm k).size ≤ 20 := this ⟨k, hk⟩
  unfold maxLen; omega
theorem fnsD_congr {V V' : Nat → Value} : ∀ n, (∀ k, k < n → V k = V' k) → fnsD V n = fnsD V' n
  | 0, _ => rfl
  | n + 1, h => by unfold fnsD; rw [fnsD_congr n fun k hk => h k (by omega), h n (Nat.lt_succ_self _)]
theorem wpList_insert_fn {ops : Array Oper} {rest : List Oper} {o : Oper} {a : Act} {Q : Exit → Act → World → Prop} {w w0 : World} {n : Nat} (hg : o.guard = none) (m x v : Operand) (hop : o.op = Op.insert PT m x v)
    (hm : a.eval m = .map (some w0.heap.size)) (hF : FnsAt w0 w n) (hB : Below w0.heap.size w0 w) (hn : n < 19) (hx : a.eval x = .string (nm n)) (val : Value) (he : Elem w n val) (hv : a.eval v = val)
    (hK : ∀ w', FnsAt w0 w' (n + 1) → Below w0.heap.size w0 w' → wpList Tryz.prog ops Q rest (a.put o.dst undef) w') : wpList Tryz.prog ops Q (o :: rest) a w := by
  obtain ⟨V, ho, hE⟩ := hF
  refine wpList_plain hg fun K' hK' => ?_
  obtain ⟨w', hrun, r1, r2⟩ := ho.store (val := val) (d := .held val) (ps := []) keyS Tryz.underlying78 (by unfold maxLen; omega) (key_of (nm_small n hn)) rfl
  have hg1 := r2.grown
  have hck : CK w w' := ⟨hg1.size, fun k cs t fr e => (hg1.block k (Array.getElem?_eq_some_iff.1 e).1 (fun h => by
    cases h
    obtain ⟨es, clock, hh, _⟩ := ho
    rw [hh] at e; cases e)).trans e⟩
  unfold Oper.wp
  simp [execOp, hop, hm, hx, hv, hrun, Result.andThen]
  refine hK' _ _ (hK w' ⟨fun k => if k = n then val else V k, ?_, fun k hk => ?_⟩ (hB.grown hg1 hB.size (fun k e => by cases e; exact Nat.le_refl _)))
  · unfold fnsD
    rw [if_pos rfl, ← fnsD_congr n (V := V) fun k hk => (if_neg (by omega : ¬ k = n)).symm]
    exact r1
  · show Elem w' k (if k = n then val else V k)
    by_cases e : k = n
    · rw [if_pos e]; subst e; exact he.later hck
    · rw [if_neg e]; exact (hE k (by omega)).later hck
theorem eg_one1 : Enters 87 := enters_of Tryz.func87 (by kernel_rfl) rfl
theorem eg_two1 : Enters 88 := enters_of Tryz.func88 (by kernel_rfl) rfl
theorem eg_three1 : Enters 82 := enters_of Tryz.func82 (by kernel_rfl) rfl
theorem elem_one {W : World} {b g : Nat} {lb : Array Value} {f : ByteArray → ByteArray} {k : Nat} (hb : Boxed W b 36 (FA g lb)) (hf : Fn1 W g lb f) (ht : takesN k = 1) (hr : ∀ A, resS k A = (f (A.getD 0 ⟨#[]⟩), 0)) :
    Elem W k (.agg #[.int .i64 1, FA 87 #[.pointer (some ⟨b, 0, none⟩)]]) :=
  ⟨_, _, by rw [ht]; rfl, eg_one1, fun w' v A c hG hR hl hs => by
    rw [hr]
    exact one1_any w' v A _ b g lb hf.1 (c.box hb) hR (hl.trans ht) fun W hW => hf.2 W _ (c.trans (CK.of hW)) (hG.below hW) (getD_size hs 0)⟩
theorem elem_two {W : World} {b g : Nat} {lb : Array Value} {f : ByteArray → ByteArray → ByteArray} {k : Nat} (hb : Boxed W b 37 (FA g lb)) (hf : Fn2 W g lb f) (ht : takesN k = 2) (hr : ∀ A, resS k A = (f (A.getD 0 ⟨#[]⟩) (A.getD 1 ⟨#[]⟩), 0)) :
    Elem W k (.agg #[.int .i64 2, FA 88 #[.pointer (some ⟨b, 0, none⟩)]]) :=
  ⟨_, _, by rw [ht]; rfl, eg_two1, fun w' v A c hG hR hl hs => by
    rw [hr]
    exact two1_any w' v A _ b g lb hf.1 (c.box hb) hR (hl.trans ht) fun W hW => hf.2 W _ _ (c.trans (CK.of hW)) (hG.below hW) (getD_size hs 0) (getD_size hs 1)⟩
theorem elem_three {W : World} {b g : Nat} {lb : Array Value} {f : ByteArray → ByteArray → ByteArray → ByteArray} {k : Nat} (hb : Boxed W b 53 (FA g lb)) (hf : Fn3 W g lb f) (ht : takesN k = 3) (hr : ∀ A, resS k A = (f (A.getD 0 ⟨#[]⟩) (A.getD 1 ⟨#[]⟩) (A.getD 2 ⟨#[]⟩), 0)) :
    Elem W k (.agg #[.int .i64 3, FA 82 #[.pointer (some ⟨b, 0, none⟩)]]) :=
  ⟨_, _, by rw [ht]; rfl, eg_three1, fun w' v A c hG hR hl hs => by
    rw [hr]
    exact three1_any w' v A _ b g lb hf.1 (c.box hb) hR (hl.trans ht) fun W hW => hf.2 W _ _ _ (c.trans (CK.of hW)) (hG.below hW) (getD_size hs 0) (getD_size hs 1) (getD_size hs 2)⟩
theorem elem_word (W : World) : Elem W 7 (.agg #[.int .i64 2, FA 60 #[]]) :=
  ⟨_, _, rfl, enters_of Tryz.func60 (by kernel_rfl) rfl, fun w' v A _ _ hR hl hs => word1_any w' v A hR hl hs⟩
theorem elem_wordlist (W : World) : Elem W 9 (.agg #[.int .i64 3, FA 63 #[]]) :=
  ⟨_, _, rfl, enters_of Tryz.func63 (by kernel_rfl) rfl, fun w' v A _ _ hR hl hs => wordlist1_any w' v A hR hl hs⟩
theorem fn_strip (W : World) : Fn1 W 55 #[] (fun p => joinS (wordsS p)) := ⟨enters_of Tryz.func55 (by kernel_rfl) rfl, fun w' p _ hG hp => by show Calls _ _ #[.string p] _ _; exact Pstrip_any w' p hp⟩
theorem fn_sorted (W : World) : Fn1 W 59 #[] (fun p => joinS (Wp.sortS (wordsS p))) := ⟨enters_of Tryz.func59 (by kernel_rfl) rfl, fun w' p _ hG hp => by show Calls _ _ #[.string p] _ _; exact Psort_any w' p hp⟩
theorem fn_count (W : World) : Fn1 W 62 #[] (fun p => str (Ep.digitsA (wordsS p).length)) := ⟨enters_of Tryz.func62 (by kernel_rfl) rfl, fun w' p _ hG hp => by show Calls _ _ #[.string p] _ _; exact Pcount_any w' p hp hG⟩
theorem fn_first (W : World) : Fn1 W 65 #[] (fun p => joinS (someS (wordsS p) 1 1)) := ⟨enters_of Tryz.func65 (by kernel_rfl) rfl, fun w' p _ hG hp => by show Calls _ _ #[.string p] _ _; exact Pfirst_any w' p hp⟩
theorem fn_last (W : World) : Fn1 W 66 #[] (fun p => joinS (someS (wordsS p) (max (wordsS p).length 1) (wordsS p).length)) := ⟨enters_of Tryz.func66 (by kernel_rfl) rfl, fun w' p _ hG hp => by show Calls _ _ #[.string p] _ _; exact Plast_any w' p hp⟩
theorem fn_findstring (W : World) : Fn2 W 57 #[] (fun a b => if Ep.insideA (by8 a) (by8 b) = true then a else ⟨#[]⟩) := ⟨enters_of Tryz.func57 (by kernel_rfl) rfl, fun w' p q _ hG hp hq => by show Calls _ _ #[.string p, .string q] _ _; exact Pfindstring_any w' p q hq hG⟩
theorem fn_addprefix (W : World) : Fn2 W 72 #[] (fun a b => joinS (eachS (fun x => a ++ x) (wordsS b))) := ⟨enters_of Tryz.func72 (by kernel_rfl) rfl, fun w' p q _ hG hp hq => by show Calls _ _ #[.string p, .string q] _ _; exact Paddprefix_any w' p q hp hq⟩
theorem fn_addsuffix (W : World) : Fn2 W 73 #[] (fun a b => joinS (eachS (fun x => x ++ a) (wordsS b))) := ⟨enters_of Tryz.func73 (by kernel_rfl) rfl, fun w' p q _ hG hp hq => by show Calls _ _ #[.string p, .string q] _ _; exact Paddsuffix_any w' p q hp hq⟩
theorem fn_join (W : World) : Fn2 W 74 #[] (fun a b => joinS (pairsS (wordsS a) (wordsS b))) := ⟨enters_of Tryz.func74 (by kernel_rfl) rfl, fun w' p q _ hG hp hq => by show Calls _ _ #[.string p, .string q] _ _; exact Pjoin_any w' p q hp hq⟩
theorem fn_subst (W : World) : Fn3 W 52 #[] (fun a b c => str (Ep.substA (by8 a) (by8 b) (by8 c))) := ⟨enters_of Tryz.func52 (by kernel_rfl) rfl, fun w' p q r _ hG hp hq hr => by show Calls _ _ #[.string p, .string q, .string r] _ _; exact Psubst_any w' p q r hq hr hG⟩
theorem fn_patsubst (W : World) : Fn3 W 53 #[] (fun a b c => joinS (eachS (fun x => chS (trimT a) (trimT b) x) (wordsS c))) := ⟨enters_of Tryz.func53 (by kernel_rfl) rfl, fun w' p q r _ hG hp hq hr => by show Calls _ _ #[.string p, .string q, .string r] _ _; exact Ppatsubst_any w' p q r hp hq hr⟩
theorem fn_each_dir (w : World) : Fn1 (w.alloc (.cells #[FA 68 #[]] FT)) 95 #[.pointer (some ⟨w.heap.size, 0, none⟩)] (fun s => joinS (eachS (oneS 12 []) (wordsS s))) :=
  each_fn w 68 #[] (oneS 12 []) (enters_of Tryz.func68 (by kernel_rfl) rfl) (fun W x _ hx => by show Calls _ _ #[.string x] _ _; exact Pdir_any W x (by omega)) (fun x hx => one_size 12 [] x (by simp) (by omega))
theorem fn_each_name (w : World) : Fn1 (w.alloc (.cells #[FA 69 #[]] FT)) 95 #[.pointer (some ⟨w.heap.size, 0, none⟩)] (fun s => joinS (eachS (oneS 13 []) (wordsS s))) :=
  each_fn w 69 #[] (oneS 13 []) (enters_of Tryz.func69 (by kernel_rfl) rfl) (fun W x _ hx => by show Calls _ _ #[.string x] _ _; exact Pnotdir_any W x (by omega)) (fun x hx => one_size 13 [] x (by simp) (by omega))
theorem fn_each_ending (w : World) : Fn1 (w.alloc (.cells #[FA 70 #[]] FT)) 95 #[.pointer (some ⟨w.heap.size, 0, none⟩)] (fun s => joinS (eachS (oneS 14 []) (wordsS s))) :=
  each_fn w 70 #[] (oneS 14 []) (enters_of Tryz.func70 (by kernel_rfl) rfl) (fun W x _ hx => by show Calls _ _ #[.string x] _ _; exact Pend_any W x (by omega)) (fun x hx => one_size 14 [] x (by simp) (by omega))
theorem fn_each_base (w : World) : Fn1 (w.alloc (.cells #[FA 71 #[]] FT)) 95 #[.pointer (some ⟨w.heap.size, 0, none⟩)] (fun s => joinS (eachS (oneS 15 []) (wordsS s))) :=
  each_fn w 71 #[] (oneS 15 []) (enters_of Tryz.func71 (by kernel_rfl) rfl) (fun W x _ hx => by show Calls _ _ #[.string x] _ _; exact Pbase_any W x (by omega)) (fun x hx => one_size 15 [] x (by simp) (by omega))
theorem run_mkF (w : World) : (Instr.makeMap PT none).run Tryz.prog w = .ok (.map (some w.heap.size)) (w.alloc (.map #[] 0)) := run_makeMap _ _
set_option maxHeartbeats 8000000 in
theorem functions_any (w : World) : Calls Tryz.prog 40 #[] w fun e w' => e = .returned (.map (some w.heap.size)) ∧ FnsAt w w' 19 ∧ Below w.heap.size w w' := by
  have hmm := run_mkF
  have F0 : FnsAt w (w.alloc (.map #[] 0)) 0 := ⟨fun _ => undef, World.ownsMap_made w Tryz.prog ST hR, fun k hk => absurd hk (Nat.not_lt_zero _)⟩
  have G0 : Below w.heap.size w (w.alloc (.map #[] 0)) := (Below.refl _ w).alloc (Nat.le_refl _) _
  have HF0 := Lib.hid F0
  have HG0 := Lib.hid G0
  clear F0 G0
  go_enter Tryz.func40, Tryz.ntmps40
  go_wp2_with fail
  generalize w.alloc (.map #[] 0) = v0 at HF0 HG0 ⊢
  refine (three_any _ 52 #[]).mono ?_
  rintro e u0 ⟨rfl, X0, B0⟩
  have HE0 := Lib.hid (elem_three (k := 0) X0 (fn_subst u0) rfl (fun _ => rfl))
  have HH0 := Lib.hid (HF0.out.below B0)
  have HJ0 := Lib.hid (HG0.out.trans (B0.mono HG0.out.size))
  clear X0 B0
  go_wp2_with (refine wpList_insert_fn (by rfl) _ _ _ (by rfl) (by rfl) HH0.out HJ0.out (by decide) (by rfl) _ HE0.out (by rfl) ?_; intro v1 f1 g1; have HF1 := Lib.hid f1; have HG1 := Lib.hid g1; clear f1 g1 HH0 HJ0 HE0)
  refine (three_any _ 53 #[]).mono ?_
  rintro e u1 ⟨rfl, X1, B1⟩
  have HE1 := Lib.hid (elem_three (k := 1) X1 (fn_patsubst u1) rfl (fun _ => rfl))
  have HH1 := Lib.hid (HF1.out.below B1)
  have HJ1 := Lib.hid (HG1.out.trans (B1.mono HG1.out.size))
  clear X1 B1
  go_wp2_with (refine wpList_insert_fn (by rfl) _ _ _ (by rfl) (by rfl) HH1.out HJ1.out (by decide) (by rfl) _ HE1.out (by rfl) ?_; intro v2 f2 g2; have HF2 := Lib.hid f2; have HG2 := Lib.hid g2; clear f2 g2 HH1 HJ1 HE1)
  refine (one_any _ 55 #[]).mono ?_
  rintro e u2 ⟨rfl, X2, B2⟩
  have HE2 := Lib.hid (elem_one (k := 2) X2 (fn_strip u2) rfl (fun _ => rfl))
  have HH2 := Lib.hid (HF2.out.below B2)
  have HJ2 := Lib.hid (HG2.out.trans (B2.mono HG2.out.size))
  clear X2 B2
  go_wp2_with (refine wpList_insert_fn (by rfl) _ _ _ (by rfl) (by rfl) HH2.out HJ2.out (by decide) (by rfl) _ HE2.out (by rfl) ?_; intro v3 f3 g3; have HF3 := Lib.hid f3; have HG3 := Lib.hid g3; clear f3 g3 HH2 HJ2 HE2)
  refine (two_any _ 57 #[]).mono ?_
  rintro e u3 ⟨rfl, X3, B3⟩
  have HE3 := Lib.hid (elem_two (k := 3) X3 (fn_findstring u3) rfl (fun _ => rfl))
  have HH3 := Lib.hid (HF3.out.below B3)
  have HJ3 := Lib.hid (HG3.out.trans (B3.mono HG3.out.size))
  clear X3 B3
  go_wp2_with (refine wpList_insert_fn (by rfl) _ _ _ (by rfl) (by rfl) HH3.out HJ3.out (by decide) (by rfl) _ HE3.out (by rfl) ?_; intro v4 f4 g4; have HF4 := Lib.hid f4; have HG4 := Lib.hid g4; clear f4 g4 HH3 HJ3 HE3)
  refine (filter_any _ true).mono ?_
  rintro e t4 ⟨rfl, E4⟩
  have HX4 := Lib.hid E4
  have HZ4 := Lib.hid (HX4.out ▸ filter_fn _ true)
  have HW4 := Lib.hid (HX4.out ▸ (Below.refl _ _).alloc (Nat.le_refl _) _ : Below (World.heap v4).size v4 t4)
  clear E4
  go_wp2_with fail
  refine (two_any _ 90 _).mono ?_
  rintro e u4 ⟨rfl, X4, B4⟩
  have HE4 := Lib.hid (elem_two (k := 4) X4 (HZ4.out.later (CK.of B4)) rfl (fun _ => rfl))
  have HH4 := Lib.hid ((HF4.out.below HW4.out).below B4)
  have HJ4 := Lib.hid ((HG4.out.trans (HW4.out.mono HG4.out.size)).trans (B4.mono (Nat.le_trans HG4.out.size HW4.out.size)))
  clear X4 B4 HX4 HZ4 HW4 HF4 HG4
  go_wp2_with (refine wpList_insert_fn (by rfl) _ _ _ (by rfl) (by rfl) HH4.out HJ4.out (by decide) (by rfl) _ HE4.out (by rfl) ?_; intro v5 f5 g5; have HF5 := Lib.hid f5; have HG5 := Lib.hid g5; clear f5 g5 HH4 HJ4 HE4)
  refine (filter_any _ false).mono ?_
  rintro e t5 ⟨rfl, E5⟩
  have HX5 := Lib.hid E5
  have HZ5 := Lib.hid (HX5.out ▸ filter_fn _ false)
  have HW5 := Lib.hid (HX5.out ▸ (Below.refl _ _).alloc (Nat.le_refl _) _ : Below (World.heap v5).size v5 t5)
  clear E5
  go_wp2_with fail
  refine (two_any _ 90 _).mono ?_
  rintro e u5 ⟨rfl, X5, B5⟩
  have HE5 := Lib.hid (elem_two (k := 5) X5 (HZ5.out.later (CK.of B5)) rfl (fun _ => rfl))
  have HH5 := Lib.hid ((HF5.out.below HW5.out).below B5)
  have HJ5 := Lib.hid ((HG5.out.trans (HW5.out.mono HG5.out.size)).trans (B5.mono (Nat.le_trans HG5.out.size HW5.out.size)))
  clear X5 B5 HX5 HZ5 HW5 HF5 HG5
  go_wp2_with (refine wpList_insert_fn (by rfl) _ _ _ (by rfl) (by rfl) HH5.out HJ5.out (by decide) (by rfl) _ HE5.out (by rfl) ?_; intro v6 f6 g6; have HF6 := Lib.hid f6; have HG6 := Lib.hid g6; clear f6 g6 HH5 HJ5 HE5)
  refine (one_any _ 59 #[]).mono ?_
  rintro e u6 ⟨rfl, X6, B6⟩
  have HE6 := Lib.hid (elem_one (k := 6) X6 (fn_sorted u6) rfl (fun _ => rfl))
  have HH6 := Lib.hid (HF6.out.below B6)
  have HJ6 := Lib.hid (HG6.out.trans (B6.mono HG6.out.size))
  clear X6 B6
  go_wp2_with (first
    | (refine wpList_insert_fn (by rfl) _ _ _ (by rfl) (by rfl) HH6.out HJ6.out (by decide) (by rfl) _ HE6.out (by rfl) ?_; intro v7 f7 g7; have HF7 := Lib.hid f7; have HG7 := Lib.hid g7; clear f7 g7 HH6 HJ6 HE6)
    | (refine wpList_insert_fn (by rfl) _ _ _ (by rfl) (by rfl) HF7.out HG7.out (by decide) (by rfl) _ (elem_word v7) (by rfl) ?_; intro v8 f8 g8; have HF8 := Lib.hid f8; have HG8 := Lib.hid g8; clear f8 g8 HF7 HG7))
  refine (one_any _ 62 #[]).mono ?_
  rintro e u8 ⟨rfl, X8, B8⟩
  have HE8 := Lib.hid (elem_one (k := 8) X8 (fn_count u8) rfl (fun _ => rfl))
  have HH8 := Lib.hid (HF8.out.below B8)
  have HJ8 := Lib.hid (HG8.out.trans (B8.mono HG8.out.size))
  clear X8 B8
  go_wp2_with (first
    | (refine wpList_insert_fn (by rfl) _ _ _ (by rfl) (by rfl) HH8.out HJ8.out (by decide) (by rfl) _ HE8.out (by rfl) ?_; intro v9 f9 g9; have HF9 := Lib.hid f9; have HG9 := Lib.hid g9; clear f9 g9 HH8 HJ8 HE8)
    | (refine wpList_insert_fn (by rfl) _ _ _ (by rfl) (by rfl) HF9.out HG9.out (by decide) (by rfl) _ (elem_wordlist v9) (by rfl) ?_; intro v10 f10 g10; have HF10 := Lib.hid f10; have HG10 := Lib.hid g10; clear f10 g10 HF9 HG9))
  refine (one_any _ 65 #[]).mono ?_
  rintro e u10 ⟨rfl, X10, B10⟩
  have HE10 := Lib.hid (elem_one (k := 10) X10 (fn_first u10) rfl (fun _ => rfl))
  have HH10 := Lib.hid (HF10.out.below B10)
  have HJ10 := Lib.hid (HG10.out.trans (B10.mono HG10.out.size))
  clear X10 B10
  go_wp2_with (refine wpList_insert_fn (by rfl) _ _ _ (by rfl) (by rfl) HH10.out HJ10.out (by decide) (by rfl) _ HE10.out (by rfl) ?_; intro v11 f11 g11; have HF11 := Lib.hid f11; have HG11 := Lib.hid g11; clear f11 g11 HH10 HJ10 HE10)
  refine (one_any _ 66 #[]).mono ?_
  rintro e u11 ⟨rfl, X11, B11⟩
  have HE11 := Lib.hid (elem_one (k := 11) X11 (fn_last u11) rfl (fun _ => rfl))
  have HH11 := Lib.hid (HF11.out.below B11)
  have HJ11 := Lib.hid (HG11.out.trans (B11.mono HG11.out.size))
  clear X11 B11
  go_wp2_with (refine wpList_insert_fn (by rfl) _ _ _ (by rfl) (by rfl) HH11.out HJ11.out (by decide) (by rfl) _ HE11.out (by rfl) ?_; intro v12 f12 g12; have HF12 := Lib.hid f12; have HG12 := Lib.hid g12; clear f12 g12 HH11 HJ11 HE11)
  refine (each_any _ 68 #[]).mono ?_
  rintro e t12 ⟨rfl, E12⟩
  have HX12 := Lib.hid E12
  have HZ12 := Lib.hid (HX12.out ▸ fn_each_dir _)
  have HW12 := Lib.hid (HX12.out ▸ (Below.refl _ _).alloc (Nat.le_refl _) _ : Below (World.heap v12).size v12 t12)
  clear E12
  go_wp2_with fail
  refine (one_any _ 95 _).mono ?_
  rintro e u12 ⟨rfl, X12, B12⟩
  have HE12 := Lib.hid (elem_one (k := 12) X12 (HZ12.out.later (CK.of B12)) rfl (fun _ => rfl))
  have HH12 := Lib.hid ((HF12.out.below HW12.out).below B12)
  have HJ12 := Lib.hid ((HG12.out.trans (HW12.out.mono HG12.out.size)).trans (B12.mono (Nat.le_trans HG12.out.size HW12.out.size)))
  clear X12 B12 HX12 HZ12 HW12 HF12 HG12
  go_wp2_with (refine wpList_insert_fn (by rfl) _ _ _ (by rfl) (by rfl) HH12.out HJ12.out (by decide) (by rfl) _ HE12.out (by rfl) ?_; intro v13 f13 g13; have HF13 := Lib.hid f13; have HG13 := Lib.hid g13; clear f13 g13 HH12 HJ12 HE12)
  refine (each_any _ 69 #[]).mono ?_
  rintro e t13 ⟨rfl, E13⟩
  have HX13 := Lib.hid E13
  have HZ13 := Lib.hid (HX13.out ▸ fn_each_name _)
  have HW13 := Lib.hid (HX13.out ▸ (Below.refl _ _).alloc (Nat.le_refl _) _ : Below (World.heap v13).size v13 t13)
  clear E13
  go_wp2_with fail
  refine (one_any _ 95 _).mono ?_
  rintro e u13 ⟨rfl, X13, B13⟩
  have HE13 := Lib.hid (elem_one (k := 13) X13 (HZ13.out.later (CK.of B13)) rfl (fun _ => rfl))
  have HH13 := Lib.hid ((HF13.out.below HW13.out).below B13)
  have HJ13 := Lib.hid ((HG13.out.trans (HW13.out.mono HG13.out.size)).trans (B13.mono (Nat.le_trans HG13.out.size HW13.out.size)))
  clear X13 B13 HX13 HZ13 HW13 HF13 HG13
  go_wp2_with (refine wpList_insert_fn (by rfl) _ _ _ (by rfl) (by rfl) HH13.out HJ13.out (by decide) (by rfl) _ HE13.out (by rfl) ?_; intro v14 f14 g14; have HF14 := Lib.hid f14; have HG14 := Lib.hid g14; clear f14 g14 HH13 HJ13 HE13)
  refine (each_any _ 70 #[]).mono ?_
  rintro e t14 ⟨rfl, E14⟩
  have HX14 := Lib.hid E14
  have HZ14 := Lib.hid (HX14.out ▸ fn_each_ending _)
  have HW14 := Lib.hid (HX14.out ▸ (Below.refl _ _).alloc (Nat.le_refl _) _ : Below (World.heap v14).size v14 t14)
  clear E14
  go_wp2_with fail
  refine (one_any _ 95 _).mono ?_
  rintro e u14 ⟨rfl, X14, B14⟩
  have HE14 := Lib.hid (elem_one (k := 14) X14 (HZ14.out.later (CK.of B14)) rfl (fun _ => rfl))
  have HH14 := Lib.hid ((HF14.out.below HW14.out).below B14)
  have HJ14 := Lib.hid ((HG14.out.trans (HW14.out.mono HG14.out.size)).trans (B14.mono (Nat.le_trans HG14.out.size HW14.out.size)))
  clear X14 B14 HX14 HZ14 HW14 HF14 HG14
  go_wp2_with (refine wpList_insert_fn (by rfl) _ _ _ (by rfl) (by rfl) HH14.out HJ14.out (by decide) (by rfl) _ HE14.out (by rfl) ?_; intro v15 f15 g15; have HF15 := Lib.hid f15; have HG15 := Lib.hid g15; clear f15 g15 HH14 HJ14 HE14)
  refine (each_any _ 71 #[]).mono ?_
  rintro e t15 ⟨rfl, E15⟩
  have HX15 := Lib.hid E15
  have HZ15 := Lib.hid (HX15.out ▸ fn_each_base _)
  have HW15 := Lib.hid (HX15.out ▸ (Below.refl _ _).alloc (Nat.le_refl _) _ : Below (World.heap v15).size v15 t15)
  clear E15
  go_wp2_with fail
  refine (one_any _ 95 _).mono ?_
  rintro e u15 ⟨rfl, X15, B15⟩
  have HE15 := Lib.hid (elem_one (k := 15) X15 (HZ15.out.later (CK.of B15)) rfl (fun _ => rfl))
  have HH15 := Lib.hid ((HF15.out.below HW15.out).below B15)
  have HJ15 := Lib.hid ((HG15.out.trans (HW15.out.mono HG15.out.size)).trans (B15.mono (Nat.le_trans HG15.out.size HW15.out.size)))
  clear X15 B15 HX15 HZ15 HW15 HF15 HG15
  go_wp2_with (refine wpList_insert_fn (by rfl) _ _ _ (by rfl) (by rfl) HH15.out HJ15.out (by decide) (by rfl) _ HE15.out (by rfl) ?_; intro v16 f16 g16; have HF16 := Lib.hid f16; have HG16 := Lib.hid g16; clear f16 g16 HH15 HJ15 HE15)
  refine (two_any _ 72 #[]).mono ?_
  rintro e u16 ⟨rfl, X16, B16⟩
  have HE16 := Lib.hid (elem_two (k := 16) X16 (fn_addprefix u16) rfl (fun _ => rfl))
  have HH16 := Lib.hid (HF16.out.below B16)
  have HJ16 := Lib.hid (HG16.out.trans (B16.mono HG16.out.size))
  clear X16 B16
  go_wp2_with (refine wpList_insert_fn (by rfl) _ _ _ (by rfl) (by rfl) HH16.out HJ16.out (by decide) (by rfl) _ HE16.out (by rfl) ?_; intro v17 f17 g17; have HF17 := Lib.hid f17; have HG17 := Lib.hid g17; clear f17 g17 HH16 HJ16 HE16)
  refine (two_any _ 73 #[]).mono ?_
  rintro e u17 ⟨rfl, X17, B17⟩
  have HE17 := Lib.hid (elem_two (k := 17) X17 (fn_addsuffix u17) rfl (fun _ => rfl))
  have HH17 := Lib.hid (HF17.out.below B17)
  have HJ17 := Lib.hid (HG17.out.trans (B17.mono HG17.out.size))
  clear X17 B17
  go_wp2_with (refine wpList_insert_fn (by rfl) _ _ _ (by rfl) (by rfl) HH17.out HJ17.out (by decide) (by rfl) _ HE17.out (by rfl) ?_; intro v18 f18 g18; have HF18 := Lib.hid f18; have HG18 := Lib.hid g18; clear f18 g18 HH17 HJ17 HE17)
  refine (two_any _ 74 #[]).mono ?_
  rintro e u18 ⟨rfl, X18, B18⟩
  have HE18 := Lib.hid (elem_two (k := 18) X18 (fn_join u18) rfl (fun _ => rfl))
  have HH18 := Lib.hid (HF18.out.below B18)
  have HJ18 := Lib.hid (HG18.out.trans (B18.mono HG18.out.size))
  clear X18 B18
  go_wp2_with (refine wpList_insert_fn (by rfl) _ _ _ (by rfl) (by rfl) HH18.out HJ18.out (by decide) (by rfl) _ HE18.out (by rfl) ?_; intro v19 f19 g19; have HF19 := Lib.hid f19; have HG19 := Lib.hid g19; clear f19 g19 HH18 HJ18 HE18)
  go_ret
  exact ⟨rfl, HF19.out, HG19.out⟩
end Go.Proofs.YtenokbceamcekaaGreatDoor.Ew
