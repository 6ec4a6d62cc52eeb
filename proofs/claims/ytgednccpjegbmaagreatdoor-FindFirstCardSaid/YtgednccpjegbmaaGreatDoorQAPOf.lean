/-
  package text: the map of functions; Takes and Call. (Printed by wip/tools/genfns.py.)
  package text: Call.
  package auto: call, first, directories.
  package auto: Of.
-/
import Derived.Maps.OwnSet
import Derived.Maps.Views
import Derived.Test.YtgednccpjegbmaaGreatDoorQEPFns2
import Derived.Test.YtgednccpjegbmaaGreatDoorQEPJoin
import Derived.Deep.RegionHeld3
import Derived.Test.YtgednccpjegbmaaGreatDoorQAOf
import Derived.Shelf.SlMaps.Clone
import Derived.Test.YtgednccpjegbmaaGreatDoorQAMap
import Derived.Test.YtgednccpjegbmaaGreatDoorQEPKept
namespace Go.Proofs.YtgednccpjegbmaaGreatDoor.Ew
open Go.RowKit Go.Maps Go.Proofs.YtgednccpjegbmaaGreatDoor Go.Proofs.YtgednccpjegbmaaGreatDoor.Ww Go.Proofs.YtgednccpjegbmaaGreatDoor.Tw
set_option maxRecDepth 100000

abbrev PT : TypeId := 282
/-- How an element reads: as itself. -/
def hR (v : Value) : Option (DataW Value × List MemPlace) := some (.held v, [])
theorem hR_inv {v : Value} {d : DataW Value} {ps : List MemPlace} {u : Value} (h : hR v = some (d, ps)) (hd : d = .held u) : v = u := by
  unfold hR at h
  subst hd
  injection h with h
  injection h with h1 _
  exact DataW.held.inj h1
theorem nm_inj : ∀ k j : Fin 19, by8 (nm k) = by8 (nm j) → k = j := by decide
def fnsD (V : Nat → Value) : Nat → DataW Value
  | 0 => .map []
  | n + 1 => (fnsD V n).put (.string (by8 (nm n))) (.held (V n))
theorem fns_is (V : Nat → Value) : ∀ n, IsMap (fnsD V n)
  | 0 => isMap_empty
  | n + 1 => (fns_is V n).put _ _
theorem key_ne {k n : Nat} (hk : k < 19) (hn : n < 19) (h : k ≠ n) : Lit.string (by8 (nm k)) ≠ .string (by8 (nm n)) := fun e => h (by
  have e2 := nm_inj ⟨k, hk⟩ ⟨n, hn⟩ (Lit.string.inj e)
  exact Fin.mk.inj e2)
theorem fns_at (V : Nat → Value) (z : DataW Value) : ∀ n, n ≤ 19 → ∀ k, k < n → (fnsD V n).atKey (.string (by8 (nm k))) z = .held (V k) ∧ has (fnsD V n) (.string (by8 (nm k))) = true
  | 0, _, k, hk => absurd hk (Nat.not_lt_zero _)
  | n + 1, hn, k, hk => by
    unfold fnsD
    by_cases e : k = n
    · subst e
      exact ⟨atKey_put_same (fns_is V k) (show WideAt.IsKeyLit (.string (by8 (nm k))) from trivial) _ _, has_put_same (fns_is V k) (show WideAt.IsKeyLit (.string (by8 (nm k))) from trivial) _⟩
    · rw [atKey_put_other (key_ne (by omega) (by omega) e), has_put_other (key_ne (by omega) (by omega) e)]
      exact fns_at V z n (by omega) k (by omega)
theorem fns_none (V : Nat → Value) (z : DataW Value) {s : List UInt8} : ∀ n, (∀ k, k < n → s ≠ by8 (nm k)) → (fnsD V n).atKey (.string s) z = z ∧ has (fnsD V n) (.string s) = false
  | 0, _ => ⟨rfl, rfl⟩
  | n + 1, h => by
    unfold fnsD
    have hne : Lit.string s ≠ .string (by8 (nm n)) := fun e => h n (Nat.lt_succ_self _) (Lit.string.inj e)
    rw [atKey_put_other hne, has_put_other hne]
    exact fns_none V z n fun k hk => h k (by omega)
/-- An element of the map. -/
def Elem (W : World) (k : Nat) (v : Value) : Prop := ∃ g lb, v = .agg #[.int .i64 (takesN k : Nat), FA g lb] ∧ FnL W g lb (takesN k) (resS k)
theorem Elem.later {W W' : World} {k : Nat} {v : Value} (h : Elem W k v) (c : CK W W') : Elem W' k v := by
  obtain ⟨g, lb, hv, hf⟩ := h
  exact ⟨g, lb, hv, hf.later c⟩
/-- The map, as far as it has come. -/
def FnsAt (w0 W : World) (n : Nat) : Prop := ∃ V : Nat → Value, W.ownsMap Tryz.prog ST hR w0.heap.size n (fnsD V n) ∧ ∀ k, k < n → Elem W k (V k)
theorem FnsAt.below {w0 W W' : World} {n : Nat} (h : FnsAt w0 W n) (hB : Below W.heap.size W W') : FnsAt w0 W' n := by
  obtain ⟨V, ho, he⟩ := h
  refine ⟨V, ?_, fun k hk => (he k hk).later (CK.of hB)⟩
  have hl := ho.lt
  obtain ⟨es, clock, hh, r⟩ := ho
  exact ⟨es, clock, (hB.block _ hl).trans hh, r⟩
theorem keyS : Keyed Tryz.prog ST := string_keyed Tryz.underlying9
theorem key_of {p : ByteArray} (h : p.size ≤ maxLen) : keyOf Tryz.prog ST (.string p) = some (.string (by8 p)) := WideMaps.keyOf_string_mk Tryz.underlying9 h
theorem nm_small : ∀ k, k < 19 → (nm k).size ≤ maxLen := by
  intro k hk
  have : ∀ k : Fin 19, (nm k).size ≤ 20 := by decide
  have h2 : (nm k).size ≤ 20 := this ⟨k, hk⟩
  unfold maxLen; omega
theorem fnsD_congr {V V' : Nat → Value} : ∀ n, (∀ k, k < n → V k = V' k) → fnsD V n = fnsD V' n
  | 0, _ => rfl
  | n + 1, h => by unfold fnsD; rw [fnsD_congr n fun k hk => h k (by omega), h n (Nat.lt_succ_self _)]
theorem wpList_insert_fn {ops : Array Oper} {rest : List Oper} {o : Oper} {a : Act} {Q : Exit → Act → World → Prop} {w w0 : World} {n : Nat} (hg : o.guard = none) (m x v : Operand) (hop : o.op = Op.insert PT m x v)
    (hm : a.eval m = .map (some w0.heap.size)) (hF : FnsAt w0 w n) (hB : Below w0.heap.size w0 w) (hn : n < 19) (hx : a.eval x = .string (nm n)) (val : Value) (he : Elem w n val) (hv : a.eval v = val)
    (hK : ∀ w', FnsAt w0 w' (n + 1) → Below w0.heap.size w0 w' → wpList Tryz.prog ops Q rest (a.put o.dst undef) w') : wpList Tryz.prog ops Q (o :: rest) a w := by
  obtain ⟨V, ho, hE⟩ := hF
  refine wpList_plain hg fun K' hK' => ?_
  obtain ⟨w', hrun, r1, r2⟩ := ho.store (val := val) (d := .held val) (ps := []) keyS Tryz.underlying282 (by unfold maxLen; omega) (key_of (nm_small n hn)) rfl
  have hg1 := r2.grown
  have hck : CK w w' := ⟨hg1.size, fun k cs t fr e => (hg1.block k (Array.getElem?_eq_some_iff.1 e).1 (fun h => by
    cases h
    obtain ⟨es, clock, hh, _⟩ := ho
    rw [hh] at e; cases e)).trans e⟩
  unfold Oper.wp
  simp [execOp, hop, hm, hx, hv, hrun, Result.andThen]
  refine hK' _ _ (hK w' ⟨fun k => if k = n then val else V k, ?_, fun k hk => ?_⟩ (hB.grown hg1 hB.size (fun k e => by cases e; exact Nat.le_refl _)))
  · unfold fnsD
    rw [if_pos rfl, ← fnsD_congr n (V := V) fun k hk => (if_neg (by omega : ¬ k = n)).symm]
    exact r1
  · show Elem w' k (if k = n then val else V k)
    by_cases e : k = n
    · rw [if_pos e]; subst e; exact he.later hck
    · rw [if_neg e]; exact (hE k (by omega)).later hck
theorem eg_one1 : Enters 283 := enters_of Tryz.func283 (by kernel_rfl) rfl
theorem eg_two1 : Enters 284 := enters_of Tryz.func284 (by kernel_rfl) rfl
theorem eg_three1 : Enters 280 := enters_of Tryz.func280 (by kernel_rfl) rfl
theorem elem_one {W : World} {b g : Nat} {lb : Array Value} {f : ByteArray → ByteArray} {k : Nat} (hb : Boxed W b 111 (FA g lb)) (hf : Fn1 W g lb f) (ht : takesN k = 1) (hr : ∀ A, resS k A = (f (A.getD 0 ⟨#[]⟩), 0)) :
    Elem W k (.agg #[.int .i64 1, FA 283 #[.pointer (some ⟨b, 0, none⟩)]]) :=
  ⟨_, _, by rw [ht]; rfl, eg_one1, fun w' v A c hG hR hl hs => by
    rw [hr]
    exact one1_any w' v A _ b g lb hf.1 (c.box hb) hR (hl.trans ht) fun W hW => hf.2 W _ (c.trans (CK.of hW)) (hG.below hW) (getD_size hs 0)⟩
theorem elem_two {W : World} {b g : Nat} {lb : Array Value} {f : ByteArray → ByteArray → ByteArray} {k : Nat} (hb : Boxed W b 157 (FA g lb)) (hf : Fn2 W g lb f) (ht : takesN k = 2) (hr : ∀ A, resS k A = (f (A.getD 0 ⟨#[]⟩) (A.getD 1 ⟨#[]⟩), 0)) :
    Elem W k (.agg #[.int .i64 2, FA 284 #[.pointer (some ⟨b, 0, none⟩)]]) :=
  ⟨_, _, by rw [ht]; rfl, eg_two1, fun w' v A c hG hR hl hs => by
    rw [hr]
    exact two1_any w' v A _ b g lb hf.1 (c.box hb) hR (hl.trans ht) fun W hW => hf.2 W _ _ (c.trans (CK.of hW)) (hG.below hW) (getD_size hs 0) (getD_size hs 1)⟩
theorem elem_three {W : World} {b g : Nat} {lb : Array Value} {f : ByteArray → ByteArray → ByteArray → ByteArray} {k : Nat} (hb : Boxed W b 290 (FA g lb)) (hf : Fn3 W g lb f) (ht : takesN k = 3) (hr : ∀ A, resS k A = (f (A.getD 0 ⟨#[]⟩) (A.getD 1 ⟨#[]⟩) (A.getD 2 ⟨#[]⟩), 0)) :
    Elem W k (.agg #[.int .i64 3, FA 280 #[.pointer (some ⟨b, 0, none⟩)]]) :=
  ⟨_, _, by rw [ht]; rfl, eg_three1, fun w' v A c hG hR hl hs => by
    rw [hr]
    exact three1_any w' v A _ b g lb hf.1 (c.box hb) hR (hl.trans ht) fun W hW => hf.2 W _ _ _ (c.trans (CK.of hW)) (hG.below hW) (getD_size hs 0) (getD_size hs 1) (getD_size hs 2)⟩
theorem elem_word (W : World) : Elem W 7 (.agg #[.int .i64 2, FA 245 #[]]) :=
  ⟨_, _, rfl, enters_of Tryz.func245 (by kernel_rfl) rfl, fun w' v A _ _ hR hl hs => word1_any w' v A hR hl hs⟩
theorem elem_wordlist (W : World) : Elem W 9 (.agg #[.int .i64 3, FA 248 #[]]) :=
  ⟨_, _, rfl, enters_of Tryz.func248 (by kernel_rfl) rfl, fun w' v A _ _ hR hl hs => wordlist1_any w' v A hR hl hs⟩
theorem fn_strip (W : World) : Fn1 W 240 #[] (fun p => joinS (wordsS p)) := ⟨enters_of Tryz.func240 (by kernel_rfl) rfl, fun w' p _ hG hp => by show Calls _ _ #[.string p] _ _; exact Pstrip_any w' p hp⟩
theorem fn_sorted (W : World) : Fn1 W 244 #[] (fun p => joinS (Wp.sortS (wordsS p))) := ⟨enters_of Tryz.func244 (by kernel_rfl) rfl, fun w' p _ hG hp => by show Calls _ _ #[.string p] _ _; exact Psort_any w' p hp⟩
theorem fn_count (W : World) : Fn1 W 247 #[] (fun p => str (Ep.digitsA (wordsS p).length)) := ⟨enters_of Tryz.func247 (by kernel_rfl) rfl, fun w' p _ hG hp => by show Calls _ _ #[.string p] _ _; exact Pcount_any w' p hp hG⟩
theorem fn_first (W : World) : Fn1 W 250 #[] (fun p => joinS (someS (wordsS p) 1 1)) := ⟨enters_of Tryz.func250 (by kernel_rfl) rfl, fun w' p _ hG hp => by show Calls _ _ #[.string p] _ _; exact Pfirst_any w' p hp⟩
theorem fn_last (W : World) : Fn1 W 251 #[] (fun p => joinS (someS (wordsS p) (max (wordsS p).length 1) (wordsS p).length)) := ⟨enters_of Tryz.func251 (by kernel_rfl) rfl, fun w' p _ hG hp => by show Calls _ _ #[.string p] _ _; exact Plast_any w' p hp⟩
theorem fn_findstring (W : World) : Fn2 W 242 #[] (fun a b => if Ep.insideA (by8 a) (by8 b) = true then a else ⟨#[]⟩) := ⟨enters_of Tryz.func242 (by kernel_rfl) rfl, fun w' p q _ hG hp hq => by show Calls _ _ #[.string p, .string q] _ _; exact Pfindstring_any w' p q hq hG⟩
theorem fn_addprefix (W : World) : Fn2 W 257 #[] (fun a b => joinS (eachS (fun x => a ++ x) (wordsS b))) := ⟨enters_of Tryz.func257 (by kernel_rfl) rfl, fun w' p q _ hG hp hq => by show Calls _ _ #[.string p, .string q] _ _; exact Paddprefix_any w' p q hp hq⟩
theorem fn_addsuffix (W : World) : Fn2 W 258 #[] (fun a b => joinS (eachS (fun x => x ++ a) (wordsS b))) := ⟨enters_of Tryz.func258 (by kernel_rfl) rfl, fun w' p q _ hG hp hq => by show Calls _ _ #[.string p, .string q] _ _; exact Paddsuffix_any w' p q hp hq⟩
theorem fn_join (W : World) : Fn2 W 259 #[] (fun a b => joinS (pairsS (wordsS a) (wordsS b))) := ⟨enters_of Tryz.func259 (by kernel_rfl) rfl, fun w' p q _ hG hp hq => by show Calls _ _ #[.string p, .string q] _ _; exact Pjoin_any w' p q hp hq⟩
theorem fn_subst (W : World) : Fn3 W 237 #[] (fun a b c => str (Ep.substA (by8 a) (by8 b) (by8 c))) := ⟨enters_of Tryz.func237 (by kernel_rfl) rfl, fun w' p q r _ hG hp hq hr => by show Calls _ _ #[.string p, .string q, .string r] _ _; exact Psubst_any w' p q r hq hr hG⟩
theorem fn_patsubst (W : World) : Fn3 W 238 #[] (fun a b c => joinS (eachS (fun x => chS (trimT a) (trimT b) x) (wordsS c))) := ⟨enters_of Tryz.func238 (by kernel_rfl) rfl, fun w' p q r _ hG hp hq hr => by show Calls _ _ #[.string p, .string q, .string r] _ _; exact Ppatsubst_any w' p q r hp hq hr⟩
theorem fn_each_dir (w : World) : Fn1 (w.alloc (.cells #[FA 253 #[]] FT)) 289 #[.pointer (some ⟨w.heap.size, 0, none⟩)] (fun s => joinS (eachS (oneS 12 []) (wordsS s))) :=
  each_fn w 253 #[] (oneS 12 []) (enters_of Tryz.func253 (by kernel_rfl) rfl) (fun W x _ hx => by show Calls _ _ #[.string x] _ _; exact Pdir_any W x (by omega)) (fun x hx => one_size 12 [] x (by simp) (by omega))
theorem fn_each_name (w : World) : Fn1 (w.alloc (.cells #[FA 254 #[]] FT)) 289 #[.pointer (some ⟨w.heap.size, 0, none⟩)] (fun s => joinS (eachS (oneS 13 []) (wordsS s))) :=
  each_fn w 254 #[] (oneS 13 []) (enters_of Tryz.func254 (by kernel_rfl) rfl) (fun W x _ hx => by show Calls _ _ #[.string x] _ _; exact Pnotdir_any W x (by omega)) (fun x hx => one_size 13 [] x (by simp) (by omega))
theorem fn_each_ending (w : World) : Fn1 (w.alloc (.cells #[FA 255 #[]] FT)) 289 #[.pointer (some ⟨w.heap.size, 0, none⟩)] (fun s => joinS (eachS (oneS 14 []) (wordsS s))) :=
  each_fn w 255 #[] (oneS 14 []) (enters_of Tryz.func255 (by kernel_rfl) rfl) (fun W x _ hx => by show Calls _ _ #[.string x] _ _; exact Pend_any W x (by omega)) (fun x hx => one_size 14 [] x (by simp) (by omega))
theorem fn_each_base (w : World) : Fn1 (w.alloc (.cells #[FA 256 #[]] FT)) 289 #[.pointer (some ⟨w.heap.size, 0, none⟩)] (fun s => joinS (eachS (oneS 15 []) (wordsS s))) :=
  each_fn w 256 #[] (oneS 15 []) (enters_of Tryz.func256 (by kernel_rfl) rfl) (fun W x _ hx => by show Calls _ _ #[.string x] _ _; exact Pbase_any W x (by omega)) (fun x hx => one_size 15 [] x (by simp) (by omega))
theorem run_mkF (w : World) : (Instr.makeMap PT none).run Tryz.prog w = .ok (.map (some w.heap.size)) (w.alloc (.map #[] 0)) := run_makeMap _ _
set_option maxHeartbeats 8000000 in
theorem functions_any (w : World) : Calls Tryz.prog 201 #[] w fun e w' => e = .returned (.map (some w.heap.size)) ∧ FnsAt w w' 19 ∧ Below w.heap.size w w' := by
  have hmm := run_mkF
  have F0 : FnsAt w (w.alloc (.map #[] 0)) 0 := ⟨fun _ => undef, World.ownsMap_made w Tryz.prog ST hR, fun k hk => absurd hk (Nat.not_lt_zero _)⟩
  have G0 : Below w.heap.size w (w.alloc (.map #[] 0)) := (Below.refl _ w).alloc (Nat.le_refl _) _
  have HF0 := Lib.hid F0
  have HG0 := Lib.hid G0
  clear F0 G0
  go_enter Tryz.func201, Tryz.ntmps201
  go_wp2_with fail
  generalize w.alloc (.map #[] 0) = v0 at HF0 HG0 ⊢
  refine (three_any _ 237 #[]).mono ?_
  rintro e u0 ⟨rfl, X0, B0⟩
  have HE0 := Lib.hid (elem_three (k := 0) X0 (fn_subst u0) rfl (fun _ => rfl))
  have HH0 := Lib.hid (HF0.out.below B0)
  have HJ0 := Lib.hid (HG0.out.trans (B0.mono HG0.out.size))
  clear X0 B0
  go_wp2_with (refine wpList_insert_fn (by rfl) _ _ _ (by rfl) (by rfl) HH0.out HJ0.out (by decide) (by rfl) _ HE0.out (by rfl) ?_; intro v1 f1 g1; have HF1 := Lib.hid f1; have HG1 := Lib.hid g1; clear f1 g1 HH0 HJ0 HE0)
  refine (three_any _ 238 #[]).mono ?_
  rintro e u1 ⟨rfl, X1, B1⟩
  have HE1 := Lib.hid (elem_three (k := 1) X1 (fn_patsubst u1) rfl (fun _ => rfl))
  have HH1 := Lib.hid (HF1.out.below B1)
  have HJ1 := Lib.hid (HG1.out.trans (B1.mono HG1.out.size))
  clear X1 B1
  go_wp2_with (refine wpList_insert_fn (by rfl) _ _ _ (by rfl) (by rfl) HH1.out HJ1.out (by decide) (by rfl) _ HE1.out (by rfl) ?_; intro v2 f2 g2; have HF2 := Lib.hid f2; have HG2 := Lib.hid g2; clear f2 g2 HH1 HJ1 HE1)
  refine (one_any _ 240 #[]).mono ?_
  rintro e u2 ⟨rfl, X2, B2⟩
  have HE2 := Lib.hid (elem_one (k := 2) X2 (fn_strip u2) rfl (fun _ => rfl))
  have HH2 := Lib.hid (HF2.out.below B2)
  have HJ2 := Lib.hid (HG2.out.trans (B2.mono HG2.out.size))
  clear X2 B2
  go_wp2_with (refine wpList_insert_fn (by rfl) _ _ _ (by rfl) (by rfl) HH2.out HJ2.out (by decide) (by rfl) _ HE2.out (by rfl) ?_; intro v3 f3 g3; have HF3 := Lib.hid f3; have HG3 := Lib.hid g3; clear f3 g3 HH2 HJ2 HE2)
  refine (two_any _ 242 #[]).mono ?_
  rintro e u3 ⟨rfl, X3, B3⟩
  have HE3 := Lib.hid (elem_two (k := 3) X3 (fn_findstring u3) rfl (fun _ => rfl))
  have HH3 := Lib.hid (HF3.out.below B3)
  have HJ3 := Lib.hid (HG3.out.trans (B3.mono HG3.out.size))
  clear X3 B3
  go_wp2_with (refine wpList_insert_fn (by rfl) _ _ _ (by rfl) (by rfl) HH3.out HJ3.out (by decide) (by rfl) _ HE3.out (by rfl) ?_; intro v4 f4 g4; have HF4 := Lib.hid f4; have HG4 := Lib.hid g4; clear f4 g4 HH3 HJ3 HE3)
  refine (filter_any _ true).mono ?_
  rintro e t4 ⟨rfl, E4⟩
  have HX4 := Lib.hid E4
  have HZ4 := Lib.hid (HX4.out ▸ filter_fn _ true)
  have HW4 := Lib.hid (HX4.out ▸ (Below.refl _ _).alloc (Nat.le_refl _) _ : Below (World.heap v4).size v4 t4)
  clear E4
  go_wp2_with fail
  refine (two_any _ 285 _).mono ?_
  rintro e u4 ⟨rfl, X4, B4⟩
  have HE4 := Lib.hid (elem_two (k := 4) X4 (HZ4.out.later (CK.of B4)) rfl (fun _ => rfl))
  have HH4 := Lib.hid ((HF4.out.below HW4.out).below B4)
  have HJ4 := Lib.hid ((HG4.out.trans (HW4.out.mono HG4.out.size)).trans (B4.mono (Nat.le_trans HG4.out.size HW4.out.size)))
  clear X4 B4 HX4 HZ4 HW4 HF4 HG4
  go_wp2_with (refine wpList_insert_fn (by rfl) _ _ _ (by rfl) (by rfl) HH4.out HJ4.out (by decide) (by rfl) _ HE4.out (by rfl) ?_; intro v5 f5 g5; have HF5 := Lib.hid f5; have HG5 := Lib.hid g5; clear f5 g5 HH4 HJ4 HE4)
  refine (filter_any _ false).mono ?_
  rintro e t5 ⟨rfl, E5⟩
  have HX5 := Lib.hid E5
  have HZ5 := Lib.hid (HX5.out ▸ filter_fn _ false)
  have HW5 := Lib.hid (HX5.out ▸ (Below.refl _ _).alloc (Nat.le_refl _) _ : Below (World.heap v5).size v5 t5)
  clear E5
  go_wp2_with fail
  refine (two_any _ 285 _).mono ?_
  rintro e u5 ⟨rfl, X5, B5⟩
  have HE5 := Lib.hid (elem_two (k := 5) X5 (HZ5.out.later (CK.of B5)) rfl (fun _ => rfl))
  have HH5 := Lib.hid ((HF5.out.below HW5.out).below B5)
  have HJ5 := Lib.hid ((HG5.out.trans (HW5.out.mono HG5.out.size)).trans (B5.mono (Nat.le_trans HG5.out.size HW5.out.size)))
  clear X5 B5 HX5 HZ5 HW5 HF5 HG5
  go_wp2_with (refine wpList_insert_fn (by rfl) _ _ _ (by rfl) (by rfl) HH5.out HJ5.out (by decide) (by rfl) _ HE5.out (by rfl) ?_; intro v6 f6 g6; have HF6 := Lib.hid f6; have HG6 := Lib.hid g6; clear f6 g6 HH5 HJ5 HE5)
  refine (one_any _ 244 #[]).mono ?_
  rintro e u6 ⟨rfl, X6, B6⟩
  have HE6 := Lib.hid (elem_one (k := 6) X6 (fn_sorted u6) rfl (fun _ => rfl))
  have HH6 := Lib.hid (HF6.out.below B6)
  have HJ6 := Lib.hid (HG6.out.trans (B6.mono HG6.out.size))
  clear X6 B6
  go_wp2_with (first
    | (refine wpList_insert_fn (by rfl) _ _ _ (by rfl) (by rfl) HH6.out HJ6.out (by decide) (by rfl) _ HE6.out (by rfl) ?_; intro v7 f7 g7; have HF7 := Lib.hid f7; have HG7 := Lib.hid g7; clear f7 g7 HH6 HJ6 HE6)
    | (refine wpList_insert_fn (by rfl) _ _ _ (by rfl) (by rfl) HF7.out HG7.out (by decide) (by rfl) _ (elem_word v7) (by rfl) ?_; intro v8 f8 g8; have HF8 := Lib.hid f8; have HG8 := Lib.hid g8; clear f8 g8 HF7 HG7))
  refine (one_any _ 247 #[]).mono ?_
  rintro e u8 ⟨rfl, X8, B8⟩
  have HE8 := Lib.hid (elem_one (k := 8) X8 (fn_count u8) rfl (fun _ => rfl))
  have HH8 := Lib.hid (HF8.out.below B8)
  have HJ8 := Lib.hid (HG8.out.trans (B8.mono HG8.out.size))
  clear X8 B8
  go_wp2_with (first
    | (refine wpList_insert_fn (by rfl) _ _ _ (by rfl) (by rfl) HH8.out HJ8.out (by decide) (by rfl) _ HE8.out (by rfl) ?_; intro v9 f9 g9; have HF9 := Lib.hid f9; have HG9 := Lib.hid g9; clear f9 g9 HH8 HJ8 HE8)
    | (refine wpList_insert_fn (by rfl) _ _ _ (by rfl) (by rfl) HF9.out HG9.out (by decide) (by rfl) _ (elem_wordlist v9) (by rfl) ?_; intro v10 f10 g10; have HF10 := Lib.hid f10; have HG10 := Lib.hid g10; clear f10 g10 HF9 HG9))
  refine (one_any _ 250 #[]).mono ?_
  rintro e u10 ⟨rfl, X10, B10⟩
  have HE10 := Lib.hid (elem_one (k := 10) X10 (fn_first u10) rfl (fun _ => rfl))
  have HH10 := Lib.hid (HF10.out.below B10)
  have HJ10 := Lib.hid (HG10.out.trans (B10.mono HG10.out.size))
  clear X10 B10
  go_wp2_with (refine wpList_insert_fn (by rfl) _ _ _ (by rfl) (by rfl) HH10.out HJ10.out (by decide) (by rfl) _ HE10.out (by rfl) ?_; intro v11 f11 g11; have HF11 := Lib.hid f11; have HG11 := Lib.hid g11; clear f11 g11 HH10 HJ10 HE10)
  refine (one_any _ 251 #[]).mono ?_
  rintro e u11 ⟨rfl, X11, B11⟩
  have HE11 := Lib.hid (elem_one (k := 11) X11 (fn_last u11) rfl (fun _ => rfl))
  have HH11 := Lib.hid (HF11.out.below B11)
  have HJ11 := Lib.hid (HG11.out.trans (B11.mono HG11.out.size))
  clear X11 B11
  go_wp2_with (refine wpList_insert_fn (by rfl) _ _ _ (by rfl) (by rfl) HH11.out HJ11.out (by decide) (by rfl) _ HE11.out (by rfl) ?_; intro v12 f12 g12; have HF12 := Lib.hid f12; have HG12 := Lib.hid g12; clear f12 g12 HH11 HJ11 HE11)
  refine (each_any _ 253 #[]).mono ?_
  rintro e t12 ⟨rfl, E12⟩
  have HX12 := Lib.hid E12
  have HZ12 := Lib.hid (HX12.out ▸ fn_each_dir _)
  have HW12 := Lib.hid (HX12.out ▸ (Below.refl _ _).alloc (Nat.le_refl _) _ : Below (World.heap v12).size v12 t12)
  clear E12
  go_wp2_with fail
  refine (one_any _ 289 _).mono ?_
  rintro e u12 ⟨rfl, X12, B12⟩
  have HE12 := Lib.hid (elem_one (k := 12) X12 (HZ12.out.later (CK.of B12)) rfl (fun _ => rfl))
  have HH12 := Lib.hid ((HF12.out.below HW12.out).below B12)
  have HJ12 := Lib.hid ((HG12.out.trans (HW12.out.mono HG12.out.size)).trans (B12.mono (Nat.le_trans HG12.out.size HW12.out.size)))
  clear X12 B12 HX12 HZ12 HW12 HF12 HG12
  go_wp2_with (refine wpList_insert_fn (by rfl) _ _ _ (by rfl) (by rfl) HH12.out HJ12.out (by decide) (by rfl) _ HE12.out (by rfl) ?_; intro v13 f13 g13; have HF13 := Lib.hid f13; have HG13 := Lib.hid g13; clear f13 g13 HH12 HJ12 HE12)
  refine (each_any _ 254 #[]).mono ?_
  rintro e t13 ⟨rfl, E13⟩
  have HX13 := Lib.hid E13
  have HZ13 := Lib.hid (HX13.out ▸ fn_each_name _)
  have HW13 := Lib.hid (HX13.out ▸ (Below.refl _ _).alloc (Nat.le_refl _) _ : Below (World.heap v13).size v13 t13)
  clear E13
  go_wp2_with fail
  refine (one_any _ 289 _).mono ?_
  rintro e u13 ⟨rfl, X13, B13⟩
  have HE13 := Lib.hid (elem_one (k := 13) X13 (HZ13.out.later (CK.of B13)) rfl (fun _ => rfl))
  have HH13 := Lib.hid ((HF13.out.below HW13.out).below B13)
  have HJ13 := Lib.hid ((HG13.out.trans (HW13.out.mono HG13.out.size)).trans (B13.mono (Nat.le_trans HG13.out.size HW13.out.size)))
  clear X13 B13 HX13 HZ13 HW13 HF13 HG13
  go_wp2_with (refine wpList_insert_fn (by rfl) _ _ _ (by rfl) (by rfl) HH13.out HJ13.out (by decide) (by rfl) _ HE13.out (by rfl) ?_; intro v14 f14 g14; have HF14 := Lib.hid f14; have HG14 := Lib.hid g14; clear f14 g14 HH13 HJ13 HE13)
  refine (each_any _ 255 #[]).mono ?_
  rintro e t14 ⟨rfl, E14⟩
  have HX14 := Lib.hid E14
  have HZ14 := Lib.hid (HX14.out ▸ fn_each_ending _)
  have HW14 := Lib.hid (HX14.out ▸ (Below.refl _ _).alloc (Nat.le_refl _) _ : Below (World.heap v14).size v14 t14)
  clear E14
  go_wp2_with fail
  refine (one_any _ 289 _).mono ?_
  rintro e u14 ⟨rfl, X14, B14⟩
  have HE14 := Lib.hid (elem_one (k := 14) X14 (HZ14.out.later (CK.of B14)) rfl (fun _ => rfl))
  have HH14 := Lib.hid ((HF14.out.below HW14.out).below B14)
  have HJ14 := Lib.hid ((HG14.out.trans (HW14.out.mono HG14.out.size)).trans (B14.mono (Nat.le_trans HG14.out.size HW14.out.size)))
  clear X14 B14 HX14 HZ14 HW14 HF14 HG14
  go_wp2_with (refine wpList_insert_fn (by rfl) _ _ _ (by rfl) (by rfl) HH14.out HJ14.out (by decide) (by rfl) _ HE14.out (by rfl) ?_; intro v15 f15 g15; have HF15 := Lib.hid f15; have HG15 := Lib.hid g15; clear f15 g15 HH14 HJ14 HE14)
  refine (each_any _ 256 #[]).mono ?_
  rintro e t15 ⟨rfl, E15⟩
  have HX15 := Lib.hid E15
  have HZ15 := Lib.hid (HX15.out ▸ fn_each_base _)
  have HW15 := Lib.hid (HX15.out ▸ (Below.refl _ _).alloc (Nat.le_refl _) _ : Below (World.heap v15).size v15 t15)
  clear E15
  go_wp2_with fail
  refine (one_any _ 289 _).mono ?_
  rintro e u15 ⟨rfl, X15, B15⟩
  have HE15 := Lib.hid (elem_one (k := 15) X15 (HZ15.out.later (CK.of B15)) rfl (fun _ => rfl))
  have HH15 := Lib.hid ((HF15.out.below HW15.out).below B15)
  have HJ15 := Lib.hid ((HG15.out.trans (HW15.out.mono HG15.out.size)).trans (B15.mono (Nat.le_trans HG15.out.size HW15.out.size)))
  clear X15 B15 HX15 HZ15 HW15 HF15 HG15
  go_wp2_with (refine wpList_insert_fn (by rfl) _ _ _ (by rfl) (by rfl) HH15.out HJ15.out (by decide) (by rfl) _ HE15.out (by rfl) ?_; intro v16 f16 g16; have HF16 := Lib.hid f16; have HG16 := Lib.hid g16; clear f16 g16 HH15 HJ15 HE15)
  refine (two_any _ 257 #[]).mono ?_
  rintro e u16 ⟨rfl, X16, B16⟩
  have HE16 := Lib.hid (elem_two (k := 16) X16 (fn_addprefix u16) rfl (fun _ => rfl))
  have HH16 := Lib.hid (HF16.out.below B16)
  have HJ16 := Lib.hid (HG16.out.trans (B16.mono HG16.out.size))
  clear X16 B16
  go_wp2_with (refine wpList_insert_fn (by rfl) _ _ _ (by rfl) (by rfl) HH16.out HJ16.out (by decide) (by rfl) _ HE16.out (by rfl) ?_; intro v17 f17 g17; have HF17 := Lib.hid f17; have HG17 := Lib.hid g17; clear f17 g17 HH16 HJ16 HE16)
  refine (two_any _ 258 #[]).mono ?_
  rintro e u17 ⟨rfl, X17, B17⟩
  have HE17 := Lib.hid (elem_two (k := 17) X17 (fn_addsuffix u17) rfl (fun _ => rfl))
  have HH17 := Lib.hid (HF17.out.below B17)
  have HJ17 := Lib.hid (HG17.out.trans (B17.mono HG17.out.size))
  clear X17 B17
  go_wp2_with (refine wpList_insert_fn (by rfl) _ _ _ (by rfl) (by rfl) HH17.out HJ17.out (by decide) (by rfl) _ HE17.out (by rfl) ?_; intro v18 f18 g18; have HF18 := Lib.hid f18; have HG18 := Lib.hid g18; clear f18 g18 HH17 HJ17 HE17)
  refine (two_any _ 259 #[]).mono ?_
  rintro e u18 ⟨rfl, X18, B18⟩
  have HE18 := Lib.hid (elem_two (k := 18) X18 (fn_join u18) rfl (fun _ => rfl))
  have HH18 := Lib.hid (HF18.out.below B18)
  have HJ18 := Lib.hid (HG18.out.trans (B18.mono HG18.out.size))
  clear X18 B18
  go_wp2_with (refine wpList_insert_fn (by rfl) _ _ _ (by rfl) (by rfl) HH18.out HJ18.out (by decide) (by rfl) _ HE18.out (by rfl) ?_; intro v19 f19 g19; have HF19 := Lib.hid f19; have HG19 := Lib.hid g19; clear f19 g19 HH18 HJ18 HE18)
  go_ret
  exact ⟨rfl, HF19.out, HG19.out⟩
end Go.Proofs.YtgednccpjegbmaaGreatDoor.Ew
namespace Go.Proofs.YtgednccpjegbmaaGreatDoor.Ew
open Go.RowKit Go.Maps Go.Proofs.YtgednccpjegbmaaGreatDoor Go.Proofs.YtgednccpjegbmaaGreatDoor.Ww Go.Proofs.YtgednccpjegbmaaGreatDoor.Tw
set_option maxRecDepth 100000

theorem zeroFU (w : World) : (zeroValue FU).run Tryz.prog w = .ok (.agg zeroF) w := by kernel_rfl
section
variable {ops : Array Oper} {rest : List Oper} {o : Oper} {a : Act} {Q : Exit → Act → World → Prop} {w w0 : World}
theorem wpList_fn_ok {k : Nat} (hF : FnsAt w0 w 19) (hk : k < 19) (hg : o.guard = none) (m x : Operand) (hop : o.op = Op.lookup PT m x true) (hm : a.eval m = .map (some w0.heap.size)) (hx : a.eval x = .string (nm k))
    (hK : ∀ g lb, FnL w g lb (takesN k) (resS k) → wpList Tryz.prog ops Q rest (a.put o.dst (.tuple #[.agg #[.int .i64 (takesN k : Nat), FA g lb], .bool true])) w) : wpList Tryz.prog ops Q (o :: rest) a w := by
  obtain ⟨V, ho, hE⟩ := hF
  refine wpList_lookup_own_ok w hg m x _ hop ST FU keyS Tryz.underlying282 hR (zeroFU w) (.held (.agg zeroF)) [] rfl w0.heap.size _ _ hm ho _ _ hx (key_of (nm_small k hk)) ?_
  intro v ps hv
  have h := fns_at V (.held (.agg zeroF)) 19 (Nat.le_refl _) k hk
  obtain rfl := hR_inv hv h.1
  rw [h.2]
  obtain ⟨g, lb, hV, hf⟩ := hE k hk
  rw [hV]
  exact hK g lb hf
end
theorem boxF (w : World) : (w.alloc (.cells zeroF FU)).heap[w.heap.size]? = some (.cells zeroF FU (0, 0)) := heap_alloc_last w _
set_option maxHeartbeats 4000000 in
theorem PCall_any (w : World) (v : Value) (A : List ByteArray) (k : Nat) (hG : GM w) (hk : k < 19) (hr : Rd w w.heap.size v (strsC A)) (hl : A.length = takesN k) (hs : ∀ p ∈ A, p.size ≤ 9000) : Calls Tryz.prog 150 #[.string (nm k), v] w fun e w' => e = ansE (resS k A) ∧ Below w.heap.size w w' := by
  have HC := Lib.hid (functions_any w)
  have HZ := Lib.hid fun W => boxF W
  obtain ⟨f, HN⟩ : ∃ f, Hid (nm k = f) := ⟨_, Lib.hid rfl⟩
  rw [HN.out]
  obtain ⟨t, HT⟩ : ∃ t, Hid (takesN k = t) := ⟨_, Lib.hid rfl⟩
  rw [HT.out] at hl
  obtain ⟨r1, r2, HR⟩ : ∃ r1 r2, Hid (resS k A = (r1, r2)) := ⟨(resS k A).1, (resS k A).2, Lib.hid rfl⟩
  rw [HR.out]
  simp only [ansE]
  have HRd := Lib.hid hr
  have HL := Lib.hid hl
  have HS := Lib.hid hs
  obtain ⟨a0, c0, rfl, _⟩ := hr.shape
  rw [strsC_len] at *
  rw [hl] at HRd ⊢
  have hnb : ((t : Int) == (t : Int)) = true := beq_self_eq_true _
  clear hr hl hs
  go_enter Tryz.func150, Tryz.ntmps150
  go_wp2_with fail
  refine HC.out.mono ?_
  rintro e w1 ⟨rfl, F1, B1⟩
  have HF := Lib.hid F1
  have HB := Lib.hid B1
  clear F1 B1
  go_wp2_with (first
    | (refine wpList_fn_ok (w0 := w) HF.out hk rfl _ _ rfl rfl (congrArg Value.string HN.out.symm) ?_; rw [HT.out]; intro g lb hf; have eg : ∀ args w, (callFunc g args).run Tryz.prog w = .ok (.enter g args) w := hf.1; have hA : Below w1.heap.size w1 (w1.alloc (.cells #[.int .i64 (t : Nat), FA g lb] FU)) := (Below.refl _ _).alloc (Nat.le_refl _) _; have hBA := HB.out.trans (hA.mono HB.out.size); have HCC := Lib.hid (hf.2 _ _ A (CK.of hA) (hG.below hBA) ((HRd.out.below hBA).more hBA.size) HL.out HS.out); rw [HR.out] at HCC; simp only [ansE] at HCC; have HBB := Lib.hid hBA; clear hf hA hBA)
    | (go_at_fn g; refine HCC.out.mono ?_; rintro e w4 ⟨rfl, B4⟩))
  go_ret2
  exact ⟨rfl, HBB.out.trans (B4.mono HBB.out.size)⟩
end Go.Proofs.YtgednccpjegbmaaGreatDoor.Ew
namespace Go.Proofs.YtgednccpjegbmaaGreatDoor.Aw
open Go.RowKit Go.Proofs.YtgednccpjegbmaaGreatDoor Go.Proofs.YtgednccpjegbmaaGreatDoor.Ew
open Go.Proofs.YtgednccpjegbmaaGreatDoor.Ww hiding wordsS ST
open Go.Proofs.YtgednccpjegbmaaGreatDoor.Tw hiding ST
set_option maxRecDepth 100000

theorem good_take {l : Bs} {n : Nat} (h : Wp.Good l) (hn : 0 < n) : Wp.Good (l.take n) := by
  refine ⟨?_, fun c hc => h.2 c (List.mem_of_mem_take hc)⟩
  have := h.1
  cases l with
  | nil => exact absurd rfl this
  | cons a r =>
    obtain ⟨m, rfl⟩ : ∃ m, n = m + 1 := ⟨n - 1, by omega⟩
    simp
theorem dir_slash {x : ByteArray} (hx : GoodS x) : GoodS (oneS 12 [] x) ∧ ∃ l, by8 (oneS 12 [] x) = l ++ [47] := by
  have e : oneS 12 [] x = if Ep.nameA (by8 x) = 0 then ⟨#[46, 47]⟩ else x.extract 0 (Ep.nameA (by8 x)) := rfl
  rw [e]
  split
  · exact ⟨⟨by decide, by decide⟩, [46], rfl⟩
  · rename_i h
    rcases Lib.Pa.lastIndexByte_spec (by8 x) 47 with ⟨h1, _⟩ | ⟨i, h1, h2, _⟩
    · exact absurd (by unfold Ep.nameA; rw [h1]; rfl) h
    · have hn : Ep.nameA (by8 x) = i + 1 := by unfold Ep.nameA; rw [h1]; omega
      have hb : by8 (x.extract 0 (i + 1)) = (by8 x).take (i + 1) := by rw [by8_mid, List.drop_zero, Nat.sub_zero]
      rw [hn]
      refine ⟨by unfold GoodS; rw [hb]; exact good_take hx (Nat.succ_pos _), (by8 x).take i, ?_⟩
      rw [hb, List.take_add_one, h2]; rfl
theorem dirs_words (s : ByteArray) : ∀ x ∈ wordsS (dirT s), ∃ l, by8 x = l ++ [47] := by
  have e : wordsS (dirT s) = eachS (oneS 12 []) (wordsS s) := words_join fun p hp => by
    obtain ⟨x, hx, rfl⟩ := each_mem hp
    exact (dir_slash (words_good hx)).1
  intro x hx
  rw [e] at hx
  obtain ⟨y, hy, rfl⟩ := each_mem hx
  exact (dir_slash (words_good hy)).2
theorem trim_slash (w : World) (x : ByteArray) (hs : x.size ≤ 1000000) (h : ∃ l, by8 x = l ++ [47]) :
    Calls Tryz.prog 63 #[.string x, .string ⟨#[47]⟩] w fun e w' => e = .returned (.string (x.extract 0 (x.size - 1))) ∧ w = w' := by
  obtain ⟨l, hl⟩ := h
  have hz : x.size = l.length + 1 := by rw [← by8_len, hl]; simp
  have he : (⟨#[47]⟩ : ByteArray) = x.extract (x.size - 1) x.size := by8_ext (by
    rw [by8_mid, hl, hz, show l.length + 1 - 1 = l.length by omega, List.drop_left, show l.length + 1 - l.length = 1 by omega]; rfl)
  refine (Tryz.strings_TrimSuffix x ⟨#[47]⟩ w (by omega)).mono ?_
  rintro e w' ⟨rfl, rfl⟩
  refine ⟨?_, rfl⟩
  rw [he, suffix_cut _ _ (by omega)]
theorem slash_is {x : ByteArray} (h : ∃ l, by8 x = l ++ [47]) : (x.toList == [47]) = decide (x.size = 1) := by
  obtain ⟨l, hl⟩ := h
  have hz : x.size = l.length + 1 := by rw [← by8_len, hl]; simp
  rw [toList_by8, hl, hz]
  cases l with
  | nil => rfl
  | cons a r => rw [decide_eq_false (by simp), beq_eq_false_iff_ne]; intro e; have := congrArg List.length e; simp at this
theorem DiRel.store0 {w0 wr : World} {l : List ByteArray} {g c k : Nat} (hk : k < l.length) (hs : 1 < l[k].size) (h : wr.ownsRow w0.heap.size ST 1 (.slice (some ⟨g, 0, none⟩) l.length c) l.length (strsC (rowS l k))) (hB : Below w0.heap.size w0 wr) (hg : w0.heap.size ≤ g) :
    DiRel w0 l (some ⟨g, 0, none⟩) c (.int .i64 ((k : Int) + 1)) (wr.setCell ⟨g, k, none⟩ (.string (l[k].extract 0 (l[k].size - 1)))) := by
  refine ⟨k + 1, by go_num, hk, ?_, hB.setCell (p := ⟨g, k, none⟩) hg _⟩
  have h1 := (h.stored k (.string (l[k].extract 0 (l[k].size - 1)))).1
  rw [strsC_set] at h1
  have e : sh l[k] = l[k].extract 0 (l[k].size - 1) := if_pos hs
  rw [← e, rowS_next hk] at h1
  rw [← e]
  exact h1
theorem Pcall_dir (w : World) (s : ByteArray) (hG : GM w) (hs : s.size ≤ 9000) : Calls Tryz.prog 96 #[.string ⟨#[100, 105, 114]⟩, .string s] w fun e w' => e = .returned (.string (dirT s)) ∧ Below w.heap.size w w' := by
  have hB : Below w.heap.size w (w.alloc (.cells #[.string s] ST)) := (Below.refl _ w).alloc (Nat.le_refl _) _
  have HC := Lib.hid (PCall_any (w.alloc (.cells #[.string s] ST)) _ [s] 12 (hG.below hB) (by decide) (rd_lit w [s] #[.string s] rfl 1 (Nat.le_refl _)) rfl (fun p hp => by rw [List.mem_singleton.1 hp]; exact hs))
  have HE : Hid (resS 12 [s] = (dirT s, 0)) := Lib.hid rfl
  have HN : nm 12 = ⟨#[100, 105, 114]⟩ := rfl
  rw [HE.out, HN] at HC
  simp only [ansE] at HC
  have HB := Lib.hid hB
  clear hB HN HE
  generalize dirT s = d at *
  go_enter Tryz.func96, Tryz.ntmps96
  go_wp2_with fail
  refine HC.out.mono ?_
  rintro e w1 ⟨rfl, B1⟩
  go_wp2_with fail
  go_ret
  exact ⟨rfl, HB.out.trans (B1.mono HB.out.size)⟩
theorem Pcall_notdir (w : World) (s : ByteArray) (hG : GM w) (hs : s.size ≤ 9000) : Calls Tryz.prog 96 #[.string ⟨#[110, 111, 116, 100, 105, 114]⟩, .string s] w fun e w' => e = .returned (.string (nameT s)) ∧ Below w.heap.size w w' := by
  have hB : Below w.heap.size w (w.alloc (.cells #[.string s] ST)) := (Below.refl _ w).alloc (Nat.le_refl _) _
  have HC := Lib.hid (PCall_any (w.alloc (.cells #[.string s] ST)) _ [s] 13 (hG.below hB) (by decide) (rd_lit w [s] #[.string s] rfl 1 (Nat.le_refl _)) rfl (fun p hp => by rw [List.mem_singleton.1 hp]; exact hs))
  have HE : Hid (resS 13 [s] = (nameT s, 0)) := Lib.hid rfl
  have HN : nm 13 = ⟨#[110, 111, 116, 100, 105, 114]⟩ := rfl
  rw [HE.out, HN] at HC
  simp only [ansE] at HC
  have HB := Lib.hid hB
  clear hB HN HE
  generalize nameT s = d at *
  go_enter Tryz.func96, Tryz.ntmps96
  go_wp2_with fail
  refine HC.out.mono ?_
  rintro e w1 ⟨rfl, B1⟩
  go_wp2_with fail
  go_ret
  exact ⟨rfl, HB.out.trans (B1.mono HB.out.size)⟩
set_option maxHeartbeats 4000000 in
theorem Pdirectories_any (w : World) (s : ByteArray) (hG : GM w) (hs : s.size ≤ 9000) : Calls Tryz.prog 95 #[.string s] w fun e w' => e = .returned (.string (dirsT s)) ∧ Below w.heap.size w w' := by
  have HC := Lib.hid (Pcall_dir w s hG hs)
  have hdl := dirT_size hs
  have hsl := dirs_words s
  have HDs : Hid (dirsT s = joinS ((wordsS (dirT s)).map sh)) := Lib.hid rfl
  clear hG
  generalize dirT s = d at *
  have HSp := Lib.hid fun W => PSplit_any W d (by omega)
  have hwl := words_few d
  have HWS : Hid (∀ p ∈ wordsS d, p.size ≤ 100000) := Lib.hid fun p hp => Nat.le_trans (words_size hp) hdl
  have HSl := Lib.hid hsl
  clear hsl
  generalize wordsS d = l at *
  go_enter Tryz.func95, Tryz.ntmps95
  go_wp2_with fail
  refine HC.out.mono ?_
  rintro e w1 ⟨rfl, B1⟩
  have HB1 := Lib.hid B1
  clear B1
  go_wp2_with fail
  refine (HSp.out _).mono ?_
  rintro e w2 ⟨a, c, rfl, hown, B2⟩
  have HO := hown
  have HB2 := Lib.hid B2
  clear hown B2
  go_wp2_with fail
  go_loopw [11] (fun vi wr => DiRel w1 l a c vi wr) (fun vi _ => l.length - (intOf vi).toNat)
  case atStart => exact ⟨0, rfl, Nat.zero_le _, by rw [show rowS l 0 = l from by simp [rowS]]; exact HO.out, HB2.out⟩
  case round =>
    obtain ⟨k, rfl, hk, hrow, hB⟩ := hrel
    by_cases hlt : k < l.length
    · obtain ⟨g, rfl, hgc⟩ := owns_addr hrow (by omega)
      have hg := (hrow.lt g rfl).1
      have hcx : wr.cell? ⟨g, k, none⟩ = some (.string l[k]) := owns_cell hrow (by unfold strsC; rw [List.getElem?_map, rowS_get hlt]; rfl)
      have hfz := hrow.frozenAt k
      have hki : (k : Int) < l.length := by omega
      have hk0 : (0 : Int) ≤ (k : Int) := Int.natCast_nonneg _
      have hsx := HSl.out _ (List.getElem_mem hlt)
      have hpos : 1 ≤ l[k].size := by
        obtain ⟨r, hr⟩ := hsx
        rw [← by8_len, hr]; simp
      have hxs := HWS.out _ (List.getElem_mem hlt)
      have hq := slash_is hsx
      have HTr := Lib.hid fun W => trim_slash W l[k] (by omega) hsx
      clear hsx
      by_cases h1 : 1 < l[k].size
      · rw [decide_eq_false (by omega)] at hq
        have HN := Lib.hid (DiRel.store0 hlt h1 hrow hB hg)
        clear hrow hB h1 hpos
        generalize l[k] = x at *
        go_wp2_with fail
        refine (HTr.out _).mono ?_
        rintro e w3 ⟨rfl, rfl⟩
        go_wp2_with fail
        go_roundw
        case rel => exact HN.out
        case measure => simp [intOf]; omega
      · rw [decide_eq_true (by omega)] at hq
        have hsh : sh l[k] = l[k] := if_neg h1
        rw [rowS_same hlt hsh] at hrow
        clear hcx
        have hcx : wr.cell? ⟨g, k, none⟩ = some (.string l[k]) := owns_cell hrow (by rw [← rowS_same hlt hsh]; unfold strsC; rw [List.getElem?_map, rowS_get hlt]; rfl)
        have HRow := Lib.hid hrow
        clear hrow h1 hsh hpos
        generalize l[k] = x at *
        go_wp2_with fail
        go_roundw
        case rel => exact ⟨k + 1, by go_num, hlt, HRow.out, hB⟩
        case measure => simp [intOf]; omega
    · obtain rfl : k = l.length := by omega
      have hki : ¬ (l.length : Int) < l.length := by omega
      have HB := Lib.hid hB
      have hfull : rowS l l.length = l.map sh := by unfold rowS; rw [List.take_of_length_le (Nat.le_refl _), List.drop_of_length_le (Nat.le_refl _), List.append_nil]
      have HJ := Lib.hid (PJoin_any wr _ (rowS l l.length) (Rd.of_own hrow) (by rw [rowS_len]; omega) (fun p hp => by
        rw [hfull] at hp
        obtain ⟨x, hx, rfl⟩ := List.mem_map.1 hp
        have h1 := HWS.out x hx
        have h2 := sh_size x
        omega))
      rw [hfull] at HJ
      clear hrow hB hfull
      go_wp2_with fail
      refine HJ.out.mono ?_
      rintro e w3 ⟨rfl, B3⟩
      go_wp2_with fail
      go_ret
      rw [HDs.out]
      exact ⟨rfl, HB1.out.trans ((HB.out.trans (B3.mono HB.out.size)).mono HB1.out.size)⟩
/-- The first one, if there is one. -/
theorem Pfirst_one (w : World) (v : Value) (needs : List ByteArray) (hr : Rd w w.heap.size v (strsC needs)) (hl : needs.length ≤ 60) : Calls Tryz.prog 92 #[v] w fun e w' => e = .returned (.string (needs.headD ⟨#[]⟩)) ∧ w = w' := by
  obtain ⟨a0, c0, rfl, hc0⟩ := hr.shape
  cases needs with
  | nil =>
    go_enter Tryz.func92, Tryz.ntmps92
    go_wp2_with fail
    go_ret
    exact ⟨rfl, rfl⟩
  | cons x r =>
    obtain ⟨g, o, ha, _, _, hg, hcell⟩ := rd_cell hr 0 (by simp)
    have hcf : w.cell? ⟨g, o, none⟩ = some (.string x) := hcell 0 (by simp)
    subst ha
    simp only [strsC_len] at *
    obtain ⟨n, hn⟩ : ∃ n, (x :: r).length = n := ⟨_, rfl⟩
    have hn0 : 0 < n := by rw [← hn]; simp
    rw [hn] at hc0 hl ⊢
    have hkk : (0 : Int) < (n : Int) := by omega
    have hkb : ((n : Int) == 0) = false := beq_eq_false_iff_ne.2 (by omega)
    show Calls _ _ _ _ fun e w' => e = .returned (.string x) ∧ w = w'
    clear hr hn hcell
    go_enter Tryz.func92, Tryz.ntmps92
    go_wp2_with fail
    go_ret
    exact ⟨rfl, rfl⟩
end Go.Proofs.YtgednccpjegbmaaGreatDoor.Aw
namespace Go.Proofs.YtgednccpjegbmaaGreatDoor.Aw
open Go.RowKit Go.Proofs.YtgednccpjegbmaaGreatDoor Go.Proofs.YtgednccpjegbmaaGreatDoor.Ew Go.Maps Go.Shelf
open Go.Proofs.YtgednccpjegbmaaGreatDoor.Ww hiding wordsS ST
open Go.Proofs.YtgednccpjegbmaaGreatDoor.Tw hiding ST
set_option maxRecDepth 100000

abbrev MT : TypeId := 81
theorem run_mkA (w : World) : (Instr.makeMap MT none).run Tryz.prog w = .ok (.map (some w.heap.size)) (w.alloc (.map #[] 0)) := run_makeMap _ _
theorem mapClone_any (w : World) {b : Nat} {L : List En} (hM : Kw.MapAt AK w b L) :
    Calls Tryz.prog 56 #[.map (some b)] w fun e w' => e = .returned (.map (some w.heap.size)) ∧ Kw.MapAt AK w' w.heap.size L ∧ Below w.heap.size w w' := by
  refine (AnyW.maps_Clone_owns Tryz.laysCloneS Kw.SK AK.elem b _ _ w hM.own).mono ?_
  rintro e w' ⟨he, h1, _, h3⟩
  exact ⟨he, ⟨h1, hM.sorted⟩, h3⟩
section
variable {ops : Array Oper} {rest : List Oper} {o : Oper} {a : Act} {Q : Exit → Act → World → Prop} {w : World}
theorem wpList_ins (hg : o.guard = none) (m x v : Operand) (hop : o.op = Op.insert MT m x v) {bm : Nat} {L : List En} {p c : ByteArray} (hm : a.eval m = .map (some bm)) (hx : a.eval x = .string p) (hv : a.eval v = .string c)
    (hM : Kw.MapAt AK w bm L) (hp : p.size ≤ 1000) {k : Nat} (hn : L.length ≤ k) (hk : k ≤ 100) (hK : ∀ w', Kw.MapAt AK w' bm (Kp.ins L (by8 p, c)) → w.mapTurned w' bm → (Kp.ins L (by8 p, c)).length ≤ k + 1 → wpList Tryz.prog ops Q rest (a.put o.dst undef) w') : wpList Tryz.prog ops Q (o :: rest) a w := by
  refine wpList_plain hg fun K' hK' => ?_
  obtain ⟨w', hrun, r1, r2⟩ := hM.own.store (val := .string c) (d := AK.enc c) (ps := []) Kw.key AK.und (by unfold maxLen; omega) (Kw.key_of (p := p) (by unfold maxLen; omega)) (AK.elem_mk c)
  rw [Kp.put_mapOf AK.enc (f := (by8 p, c)) hM.sorted] at r1
  replace hrun : Sem.run Tryz.prog (Instr.mapUpdate MT (Value.map (some bm)) (Value.string p) (Value.string c)) w = _ := hrun
  unfold Oper.wp
  simp [execOp, hop, hm, hx, hv, hrun, Result.andThen]
  exact hK' _ _ (hK w' (Kw.MapAt.of_own r1 (Kp.sorted_ins hM.sorted)) r2 (Nat.le_trans (Kp.len_ins_le _ _) (by omega)))
theorem wpList_putA (hg : o.guard = none) (m x v : Operand) (hop : o.op = Op.mapUpdate MT m x v) {bm : Nat} {L : List En} {p c : ByteArray} (hm : a.eval m = .map (some bm)) (hx : a.eval x = .string p) (hv : a.eval v = .string c)
    (hM : Kw.MapAt AK w bm L) (hp : p.size ≤ 1000) (hn : L.length < 1000) (hK : ∀ w', Kw.MapAt AK w' bm (Kp.ins L (by8 p, c)) → w.mapTurned w' bm → wpList Tryz.prog ops Q rest (a.put o.dst undef) w') : wpList Tryz.prog ops Q (o :: rest) a w :=
  Kw.wpList_put w hg m x v hop hm (p := by8 p) (by rw [str_by8]; exact hx) hv hM (by unfold maxLen; rw [by8_len]; omega) (by unfold maxLen; omega) hK
end
theorem turned_below {B : Nat} {w0 w w' : World} {bm : Nat} (h : w.mapTurned w' bm) (hB : Below B w0 w) (hs : B ≤ w.heap.size) (hb : B ≤ bm) : Below B w0 w' := hB.grown h.grown hs fun k e => by cases e; exact hb
theorem below_grown {w w' : World} (h : Below w.heap.size w w') : w.grownBy w' none := ⟨h.os, h.tape, h.output, h.size, fun i hi _ => h.block i hi⟩
/-- The literal's entries, behind each other. -/
def litE (t f u j s : ByteArray) : List En := Kp.ins (Kp.ins (Kp.ins (Kp.ins (Kp.ins [] ([64], t)) ([60], f)) ([94], u)) ([43], j)) ([42], s)
theorem lit_mem (t s : ByteArray) (l : List ByteArray) (g : En) : g ∈ litE t (l.headD ⟨#[]⟩) (joinS (Wp.uniq l)) (joinS l) s ↔ g ∈ (plainT t s l).map entA := by
  have hu : Uni ((plainT t s l).map entA) := uni_of (by
    have : ((plainT t s l).map entA).map (·.1) = [[64], [60], [94], [43], [42]] := by rfl
    rw [this]; decide)
  have e : (plainT t s l).map entA = [([64], t), ([60], l.headD ⟨#[]⟩), ([94], joinS (Wp.uniq l)), ([43], joinS l), ([42], s)] := rfl
  rw [e] at hu ⊢
  unfold litE
  have s0 : Kp.Sorted ([] : List En) := List.Pairwise.nil
  have k1 := ins_keeps hu s0 (fun g h => by cases h) (f := ([64], t)) (by simp)
  have s1 := Kp.sorted_ins (f := (([64], t) : En)) s0
  generalize Kp.ins [] (([64], t) : En) = E1 at *
  have k2 := ins_keeps hu s1 (fun g h => by rcases (k1 g).1 h with rfl | h <;> simp_all) (f := ([60], l.headD ⟨#[]⟩)) (by simp)
  have s2 := Kp.sorted_ins (f := (([60], l.headD ⟨#[]⟩) : En)) s1
  generalize Kp.ins E1 (([60], l.headD ⟨#[]⟩) : En) = E2 at *
  have k3 := ins_keeps hu s2 (fun g h => by rw [k2 g, k1 g] at h; rcases h with rfl | rfl | h <;> simp_all) (f := ([94], joinS (Wp.uniq l))) (by simp)
  have s3 := Kp.sorted_ins (f := (([94], joinS (Wp.uniq l)) : En)) s2
  generalize Kp.ins E2 (([94], joinS (Wp.uniq l)) : En) = E3 at *
  have k4 := ins_keeps hu s3 (fun g h => by rw [k3 g, k2 g, k1 g] at h; rcases h with rfl | rfl | rfl | h <;> simp_all) (f := ([43], joinS l)) (by simp)
  have s4 := Kp.sorted_ins (f := (([43], joinS l) : En)) s3
  generalize Kp.ins E3 (([43], joinS l) : En) = E4 at *
  have k5 := ins_keeps hu s4 (fun g h => by rw [k4 g, k3 g, k2 g, k1 g] at h; rcases h with rfl | rfl | rfl | rfl | h <;> simp_all) (f := ([42], s)) (by simp)
  rw [k5 g, k4 g, k3 g, k2 g, k1 g]
  simp only [List.mem_cons, List.not_mem_nil, or_false]
  constructor
  · rintro (h | h | h | h | h) <;> simp [h]
  · rintro (h | h | h | h | h) <;> simp [h]
theorem lit_len (t f u j s : ByteArray) : (litE t f u j s).length = 5 := by rfl
/-- What the loop's head knows. -/
def ORel (w : World) (M E : List En) (ba bt r : Nat) (wr : World) : Prop :=
  ∃ (left : Lit → Bool) (cnt : Nat) (E2 : List En), wr.ranges Tryz.prog Kw.SK AK.elem bt r E.length (Kp.mapOf AK.enc E) left cnt ∧ Kw.MapAt AK wr ba E2 ∧ Done M E left E2 ∧ Below w.heap.size w wr
theorem elemA (v : Value) (y : DataW Unit × List MemPlace) (h : AK.elem v = some y) : ∃ c : ByteArray, v = Value.string c := by
  obtain ⟨e, rfl, _⟩ := AK.elem_inv _ _ h
  exact ⟨e, rfl⟩
theorem foundA {E : List En} {c : ByteArray} {x : Bs} {yd : DataW Unit} {yp : List MemPlace} (hv : AK.elem (Value.string c) = some (yd, yp)) (hat : ∀ zd, (Kp.mapOf AK.enc E).atKey (.string x) zd = yd) : Kp.get E x = some (x, c) := by
  obtain ⟨a, ha, h⟩ := AK.elem_inv _ _ hv
  obtain rfl : c = a := by cases ha; rfl
  have hy : yd = AK.enc c := congrArg Prod.fst h
  cases hq : Kp.get E x with
  | none =>
    have h1 := hat .nil
    rw [Kp.at_mapOf_none AK.enc hq] at h1
    rw [hy] at h1
    cases h1
  | some f =>
    have h1 := hat .nil
    rw [Kp.at_mapOf_some AK.enc hq, hy] at h1
    have h2 := AK.enc_inj _ _ h1
    have h3 : f.1 = x := by have := List.find?_some hq; simpa using this
    obtain ⟨f1, f2⟩ := f
    dsimp only at h2 h3
    rw [h2, h3]
set_option maxHeartbeats 8000000 in
theorem AutoC_any : AutoC := by
  intro w target stem v needs hG hr hl hs ht hst
  have hmm := run_mkA
  have HR := Lib.hid hr
  have HF1 := Lib.hid fun W (hW : Below w.heap.size w W) => Pfirst_one W v needs ((hr.below hW).more hW.size) hl
  have HU1 := Lib.hid fun W (hW : Below w.heap.size w W) => Wu.Unique_any W v needs ((hr.below hW).more hW.size) (by omega) (fun x hx => by have := hs x hx; omega)
  have hus : ∀ p ∈ Wp.uniq needs, p.size ≤ 100 := fun p hp => hs p (Wp.mem_uniq.1 hp)
  have hul := Wp.uniq_len needs
  have HJ1 := Lib.hid fun W u (h : Rd W W.heap.size u (strsC (Wp.uniq needs))) => PJoin_any W u (Wp.uniq needs) h (by omega) (fun p hp => by have := hus p hp; omega)
  have HJ2 := Lib.hid fun W (hW : Below w.heap.size w W) => PJoin_any W v needs ((hr.below hW).more hW.size) (by omega) (fun p hp => by have := hs p hp; omega)
  have HGM := Lib.hid hG
  have HMem := Lib.hid (lit_mem target stem needs)
  have HUni := Lib.hid (uni_all target stem needs)
  have HM15 := Lib.hid (len_all target stem needs)
  have HSz : Hid (∀ f ∈ (plainT target stem needs).map entA, f.1.length = 1 ∧ f.2.size ≤ 9000) := Lib.hid (by
    have hj1 := join_few (l := Wp.uniq needs) (by omega) hus
    have hj2 := join_few hl hs
    have hh : (needs.headD ⟨#[]⟩).size ≤ 100 := by
      cases needs with
      | nil => exact Nat.zero_le _
      | cons x r => exact hs x (by simp)
    intro f hf
    rw [show (plainT target stem needs).map entA = [([64], target), ([60], needs.headD ⟨#[]⟩), ([94], joinS (Wp.uniq needs)), ([43], joinS needs), ([42], stem)] from rfl] at hf
    simp only [List.mem_cons, List.not_mem_nil, or_false] at hf
    rcases hf with rfl | rfl | rfl | rfl | rfl
    · exact ⟨rfl, by show target.size ≤ _; omega⟩
    · exact ⟨rfl, by show (needs.headD _).size ≤ _; omega⟩
    · exact ⟨rfl, by show (joinS _).size ≤ _; omega⟩
    · exact ⟨rfl, by show (joinS _).size ≤ _; omega⟩
    · exact ⟨rfl, by show stem.size ≤ _; omega⟩)
  have HHas : Hid (∀ (E2 : List En) (left : Lit → Bool) (W : World) (b : Nat), Done (allE (plainT target stem needs)) (litE target (needs.headD ⟨#[]⟩) (joinS (Wp.uniq needs)) (joinS needs) stem) left E2 → (∀ kl, left kl = false) → Kw.MapAt AK W b E2 → Has W b E2 (allT (plainT target stem needs))) := Lib.hid fun E2 left W b hD hl hM => hD.has HUni.out (fun f hf => (HMem.out f).2 hf) hl hM
  have HAll : Hid (∀ f ∈ (plainT target stem needs).map entA, f ∈ allE (plainT target stem needs) ∧ dE f ∈ allE (plainT target stem needs) ∧ fE f ∈ allE (plainT target stem needs)) := Lib.hid fun f hf => ⟨mem_allE.2 ⟨f, hf, .inl rfl⟩, mem_allE.2 ⟨f, hf, .inr (.inl rfl)⟩, mem_allE.2 ⟨f, hf, .inr (.inr rfl)⟩⟩
  obtain ⟨a0, c0, rfl, hc0⟩ := hr.shape
  simp only [strsC_len] at *
  generalize needs.headD ⟨#[]⟩ = first at *
  generalize joinS (Wp.uniq needs) = ju at *
  generalize joinS needs = jn at *
  generalize allE (plainT target stem needs) = M at *
  generalize (plainT target stem needs).map entA = P5 at *
  generalize allT (plainT target stem needs) = AT at *
  clear hG hr hs hus hul ht hst hc0 HR
  generalize Wp.uniq needs = us at *
  generalize needs.length = n at *
  clear hl
  go_enter Tryz.func57, Tryz.ntmps57
  have HM0 := Lib.hid (Kw.MapAt.new (K := AK) w)
  have HB0 := Lib.hid ((Below.refl w.heap.size w).alloc (Nat.le_refl _) (.map #[] 0))
  go_wp2_with (refine wpList_ins (by rfl) _ _ _ (by rfl) (by rfl) (by rfl) (by rfl) HM0.out (by decide) (k := 0) (by decide) (by decide) ?_; intro v1 m1 t1 n1; have HN1 := Lib.hid n1; have HM1 := Lib.hid m1; have HB1 := Lib.hid (turned_below t1 HB0.out HB0.out.size (Nat.le_refl _)); clear m1 t1 n1)
  refine (HF1.out _ HB1.out).mono ?_
  rintro e u1 ⟨rfl, rfl⟩
  go_wp2_with (refine wpList_ins (by rfl) _ _ _ (by rfl) (by rfl) (by rfl) (by rfl) HM1.out (by decide) HN1.out (by decide) ?_; intro v2 m2 t2 n2; have HN2 := Lib.hid n2; have HM2 := Lib.hid m2; have HB2 := Lib.hid (turned_below t2 HB1.out HB1.out.size (Nat.le_refl _)); clear m2 t2 n2 HM1)
  refine (HU1.out _ HB2.out).mono ?_
  rintro e u2 ⟨a2, c2, rfl, ho2, B2⟩
  have HJ3 := Lib.hid (HJ1.out u2 _ (Rd.of_own ho2))
  have HM3 := Lib.hid (HM2.out.below B2)
  have HB3 := Lib.hid (HB2.out.trans (B2.mono HB2.out.size))
  clear ho2 B2 HM2
  go_wp2_with fail
  refine HJ3.out.mono ?_
  rintro e u3 ⟨rfl, B3⟩
  have HM4 := Lib.hid (HM3.out.below B3)
  have HB4 := Lib.hid (HB3.out.trans (B3.mono HB3.out.size))
  clear B3 HM3 HJ3
  go_wp2_with (refine wpList_ins (by rfl) _ _ _ (by rfl) (by rfl) (by rfl) (by rfl) HM4.out (by decide) HN2.out (by decide) ?_; intro v5 m5 t5 n5; have HN5 := Lib.hid n5; have HM5 := Lib.hid m5; have HB5 := Lib.hid (turned_below t5 HB4.out HB4.out.size (Nat.le_refl _)); clear m5 t5 n5 HM4)
  refine (HJ2.out _ HB5.out).mono ?_
  rintro e u5 ⟨rfl, B5⟩
  have HM6 := Lib.hid (HM5.out.below B5)
  have HB6 := Lib.hid (HB5.out.trans (B5.mono HB5.out.size))
  clear B5 HM5
  go_wp2_with (first
    | (refine wpList_ins (by rfl) _ _ _ (by rfl) (by rfl) (by rfl) (by rfl) HM6.out (by decide) HN5.out (by decide) ?_; intro v7 m7 t7 n7; have HN7 := Lib.hid n7; have HM7 := Lib.hid m7; have HB7 := Lib.hid (turned_below t7 HB6.out HB6.out.size (Nat.le_refl _)); clear m7 t7 n7 HM6)
    | (refine wpList_ins (by rfl) _ _ _ (by rfl) (by rfl) (by rfl) (by rfl) HM7.out (by decide) HN7.out (by decide) ?_; intro v8 m8 t8 n8; have HM8 := Lib.hid m8; have HB8 := Lib.hid (turned_below t8 HB7.out HB7.out.size (Nat.le_refl _)); clear m8 t8 n8 HM7))
  have HE5 : Hid ((litE target first ju jn stem).length = 5) := Lib.hid (lit_len _ _ _ _ _)
  have HME : Hid (Kw.MapAt AK v8 w.heap.size (litE target first ju jn stem)) := Lib.hid HM8.out
  clear HM8 HM0 HN1 HN2 HN5 HN7 HF1 HU1 HJ1 HJ2 HB0 HB1 HB2 HB3 HB4 HB5 HB6 HB7
  generalize litE target first ju jn stem = E at *
  refine (mapClone_any v8 HME.out).mono ?_
  rintro e w9 ⟨rfl, hA9, B9⟩
  have hT9 := HME.out.below B9
  have HT9 := Lib.hid hT9
  have HA9 := Lib.hid hA9
  have hbt : w.heap.size < v8.heap.size := HME.out.lt
  have HB9 := Lib.hid (HB8.out.trans (B9.mono HB8.out.size))
  clear HME HB8 B9 hA9
  generalize v8.heap.size = ba at *
  generalize hbw : w.heap.size = bt at *
  have HBw := Lib.hid hbw
  clear hbw
  go_wp2_with (at_range; refine wpList_range_own _ rfl _ MT rfl Kw.SK Kw.SK Kw.key Tryz.underlying81 _ bt _ _ rfl hT9.own ?_; intro w0 hrg0 hg0 hs0)
  go_frame
  generalize hrr : w9.heap.size = r at *
  have hbr : bt < r := by rw [← hrr]; exact HT9.out.lt
  have har : ba < r := by rw [← hrr]; exact HA9.out.lt
  have HStart : Hid (ORel w M E ba bt r w0) := Lib.hid ⟨_, _, E, hrg0, HA9.out.block (hg0.block ba (by rw [hrr]; exact har) (by simp)), Done.start fun g hg => (HAll.out g ((HMem.out g).1 hg)).1, (HB9.out.grown hg0 (by have := HBw.out; omega) (fun k e => (by cases e))).mono (by have := HBw.out; omega)⟩
  have HSE := Lib.hid HT9.out.sorted
  clear hrg0 hg0 hs0 hT9 HT9 HA9 HB9 hmm hrr
  go_loopw [9] (fun _ wr => ORel w M E ba bt r wr) (fun _ wr => wr.rangeLeft bt r)
  case atStart => exact HStart.out
  case round =>
    obtain ⟨left, cnt, E2, hrg, hA2, hD, hB⟩ := hrel
    clear HStart
    go_wp2_with (at_next; refine wpList_next_ranges _ rfl _ rfl Kw.SK Kw.key AK.elem (fun x : Bs => Value.string (str x)) (fun c : ByteArray => Value.string c) Kw.keyS elemA bt r _ _ _ _ rfl hrg ?_ ?_)
    · intro hc0 hl0
      have HH := Lib.hid (HHas.out _ _ _ _ hD hl0 hA2)
      go_wp2_with fail
      go_ret
      exact ⟨ba, E2, rfl, HH, hB⟩
    · intro x c kl yd yp w2 cnt2 hkey hlk hv hat hrg2 hlt2 hg2 hs2 hen
      obtain rfl := Kw.keyS_inv hkey
      have hfE := ((Kp.get_some HSE.out).1 (foundA hv hat)).1
      have hfP := (HMem.out _).1 hfE
      obtain ⟨hx1, hc9⟩ := HSz.out _ hfP
      obtain ⟨_, hdM, hnM⟩ := HAll.out _ hfP
      have hD2 := hD.step HUni.out HSE.out hA2.sorted hfE hdM hnM
      dsimp only at hx1 hc9
      have hle := Lib.hid hrg.left_eq
      have HL2 : Hid (E2.length ≤ 15) := Lib.hid (by have := len_sub (sorted_uniE hA2.sorted) hD.sub; have := HM15.out; omega)
      have hne : ba ≠ r := by omega
      have hws := HBw.out
      have hA3 := hA2.block (hg2.block ba hA2.lt (fun e => hne (Option.some.inj e)))
      have hB2 := hB.grown hg2 hB.size (fun k e => by rw [← Option.some.inj e]; omega)
      have HDr := Lib.hid fun W g => Pdirectories_any W c g hc9
      have HNr := Lib.hid fun W g => Pcall_notdir W c g hc9
      have hsx : (str x).size = 1 := by rw [str_size]; exact hx1
      have HG2 := Lib.hid (HGM.out.below hB2)
      have HD2 := Lib.hid hD2
      have HA3 := Lib.hid hA3
      have HRg := Lib.hid hrg2
      have HB2 := Lib.hid hB2
      have HKd : Hid (by8 (str x ++ ⟨#[68]⟩) = x ++ [68]) := Lib.hid (by rw [by8_add, by8_str]; rfl)
      have HKf : Hid (by8 (str x ++ ⟨#[70]⟩) = x ++ [70]) := Lib.hid (by rw [by8_add, by8_str]; rfl)
      have HLt := Lib.hid hlt2
      have hcat : ¬ 9223372036854775807 < (str x).size + 1 := by omega
      clear hrg hD2 hA2 hA3 hrg2 hg2 hs2 hkey hlk hv hat hfP hdM hnM hB hB2 hlt2 hD hfE
      go_wp2_with fail
      refine (HDr.out _ HG2.out).mono ?_
      rintro e w3 ⟨rfl, B3⟩
      have hA4 := HA3.out.below B3
      have HRg3 := Lib.hid (HRg.out.kept (below_grown B3) (by simp) (by simp))
      have HB3 := Lib.hid (HB2.out.trans (B3.mono HB2.out.size))
      clear B3 HA3 HRg
      go_wp2_with (at_mapUpdate; refine wpList_putA rfl _ _ _ rfl rfl rfl rfl hA4 (by rw [ByteArray.size_append, hsx]; decide) (by have := HL2.out; omega) ?_; intro w4 hA5 t4; go_frame)
      have HRg4 := Lib.hid (HRg3.out.kept t4.grown (fun e => by have := Option.some.inj e; omega) (fun e => hne (Option.some.inj e).symm))
      have HB4 := Lib.hid (turned_below t4 HB3.out HB3.out.size (by omega))
      have HG4 := Lib.hid (HGM.out.below HB4.out)
      rw [HKd.out] at hA5
      have HA5 := Lib.hid hA5
      clear hA5 hA4 t4 HRg3 HB3
      go_wp2_with fail
      refine (HNr.out _ HG4.out).mono ?_
      rintro e w5 ⟨rfl, B5⟩
      have hA6 := HA5.out.below B5
      have HRg5 := Lib.hid (HRg4.out.kept (below_grown B5) (by simp) (by simp))
      have HB5 := Lib.hid (HB4.out.trans (B5.mono HB4.out.size))
      clear B5 HA5 HRg4
      go_wp2_with (at_mapUpdate; refine wpList_putA rfl _ _ _ rfl rfl rfl rfl hA6 (by rw [ByteArray.size_append, hsx]; decide) (by have := HL2.out; have := Kp.len_ins_le E2 ((x ++ [68], dirsT c) : En); omega) ?_; intro w6 hA7 t6; go_frame)
      have hrg6 := HRg5.out.kept t6.grown (fun e => by have := Option.some.inj e; omega) (fun e => hne (Option.some.inj e).symm)
      have hB6 := turned_below t6 HB5.out HB5.out.size (by omega)
      rw [HKf.out] at hA7
      go_roundw
      case rel => exact ⟨_, cnt2, _, hrg6, hA7, HD2.out, hB6⟩
      case measure => rw [hrg6.left_eq, hle.out]; exact HLt.out
end Go.Proofs.YtgednccpjegbmaaGreatDoor.Aw
