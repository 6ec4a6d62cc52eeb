/-
  package text: name, dir, ending, base.
  package text: patsubst, addprefix, addsuffix; functions as values: one, two, three, each, filter.
-/
import Derived.Test.YtgednccpjegbmaaGreatDoorQEPBase
import Derived.Test.YtgednccpjegbmaaGreatDoorQEEach
import Derived.Laws.EntriesVeiled
import Derived.Deep.RegionHeld3
import Derived.Test.YtgednccpjegbmaaGreatDoorQEPNum
import Derived.Test.YtgednccpjegbmaaGreatDoorQXIns
import Derived.Test.YtgednccpjegbmaaGreatDoorQAPlain
namespace Go.Proofs.YtgednccpjegbmaaGreatDoor.Ew
open Go.RowKit Go.Proofs.YtgednccpjegbmaaGreatDoor Go.Proofs.YtgednccpjegbmaaGreatDoor.Ww Go.Proofs.YtgednccpjegbmaaGreatDoor.Tw
set_option maxRecDepth 100000

theorem lastI_is (s : ByteArray) (c : UInt8) : Lib.lastIndexByte s (c.toNat : Int) = Lib.Pa.lastIndexByte (by8 s) c := by
  unfold Lib.lastIndexByte Lib.Pa.lastIndexByte
  rw [by8_len]
  have key : ∀ k, k ≤ s.size → Lib.lastIdx s (c.toNat : Int) k = Lib.Pa.lastIdx (by8 s) c k := by
    intro k
    induction k with
    | zero => intro _; rfl
    | succ k ih =>
      intro h
      unfold Lib.lastIdx Lib.Pa.lastIdx
      have e : s.data[k]! = s[k] := by rw [getElem!_pos s.data k (show k < s.data.size from h)]; rfl
      rw [by8_get (by omega), e, ih (by omega)]
      by_cases hc : s[k] = c
      · rw [if_pos (by rw [hc]), if_pos (by rw [hc])]
      · rw [if_neg (fun h' => hc (UInt8.toNat_inj.1 (by omega))), if_neg (fun h' => hc (Option.some.inj h'))]
  exact key _ (Nat.le_refl _)
theorem PLast_any (w : World) (s : ByteArray) (c : UInt8) (hs : s.size ≤ 1000000) : Calls Tryz.prog 73 #[.string s, .int .u8 (c.toNat : Int)] w fun e w' => e = .returned (.int .i64 (Lib.Pa.lastIndexByte (by8 s) c)) ∧ w = w' := by
  refine (Tryz.strings_LastIndexByte s (c.toNat : Int) (by omega) w).mono ?_
  rintro e w' ⟨rfl, rfl⟩
  exact ⟨by rw [lastI_is], rfl⟩
set_option maxHeartbeats 1000000 in
theorem Pname_any (w : World) (s : ByteArray) (hs : s.size ≤ 1000000) : Calls Tryz.prog 254 #[.string s] w fun e w' => e = .returned (.string (s.extract (Ep.nameA (by8 s)) s.size)) ∧ w = w' := by
  have HC := Lib.hid (PLast_any w s 47 hs)
  have HN : Hid (Ep.nameA (by8 s) = (Lib.Pa.lastIndexByte (by8 s) 47 + 1).toNat) := Lib.hid rfl
  have hb := Lib.Pa.lastIndexByte_bounds (by8 s) 47
  rw [by8_len] at hb
  rw [HN.out]
  generalize Lib.Pa.lastIndexByte (by8 s) 47 = i at *
  obtain ⟨n, rfl⟩ : ∃ n : Nat, i = (n : Int) - 1 := ⟨(i + 1).toNat, by omega⟩
  have h1 : (0 : Int) ≤ (n : Int) := by omega
  have h2 : (n : Int) ≤ (s.size : Int) := by omega
  have h3 : IntKind.i64.wrap ((n : Int) - 1 + 1) = (n : Int) := by rw [IntWalk.i64_in _ (by omega)]; omega
  have h4 : (n : Int) - 1 + 1 = (n : Int) := by omega
  have HE : Hid (((n : Int) - 1 + 1).toNat = n) := Lib.hid (by omega)
  rw [HE.out]
  clear hb HN
  go_enter Tryz.func254, Tryz.ntmps254
  go_wp2_with fail
  refine HC.out.mono ?_
  rintro e w' ⟨rfl, rfl⟩
  go_wp2_with fail
  go_ret
  exact ⟨rfl, rfl⟩

/-- A text without an end of it. -/
theorem suffix_cut (s : ByteArray) (n : Nat) (h : n ≤ s.size) : (⟨(Lib.trimSuffix s.data.toList (s.extract n s.size).data.toList).toArray⟩ : ByteArray) = s.extract 0 n := by
  have hd : (s.extract n s.size).data.toList = (by8 s).drop n := by
    show by8 (s.extract n s.size) = _
    rw [by8_mid, List.take_of_length_le (by rw [List.length_drop, by8_len]; exact Nat.le_refl _)]
  refine by8_ext ?_
  show Lib.trimSuffix (by8 s) (s.extract n s.size).data.toList = by8 (s.extract 0 n)
  rw [hd, by8_mid, List.drop_zero, Nat.sub_zero]
  unfold Lib.trimSuffix
  rw [if_pos (by unfold Lib.hasSuffix; exact List.isSuffixOf_iff_suffix.2 (List.drop_suffix _ _)), List.length_drop, by8_len]
  congr 1; omega
set_option maxHeartbeats 1000000 in
theorem Pdir_any (w : World) (x : ByteArray) (hx : x.size ≤ 1000000) : Calls Tryz.prog 253 #[.string x] w fun e w' => e = .returned (.string (oneS 12 [] x)) ∧ Below w.heap.size w w' := by
  have HN := Lib.hid fun W => Pname_any W x hx
  have HE : Hid (oneS 12 [] x = if Ep.nameA (by8 x) = 0 then ⟨#[46, 47]⟩ else x.extract 0 (Ep.nameA (by8 x))) := Lib.hid rfl
  have hnl := Ep.name_le (by8 x)
  rw [by8_len] at hnl
  have HT : Hid (∀ W, Calls Tryz.prog 63 #[.string x, .string (x.extract (Ep.nameA (by8 x)) x.size)] W fun e w' => e = .returned (.string (x.extract 0 (Ep.nameA (by8 x)))) ∧ W = w') := Lib.hid fun W => by
    refine (Tryz.strings_TrimSuffix x (x.extract (Ep.nameA (by8 x)) x.size) W (by omega)).mono ?_
    rintro e w' ⟨rfl, rfl⟩
    exact ⟨by rw [suffix_cut _ _ hnl], rfl⟩
  generalize Ep.nameA (by8 x) = n at *
  have hb : ((x.extract 0 n).toList == []) = decide (n = 0) := by
    rw [toList_by8, by8_mid, List.drop_zero, Nat.sub_zero]
    by_cases h0 : n = 0
    · subst h0; rfl
    · rw [decide_eq_false h0, beq_eq_false_iff_ne]
      intro h
      have := congrArg List.length h
      rw [List.length_take, by8_len, List.length_nil] at this; omega
  generalize x.extract n x.size = y at *
  by_cases h0 : n = 0
  · rw [decide_eq_true h0] at hb
    have HE2 := Lib.hid (HE.out.trans (if_pos h0))
    generalize x.extract 0 n = z at *
    go_enter Tryz.func253, Tryz.ntmps253
    go_wp2_with fail
    refine (HN.out _).mono ?_
    rintro e w' ⟨rfl, rfl⟩
    go_wp2_with fail
    refine (HT.out _).mono ?_
    rintro e w' ⟨rfl, rfl⟩
    go_wp2_with fail
    go_ret
    rw [HE2.out]
    exact ⟨rfl, Below.refl _ _⟩
  · rw [decide_eq_false h0] at hb
    have HE2 := Lib.hid (HE.out.trans (if_neg h0))
    generalize x.extract 0 n = z at *
    go_enter Tryz.func253, Tryz.ntmps253
    go_wp2_with fail
    refine (HN.out _).mono ?_
    rintro e w' ⟨rfl, rfl⟩
    go_wp2_with fail
    refine (HT.out _).mono ?_
    rintro e w' ⟨rfl, rfl⟩
    go_wp2_with fail
    go_ret
    rw [HE2.out]
    exact ⟨rfl, Below.refl _ _⟩
theorem Pnotdir_any (w : World) (x : ByteArray) (hx : x.size ≤ 1000000) : Calls Tryz.prog 254 #[.string x] w fun e w' => e = .returned (.string (oneS 13 [] x)) ∧ Below w.heap.size w w' :=
  (Pname_any w x hx).mono fun _ _ ⟨he, hw⟩ => ⟨he, hw ▸ Below.refl _ _⟩

/-- Where the last point of a path's name stands. -/
theorem last_drop (l : List UInt8) (c : UInt8) (n : Nat) (h : n ≤ l.length) : Lib.Pa.lastIndexByte (l.drop n) c = if (n : Int) ≤ Lib.Pa.lastIndexByte l c then Lib.Pa.lastIndexByte l c - n else -1 := by
  have key : ∀ k, n + k ≤ l.length → Lib.Pa.lastIdx (l.drop n) c k = if (n : Int) ≤ Lib.Pa.lastIdx l c (n + k) then Lib.Pa.lastIdx l c (n + k) - n else -1 := by
    intro k
    induction k with
    | zero =>
      intro _
      have := (Lib.Pa.lastIdx_bounds l c n).2
      rw [if_neg (by rw [Nat.add_zero]; omega)]; rfl
    | succ k ih =>
      intro hk
      have e : Lib.Pa.lastIdx l c (n + (k + 1)) = if l[n + k]? = some c then ((n + k : Nat) : Int) else Lib.Pa.lastIdx l c (n + k) := rfl
      have e2 : Lib.Pa.lastIdx (l.drop n) c (k + 1) = if (l.drop n)[k]? = some c then (k : Int) else Lib.Pa.lastIdx (l.drop n) c k := rfl
      rw [e, e2, List.getElem?_drop]
      by_cases hc : l[n + k]? = some c
      · rw [if_pos hc, if_pos hc, if_pos (by omega)]; omega
      · rw [if_neg hc, if_neg hc, ih (by omega)]
  unfold Lib.Pa.lastIndexByte
  have e3 : n + (l.drop n).length = l.length := by rw [List.length_drop]; omega
  rw [key _ (by omega), e3]
theorem ext_ext (x : ByteArray) (n i : Nat) : (x.extract n x.size).extract i (x.size - n) = x.extract (n + i) x.size := by
  refine by8_ext ?_
  rw [by8_mid, by8_mid, by8_mid, List.take_of_length_le (l := (by8 x).drop n) (by rw [List.length_drop, by8_len]; exact Nat.le_refl _), List.drop_drop]
  rw [show x.size - n - i = x.size - (n + i) by omega]
set_option maxHeartbeats 1000000 in
theorem Pend_any (w : World) (x : ByteArray) (hx : x.size ≤ 1000000) : Calls Tryz.prog 255 #[.string x] w fun e w' => e = .returned (.string (oneS 14 [] x)) ∧ Below w.heap.size w w' := by
  have HN := Lib.hid (Pname_any w x hx)
  have hnl := Ep.name_le (by8 x)
  rw [by8_len] at hnl
  have HE : Hid (oneS 14 [] x = x.extract (Ep.endA (by8 x)) x.size) := Lib.hid rfl
  have HEd : Hid (Ep.endA (by8 x) = if (Ep.nameA (by8 x) : Int) ≤ Lib.Pa.lastIndexByte (by8 x) 46 then (Lib.Pa.lastIndexByte (by8 x) 46).toNat else (by8 x).length) := Lib.hid rfl
  have hbd := Lib.Pa.lastIndexByte_bounds (by8 x) 46
  rw [by8_len] at hbd
  generalize Ep.nameA (by8 x) = n at *
  have hys : (x.extract n x.size).size = x.size - n := by rw [ByteArray.size_extract]; omega
  have HL : Hid (∀ W, Calls Tryz.prog 73 #[.string (x.extract n x.size), .int .u8 46] W fun e w' => e = .returned (.int .i64 (if (n : Int) ≤ Lib.Pa.lastIndexByte (by8 x) 46 then Lib.Pa.lastIndexByte (by8 x) 46 - n else -1)) ∧ W = w') := Lib.hid fun W => by
    refine (PLast_any W (x.extract n x.size) 46 (by omega)).mono ?_
    rintro e w' ⟨rfl, rfl⟩
    refine ⟨?_, rfl⟩
    rw [by8_mid, List.take_of_length_le (by rw [List.length_drop, by8_len]; exact Nat.le_refl _), last_drop _ _ _ (by rw [by8_len]; exact hnl)]
  by_cases h : (n : Int) ≤ Lib.Pa.lastIndexByte (by8 x) 46
  · rw [if_pos h] at HL HEd
    obtain ⟨i, hi⟩ : ∃ i : Nat, Lib.Pa.lastIndexByte (by8 x) 46 = ((n + i : Nat) : Int) := ⟨(Lib.Pa.lastIndexByte (by8 x) 46 - n).toNat, by omega⟩
    rw [hi] at HL HEd hbd
    have HX := Lib.hid (ext_ext x n i)
    have e1 : ((n + i : Nat) : Int) - (n : Int) = (i : Int) := by omega
    rw [e1] at HL
    have HE2 : Hid (oneS 14 [] x = x.extract (n + i) x.size) := Lib.hid (by rw [HE.out, HEd.out]; rfl)
    have hz : (x.extract n x.size).size ≤ x.size - n := by omega
    have hi1 : (0 : Int) ≤ (i : Int) := by omega
    have hi2 : (i : Int) ≤ ((x.extract n x.size).size : Int) := by omega
    have HZ := Lib.hid hys
    clear h hi hbd HEd HE hys e1
    generalize x.extract n x.size = y at *
    have hi3 : ¬ (i : Int) < 0 := by omega
    go_enter Tryz.func255, Tryz.ntmps255
    go_wp2_with fail
    refine HN.out.mono ?_
    rintro e w' ⟨rfl, rfl⟩
    go_wp2_with fail
    refine (HL.out _).mono ?_
    rintro e w' ⟨rfl, rfl⟩
    go_wp2_with fail
    go_ret
    rw [HE2.out, ← HX.out, ← HZ.out]
    exact ⟨rfl, Below.refl _ _⟩
  · rw [if_neg h] at HL HEd
    have HE2 : Hid (oneS 14 [] x = ⟨#[]⟩) := Lib.hid (by
      rw [HE.out, HEd.out, by8_len]
      refine by8_ext ?_
      rw [by8_mid, Nat.sub_self, List.take_zero]; rfl)
    clear h hbd HEd HE hys
    generalize x.extract n x.size = y at *
    go_enter Tryz.func255, Tryz.ntmps255
    go_wp2_with fail
    refine HN.out.mono ?_
    rintro e w' ⟨rfl, rfl⟩
    go_wp2_with fail
    refine (HL.out _).mono ?_
    rintro e w' ⟨rfl, rfl⟩
    go_wp2_with fail
    go_ret
    rw [HE2.out]
    exact ⟨rfl, Below.refl _ _⟩
set_option maxHeartbeats 1000000 in
theorem Pbase_any (w : World) (x : ByteArray) (hx : x.size ≤ 1000000) : Calls Tryz.prog 256 #[.string x] w fun e w' => e = .returned (.string (oneS 15 [] x)) ∧ Below w.heap.size w w' := by
  have HN := Lib.hid fun W => Pend_any W x hx
  have HE : Hid (oneS 15 [] x = x.extract 0 (Ep.endA (by8 x))) := Lib.hid rfl
  have HE2 : Hid (oneS 14 [] x = x.extract (Ep.endA (by8 x)) x.size) := Lib.hid rfl
  have hnl := (Ep.end_le (by8 x)).1
  rw [by8_len] at hnl
  have HT : Hid (∀ W, Calls Tryz.prog 63 #[.string x, .string (oneS 14 [] x)] W fun e w' => e = .returned (.string (oneS 15 [] x)) ∧ W = w') := Lib.hid fun W => by
    refine (Tryz.strings_TrimSuffix x (oneS 14 [] x) W (by omega)).mono ?_
    rintro e w' ⟨rfl, rfl⟩
    exact ⟨by rw [HE2.out, suffix_cut _ _ hnl, HE.out], rfl⟩
  generalize oneS 14 [] x = y at *
  generalize oneS 15 [] x = z at *
  go_enter Tryz.func256, Tryz.ntmps256
  go_wp2_with fail
  refine (HN.out _).mono ?_
  rintro e w1 ⟨rfl, B1⟩
  go_wp2_with fail
  refine (HT.out _).mono ?_
  rintro e w' ⟨rfl, rfl⟩
  go_wp2_with fail
  go_ret
  exact ⟨rfl, B1⟩
end Go.Proofs.YtgednccpjegbmaaGreatDoor.Ew
namespace Go.Proofs.YtgednccpjegbmaaGreatDoor.Ew
open Go.RowKit Go.Proofs.YtgednccpjegbmaaGreatDoor Go.Proofs.YtgednccpjegbmaaGreatDoor.Ww Go.Proofs.YtgednccpjegbmaaGreatDoor.Tw
set_option maxRecDepth 100000

/-- All cells are as they were. -/
structure CK (W W' : World) : Prop where
  size : W.heap.size ≤ W'.heap.size
  same : ∀ (k : Nat) (cs : Array Value) (t : TypeId) (fr : Nat × Nat), W.heap[k]? = some (.cells cs t fr) → W'.heap[k]? = some (.cells cs t fr)
theorem CK.trans {A B C : World} (h : CK A B) (k : CK B C) : CK A C := ⟨Nat.le_trans h.size k.size, fun i cs t fr e => k.same i cs t fr (h.same i cs t fr e)⟩
theorem CK.of {W W' : World} (h : Below W.heap.size W W') : CK W W' := ⟨h.size, fun k _ _ _ e => (h.block k (Array.getElem?_eq_some_iff.1 e).1).trans e⟩
theorem CK.box {W W' : World} (h : CK W W') {b : Nat} {t : TypeId} {v : Value} (hb : Boxed W b t v) : Boxed W' b t v := h.same _ _ _ _ hb
abbrev FA (g : Nat) (lb : Array Value) : Value := .func (.func g) #[] lb
def Enters (g : Nat) : Prop := ∀ args w, (callFunc g args).run Tryz.prog w = .ok (.enter g args) w
/-- A function of one text, as a value; of two; of three; of a list. -/
def Fn1 (W : World) (g : Nat) (lb : Array Value) (f : ByteArray → ByteArray) : Prop := Enters g ∧ ∀ w' p, CK W w' → GM w' → p.size ≤ 9000 → Calls Tryz.prog g (#[.string p] ++ lb) w' fun e w'' => e = .returned (.string (f p)) ∧ Below w'.heap.size w' w''
def Fn2 (W : World) (g : Nat) (lb : Array Value) (f : ByteArray → ByteArray → ByteArray) : Prop := Enters g ∧ ∀ w' p q, CK W w' → GM w' → p.size ≤ 9000 → q.size ≤ 9000 → Calls Tryz.prog g (#[.string p, .string q] ++ lb) w' fun e w'' => e = .returned (.string (f p q)) ∧ Below w'.heap.size w' w''
def Fn3 (W : World) (g : Nat) (lb : Array Value) (f : ByteArray → ByteArray → ByteArray → ByteArray) : Prop := Enters g ∧ ∀ w' p q r, CK W w' → GM w' → p.size ≤ 9000 → q.size ≤ 9000 → r.size ≤ 9000 → Calls Tryz.prog g (#[.string p, .string q, .string r] ++ lb) w' fun e w'' => e = .returned (.string (f p q r)) ∧ Below w'.heap.size w' w''
def FnL (W : World) (g : Nat) (lb : Array Value) (n : Nat) (f : List ByteArray → ByteArray × Int) : Prop := Enters g ∧ ∀ w' v A, CK W w' → GM w' → Rd w' w'.heap.size v (strsC A) → A.length = n → (∀ p ∈ A, p.size ≤ 9000) → Calls Tryz.prog g (#[v] ++ lb) w' fun e w'' => e = ansE (f A) ∧ Below w'.heap.size w' w''
theorem Fn1.later {W W' : World} {g : Nat} {lb : Array Value} {f} (h : Fn1 W g lb f) (k : CK W W') : Fn1 W' g lb f := ⟨h.1, fun w' p c => h.2 w' p (k.trans c)⟩
theorem Fn2.later {W W' : World} {g : Nat} {lb : Array Value} {f} (h : Fn2 W g lb f) (k : CK W W') : Fn2 W' g lb f := ⟨h.1, fun w' p q c => h.2 w' p q (k.trans c)⟩
theorem FnL.later {W W' : World} {g : Nat} {lb : Array Value} {n : Nat} {f} (h : FnL W g lb n f) (k : CK W W') : FnL W' g lb n f := ⟨h.1, fun w' v A c => h.2 w' v A (k.trans c)⟩

abbrev FU : TypeId := 280
def zeroF : Array Value := #[.int .i64 0, .nilFunc]
theorem sizeF : (Tryz.prog.info? FU).map (·.size) = some 2 := by kernel_rfl
theorem undF : Tryz.prog.underlying FU = some (.struct (Tryz.prog.fieldsOf FU)) := by kernel_rfl
set_option maxHeartbeats 2000000 in
theorem one_any (w : World) (g : Nat) (lb : Array Value) : Calls Tryz.prog 239 #[FA g lb] w fun e w' => e = .returned (.agg #[.int .i64 1, FA 283 #[.pointer (some ⟨w.heap.size, 0, none⟩)]]) ∧ Boxed w' w.heap.size 111 (FA g lb) ∧ Below w.heap.size w w' := by
  have H1 := Lib.hid (heap_alloc_last (w.alloc (.cells #[FA g lb] 111)) (.cells zeroF FU))
  rw [World.size_alloc] at H1
  have HB := Lib.hid (((Below.refl w.heap.size w).alloc (Nat.le_refl _) (.cells #[FA g lb] 111)).alloc (by simp) (.cells zeroF FU))
  have HX := Lib.hid ((Boxed.new w 111 (FA g lb)).alloc (.cells zeroF FU))
  go_enter Tryz.func239, Tryz.ntmps239
  go_wp2_with (refine wpList_store_row rfl FU _ _ rfl (w.heap.size + 1) #[.int .i64 1, FA 283 #[.pointer (some ⟨w.heap.size, 0, none⟩)]] rfl rfl FU zeroF H1.out sizeF rfl (by simp [Value.oneCell']) ?_)
  (try simp only [Exit.inBlock, Exit.then])
  refine bodyPost_ret (results_box Tryz.results239 _ _ (w.heap.size + 1) FU #[.int .i64 1, FA 283 #[.pointer (some ⟨w.heap.size, 0, none⟩)]] (0, 0) _ rfl (setRow_heap _ _ _ _ _ _ H1.out) undF rfl sizeF) rfl ?_
  exact ⟨rfl, (setRow_other _ _ _ _ (by omega)).trans HX.out, below_setRow HB.out (by omega) _⟩
set_option maxHeartbeats 2000000 in
theorem two_any (w : World) (g : Nat) (lb : Array Value) : Calls Tryz.prog 241 #[FA g lb] w fun e w' => e = .returned (.agg #[.int .i64 2, FA 284 #[.pointer (some ⟨w.heap.size, 0, none⟩)]]) ∧ Boxed w' w.heap.size 157 (FA g lb) ∧ Below w.heap.size w w' := by
  have H1 := Lib.hid (heap_alloc_last (w.alloc (.cells #[FA g lb] 157)) (.cells zeroF FU))
  rw [World.size_alloc] at H1
  have HB := Lib.hid (((Below.refl w.heap.size w).alloc (Nat.le_refl _) (.cells #[FA g lb] 157)).alloc (by simp) (.cells zeroF FU))
  have HX := Lib.hid ((Boxed.new w 157 (FA g lb)).alloc (.cells zeroF FU))
  go_enter Tryz.func241, Tryz.ntmps241
  go_wp2_with (refine wpList_store_row rfl FU _ _ rfl (w.heap.size + 1) #[.int .i64 2, FA 284 #[.pointer (some ⟨w.heap.size, 0, none⟩)]] rfl rfl FU zeroF H1.out sizeF rfl (by simp [Value.oneCell']) ?_)
  (try simp only [Exit.inBlock, Exit.then])
  refine bodyPost_ret (results_box Tryz.results241 _ _ (w.heap.size + 1) FU #[.int .i64 2, FA 284 #[.pointer (some ⟨w.heap.size, 0, none⟩)]] (0, 0) _ rfl (setRow_heap _ _ _ _ _ _ H1.out) undF rfl sizeF) rfl ?_
  exact ⟨rfl, (setRow_other _ _ _ _ (by omega)).trans HX.out, below_setRow HB.out (by omega) _⟩
set_option maxHeartbeats 2000000 in
theorem three_any (w : World) (g : Nat) (lb : Array Value) : Calls Tryz.prog 236 #[FA g lb] w fun e w' => e = .returned (.agg #[.int .i64 3, FA 280 #[.pointer (some ⟨w.heap.size, 0, none⟩)]]) ∧ Boxed w' w.heap.size 290 (FA g lb) ∧ Below w.heap.size w w' := by
  have H1 := Lib.hid (heap_alloc_last (w.alloc (.cells #[FA g lb] 290)) (.cells zeroF FU))
  rw [World.size_alloc] at H1
  have HB := Lib.hid (((Below.refl w.heap.size w).alloc (Nat.le_refl _) (.cells #[FA g lb] 290)).alloc (by simp) (.cells zeroF FU))
  have HX := Lib.hid ((Boxed.new w 290 (FA g lb)).alloc (.cells zeroF FU))
  go_enter Tryz.func236, Tryz.ntmps236
  go_wp2_with (refine wpList_store_row rfl FU _ _ rfl (w.heap.size + 1) #[.int .i64 3, FA 280 #[.pointer (some ⟨w.heap.size, 0, none⟩)]] rfl rfl FU zeroF H1.out sizeF rfl (by simp [Value.oneCell']) ?_)
  (try simp only [Exit.inBlock, Exit.then])
  refine bodyPost_ret (results_box Tryz.results236 _ _ (w.heap.size + 1) FU #[.int .i64 3, FA 280 #[.pointer (some ⟨w.heap.size, 0, none⟩)]] (0, 0) _ rfl (setRow_heap _ _ _ _ _ _ H1.out) undF rfl sizeF) rfl ?_
  exact ⟨rfl, (setRow_other _ _ _ _ (by omega)).trans HX.out, below_setRow HB.out (by omega) _⟩

set_option maxHeartbeats 2000000 in
theorem one1_any (w : World) (v : Value) (A : List ByteArray) (r : ByteArray) (b g : Nat) (lb : Array Value) (eg : Enters g) (hb : Boxed w b 111 (FA g lb)) (hr : Rd w w.heap.size v (strsC A)) (hl : A.length = 1)
    (HF : ∀ W, Below w.heap.size w W → Calls Tryz.prog g (#[.string (A.getD 0 ⟨#[]⟩)] ++ lb) W fun e w' => e = .returned (.string r) ∧ Below W.heap.size W w') : Calls Tryz.prog 283 #[v, .pointer (some ⟨b, 0, none⟩)] w fun e w' => e = ansE (r, 0) ∧ Below w.heap.size w w' := by
  obtain ⟨a0, c0, rfl, _⟩ := hr.shape
  simp only [strsC_len] at hr ⊢
  obtain ⟨g0, o, rfl, hn, hc, hg, hcell⟩ := rd_cell hr 0 (by omega)
  rw [hl] at hr hc ⊢
  have c1 := hb.cell
  have l1 := hb.lt
  have hcm := hcell 0 (by omega)
  rw [Nat.add_zero] at hcm
  have HC := Lib.hid HF
  have eg : ∀ args w, (callFunc g args).run Tryz.prog w = .ok (.enter g args) w := eg
  clear hcell hn hr hb HF
  generalize A.getD 0 ⟨#[]⟩ = p at *
  go_enter Tryz.func283, Tryz.ntmps283
  have S5 : w.drew.cell? ⟨b, 0, none⟩ = some (FA g lb) ∧ w.drew.cell? ⟨g0, o, none⟩ = some (.string p) ∧ Below w.heap.size w w.drew := ⟨c1, hcm, (Below.refl _ _).drew⟩
  clear c1 hcm
  go_wp2_with fail
  go_region_held3 (fun W => W.cell? ⟨b, 0, none⟩ = some (FA g lb) ∧ W.cell? ⟨g0, o, none⟩ = some (.string p) ∧ Below w.heap.size w W)
    (first | exact S7 | exact S5)
    (first
      | (go_at_fn g; refine (HC.out _ S5.2.2).mono ?_; rintro e w7 ⟨rfl, B7⟩; have S7 : w7.cell? ⟨b, 0, none⟩ = some (FA g lb) ∧ w7.cell? ⟨g0, o, none⟩ = some (.string p) ∧ Below w.heap.size w w7 := ⟨(B7.cell (p := ⟨b, 0, none⟩) l1).trans S5.1, (B7.cell (p := ⟨g0, o, none⟩) hg).trans S5.2.1, S5.2.2.trans (B7.mono S5.2.2.size)⟩))
  all_goals go_wp2_with fail
  all_goals go_ret2
  all_goals exact ⟨rfl, S7.2.2⟩
set_option maxHeartbeats 2000000 in
theorem two1_any (w : World) (v : Value) (A : List ByteArray) (r : ByteArray) (b g : Nat) (lb : Array Value) (eg : Enters g) (hb : Boxed w b 157 (FA g lb)) (hr : Rd w w.heap.size v (strsC A)) (hl : A.length = 2)
    (HF : ∀ W, Below w.heap.size w W → Calls Tryz.prog g (#[.string (A.getD 0 ⟨#[]⟩), .string (A.getD 1 ⟨#[]⟩)] ++ lb) W fun e w' => e = .returned (.string r) ∧ Below W.heap.size W w') : Calls Tryz.prog 284 #[v, .pointer (some ⟨b, 0, none⟩)] w fun e w' => e = ansE (r, 0) ∧ Below w.heap.size w w' := by
  obtain ⟨a0, c0, rfl, _⟩ := hr.shape
  simp only [strsC_len] at hr ⊢
  obtain ⟨g0, o, rfl, hn, hc, hg, hcell⟩ := rd_cell hr 0 (by omega)
  rw [hl] at hr hc ⊢
  have c1 := hb.cell
  have l1 := hb.lt
  have hcm := hcell 0 (by omega)
  have hcm1 := hcell 1 (by omega)
  rw [Nat.add_zero] at hcm
  have HC := Lib.hid HF
  have eg : ∀ args w, (callFunc g args).run Tryz.prog w = .ok (.enter g args) w := eg
  clear hcell hn hr hb HF
  generalize A.getD 0 ⟨#[]⟩ = p at *
  generalize A.getD 1 ⟨#[]⟩ = p1 at *
  go_enter Tryz.func284, Tryz.ntmps284
  have S5 : w.drew.cell? ⟨b, 0, none⟩ = some (FA g lb) ∧ w.drew.cell? ⟨g0, o, none⟩ = some (.string p) ∧ w.drew.cell? ⟨g0, o + 1, none⟩ = some (.string p1) ∧ Below w.heap.size w w.drew := ⟨c1, hcm, hcm1, (Below.refl _ _).drew⟩
  clear c1 hcm hcm1
  go_wp2_with fail
  go_region_held3 (fun W => W.cell? ⟨b, 0, none⟩ = some (FA g lb) ∧ W.cell? ⟨g0, o, none⟩ = some (.string p) ∧ W.cell? ⟨g0, o + 1, none⟩ = some (.string p1) ∧ Below w.heap.size w W)
    (first | exact S7 | exact S5)
    (first
      | (go_at_fn g; refine (HC.out _ S5.2.2.2).mono ?_; rintro e w7 ⟨rfl, B7⟩; have S7 : w7.cell? ⟨b, 0, none⟩ = some (FA g lb) ∧ w7.cell? ⟨g0, o, none⟩ = some (.string p) ∧ w7.cell? ⟨g0, o + 1, none⟩ = some (.string p1) ∧ Below w.heap.size w w7 := ⟨(B7.cell (p := ⟨b, 0, none⟩) l1).trans S5.1, (B7.cell (p := ⟨g0, o, none⟩) hg).trans S5.2.1, (B7.cell (p := ⟨g0, o + 1, none⟩) hg).trans S5.2.2.1, S5.2.2.2.trans (B7.mono S5.2.2.2.size)⟩))
  all_goals go_wp2_with fail
  all_goals go_ret2
  all_goals exact ⟨rfl, S7.2.2.2⟩
set_option maxHeartbeats 2000000 in
theorem three1_any (w : World) (v : Value) (A : List ByteArray) (r : ByteArray) (b g : Nat) (lb : Array Value) (eg : Enters g) (hb : Boxed w b 290 (FA g lb)) (hr : Rd w w.heap.size v (strsC A)) (hl : A.length = 3)
    (HF : ∀ W, Below w.heap.size w W → Calls Tryz.prog g (#[.string (A.getD 0 ⟨#[]⟩), .string (A.getD 1 ⟨#[]⟩), .string (A.getD 2 ⟨#[]⟩)] ++ lb) W fun e w' => e = .returned (.string r) ∧ Below W.heap.size W w') : Calls Tryz.prog 280 #[v, .pointer (some ⟨b, 0, none⟩)] w fun e w' => e = ansE (r, 0) ∧ Below w.heap.size w w' := by
  obtain ⟨a0, c0, rfl, _⟩ := hr.shape
  simp only [strsC_len] at hr ⊢
  obtain ⟨g0, o, rfl, hn, hc, hg, hcell⟩ := rd_cell hr 0 (by omega)
  rw [hl] at hr hc ⊢
  have c1 := hb.cell
  have l1 := hb.lt
  have hcm := hcell 0 (by omega)
  have hcm1 := hcell 1 (by omega)
  have hcm2 := hcell 2 (by omega)
  rw [Nat.add_zero] at hcm
  have HC := Lib.hid HF
  have eg : ∀ args w, (callFunc g args).run Tryz.prog w = .ok (.enter g args) w := eg
  clear hcell hn hr hb HF
  generalize A.getD 0 ⟨#[]⟩ = p at *
  generalize A.getD 1 ⟨#[]⟩ = p1 at *
  generalize A.getD 2 ⟨#[]⟩ = p2 at *
  go_enter Tryz.func280, Tryz.ntmps280
  have S5 : w.drew.cell? ⟨b, 0, none⟩ = some (FA g lb) ∧ w.drew.cell? ⟨g0, o, none⟩ = some (.string p) ∧ w.drew.cell? ⟨g0, o + 1, none⟩ = some (.string p1) ∧ w.drew.cell? ⟨g0, o + 2, none⟩ = some (.string p2) ∧ Below w.heap.size w w.drew := ⟨c1, hcm, hcm1, hcm2, (Below.refl _ _).drew⟩
  clear c1 hcm hcm1 hcm2
  go_wp2_with fail
  go_region_held3 (fun W => W.cell? ⟨b, 0, none⟩ = some (FA g lb) ∧ W.cell? ⟨g0, o, none⟩ = some (.string p) ∧ W.cell? ⟨g0, o + 1, none⟩ = some (.string p1) ∧ W.cell? ⟨g0, o + 2, none⟩ = some (.string p2) ∧ Below w.heap.size w W)
    (first | exact S7 | exact S5)
    (first
      | (go_at_fn g; refine (HC.out _ S5.2.2.2.2).mono ?_; rintro e w7 ⟨rfl, B7⟩; have S7 : w7.cell? ⟨b, 0, none⟩ = some (FA g lb) ∧ w7.cell? ⟨g0, o, none⟩ = some (.string p) ∧ w7.cell? ⟨g0, o + 1, none⟩ = some (.string p1) ∧ w7.cell? ⟨g0, o + 2, none⟩ = some (.string p2) ∧ Below w.heap.size w w7 := ⟨(B7.cell (p := ⟨b, 0, none⟩) l1).trans S5.1, (B7.cell (p := ⟨g0, o, none⟩) hg).trans S5.2.1, (B7.cell (p := ⟨g0, o + 1, none⟩) hg).trans S5.2.2.1, (B7.cell (p := ⟨g0, o + 2, none⟩) hg).trans S5.2.2.2.1, S5.2.2.2.2.trans (B7.mono S5.2.2.2.2.size)⟩))
  all_goals go_wp2_with fail
  all_goals go_ret2
  all_goals exact ⟨rfl, S7.2.2.2.2⟩
end Go.Proofs.YtgednccpjegbmaaGreatDoor.Ew
