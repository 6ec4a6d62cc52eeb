/-
  What Match returns, a word that is changed: how they are said.
  Texts cut at a byte.
  Package stem's functions: cut, match, put, change; Has, Match, Put, Change.
  stem.Put, for a seat without Change.
-/
import Derived.Test.YtgednccpjegbmaaGreatDoorQTBase
import Derived.Lib.UnsafeStr
import Derived.Laws.Externs
import Derived.Lib.Strings
import Derived.Test.YtgednccpjegbmaaGreatDoorShelf
namespace Go.Proofs.YtgednccpjegbmaaGreatDoor.Tw
open Go.RowKit Go.Proofs.YtgednccpjegbmaaGreatDoor Go.Proofs.YtgednccpjegbmaaGreatDoor.Ww
set_option maxRecDepth 100000

/-- What Match returns. -/
def mV (o : Option Bs) : Ending := match o with | none => .returned (.tuple #[.string ⟨#[]⟩, .bool false]) | some s => .returned (.tuple #[.string (str s), .bool true])
/-- A word, changed. -/
def chS (a b x : ByteArray) : ByteArray := str (Tp.changeA (by8 x) (by8 a) (by8 b))
theorem ch_len (a b x : ByteArray) : (chS a b x).size ≤ x.size + a.size + b.size := by
  unfold chS
  rw [str_size]
  unfold Tp.changeA
  split
  · rw [by8_len]; omega
  · rename_i s h
    have h1 := Tp.match_len h
    have h2 := Tp.put_len (by8 b) s
    rw [by8_len] at *
    split
    · rw [by8_len]; omega
    · omega

end Go.Proofs.YtgednccpjegbmaaGreatDoor.Tw
namespace Go.Proofs.YtgednccpjegbmaaGreatDoor.Tw
open Go.RowKit Go.Proofs.YtgednccpjegbmaaGreatDoor Go.Proofs.YtgednccpjegbmaaGreatDoor.Ww
set_option maxRecDepth 100000

/- Texts cut at a byte. -/
theorem index_ways (c : UInt8) : ∀ l : Bs, (c ∉ l ∧ Lib.indexByte l c = -1) ∨ ∃ a b, l = a ++ c :: b ∧ c ∉ a ∧ Lib.indexByte l c = a.length
  | [] => .inl ⟨by simp, rfl⟩
  | x :: l => by
    unfold Lib.indexByte
    by_cases hx : x = c
    · subst hx
      exact .inr ⟨[], l, rfl, by simp, by simp⟩
    · have hx' : (x == c) = false := beq_eq_false_iff_ne.2 hx
      rw [hx']
      rcases index_ways c l with ⟨h1, h2⟩ | ⟨a, b, h1, h2, h3⟩
      · exact .inl ⟨by simp [h1, Ne.symm hx], by rw [h2]; rfl⟩
      · refine .inr ⟨x :: a, b, by rw [h1]; rfl, by simp [h2, Ne.symm hx], ?_⟩
        rw [h3]
        have : ((a.length : Int) == -1) = false := by rw [beq_eq_false_iff_ne]; omega
        simp [this]
theorem index_no {c : UInt8} {l : Bs} (h : c ∉ l) : Lib.indexByte l c = -1 := by
  rcases index_ways c l with ⟨_, h2⟩ | ⟨a, b, rfl, _, _⟩
  · exact h2
  · exact absurd (by simp) h
theorem app_inj {c : UInt8} : ∀ {a a' b b' : Bs}, a ++ c :: b = a' ++ c :: b' → c ∉ a → c ∉ a' → a = a' ∧ b = b'
  | [], [], _, _, h, _, _ => ⟨rfl, (List.cons.inj h).2⟩
  | [], x :: _, _, _, h, _, h2 => absurd (by rw [(List.cons.inj h).1]; simp) h2
  | x :: _, [], _, _, h, h1, _ => absurd (by rw [← (List.cons.inj h).1]; simp) h1
  | x :: a, y :: a', _, _, h, h1, h2 => by
    have hh := List.cons.inj h
    have h3 := app_inj (a := a) (a' := a') hh.2 (fun e => h1 (List.mem_cons_of_mem _ e)) (fun e => h2 (List.mem_cons_of_mem _ e))
    exact ⟨by rw [hh.1, h3.1], h3.2⟩
theorem index_yes {c : UInt8} {a b : Bs} (h : c ∉ a) : Lib.indexByte (a ++ c :: b) c = a.length := by
  rcases index_ways c (a ++ c :: b) with ⟨h2, _⟩ | ⟨a', b', h1, h2, h3⟩
  · exact absurd (by simp) h2
  · rw [h3, (app_inj h1 h h2).1]
theorem Index_no (w : World) (s : ByteArray) (c : UInt8) (h : c ∉ by8 s) : Calls Tryz.prog 167 #[.string s, .string ⟨#[c]⟩] w fun e w' => e = .returned (.int .i64 (-1)) ∧ w = w' :=
  (Tryz.stringslite_Index_one s c w).mono fun _ _ ⟨he, hw⟩ => ⟨by rw [he, show Lib.indexByte s.data.toList c = -1 from index_no h], hw.symm⟩
theorem Index_yes (w : World) (s : ByteArray) (c : UInt8) (k : Nat) (b : Bs) (hk : k ≤ s.size) (he : by8 s = (by8 s).take k ++ c :: b) (h : c ∉ (by8 s).take k) : Calls Tryz.prog 167 #[.string s, .string ⟨#[c]⟩] w fun e w' => e = .returned (.int .i64 k) ∧ w = w' :=
  (Tryz.stringslite_Index_one s c w).mono fun _ _ ⟨hr, hw⟩ => ⟨by
    have : Lib.indexByte (by8 s) c = k := by
      rw [he, index_yes h, List.length_take, by8_len, Nat.min_eq_left hk]
    rw [hr]; exact congrArg (fun i => Ending.returned (.int .i64 i)) this, hw.symm⟩

theorem CutIn_no (w : World) (s : ByteArray) (c : UInt8) (h : c ∉ by8 s) :
    Calls Tryz.prog 155 #[.string s, .string ⟨#[c]⟩] w fun e w' => e = .returned (.tuple #[.string s, .string ByteArray.empty, .bool false]) ∧ Below w.heap.size w w' := by
  have HC := Lib.hid (Index_no w s c h)
  clear h
  go_enter Tryz.func155, Tryz.ntmps155
  go_wp2_with fail
  refine HC.out.mono ?_
  rintro e w1 ⟨rfl, rfl⟩
  go_wp2_with fail
  go_ret3
  exact ⟨rfl, Below.refl _ _⟩
theorem CutIn_yes (w : World) (s : ByteArray) (hs : s.size ≤ 1000000) (c : UInt8) (k : Nat) (b : Bs) (hk : k + 1 ≤ s.size) (he : by8 s = (by8 s).take k ++ c :: b) (h : c ∉ (by8 s).take k) :
    Calls Tryz.prog 155 #[.string s, .string ⟨#[c]⟩] w fun e w' => e = .returned (.tuple #[.string (s.extract 0 k), .string (s.extract (k + 1) s.size), .bool true]) ∧ Below w.heap.size w w' := by
  have HC := Lib.hid (Index_yes w s c k b (by omega) he h)
  have hwr : IntKind.i64.wrap ((k : Int) + 1) = (k : Int) + 1 := by rw [IntWalk.i64_in _ (by omega)]
  have ho0 : (0 : Int) ≤ (k : Int) := Int.natCast_nonneg _
  have hoi : (k : Int) < (s.size : Int) := by omega
  have ho1 : (0 : Int) ≤ (k : Int) + 1 := by omega
  have ho2 : (k : Int) + 1 ≤ (s.size : Int) := by omega
  have ho3 : ((k : Int) + 1).toNat = k + 1 := by omega
  clear h he hk
  go_enter Tryz.func155, Tryz.ntmps155
  go_wp2_with fail
  refine HC.out.mono ?_
  rintro e w1 ⟨rfl, rfl⟩
  go_wp2_with fail
  go_quiet (fail)
  go_wp2
  go_ret3
  exact ⟨rfl, below_drewN (Below.refl _ _) _⟩
theorem Cut_no (w : World) (s : ByteArray) (c : UInt8) (h : c ∉ by8 s) :
    Calls Tryz.prog 103 #[.string s, .string ⟨#[c]⟩] w fun e w' => e = .returned (.tuple #[.string s, .string ByteArray.empty, .bool false]) ∧ Below w.heap.size w w' := by
  have HC := Lib.hid (CutIn_no w s c h)
  clear h
  go_enter Tryz.func103, Tryz.ntmps103
  go_wp2_with fail
  refine HC.out.mono ?_
  rintro e w1 ⟨rfl, hB⟩
  go_wp2_with fail
  go_ret3
  exact ⟨rfl, hB⟩
theorem Cut_yes (w : World) (s : ByteArray) (hs : s.size ≤ 1000000) (c : UInt8) (a b : Bs) (he : by8 s = a ++ c :: b) (h : c ∉ a) :
    Calls Tryz.prog 103 #[.string s, .string ⟨#[c]⟩] w fun e w' => e = .returned (.tuple #[.string (str a), .string (str b), .bool true]) ∧ Below w.heap.size w w' := by
  have hl : a.length + b.length + 1 = s.size := by rw [← by8_len, he]; simp; omega
  have hta : (by8 s).take a.length = a := by rw [he]; simp
  have htb : (by8 s).drop (a.length + 1) = b := by rw [he]; simp
  have e1 : s.extract 0 a.length = str a := by8_ext (by rw [by8_take, hta]; rfl)
  have e2 : s.extract (a.length + 1) s.size = str b := by8_ext (by rw [by8_drop, htb]; rfl)
  have HC0 := CutIn_yes w s hs c a.length b (by omega) (by rw [hta, ← he]) (by rw [hta]; exact h)
  rw [e1, e2] at HC0
  have HC := Lib.hid HC0
  clear h he hl hta htb e1 e2 HC0 hs
  go_enter Tryz.func103, Tryz.ntmps103
  go_wp2_with fail
  refine HC.out.mono ?_
  rintro e w1 ⟨rfl, hB⟩
  go_wp2_with fail
  go_ret3
  exact ⟨rfl, hB⟩

end Go.Proofs.YtgednccpjegbmaaGreatDoor.Tw
namespace Go.Proofs.YtgednccpjegbmaaGreatDoor.Tw
open Go.RowKit Go.Proofs.YtgednccpjegbmaaGreatDoor Go.Proofs.YtgednccpjegbmaaGreatDoor.Ww
set_option maxRecDepth 100000

abbrev PA : TypeId := 175
def zeroP : Array Value := #[.string ⟨#[]⟩, .bool false, .string ⟨#[]⟩, .string ⟨#[]⟩]
/-- A text that is cut: its cells. -/
def patOf (p : ByteArray) : Option Nat → Array Value
  | none => #[.string p, .bool false, .string p, .string ⟨#[]⟩]
  | some i => #[.string p, .bool true, .string (str ((by8 p).take i)), .string (str ((by8 p).drop (i + 1)))]
def patC (p : ByteArray) : Array Value := patOf p (Tp.atA (by8 p))
def patV (p : ByteArray) : Value := .agg (patC p)
theorem sizeA : (Tryz.prog.info? PA).map (·.size) = some 4 := by kernel_rfl
theorem undA : Tryz.prog.underlying PA = some (.struct (Tryz.prog.fieldsOf PA)) := by kernel_rfl
/-- The answer lies in a box. -/
theorem results_box {P : Program} {fn : Func} {p : Tmp} {ty : TypeId} (h : fn.results = #[.cell p ty]) (tmps : Array Value) (w : World) (g : Nat) (t : TypeId) (cs : Array Value) (fr : Nat × Nat) (d : TypeDesc)
    (hp : tmps.getD p undef = .pointer (some ⟨g, 0, none⟩)) (hg : w.heap[g]? = some (.cells cs t fr))
    (hu : P.underlying ty = some d) (hd : (match d with | .struct _ | .array _ _ => true | _ => false) = true) (hi : (P.info? ty).map (·.size) = some cs.size) :
    (results fn tmps).run P w = .ok (.agg cs) w := by
  have hp' : tmps[p]?.getD undef = .pointer (some ⟨g, 0, none⟩) := by simpa using hp
  simp [results, h, hp', asAddr, run_loadVar_row w g t ty cs fr d hg hu hd hi]
theorem heap_alloc_last (w : World) (o : Obj) : (w.alloc o).heap[w.heap.size]? = some o := Array.getElem?_push_size

set_option maxHeartbeats 2000000 in
theorem cut_in (w : World) (p a b : ByteArray) (q : Bool) (HC : ∀ W, Calls Tryz.prog 103 #[.string p, .string ⟨#[37]⟩] W fun e w' => e = .returned (.tuple #[.string a, .string b, .bool q]) ∧ Below W.heap.size W w') : Calls Tryz.prog 85 #[.string p] w fun e w' => e = .returned (.agg #[.string p, .bool q, .string a, .string b]) ∧ Below w.heap.size w w' := by
  have HC := Lib.hid HC
  go_enter Tryz.func85, Tryz.ntmps85
  go_wp2_with fail
  refine (HC.out _).mono ?_
  rintro e w1 ⟨rfl, B1⟩
  have HB := Lib.hid (((Below.refl w.heap.size w).alloc (Nat.le_refl _) (.cells zeroP PA)).trans (B1.mono (by simp)))
  have H1 := Lib.hid ((B1.block w.heap.size (by simp)).trans (heap_alloc_last w (.cells zeroP PA)))
  clear B1
  go_wp2_with (refine wpList_store_row rfl PA _ _ rfl w.heap.size #[.string p, .bool q, .string a, .string b] rfl rfl PA zeroP H1.out sizeA rfl (by simp [Value.oneCell']) ?_)
  (try simp only [Exit.inBlock, Exit.then])
  refine bodyPost_ret (results_box Tryz.results85 _ _ w.heap.size PA #[.string p, .bool q, .string a, .string b] (0, 0) _ rfl (setRow_heap _ _ _ _ _ _ H1.out) undA rfl sizeA) rfl ?_
  exact ⟨rfl, below_setRow HB.out (Nat.le_refl _) _⟩
theorem cut_any (w : World) (p : ByteArray) (hs : p.size ≤ 1000000) : Calls Tryz.prog 85 #[.string p] w fun e w' => e = .returned (patV p) ∧ Below w.heap.size w w' := by
  cases h : Tp.atA (by8 p) with
  | none =>
    refine (cut_in w p p ⟨#[]⟩ false fun W => Cut_no W p 37 (Tp.at_none h)).mono ?_
    rintro e w' ⟨rfl, hB⟩
    exact ⟨by unfold patV patC; rw [h]; rfl, hB⟩
  | some i =>
    refine (cut_in w p _ _ true fun W => Cut_yes W p hs 37 _ _ (Tp.at_split h).1 (Tp.at_split h).2).mono ?_
    rintro e w' ⟨rfl, hB⟩
    exact ⟨by unfold patV patC; rw [h]; rfl, hB⟩

theorem beq_of {a b : ByteArray} {q : Bool} (h : decide (by8 a = by8 b) = q) : (a.toList == b.toList) = q := by
  cases q with
  | true => exact beq_yes (of_decide_eq_true h)
  | false => exact beq_no (of_decide_eq_false h)
theorem pre_of (x p : ByteArray) (i : Nat) (hi : i < p.size) : Lib.hasPrefix x.data.toList (str ((by8 p).take i)).data.toList = decide ((by8 x).take i = (by8 p).take i) := by
  show ((by8 p).take i).isPrefixOf (by8 x) = _
  rw [Bool.eq_iff_iff, List.isPrefixOf_iff_prefix, List.prefix_iff_eq_take, decide_eq_true_iff, List.length_take, by8_len, Nat.min_eq_left (Nat.le_of_lt hi)]
  exact eq_comm
theorem suf_of (x : ByteArray) (t : Bs) : Lib.hasSuffix x.data.toList (str t).data.toList = decide ((by8 x).drop (x.size - t.length) = t) := by
  show t.isSuffixOf (by8 x) = _
  rw [Bool.eq_iff_iff, List.isSuffixOf_iff_suffix, List.suffix_iff_eq_drop, decide_eq_true_iff, by8_len]
  exact eq_comm

set_option maxHeartbeats 2000000 in
theorem match_no (w : World) (p x : ByteArray) (h : Tp.atA (by8 p) = none) : Calls Tryz.prog 86 #[patV p, .string x] w fun e w' => e = mV (Tp.matchA (by8 p) (by8 x)) ∧ Below w.heap.size w w' := by
  have hp : patV p = .agg #[.string p, .bool false, .string p, .string ⟨#[]⟩] := by unfold patV patC; rw [h]; rfl
  rw [hp]
  obtain ⟨q, hq⟩ : ∃ q, decide (by8 x = by8 p) = q := ⟨_, rfl⟩
  have hqq := beq_of hq
  have HE : Hid (mV (Tp.matchA (by8 p) (by8 x)) = .returned (.tuple #[.string ⟨#[]⟩, .bool q])) := Lib.hid (by
    unfold Tp.matchA
    rw [h]
    show mV (if by8 p = by8 x then some [] else none) = _
    cases q with
    | true => rw [if_pos (of_decide_eq_true hq).symm]; rfl
    | false => rw [if_neg fun e => of_decide_eq_false hq e.symm]; rfl)
  clear hp h hq
  go_enter Tryz.func86, Tryz.ntmps86
  go_wp2_with fail
  go_quiet (fail)
  go_wp2
  go_ret2
  rw [HE.out]
  exact ⟨rfl, below_drewN ((Below.refl _ _).alloc (Nat.le_refl _) _) _⟩

set_option maxHeartbeats 2000000 in
theorem match_yes (w : World) (p x : ByteArray) (i : Nat) (hps : p.size ≤ 1000000) (hxs : x.size ≤ 1000000) (h : Tp.atA (by8 p) = some i) : Calls Tryz.prog 86 #[patV p, .string x] w fun e w' => e = mV (Tp.matchA (by8 p) (by8 x)) ∧ Below w.heap.size w w' := by
  have hp : patV p = .agg #[.string p, .bool true, .string (str ((by8 p).take i)), .string (str ((by8 p).drop (i + 1)))] := by unfold patV patC; rw [h]; rfl
  rw [hp]
  have hil := Tp.at_lt h
  rw [by8_len] at hil
  have hM : Tp.matchA (by8 p) (by8 x) = if i + ((by8 p).drop (i + 1)).length < (by8 x).length ∧ (by8 x).take i = (by8 p).take i ∧ (by8 x).drop ((by8 x).length - ((by8 p).drop (i + 1)).length) = (by8 p).drop (i + 1) then some (((by8 x).drop i).take ((by8 x).length - i - ((by8 p).drop (i + 1)).length)) else none := by
    unfold Tp.matchA; rw [h]
  have hbl : (str ((by8 p).take i)).size = i := by rw [str_size, List.length_take, by8_len, Nat.min_eq_left (Nat.le_of_lt hil)]
  have hpre := pre_of x p i hil
  generalize he : (by8 p).drop (i + 1) = t at *
  have htl : t.length ≤ p.size := by rw [← he, List.length_drop, by8_len]; omega
  have hal : (str t).size = t.length := str_size t
  have hsuf := suf_of x t
  rw [by8_len] at hM
  generalize str ((by8 p).take i) = bf at *
  have HPre := Lib.hid fun W => Tryz.strings_HasPrefix x bf W
  have HSuf := Lib.hid fun W => Tryz.strings_HasSuffix x (str t) W (by omega)
  generalize hA : str t = af at *
  have hb : (bf.size : Int) = (i : Int) := by rw [hbl]
  have hc : (af.size : Int) = (t.length : Int) := by rw [hal]
  by_cases h1 : i + t.length < x.size
  · have hz : ¬ (x.size : Int) ≤ (bf.size : Int) + (af.size : Int) := by omega
    by_cases h2 : (by8 x).take i = (by8 p).take i
    · by_cases h3 : (by8 x).drop (x.size - t.length) = t
      · have HE : Hid (mV (Tp.matchA (by8 p) (by8 x)) = .returned (.tuple #[.string (x.extract i (x.size - t.length)), .bool true])) := Lib.hid (by
          rw [hM, if_pos ⟨h1, h2, h3⟩]
          show Ending.returned (.tuple #[.string (str _), .bool true]) = _
          have : x.extract i (x.size - t.length) = str (((by8 x).drop i).take (x.size - i - t.length)) := by8_ext (by
            rw [by8_mid, by8_str]; congr 1; omega)
          rw [this])
        have HPr := Lib.hid fun W => (HPre.out W).mono fun e w' (he : e = _ ∧ w' = W) => (show e = .returned (.bool true) ∧ W = w' from ⟨by rw [he.1, hpre, decide_eq_true h2], he.2.symm⟩)
        have HSu := Lib.hid fun W => (HSuf.out W).mono fun e w' (he : e = _ ∧ w' = W) => (show e = .returned (.bool true) ∧ W = w' from ⟨by rw [he.1, hsuf, decide_eq_true h3], he.2.symm⟩)
        have hw1 : IntKind.i64.wrap ((x.size : Int) - (t.length : Int)) = (x.size : Int) - (t.length : Int) := by rw [IntWalk.i64_in _ (by omega)]
        have hw2 : ((x.size : Int) - (t.length : Int)).toNat = x.size - t.length := by omega
        have hw3 : (i : Int) ≤ (x.size : Int) - (t.length : Int) := by omega
        have hw4 : (x.size : Int) - (t.length : Int) ≤ (x.size : Int) := by omega
        have hw5 : (0 : Int) ≤ (i : Int) := by omega
        have hz2 : ¬ (x.size : Int) ≤ (i : Int) + (t.length : Int) := by omega
        clear HPre HSuf hpre hsuf h2 h3 hM hbl hal h hp he hA
        go_enter Tryz.func86, Tryz.ntmps86
        go_wp2_with fail
        refine (HPr.out _).mono ?_
        rintro e w1 ⟨rfl, rfl⟩
        go_wp2_with fail
        refine (HSu.out _).mono ?_
        rintro e w1 ⟨rfl, rfl⟩
        go_wp2_with fail
        go_ret2
        rw [HE.out]
        exact ⟨rfl, (Below.refl _ _).alloc (Nat.le_refl _) _⟩
      · have HE : Hid (mV (Tp.matchA (by8 p) (by8 x)) = .returned (.tuple #[.string ⟨#[]⟩, .bool false])) := Lib.hid (by
          rw [hM, if_neg (fun e => h3 e.2.2)]; rfl)
        have HPr := Lib.hid fun W => (HPre.out W).mono fun e w' (he : e = _ ∧ w' = W) => (show e = .returned (.bool true) ∧ W = w' from ⟨by rw [he.1, hpre, decide_eq_true h2], he.2.symm⟩)
        have HSu := Lib.hid fun W => (HSuf.out W).mono fun e w' (he : e = _ ∧ w' = W) => (show e = .returned (.bool false) ∧ W = w' from ⟨by rw [he.1, hsuf, decide_eq_false h3], he.2.symm⟩)
        have hz2 : ¬ (x.size : Int) ≤ (i : Int) + (t.length : Int) := by omega
        clear HPre HSuf hpre hsuf h2 h3 hM hbl hal h hp he hA
        go_enter Tryz.func86, Tryz.ntmps86
        go_wp2_with fail
        refine (HPr.out _).mono ?_
        rintro e w1 ⟨rfl, rfl⟩
        go_wp2_with fail
        refine (HSu.out _).mono ?_
        rintro e w1 ⟨rfl, rfl⟩
        go_wp2_with fail
        go_ret2
        rw [HE.out]
        exact ⟨rfl, (Below.refl _ _).alloc (Nat.le_refl _) _⟩
    · have HE : Hid (mV (Tp.matchA (by8 p) (by8 x)) = .returned (.tuple #[.string ⟨#[]⟩, .bool false])) := Lib.hid (by
        rw [hM, if_neg (fun e => h2 e.2.1)]; rfl)
      have HPr := Lib.hid fun W => (HPre.out W).mono fun e w' (he : e = _ ∧ w' = W) => (show e = .returned (.bool false) ∧ W = w' from ⟨by rw [he.1, hpre, decide_eq_false h2], he.2.symm⟩)
      have hz2 : ¬ (x.size : Int) ≤ (i : Int) + (t.length : Int) := by omega
      clear HPre HSuf hpre hsuf h2 hM hbl hal h hp he hA
      go_enter Tryz.func86, Tryz.ntmps86
      go_wp2_with fail
      refine (HPr.out _).mono ?_
      rintro e w1 ⟨rfl, rfl⟩
      go_wp2_with fail
      go_ret2
      rw [HE.out]
      exact ⟨rfl, (Below.refl _ _).alloc (Nat.le_refl _) _⟩
  · have HE : Hid (mV (Tp.matchA (by8 p) (by8 x)) = .returned (.tuple #[.string ⟨#[]⟩, .bool false])) := Lib.hid (by
      rw [hM, if_neg (fun e => h1 e.1)]; rfl)
    have hz : (x.size : Int) ≤ (bf.size : Int) + (af.size : Int) := by omega
    have hz2 : (x.size : Int) ≤ (i : Int) + (t.length : Int) := by omega
    clear HPre HSuf hpre hsuf hM hbl hal h hp he hA
    go_enter Tryz.func86, Tryz.ntmps86
    go_wp2_with fail
    go_ret2
    rw [HE.out]
    exact ⟨rfl, (Below.refl _ _).alloc (Nat.le_refl _) _⟩
theorem match_any (w : World) (p x : ByteArray) (hps : p.size ≤ 1000000) (hxs : x.size ≤ 1000000) : Calls Tryz.prog 86 #[patV p, .string x] w fun e w' => e = mV (Tp.matchA (by8 p) (by8 x)) ∧ Below w.heap.size w w' := by
  cases h : Tp.atA (by8 p) with
  | none => exact match_no w p x h
  | some i => exact match_yes w p x i hps hxs h

set_option maxHeartbeats 2000000 in
theorem put_any (w : World) (p s : ByteArray) (hps : p.size ≤ 1000000) (hs : s.size ≤ 1000000) : Calls Tryz.prog 138 #[patV p, .string s] w fun e w' => e = .returned (.string (str (Tp.putA (by8 p) (by8 s)))) ∧ Below w.heap.size w w' := by
  cases h : Tp.atA (by8 p) with
  | none =>
    have hp : patV p = .agg #[.string p, .bool false, .string p, .string ⟨#[]⟩] := by unfold patV patC; rw [h]; rfl
    have HE : Hid (str (Tp.putA (by8 p) (by8 s)) = p) := Lib.hid (by unfold Tp.putA; rw [h]; exact str_by8 p)
    rw [hp]
    clear hp h
    go_enter Tryz.func138, Tryz.ntmps138
    go_wp2_with fail
    go_ret
    rw [HE.out]
    exact ⟨rfl, (Below.refl _ _).alloc (Nat.le_refl _) _⟩
  | some i =>
    have hp : patV p = .agg #[.string p, .bool true, .string (str ((by8 p).take i)), .string (str ((by8 p).drop (i + 1)))] := by unfold patV patC; rw [h]; rfl
    have hil := Tp.at_lt h
    rw [by8_len] at hil
    have h1 : (str ((by8 p).take i)).size ≤ 1000000 := by rw [str_size, List.length_take, by8_len]; omega
    have h2 : (str ((by8 p).drop (i + 1))).size ≤ 1000000 := by rw [str_size, List.length_drop, by8_len]; omega
    have HE : Hid (str (Tp.putA (by8 p) (by8 s)) = str ((by8 p).take i) ++ s ++ str ((by8 p).drop (i + 1))) := Lib.hid (by
      unfold Tp.putA; rw [h]
      exact by8_ext (by rw [by8_add, by8_add, by8_str, by8_str, by8_str]))
    rw [hp]
    clear hp h
    generalize str ((by8 p).take i) = bf at *
    generalize str ((by8 p).drop (i + 1)) = af at *
    have h3 : ¬ 9223372036854775807 < bf.size + s.size := by omega
    have h4 : ¬ 9223372036854775807 < bf.size + s.size + af.size := by omega
    go_enter Tryz.func138, Tryz.ntmps138
    go_wp2_with fail
    go_ret
    rw [HE.out]
    exact ⟨rfl, (Below.refl _ _).alloc (Nat.le_refl _) _⟩

theorem cell_box {w : World} {n i : Nat} {cs : Array Value} {T : TypeId} {v : Value} (h : w.heap[n]? = some (.cells cs T (0, 0))) (hv : cs[i]? = some v) : w.cell? ⟨n, i, none⟩ = some v := by simp [World.cell?, h, hv]
/-- Two boxes, one behind the other. -/
theorem two_box (w : World) (A B : Obj) : ((w.alloc A).alloc B).heap[w.heap.size]? = some A ∧ ((w.alloc A).alloc B).heap[w.heap.size + 1]? = some B := by
  refine ⟨?_, ?_⟩
  · exact (((Below.refl _ (w.alloc A)).alloc (Nat.le_refl _) B).block w.heap.size (by simp)).trans (heap_alloc_last w A)
  · have := heap_alloc_last (w.alloc A) B
    rwa [show (w.alloc A).heap.size = w.heap.size + 1 by simp] at this
set_option maxHeartbeats 2000000 in
theorem change_any (w : World) (x a b : ByteArray) (hx : x.size ≤ 1000000) (ha : a.size ≤ 1000000) (hb : b.size ≤ 1000000) : Calls Tryz.prog 292 #[patV a, .string x, patV b] w fun e w' => e = .returned (.string (str (Tp.changeA (by8 x) (by8 a) (by8 b)))) ∧ Below w.heap.size w w' := by
  have HM := Lib.hid fun W => match_any W a x ha hx
  obtain ⟨qb, b1, b2, hpb⟩ : ∃ q b1 b2, patV b = .agg #[.string b, .bool q, .string b1, .string b2] := by
    unfold patV patC
    cases Tp.atA (by8 b) with
    | none => exact ⟨_, _, _, rfl⟩
    | some i => exact ⟨_, _, _, rfl⟩
  obtain ⟨qa, hqa⟩ : ∃ q, (Tp.atA (by8 a)).isSome = q := ⟨_, rfl⟩
  obtain ⟨a1, a2, hpa⟩ : ∃ a1 a2, patV a = .agg #[.string a, .bool qa, .string a1, .string a2] := by
    unfold patV patC
    cases h : Tp.atA (by8 a) with
    | none => rw [h] at hqa; exact ⟨_, _, by rw [← hqa]; rfl⟩
    | some i => rw [h] at hqa; exact ⟨_, _, by rw [← hqa]; rfl⟩
  have hsz := fun s (h : Tp.matchA (by8 a) (by8 x) = some s) => Tp.match_len h
  have HP0 := fun s (h : s.length ≤ 1000000) W => put_any W b (str s) hb (by rw [str_size]; exact h)
  rw [hpa] at HM ⊢
  rw [hpb] at HP0 ⊢
  cases hm : Tp.matchA (by8 a) (by8 x) with
  | none =>
    have HE : Hid (str (Tp.changeA (by8 x) (by8 a) (by8 b)) = x) := Lib.hid (by unfold Tp.changeA; rw [hm]; exact str_by8 x)
    rw [hm] at HM
    simp only [mV] at HM
    clear hm hsz HP0 hpa hpb hqa
    have HX := Lib.hid (two_box w (.cells #[.string a, .bool qa, .string a1, .string a2] PA) (.cells #[.string b, .bool qb, .string b1, .string b2] PA))
    go_enter Tryz.func292, Tryz.ntmps292
    go_wp2_with (refine wpList_load_row rfl PA _ rfl w.heap.size rfl PA #[.string a, .bool qa, .string a1, .string a2] (0, 0) _ HX.out.1 undA rfl sizeA ?_)
    refine (HM.out _).mono ?_
    rintro e w1 ⟨rfl, B1⟩
    have HB := Lib.hid ((((Below.refl w.heap.size w).alloc (Nat.le_refl _) _).alloc (by simp <;> omega) _).trans (B1.mono (by simp <;> omega)))
    clear B1
    go_wp2_with fail
    go_ret
    rw [HE.out]
    exact ⟨rfl, HB.out⟩
  | some s =>
    have hsl := hsz s hm
    rw [by8_len] at hsl
    have HP := Lib.hid fun W => HP0 s (by omega) W
    rw [hm] at HM
    simp only [mV] at HM
    cases qa with
    | false =>
      have HE : Hid (str (Tp.changeA (by8 x) (by8 a) (by8 b)) = b) := Lib.hid (by
        unfold Tp.changeA; rw [hm]
        show str (if (Tp.atA (by8 a)).isNone = true then _ else _) = b
        rw [if_pos (by rw [Option.isNone_iff_eq_none, ← Option.not_isSome_iff_eq_none, hqa]; exact Bool.false_ne_true)]
        exact str_by8 b)
      clear hm hsz HP0 hpa hpb hqa hsl HP
      have HX := Lib.hid (two_box w (.cells #[.string a, .bool false, .string a1, .string a2] PA) (.cells #[.string b, .bool qb, .string b1, .string b2] PA))
      go_enter Tryz.func292, Tryz.ntmps292
      go_wp2_with (refine wpList_load_row rfl PA _ rfl w.heap.size rfl PA #[.string a, .bool false, .string a1, .string a2] (0, 0) _ HX.out.1 undA rfl sizeA ?_)
      refine (HM.out _).mono ?_
      rintro e w1 ⟨rfl, B1⟩
      have HB := Lib.hid ((((Below.refl w.heap.size w).alloc (Nat.le_refl _) _).alloc (by simp <;> omega) _).trans (B1.mono (by simp <;> omega)))
      have c1 : w1.cell? ⟨w.heap.size, 1, none⟩ = some (.bool false) := (B1.cell (p := ⟨w.heap.size, 1, none⟩) (by simp <;> omega)).trans (cell_box HX.out.1 rfl)
      have c2 : w1.cell? ⟨w.heap.size + 1, 0, none⟩ = some (.string b) := (B1.cell (p := ⟨w.heap.size + 1, 0, none⟩) (by simp <;> omega)).trans (cell_box HX.out.2 rfl)
      clear B1
      go_wp2_with fail
      go_ret
      rw [HE.out]
      exact ⟨rfl, HB.out⟩
    | true =>
      have HE : Hid (str (Tp.changeA (by8 x) (by8 a) (by8 b)) = str (Tp.putA (by8 b) (by8 (str s)))) := Lib.hid (by
        unfold Tp.changeA; rw [hm]
        show str (if (Tp.atA (by8 a)).isNone = true then _ else _) = _
        rw [if_neg (by rw [Option.isNone_iff_eq_none, ← Option.not_isSome_iff_eq_none, hqa]; exact fun h => h rfl)]
        rfl)
      clear hm hsz HP0 hpa hpb hqa hsl
      generalize str s = sv at *
      have HX := Lib.hid (two_box w (.cells #[.string a, .bool true, .string a1, .string a2] PA) (.cells #[.string b, .bool qb, .string b1, .string b2] PA))
      go_enter Tryz.func292, Tryz.ntmps292
      go_wp2_with (refine wpList_load_row rfl PA _ rfl w.heap.size rfl PA #[.string a, .bool true, .string a1, .string a2] (0, 0) _ HX.out.1 undA rfl sizeA ?_)
      refine (HM.out _).mono ?_
      rintro e w1 ⟨rfl, B1⟩
      have HB := Lib.hid ((((Below.refl w.heap.size w).alloc (Nat.le_refl _) _).alloc (by simp <;> omega) _).trans (B1.mono (by simp <;> omega)))
      have c1 : w1.cell? ⟨w.heap.size, 1, none⟩ = some (.bool true) := (B1.cell (p := ⟨w.heap.size, 1, none⟩) (by simp <;> omega)).trans (cell_box HX.out.1 rfl)
      have HY := Lib.hid ((B1.block (w.heap.size + 1) (by simp <;> omega)).trans HX.out.2)
      clear B1
      go_wp2_with (refine wpList_load_row rfl PA _ rfl (w.heap.size + 1) rfl PA #[.string b, .bool qb, .string b1, .string b2] (0, 0) _ HY.out undA rfl sizeA ?_)
      refine (HP.out _).mono ?_
      rintro e w2 ⟨rfl, B2⟩
      go_wp2_with fail
      go_ret
      rw [HE.out]
      exact ⟨rfl, HB.out.trans (B2.mono HB.out.size)⟩

theorem field_has (a b c d : Value) (w : World) : (Instr.field PA (.agg #[a, b, c, d]) 1).run Tryz.prog w = .ok b w := by kernel_rfl
set_option maxHeartbeats 2000000 in
theorem Has_any (w : World) (p : ByteArray) (hs : p.size ≤ 1000000) : Calls Tryz.prog 133 #[.string p] w fun e w' => e = .returned (.bool (Tp.atA (by8 p)).isSome) ∧ Below w.heap.size w w' := by
  have HC := Lib.hid fun W => cut_any W p hs
  obtain ⟨q, hq⟩ : ∃ q, (Tp.atA (by8 p)).isSome = q := ⟨_, rfl⟩
  obtain ⟨a, b, hp⟩ : ∃ a b, patV p = .agg #[.string p, .bool q, .string a, .string b] := by
    cases h : Tp.atA (by8 p) with
    | none => rw [h] at hq; exact ⟨_, _, by unfold patV patC; rw [h, ← hq]; rfl⟩
    | some i => rw [h] at hq; exact ⟨_, _, by unfold patV patC; rw [h, ← hq]; rfl⟩
  rw [hq]
  rw [hp] at HC
  clear hp hq
  have hf := fun W => field_has (.string p) (.bool q) (.string a) (.string b) W
  go_enter Tryz.func133, Tryz.ntmps133
  go_wp2_with fail
  refine (HC.out _).mono ?_
  rintro e w1 ⟨rfl, B1⟩
  go_wp2_with fail
  go_ret
  exact ⟨rfl, B1⟩
set_option maxHeartbeats 2000000 in
theorem Match_any (w : World) (p x : ByteArray) (hp : p.size ≤ 1000000) (hx : x.size ≤ 1000000) : Calls Tryz.prog 51 #[.string p, .string x] w fun e w' => e = mV (Tp.matchA (by8 p) (by8 x)) ∧ Below w.heap.size w w' := by
  have HC := Lib.hid fun W => cut_any W p hp
  have HM := Lib.hid fun W => match_any W p x hp hx
  obtain ⟨s, q, hm⟩ : ∃ s q, mV (Tp.matchA (by8 p) (by8 x)) = .returned (.tuple #[.string s, .bool q]) := by
    cases Tp.matchA (by8 p) (by8 x) with
    | none => exact ⟨_, _, rfl⟩
    | some s => exact ⟨_, _, rfl⟩
  rw [hm] at HM ⊢
  clear hm
  go_enter Tryz.func51, Tryz.ntmps51
  generalize patV p = pv at *
  go_wp2_with fail
  refine (HC.out _).mono ?_
  rintro e w1 ⟨rfl, B1⟩
  go_wp2_with fail
  refine (HM.out _).mono ?_
  rintro e w2 ⟨rfl, B2⟩
  go_wp2_with fail
  go_ret2
  exact ⟨rfl, B1.trans (B2.mono B1.size)⟩
end Go.Proofs.YtgednccpjegbmaaGreatDoor.Tw
namespace Go.Proofs.YtgednccpjegbmaaGreatDoor.Tw
open Go.RowKit Go.Proofs.YtgednccpjegbmaaGreatDoor Go.Proofs.YtgednccpjegbmaaGreatDoor.Ww
set_option maxRecDepth 100000
set_option maxHeartbeats 2000000 in
theorem Put_any (w : World) (p s : ByteArray) (hp : p.size ≤ 1000000) (hs : s.size ≤ 1000000) : Calls Tryz.prog 87 #[.string p, .string s] w fun e w' => e = .returned (.string (str (Tp.putA (by8 p) (by8 s)))) ∧ Below w.heap.size w w' := by
  have HC := Lib.hid fun W => cut_any W p hp
  have HM := Lib.hid fun W => put_any W p s hp hs
  generalize str (Tp.putA (by8 p) (by8 s)) = r at *
  generalize patV p = pv at *
  go_enter Tryz.func87, Tryz.ntmps87
  go_wp2_with fail
  refine (HC.out _).mono ?_
  rintro e w1 ⟨rfl, B1⟩
  go_wp2_with fail
  refine (HM.out _).mono ?_
  rintro e w2 ⟨rfl, B2⟩
  go_wp2_with fail
  go_ret
  exact ⟨rfl, B1.trans (B2.mono B1.size)⟩
end Go.Proofs.YtgednccpjegbmaaGreatDoor.Tw
