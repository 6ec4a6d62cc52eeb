/-
  Lines of a makefile, in plain words: rows, a line out of its rows, a text without its remark; and what LinesGrow says of them.
  Cells and blocks; joined texts; texts cut at a byte.
  Cells of lines; what an append finds.
  strings.Builder, wherever it lies: copyCheck, Len, WriteString, String.
-/
import Derived.Lib.SlTrimSet
import Derived.Lib.Walk
import Derived.Test.YtgednccpjegbmaaGreatDoorProg
import Derived.Lib.Builder
import Derived.Lib.UnsafeStr
import Derived.Laws.Externs
import Derived.Lib.Strings
import Derived.Lib.AppendStr
import Derived.Lib.Join
import Derived.RangeFuncNested
import Derived.RangeFuncBox
import Derived.Test.YtgednccpjegbmaaGreatDoorQTBase
import Derived.Test.YtgednccpjegbmaaGreatDoorShelf
import Derived.Laws.OwnMore
namespace Go.Proofs.YtgednccpjegbmaaGreatDoor.Ip
set_option maxRecDepth 100000
abbrev Bs := List UInt8

/-- A text's rows: what stands between the bytes 10. -/
def rows : Bs → List Bs
  | [] => [[]]
  | c :: r => if c = 10 then [] :: rows r else
    match rows r with
    | [] => [[c]]
    | x :: l => (c :: x) :: l
theorem rows_ne (s : Bs) : rows s ≠ [] := by
  cases s with
  | nil => simp [rows]
  | cons c r =>
    unfold rows
    split
    · simp
    · split <;> simp
theorem rows_nl (r : Bs) : rows (10 :: r) = [] :: rows r := by rw [rows.eq_def]; exact if_pos rfl
theorem rows_ch {c : UInt8} {r x : Bs} {l : List Bs} (h : ¬ c = 10) (hr : rows r = x :: l) : rows (c :: r) = (c :: x) :: l := by rw [rows.eq_def]; show (if c = 10 then _ else _) = _; rw [if_neg h, hr]
theorem rows_one : ∀ {a : Bs}, 10 ∉ a → rows a = [a]
  | [], _ => rfl
  | c :: r, h => by
    have hc : ¬ c = 10 := fun e => h (by simp [e])
    exact rows_ch hc (rows_one (fun h' => h (List.mem_cons_of_mem _ h')))
theorem rows_cut : ∀ {a b : Bs}, 10 ∉ a → rows (a ++ 10 :: b) = a :: rows b
  | [], b, _ => rows_nl b
  | c :: r, b, h => by
    have hc : ¬ c = 10 := fun e => h (by simp [e])
    rw [List.cons_append]
    exact rows_ch hc (rows_cut (fun h' => h (List.mem_cons_of_mem _ h')))
theorem rows_both : ∀ (a b : Bs), rows (a ++ 10 :: b) = rows a ++ rows b
  | [], b => rows_nl b
  | c :: r, b => by
    rw [List.cons_append]
    by_cases hc : c = 10
    · rw [hc, rows_nl, rows_nl, rows_both r b]; rfl
    · cases hr : rows r with
      | nil => exact absurd hr (rows_ne r)
      | cons x l => rw [rows_ch hc hr]; exact rows_ch hc (by rw [rows_both r b, hr]; rfl)
theorem rows_len : ∀ s : Bs, (rows s).length = s.count 10 + 1
  | [] => rfl
  | c :: r => by
    have ih := rows_len r
    by_cases hc : c = 10
    · rw [hc, rows_nl, List.count_cons_self, List.length_cons, ih]
    · rw [List.count_cons_of_ne (fun e => hc e)]
      cases hr : rows r with
      | nil => exact absurd hr (rows_ne r)
      | cons x l => rw [rows_ch hc hr]; rw [hr] at ih; simpa using ih
/-- A line of a makefile. -/
structure L where
  n : Nat
  t : Bs
  q : Bool

def trim (s : Bs) : Bs := Lib.trimS s [32, 9, 10]
/-- A line's text with one more row. -/
def addA (acc t : Bs) : Bs := if t = [] then acc else if acc = [] then t else acc ++ 32 :: t
/-- A text without its remark: what is read already, and the rest. -/
def bareA : Bs → Bs → Bs
  | acc, [] => acc
  | acc, c :: r => if c = 35 then (if acc.getLast? = some 92 then bareA (acc.dropLast ++ [35]) r else acc) else bareA (acc ++ [c]) r
def more (r : Bs) (rest : List Bs) : Bool := !rest.isEmpty && r.getLast? == some 92
def tab (r : Bs) : Bool := r.head? == some 9
def textA (q : Bool) (t : Bs) : Bs := if q then t else trim (bareA [] t)
def emit (n : Nat) (q : Bool) (t : Bs) : List L := if textA q t = [] then [] else [⟨n, textA q t, q⟩]
/-- Lines out of rows: the row's number, the line's, whether it is a recipe's, its text so far. -/
def goA (k n : Nat) (q : Bool) (acc : Bs) : List Bs → List L
  | [] => []
  | r :: rest => if more r rest then goA (k + 1) n q (addA acc (trim r.dropLast)) rest
    else emit n q (addA acc (trim r)) ++ goA (k + 1) (k + 1) (tab (rest.headD [])) [] rest
def linesA (s : Bs) : List L := goA 1 1 (tab ((rows s).headD [])) [] (rows s)

theorem goA_more {k n : Nat} {q : Bool} {acc r : Bs} {rest : List Bs} (h : more r rest = true) : goA k n q acc (r :: rest) = goA (k + 1) n q (addA acc (trim r.dropLast)) rest := if_pos h
theorem goA_last {k n : Nat} {q : Bool} {acc r : Bs} {rest : List Bs} (h : more r rest = false) : goA k n q acc (r :: rest) = emit n q (addA acc (trim r)) ++ goA (k + 1) (k + 1) (tab (rest.headD [])) [] rest := if_neg (by rw [h]; exact Bool.false_ne_true)
theorem bareA_all : ∀ {b acc : Bs}, 35 ∉ b → bareA acc b = acc ++ b
  | [], acc, _ => by simp [bareA]
  | c :: r, acc, h => by
    have hc : ¬ c = 35 := fun e => h (by simp [e])
    unfold bareA
    rw [if_neg hc, bareA_all (fun h' => h (List.mem_cons_of_mem _ h'))]
    simp
theorem bareA_step : ∀ {b acc rest : Bs}, 35 ∉ b → bareA acc (b ++ rest) = bareA (acc ++ b) rest
  | [], acc, rest, _ => by simp
  | c :: r, acc, rest, h => by
    have hc : ¬ c = 35 := fun e => h (by simp [e])
    rw [List.cons_append]
    conv => lhs; unfold bareA
    rw [if_neg hc, bareA_step (fun h' => h (List.mem_cons_of_mem _ h'))]
    simp
/-- A # without a backslash before it ends the text. -/
theorem bareA_end {b acc rest : Bs} (h : 35 ∉ b) (ha : acc.getLast? ≠ some 92) (hb : b.getLast? ≠ some 92) : bareA acc (b ++ 35 :: rest) = acc ++ b := by
  rw [bareA_step h]
  unfold bareA
  rw [if_pos rfl, if_neg]
  rw [List.getLast?_append]
  cases hb' : b.getLast? with
  | none => simpa using ha
  | some d => rw [hb'] at hb; simpa using hb
theorem bareA_kept {b acc rest : Bs} (h : 35 ∉ b) (hb : b.getLast? = some 92) : bareA acc (b ++ 35 :: rest) = bareA (acc ++ b.dropLast ++ [35]) rest := by
  rw [bareA_step h]
  conv => lhs; unfold bareA
  have hne : b ≠ [] := fun e => by rw [e] at hb; cases hb
  rw [if_pos rfl, if_pos (by rw [List.getLast?_append, hb]; rfl), List.dropLast_append_of_ne_nil hne]

/- Of two texts. -/
def shift (d : Nat) (x : L) : L := ⟨x.n + d, x.t, x.q⟩
theorem emit_shift (d n : Nat) (q : Bool) (t : Bs) : emit (n + d) q t = (emit n q t).map (shift d) := by
  unfold emit
  split <;> rfl
theorem goA_shift (d : Nat) : ∀ (R : List Bs) (k n : Nat) (q : Bool) (acc : Bs), goA (k + d) (n + d) q acc R = (goA k n q acc R).map (shift d)
  | [], _, _, _, _ => rfl
  | r :: rest, k, n, q, acc => by
    cases h : more r rest with
    | true => rw [goA_more h, goA_more h, Nat.add_right_comm, goA_shift d rest]
    | false => rw [goA_last h, goA_last h, List.map_append, emit_shift, Nat.add_right_comm, goA_shift d rest]
/- What a line is. -/
theorem emit_le (n : Nat) (q : Bool) (t : Bs) : (emit n q t).length ≤ 1 := by unfold emit; split <;> simp
theorem goA_le : ∀ (R : List Bs) (k n : Nat) (q : Bool) (acc : Bs), (goA k n q acc R).length ≤ R.length
  | [], _, _, _, _ => by simp [goA]
  | r :: rest, k, n, q, acc => by
    cases h : more r rest with
    | true => rw [goA_more h]; have := goA_le rest (k + 1) n q (addA acc (trim r.dropLast)); simp; omega
    | false =>
      rw [goA_last h, List.length_append]
      have h1 := goA_le rest (k + 1) (k + 1) (tab (rest.headD [])) []
      have h2 := emit_le n q (addA acc (trim r))
      rw [List.length_cons]; omega
theorem mem_emit {n : Nat} {q : Bool} {t : Bs} {x : L} (h : x ∈ emit n q t) : x = ⟨n, textA q t, q⟩ ∧ textA q t ≠ [] := by
  unfold emit at h
  split at h
  · cases h
  · exact ⟨by simpa using h, by assumption⟩
theorem linesA_le (s : Bs) : (linesA s).length ≤ s.count 10 + 1 := by rw [← rows_len]; exact goA_le _ _ _ _ _
/- Sizes. -/
theorem trim_len (s : Bs) : (trim s).length ≤ s.length := by
  unfold trim Lib.trimS Lib.trimLeftS Lib.trimRightS
  refine Nat.le_trans (List.dropWhile_sublist _).length_le ?_
  rw [List.length_reverse]
  refine Nat.le_trans (List.dropWhile_sublist _).length_le ?_
  rw [List.length_reverse]; exact Nat.le_refl _
theorem addA_len (a t : Bs) : (addA a t).length ≤ a.length + t.length + 1 := by
  unfold addA
  split
  · omega
  · split
    · omega
    · simp; omega
theorem bareA_len : ∀ (t acc : Bs), (bareA acc t).length ≤ acc.length + t.length
  | [], acc => by simp [bareA]
  | x :: r, acc => by
    unfold bareA
    split
    · split
      · rename_i h
        have h0 : acc ≠ [] := fun e => by rw [e] at h; cases h
        have := bareA_len r (acc.dropLast ++ [35])
        have := List.length_pos_iff.2 h0
        simp at *; omega
      · simp
    · have := bareA_len r (acc ++ [x])
      simp at *; omega
theorem textA_len (q : Bool) (t : Bs) : (textA q t).length ≤ t.length := by
  unfold textA
  split
  · exact Nat.le_refl _
  · have := bareA_len t []
    have := trim_len (bareA [] t)
    simp at *; omega
/-- All bytes of some rows, and one more a row. -/
def tot : List Bs → Nat
  | [] => 0
  | r :: l => r.length + 1 + tot l
theorem rows_tot : ∀ s : Bs, tot (rows s) = s.length + 1
  | [] => rfl
  | c :: r => by
    have ih := rows_tot r
    by_cases hc : c = 10
    · rw [hc, rows_nl]; simp [tot, ih]; omega
    · cases hr : rows r with
      | nil => exact absurd hr (rows_ne r)
      | cons x l => rw [rows_ch hc hr]; rw [hr] at ih; simp [tot] at *; omega
theorem goA_len : ∀ (R : List Bs) (k n : Nat) (q : Bool) (acc : Bs), ∀ x ∈ goA k n q acc R, x.t.length ≤ acc.length + tot R
  | [], _, _, _, _ => by simp [goA]
  | r :: rest, k, n, q, acc => by
    intro x hx
    show x.t.length ≤ acc.length + (r.length + 1 + tot rest)
    cases h : more r rest with
    | true =>
      rw [goA_more h] at hx
      have h1 := goA_len rest _ _ _ _ x hx
      have h2 := addA_len acc (trim r.dropLast)
      have h3 := trim_len r.dropLast
      have h4 : r.dropLast.length ≤ r.length := by simp
      omega
    | false =>
      rw [goA_last h] at hx
      rcases List.mem_append.1 hx with hx | hx
      · have h1 := (mem_emit hx).1
        have h2 := textA_len q (addA acc (trim r))
        have h3 := addA_len acc (trim r)
        have h4 := trim_len r
        rw [h1]
        show (textA q (addA acc (trim r))).length ≤ _
        omega
      · have h1 := goA_len rest _ _ _ _ x hx
        have h2 : ([] : Bs).length = 0 := rfl
        omega
theorem linesA_len {s : Bs} {x : L} (h : x ∈ linesA s) : x.t.length ≤ s.length + 1 := by
  have := goA_len _ _ _ _ _ x h
  rw [rows_tot] at this
  simpa using this
end Go.Proofs.YtgednccpjegbmaaGreatDoor.Ip
namespace Go.Proofs.YtgednccpjegbmaaGreatDoor.Iw
open Go.RowKit Go.Proofs.YtgednccpjegbmaaGreatDoor Go.Proofs.YtgednccpjegbmaaGreatDoor.Ww
set_option maxRecDepth 100000

/-- What a call may turn: these blocks, and new ones. -/
structure Kept (X : List Nat) (w w' : World) : Prop where
  os : w'.os = w.os
  tape : w'.tape = w.tape
  output : w'.output = w.output
  size : w.heap.size ≤ w'.heap.size
  block : ∀ i, i < w.heap.size → i ∉ X → w'.heap[i]? = w.heap[i]?

theorem Kept.refl (X : List Nat) (w : World) : Kept X w w := ⟨rfl, rfl, rfl, Nat.le_refl _, fun _ _ _ => rfl⟩
theorem Kept.trans {X : List Nat} {a b c : World} (h : Kept X a b) (k : Kept X b c) : Kept X a c :=
  ⟨k.os.trans h.os, k.tape.trans h.tape, k.output.trans h.output, Nat.le_trans h.size k.size, fun i hi hx => (k.block i (Nat.lt_of_lt_of_le hi h.size) hx).trans (h.block i hi hx)⟩
theorem Kept.mono {X Y : List Nat} {a b : World} (h : Kept X a b) (hs : ∀ i, i ∈ X → i ∈ Y) : Kept Y a b :=
  ⟨h.os, h.tape, h.output, h.size, fun i hi hx => h.block i hi fun e => hx (hs i e)⟩
theorem Kept.of_below {X : List Nat} {a b : World} (h : Below a.heap.size a b) : Kept X a b := ⟨h.os, h.tape, h.output, h.size, fun i hi _ => h.block i hi⟩
theorem Kept.below {X : List Nat} {a b c : World} (h : Kept X a b) (k : Below b.heap.size b c) : Kept X a c := h.trans (.of_below k)
theorem Kept.alloc {X : List Nat} {a b : World} (h : Kept X a b) (o : Obj) : Kept X a (b.alloc o) := h.below ((Below.refl _ b).alloc (Nat.le_refl _) o)
theorem Kept.drewN {X : List Nat} {a b : World} (h : Kept X a b) (n : Nat) : Kept X a (b.drewN n) := ⟨h.os, h.tape, h.output, h.size, h.block⟩
theorem Kept.setCell {X : List Nat} {a b : World} (h : Kept X a b) {p : Addr} (hp : p.block ∈ X ∨ a.heap.size ≤ p.block) (u : Value) : Kept X a (b.setCell p u) :=
  ⟨h.os, h.tape, h.output, by simpa [World.setCell] using h.size, fun i hi hx => (Below.heap_setCell _ _ _ _ (by
    rcases hp with hp | hp
    · exact fun e => hx (e ▸ hp)
    · omega)).trans (h.block i hi hx)⟩
theorem Kept.grown {X : List Nat} {a b c : World} {row : Option Nat} (h : Kept X a b) (hg : b.grownBy c row) (hr : ∀ r, row = some r → r ∈ X ∨ a.heap.size ≤ r) : Kept X a c :=
  ⟨hg.os.trans h.os, hg.tape.trans h.tape, hg.output.trans h.output, Nat.le_trans h.size hg.size, fun i hi hx => (hg.block i (Nat.lt_of_lt_of_le hi h.size) (fun e => by
    rcases hr i e.symm with hr | hr
    · exact hx hr
    · omega)).trans (h.block i hi hx)⟩
theorem Kept.to_below {X : List Nat} {a b : World} {B : Nat} (h : Kept X a b) (hB : B ≤ a.heap.size) (hX : ∀ i ∈ X, B ≤ i) : Below B a b :=
  ⟨h.os, h.tape, h.output, h.size, fun i hi => h.block i (by omega) fun e => by have := hX i e; omega⟩
def str (l : Bs) : ByteArray := ⟨l.toArray⟩
theorem by8_str (l : Bs) : by8 (str l) = l := rfl
theorem str_size (l : Bs) : (str l).size = l.length := by rw [← by8_len, by8_str]
theorem cell_at {w : World} {n i : Nat} {cs : Array Value} {T : TypeId} {v : Value} (h : w.heap[n]? = some (.cells cs T (0, 0))) (hv : cs[i]? = some v) : w.cell? ⟨n, i, none⟩ = some v := by simp [World.cell?, h, hv]
theorem frozen_at {w : World} {n : Nat} {cs : Array Value} {T : TypeId} (h : w.heap[n]? = some (.cells cs T (0, 0))) (i : Nat) : w.frozen? ⟨n, i, none⟩ = false := by simp [World.frozen?, h]
theorem heap_set3 {w : World} {b i : Nat} {cs : Array Value} {T : TypeId} (h : w.heap[b]? = some (.cells cs T (0, 0))) (v : Value) : (w.setCell ⟨b, i, none⟩ v).heap[b]? = some (.cells (cs.setIfInBounds i v) T (0, 0)) := by
  have hb : b < w.heap.size := (Array.getElem?_eq_some_iff.1 h).1
  have hb' : w.heap[b] = .cells cs T (0, 0) := by have := Array.getElem?_eq_getElem hb; rw [h] at this; exact (Option.some.inj this).symm
  simp [World.setCell, Array.getElem?_modify, h]
theorem one_new (wr : World) (x : Value) (T : TypeId) : ∀ (j : Nat) (u : Value), [x][j]? = some u → (wr.alloc (.cells #[x] T)).cell? ((⟨wr.heap.size, 0, none⟩ : Addr).add j) = some u := by
  intro j u hj
  rw [Addr.add_lit, World.cell?_alloc_at _ _ _ _ (by simp)]
  match j, hj with
  | 0, hj => simpa using hj
abbrev ST : TypeId := 9
/- Texts cut at a byte. -/
theorem index_ways (c : UInt8) : ∀ l : Bs, (c ∉ l ∧ Lib.indexByte l c = -1) ∨ ∃ a b, l = a ++ c :: b ∧ c ∉ a ∧ Lib.indexByte l c = a.length
  | [] => .inl ⟨by simp, rfl⟩
  | x :: l => by
    unfold Lib.indexByte
    by_cases hx : x = c
    · subst hx
      exact .inr ⟨[], l, rfl, by simp, by simp⟩
    · have hx' : (x == c) = false := beq_eq_false_iff_ne.2 hx
      rw [hx']
      rcases index_ways c l with ⟨h1, h2⟩ | ⟨a, b, h1, h2, h3⟩
      · exact .inl ⟨by simp [h1, Ne.symm hx], by rw [h2]; rfl⟩
      · refine .inr ⟨x :: a, b, by rw [h1]; rfl, by simp [h2, Ne.symm hx], ?_⟩
        rw [h3]
        have : ((a.length : Int) == -1) = false := by rw [beq_eq_false_iff_ne]; omega
        simp [this]
theorem index_no {c : UInt8} {l : Bs} (h : c ∉ l) : Lib.indexByte l c = -1 := by
  rcases index_ways c l with ⟨_, h2⟩ | ⟨a, b, rfl, _, _⟩
  · exact h2
  · exact absurd (by simp) h
theorem app_inj {c : UInt8} : ∀ {a a' b b' : Bs}, a ++ c :: b = a' ++ c :: b' → c ∉ a → c ∉ a' → a = a' ∧ b = b'
  | [], [], _, _, h, _, _ => ⟨rfl, (List.cons.inj h).2⟩
  | [], x :: _, _, _, h, _, h2 => absurd (by rw [(List.cons.inj h).1]; simp) h2
  | x :: _, [], _, _, h, h1, _ => absurd (by rw [← (List.cons.inj h).1]; simp) h1
  | x :: a, y :: a', _, _, h, h1, h2 => by
    have hh := List.cons.inj h
    have h3 := app_inj (a := a) (a' := a') hh.2 (fun e => h1 (List.mem_cons_of_mem _ e)) (fun e => h2 (List.mem_cons_of_mem _ e))
    exact ⟨by rw [hh.1, h3.1], h3.2⟩
theorem index_yes {c : UInt8} {a b : Bs} (h : c ∉ a) : Lib.indexByte (a ++ c :: b) c = a.length := by
  rcases index_ways c (a ++ c :: b) with ⟨h2, _⟩ | ⟨a', b', h1, h2, h3⟩
  · exact absurd (by simp) h2
  · rw [h3, (app_inj h1 h h2).1]
theorem Index_no (w : World) (s : ByteArray) (c : UInt8) (h : c ∉ by8 s) : Calls Tryz.prog 167 #[.string s, .string ⟨#[c]⟩] w fun e w' => e = .returned (.int .i64 (-1)) ∧ w = w' :=
  (Tryz.stringslite_Index_one s c w).mono fun _ _ ⟨he, hw⟩ => ⟨by rw [he, show Lib.indexByte s.data.toList c = -1 from index_no h], hw.symm⟩
theorem Index_yes (w : World) (s : ByteArray) (c : UInt8) (k : Nat) (b : Bs) (hk : k ≤ s.size) (he : by8 s = (by8 s).take k ++ c :: b) (h : c ∉ (by8 s).take k) : Calls Tryz.prog 167 #[.string s, .string ⟨#[c]⟩] w fun e w' => e = .returned (.int .i64 k) ∧ w = w' :=
  (Tryz.stringslite_Index_one s c w).mono fun _ _ ⟨hr, hw⟩ => ⟨by
    have : Lib.indexByte (by8 s) c = k := by
      rw [he, index_yes h, List.length_take, by8_len, Nat.min_eq_left hk]
    rw [hr]; exact congrArg (fun i => Ending.returned (.int .i64 i)) this, hw.symm⟩

theorem CutIn_no (w : World) (s : ByteArray) (c : UInt8) (h : c ∉ by8 s) :
    Calls Tryz.prog 155 #[.string s, .string ⟨#[c]⟩] w fun e w' => e = .returned (.tuple #[.string s, .string ByteArray.empty, .bool false]) ∧ Below w.heap.size w w' := by
  have HC := Lib.hid (Index_no w s c h)
  clear h
  go_enter Tryz.func155, Tryz.ntmps155
  go_wp2_with fail
  refine HC.out.mono ?_
  rintro e w1 ⟨rfl, rfl⟩
  go_wp2_with fail
  go_ret3
  exact ⟨rfl, Below.refl _ _⟩
theorem CutIn_yes (w : World) (s : ByteArray) (hs : s.size ≤ 1000000) (c : UInt8) (k : Nat) (b : Bs) (hk : k + 1 ≤ s.size) (he : by8 s = (by8 s).take k ++ c :: b) (h : c ∉ (by8 s).take k) :
    Calls Tryz.prog 155 #[.string s, .string ⟨#[c]⟩] w fun e w' => e = .returned (.tuple #[.string (s.extract 0 k), .string (s.extract (k + 1) s.size), .bool true]) ∧ Below w.heap.size w w' := by
  have HC := Lib.hid (Index_yes w s c k b (by omega) he h)
  have hwr : IntKind.i64.wrap ((k : Int) + 1) = (k : Int) + 1 := by rw [IntWalk.i64_in _ (by omega)]
  have ho0 : (0 : Int) ≤ (k : Int) := Int.natCast_nonneg _
  have hoi : (k : Int) < (s.size : Int) := by omega
  have ho1 : (0 : Int) ≤ (k : Int) + 1 := by omega
  have ho2 : (k : Int) + 1 ≤ (s.size : Int) := by omega
  have ho3 : ((k : Int) + 1).toNat = k + 1 := by omega
  clear h he hk
  go_enter Tryz.func155, Tryz.ntmps155
  go_wp2_with fail
  refine HC.out.mono ?_
  rintro e w1 ⟨rfl, rfl⟩
  go_wp2_with fail
  go_quiet (fail)
  go_wp2
  go_ret3
  exact ⟨rfl, below_drewN (Below.refl _ _) _⟩
theorem Cut_no (w : World) (s : ByteArray) (c : UInt8) (h : c ∉ by8 s) :
    Calls Tryz.prog 103 #[.string s, .string ⟨#[c]⟩] w fun e w' => e = .returned (.tuple #[.string s, .string ByteArray.empty, .bool false]) ∧ Below w.heap.size w w' := by
  have HC := Lib.hid (CutIn_no w s c h)
  clear h
  go_enter Tryz.func103, Tryz.ntmps103
  go_wp2_with fail
  refine HC.out.mono ?_
  rintro e w1 ⟨rfl, hB⟩
  go_wp2_with fail
  go_ret3
  exact ⟨rfl, hB⟩
theorem Cut_yes (w : World) (s : ByteArray) (hs : s.size ≤ 1000000) (c : UInt8) (a b : Bs) (he : by8 s = a ++ c :: b) (h : c ∉ a) :
    Calls Tryz.prog 103 #[.string s, .string ⟨#[c]⟩] w fun e w' => e = .returned (.tuple #[.string (str a), .string (str b), .bool true]) ∧ Below w.heap.size w w' := by
  have hl : a.length + b.length + 1 = s.size := by rw [← by8_len, he]; simp; omega
  have hta : (by8 s).take a.length = a := by rw [he]; simp
  have htb : (by8 s).drop (a.length + 1) = b := by rw [he]; simp
  have e1 : s.extract 0 a.length = str a := by8_ext (by rw [by8_take, hta]; rfl)
  have e2 : s.extract (a.length + 1) s.size = str b := by8_ext (by rw [by8_drop, htb]; rfl)
  have HC0 := CutIn_yes w s hs c a.length b (by omega) (by rw [hta, ← he]) (by rw [hta]; exact h)
  rw [e1, e2] at HC0
  have HC := Lib.hid HC0
  clear h he hl hta htb e1 e2 HC0 hs
  go_enter Tryz.func103, Tryz.ntmps103
  go_wp2_with fail
  refine HC.out.mono ?_
  rintro e w1 ⟨rfl, hB⟩
  go_wp2_with fail
  go_ret3
  exact ⟨rfl, hB⟩

/- Joined words. -/
def joinS (xs : List ByteArray) : ByteArray := ⟨(Lib.join (xs.map (·.data.toList)) [32]).toArray⟩
theorem Join_any (w : World) {B : Nat} {v : Value} {xs : List ByteArray} (h : w.ownsRow B ST 1 v xs.length (strsC xs)) (hN : xs.length ≤ 100000000) (hlen : (by8 (joinS xs)).length ≤ 100000000) :
    Calls Tryz.prog 93 #[v] w fun e w' => e = .returned (.string (joinS xs)) ∧ Below w.heap.size w w' := by
  rcases h.2 with ⟨rfl, h0⟩ | ⟨g, cap, cur, rfl, hb, hg, hn, hc, hs, ht⟩
  · have e0 : xs = [] := List.length_eq_zero_iff.1 h0
    subst e0
    clear h hlen hN
    go_enter Tryz.func93, Tryz.ntmps93
    go_wp2_with fail
    refine (Tryz.strings_Join_none none 0 ⟨#[32]⟩ w).mono ?_
    rintro e w' ⟨rfl, rfl⟩
    go_wp2_with fail
    go_ret
    exact ⟨rfl, Below.refl _ _⟩
  · have hlen' : (Lib.join (xs.map (·.data.toList)) [32]).length ≤ 140737488355328 := Nat.le_trans (show _ ≤ 100000000 from hlen) (by decide)
    have HJ := Lib.hid (Tryz.strings_Join g 0 cap xs ⟨#[32]⟩ w (fun j x hj => by
      have := h.cells (g := g) rfl j (.string x) (by simp [strsC, hj])
      simpa [Addr.add_lit] using this) (Array.getElem?_eq_some_iff.1 hg).1 (by omega) hn hlen')
    clear h ht hs hc hlen hlen'
    go_enter Tryz.func93, Tryz.ntmps93
    go_wp2_with fail
    refine HJ.out.mono ?_
    rintro e w' ⟨rfl, hB⟩
    go_wp2_with fail
    go_ret
    exact ⟨rfl, hB⟩
end Go.Proofs.YtgednccpjegbmaaGreatDoor.Iw
namespace Go.Proofs.YtgednccpjegbmaaGreatDoor.Iw
open Go.RowKit Go.Proofs.YtgednccpjegbmaaGreatDoor Go.Proofs.YtgednccpjegbmaaGreatDoor.Ww
set_option maxRecDepth 100000

theorem infoS : (Tryz.prog.info? ST).map (fun i => (i.zero, i.size, i.bytes)) = some (some (.string ByteArray.empty), 1, 16) := by kernel_rfl
theorem by8_add (a b : ByteArray) : by8 (a ++ b) = by8 a ++ by8 b := by simp [by8]
theorem by8_cut {o : ByteArray} {a : Bs} {c : UInt8} (h : by8 o = a ++ [c]) {n : Nat} (hn : o.size = n + 1) : by8 (o.extract 0 n) = a := by
  have hl : a.length = n := by have := congrArg List.length h; rw [by8_len, List.length_append] at this; simp at this; omega
  rw [by8_take, h, ← hl]; simp

/-- A line's three cells. -/
def lineC (x : Ip.L) : List Value := [.int .i64 (x.n : Int), .string (str x.t), .bool x.q]
def linesC (l : List Ip.L) : List Value := l.flatMap lineC
theorem linesC_app (a b : List Ip.L) : linesC (a ++ b) = linesC a ++ linesC b := by simp [linesC]
theorem rows_ne {w : World} {b1 b2 : Nat} {e1 e2 : TypeId} {s1 s2 : Nat} {v1 v2 : Value} {n1 n2 : Nat} {x1 x2 : List Value} (h1 : w.ownsRow b1 e1 s1 v1 n1 x1) (h2 : w.ownsRow b2 e2 s2 v2 n2 x2) (hne : e1 ≠ e2) : v1.ownBlock = none ∨ v1.ownBlock ≠ v2.ownBlock := by
  rcases h1.2 with ⟨rfl, _⟩ | ⟨g, cap, cur, rfl, _, hg, _⟩
  · exact .inl rfl
  · refine .inr fun e => ?_
    rcases h2.2 with ⟨rfl, _⟩ | ⟨g', cap', cur', rfl, _, hg', _⟩
    · cases e
    · have : g = g' := by simpa [Value.ownBlock] using e
      subst this
      rw [hg] at hg'
      cases hg'
      exact hne rfl
theorem three_new (wr : World) (x y z : Value) (T : TypeId) : ∀ (j : Nat) (u : Value), [x, y, z][j]? = some u → (wr.alloc (.cells #[x, y, z] T)).cell? ((⟨wr.heap.size, 0, none⟩ : Addr).add j) = some u := by
  intro j u hj
  rw [Addr.add_lit, World.cell?_alloc_at _ _ _ _ (by simp)]
  match j, hj with
  | 0, hj => simpa using hj
  | 1, hj => simpa using hj
  | 2, hj => simpa using hj
theorem three_at {wr : World} {n : Nat} (h : wr.heap.size = n) (x y z : Value) (T : TypeId) : ∀ (j : Nat) (u : Value), [x, y, z][j]? = some u → (wr.alloc (.cells #[x, y, z] T)).cell? ((⟨n, 0, none⟩ : Addr).add j) = some u := by
  subst h; exact three_new wr x y z T
theorem owns_below {wr w3 : World} {base : Nat} {e : TypeId} {z : Nat} {v : Value} {n : Nat} {xs : List Value} (h : wr.ownsRow base e z v n xs) (B : Below wr.heap.size wr w3) : w3.ownsRow base e z v n xs := by
  refine ⟨h.1, ?_⟩
  rcases h.2 with h | ⟨g, cap, cur, h1, h2, h3, h4⟩
  · exact .inl h
  · exact .inr ⟨g, cap, cur, h1, h2, (B.block g (Array.getElem?_eq_some_iff.1 h3).1).trans h3, h4⟩

end Go.Proofs.YtgednccpjegbmaaGreatDoor.Iw
namespace Go.Proofs.YtgednccpjegbmaaGreatDoor.Iw
open Go.RowKit Go.Proofs.YtgednccpjegbmaaGreatDoor Go.Proofs.YtgednccpjegbmaaGreatDoor.Ww
set_option maxRecDepth 100000

abbrev BT : TypeId := 185
abbrev U8 : TypeId := 5
theorem infoU : (Tryz.prog.info? U8).map (fun i => (i.zero, i.size, i.bytes)) = some (some (.int .u8 0), 1, 1) := by kernel_rfl
theorem sizeB : (Tryz.prog.info? BT).map (·.size) = some 2 := by kernel_rfl
theorem liesB : liesAt Tryz.prog Tryz.prog.depth BT (2 / Tryz.prog.cellsOf BT) 0 BT 1 = true := by kernel_rfl
theorem copy_used (b k : Nat) (w : World) (h0 : w.cell? ⟨b, k, none⟩ = some (.pointer (some ⟨b, k, none⟩))) :
    Calls Tryz.prog 180 #[.pointer (some ⟨b, k, none⟩)] w fun e w' => e = .returned (.tuple #[]) ∧ w' = w := by
  obtain ⟨j, hj, _⟩ := Option.map_eq_some_iff.1 sizeB
  go_enter Tryz.func180, Tryz.ntmps180
  go_wp2
  rw [Lib.run_neq_ptr_same w _ Tryz.underlying123 hj]
  go_wp2
  go_end0
  exact ⟨rfl, rfl⟩

theorem copy_fresh (T : TypeId) (b k n : Nat) (w : World) (hk : k < n) (h0 : w.cell? ⟨b, k, none⟩ = some (.pointer none)) (hsh : w.shape? b = some (T, n)) (hl : liesAt Tryz.prog Tryz.prog.depth T (n / Tryz.prog.cellsOf T) k BT 1 = true) (hfz : w.frozen? ⟨b, k, none⟩ = false) :
    Calls Tryz.prog 180 #[.pointer (some ⟨b, k, none⟩)] w fun e w' => e = .returned (.tuple #[]) ∧ w' = w.setCell ⟨b, k, none⟩ (.pointer (some ⟨b, k, none⟩)) := by
  obtain ⟨j, hj, hjs⟩ := Option.map_eq_some_iff.1 sizeB
  go_enter Tryz.func180, Tryz.ntmps180
  go_wp2
  rw [Lib.run_to_unsafe w ⟨b, k, none⟩ Tryz.underlying123 Tryz.underlying299 hj (by rw [hjs]; decide) hsh hk]
  simp only [Result.andThen]
  rw [Oper.upon_value]
  go_wp2
  rw [run_callFunc_extern Tryz.func223 (by kernel_rfl) (by kernel_rfl) (by kernel_rfl) (e := Extern.AbiNoEscape.same) (by kernel_rfl)]
  rw [Lib.run_noEscape]
  simp only [Result.andThen]
  rw [Oper.upon_value]
  go_wp2
  rw [Lib.run_from_unsafe w ⟨b, k, none⟩ Tryz.underlying299 Tryz.underlying123 hj hsh hl]
  simp only [Result.andThen]
  rw [Oper.upon_value]
  go_wp2
  go_end0
  exact ⟨rfl, rfl⟩

/-- A builder at cells k, k + 1 of block b, a row of type T; its text is l. -/
structure BAt (w : World) (T : TypeId) (b k B : Nat) (l : Bs) (pv bv : Value) (cs : Array Value) : Prop where
  cells : w.heap[b]? = some (.cells cs T (0, 0))
  ptr : cs[k]? = some pv
  buf : cs[k + 1]? = some bv
  used : pv = .pointer none ∨ pv = .pointer (some ⟨b, k, none⟩)
  own : w.ownsRow B U8 1 bv l.length (Lib.byteCells l)
  lies : liesAt Tryz.prog Tryz.prog.depth T (cs.size / Tryz.prog.cellsOf T) k BT 1 = true
  ne : T ≠ U8
theorem BAt.not_own {w : World} {T : TypeId} {b k B : Nat} {l : Bs} {pv bv : Value} {cs : Array Value} (h : BAt w T b k B l pv bv cs) : bv.ownBlock ≠ some b := Lib.ownBlock_ne h.own h.cells h.ne
theorem BAt.lt {w : World} {T : TypeId} {b k B : Nat} {l : Bs} {pv bv : Value} {cs : Array Value} (h : BAt w T b k B l pv bv cs) : b < w.heap.size := (Array.getElem?_eq_some_iff.1 h.cells).1

theorem copy_any (w : World) {T : TypeId} {b k B : Nat} {l : Bs} {pv bv : Value} {cs : Array Value} (h : BAt w T b k B l pv bv cs) :
    Calls Tryz.prog 180 #[.pointer (some ⟨b, k, none⟩)] w fun e w' => e = .returned (.tuple #[]) ∧ BAt w' T b k B l (.pointer (some ⟨b, k, none⟩)) bv (cs.setIfInBounds k (.pointer (some ⟨b, k, none⟩))) ∧ Kept [b] w w' := by
  have hk : k < cs.size := by
    have := (Array.getElem?_eq_some_iff.1 h.ptr).1
    exact this
  rcases h.used with rfl | rfl
  · refine (copy_fresh T b k cs.size w hk (cell_at h.cells h.ptr) (by simp [World.shape?, h.cells]) h.lies (frozen_at h.cells k)).mono ?_
    rintro e w' ⟨rfl, rfl⟩
    refine ⟨rfl, ⟨heap_set3 h.cells _, by simp [hk], by rw [Array.getElem?_setIfInBounds_ne (by omega)]; exact h.buf, .inr rfl, ?_, by simpa using h.lies, h.ne⟩, (Kept.refl _ _).setCell (.inl (by simp)) _⟩
    exact h.own.kept (row := some b) ⟨rfl, rfl, rfl, by simp [World.setCell], fun j _ hj => Below.heap_setCell _ _ _ _ (fun e => hj (by simp [e]))⟩ (Or.inr h.not_own)
  · refine (copy_used b k w (cell_at h.cells h.ptr)).mono ?_
    rintro e w' ⟨rfl, rfl⟩
    have he : cs.setIfInBounds k (.pointer (some ⟨b, k, none⟩)) = cs := by
      have := h.ptr
      apply Array.ext (by simp)
      intro i h1 h2
      rw [Array.getElem_setIfInBounds]
      split
      · rename_i e; subst e
        rw [Array.getElem?_eq_getElem hk] at this
        exact (Option.some.inj this).symm
      · rfl
    exact ⟨rfl, ⟨by rw [he]; exact h.cells, by simp [hk], by rw [Array.getElem?_setIfInBounds_ne (by omega)]; exact h.buf, .inr rfl, h.own, by simpa using h.lies, h.ne⟩, Kept.refl _ _⟩

theorem strCells_bs (s : ByteArray) : Lib.strCells s = Lib.byteCells (by8 s) := rfl
set_option maxHeartbeats 1000000 in
theorem WriteString_any (w : World) {T : TypeId} {b k B : Nat} {l : Bs} {pv bv : Value} {cs : Array Value} (h : BAt w T b k B l pv bv cs) (s : ByteArray) (hl : l.length + s.size ≤ 1000000000000) (hBw : B ≤ w.heap.size) :
    Calls Tryz.prog 123 #[.pointer (some ⟨b, k, none⟩), .string s] w fun e w' => e = .returned (.tuple #[.int .i64 s.size, .nilIface]) ∧
      ∃ bv', BAt w' T b k B (l ++ by8 s) (.pointer (some ⟨b, k, none⟩)) bv' ((cs.setIfInBounds k (.pointer (some ⟨b, k, none⟩))).setIfInBounds (k + 1) bv') ∧ Kept (b :: bv.ownBlock.toList) w w' := by
  obtain ⟨i0, hi, hz0, hz1, hz2⟩ := info_parts infoU
  have HC := Lib.hid (copy_any w h)
  have hk : k + 1 < cs.size := by
    have := (Array.getElem?_eq_some_iff.1 h.buf).1
    exact this
  clear h
  go_enter Tryz.func123, Tryz.ntmps123
  go_wp2_with (go_at_call 180; refine HC.out.mono ?_)
  rintro e w1 ⟨rfl, h1, hK1⟩
  have hno := h1.not_own
  have c0 : w1.cell? ⟨b, k, none⟩ = some (.pointer (some ⟨b, k, none⟩)) := cell_at h1.cells h1.ptr
  have c1 : w1.cell? ⟨b, k + 1, none⟩ = some bv := cell_at h1.cells h1.buf
  have hlt1 := h1.lt
  go_wp2_with (at_builtin; refine Lib.wpList_append_own_string _ rfl _ _ 22 9 rfl B U8 i0 Tryz.underlying22 Tryz.underlying9 hi hz0 hz1 hz2 _ _ _ rfl h1.own s rfl ?c3 ?c4 ?c5 ?_)
  case c3 => unfold maxLen; omega
  case c4 => omega
  case c5 => exact Nat.le_trans hBw hK1.size
  intro v' w2 hown' hgrow _
  have hb2 : w2.heap[b]? = some (.cells (cs.setIfInBounds k (.pointer (some ⟨b, k, none⟩))) T (0, 0)) := (hgrow.block b hlt1 (fun e => hno e.symm)).trans h1.cells
  have f1 : w2.frozen? ⟨b, k + 1, none⟩ = false := frozen_at hb2 _
  have d1 : w2.cell? ⟨b, k + 1, none⟩ = some bv := cell_at hb2 h1.buf
  have hlt2 : b < w2.heap.size := Nat.lt_of_lt_of_le hlt1 hgrow.size
  obtain ⟨ao, n', rfl⟩ := owns_slice hown'
  go_wp2
  go_ret2
  rw [strCells_bs] at hown'
  have hlen : (l ++ by8 s).length = l.length + s.size := by rw [List.length_append, by8_len]
  have hcells : Lib.byteCells (l ++ by8 s) = Lib.byteCells l ++ Lib.byteCells (by8 s) := by simp [Lib.byteCells]
  have hne' : (Value.slice ao (l.length + s.size) n').ownBlock ≠ some b := Lib.ownBlock_ne hown' hb2 h1.ne
  refine ⟨rfl, _, ⟨heap_set3 hb2 _, ?_, by simp [hk], .inr rfl, ?_, by simpa using h1.lies, h1.ne⟩, ?_⟩
  · rw [Array.getElem?_setIfInBounds_ne (by omega)]; exact h1.ptr
  · rw [hlen, hcells]
    exact hown'.kept (row := some b) ⟨rfl, rfl, rfl, by simp [World.setCell], fun j _ hj => Below.heap_setCell _ _ _ _ (fun e => hj (by simp [e]))⟩ (Or.inr hne')
  · refine ((hK1.mono (Y := b :: bv.ownBlock.toList) (fun i hi => by simp at hi; simp [hi])).grown hgrow (fun r hr => .inl (by simp [hr]))).setCell (.inl (by simp)) _

abbrev pU8 : TypeId := 241
theorem cellsU : Tryz.prog.cellsOf U8 = 1 := by kernel_rfl
theorem kept_freeze {X : List Nat} {a w : World} (h : Kept X a w) {p : Addr} (hp : p.block ∈ X) (n : Nat) : Kept X a (w.freeze p n) := by
  refine h.trans ?_
  unfold World.freeze
  split
  · exact Kept.refl X w
  · exact ⟨rfl, rfl, rfl, by simp, fun k hk hx => by
      simp only [Array.getElem?_modify]
      rw [if_neg (fun e => by subst e; exact hx hp)]⟩

set_option maxHeartbeats 1000000 in
theorem String_some (w : World) {b k B : Nat} (l : Bs) (g cap : Nat) (cur : Array Value) (h0 : l ≠ []) (c0 : w.cell? ⟨b, k + 1, none⟩ = some (.slice (some ⟨g, 0, none⟩) l.length cap)) (hg : w.heap[g]? = some (.cells cur U8 (0, 0)))
    (hown : w.ownsRow B U8 1 (.slice (some ⟨g, 0, none⟩) l.length cap) l.length (Lib.byteCells l)) (hn : l.length ≤ cap) (hc : cap ≤ maxLen) (hs : cur.size = cap * 1) :
    Calls Tryz.prog 106 #[.pointer (some ⟨b, k, none⟩)] w fun e w' => e = .returned (.string (str l)) ∧ Kept [g] w w' := by
  have hl0 : l.length ≠ 0 := by simpa using h0
  have c1 : w.drew.cell? ⟨b, k + 1, none⟩ = some (.slice (some ⟨g, 0, none⟩) l.length cap) := c0
  have hSD : (Builtin.unsafeSliceData_ #[22] pU8 #[.slice (some ⟨g, 0, none⟩) l.length cap]).run Tryz.prog w.drew = .ok (.pointer (some ⟨g, 0, none⟩)) w.drew :=
    Lib.run_unsafeSliceData_row _ _ _ _ _ _ (by omega)
  have hUS : (Builtin.unsafeString_ #[pU8, 3] 9 #[.pointer (some ⟨g, 0, none⟩), .int .i64 l.length]).run Tryz.prog w.drew = .ok (.string (str l)) (w.drew.freeze ⟨g, 0, none⟩ l.length) := by
    refine Lib.run_unsafeString_row w.drew pU8 3 9 U8 Tryz.underlying241 cellsU g cur.size (by have hg' : w.drew.heap[g]? = some (.cells cur U8 (0, 0)) := hg; simp [World.shape?, hg']) l h0 (by omega) (by unfold maxLen at hc; omega) ?_
    intro j x hx
    exact hown.cells (g := g) rfl j (.int .u8 x.toNat) (by simp [Lib.byteCells, hx])
  clear hown
  go_enter Tryz.func106, Tryz.ntmps106
  go_wp2
  go_region
  all_goals (go_wp2; go_ret; exact ⟨rfl, kept_freeze ((Kept.refl _ w).drewN 1) (p := ⟨g, 0, none⟩) (by simp) _⟩)

theorem String_nil (w : World) {b k : Nat} (c0 : w.cell? ⟨b, k + 1, none⟩ = some (.slice none 0 0)) :
    Calls Tryz.prog 106 #[.pointer (some ⟨b, k, none⟩)] w fun e w' => e = .returned (.string ⟨#[]⟩) ∧ Kept [] w w' := by
  have c1 : w.drew.cell? ⟨b, k + 1, none⟩ = some (.slice none 0 0) := c0
  have hUS : ∀ (W : World) (q : Option Addr), (Builtin.unsafeString_ #[pU8, 3] 9 #[.pointer q, .int .i64 0]).run Tryz.prog W = .ok (.string .empty) W := fun W q => Lib.run_unsafeString_none W _ _ _ q
  have hSD : (Builtin.unsafeSliceData_ #[22] pU8 #[.slice none 0 0]).run Tryz.prog w.drew = .ok (.pointer none) w.drew := rfl
  go_enter Tryz.func106, Tryz.ntmps106
  go_wp2
  go_region
  all_goals (go_wp2; go_ret; exact ⟨rfl, (Kept.refl _ w).drewN 1⟩)
theorem String_room (w : World) {b k : Nat} (g cap : Nat) (hc0 : cap ≠ 0) (c0 : w.cell? ⟨b, k + 1, none⟩ = some (.slice (some ⟨g, 0, none⟩) 0 cap)) :
    Calls Tryz.prog 106 #[.pointer (some ⟨b, k, none⟩)] w fun e w' => e = .returned (.string ⟨#[]⟩) ∧ Kept [] w w' := by
  have c1 : w.drew.cell? ⟨b, k + 1, none⟩ = some (.slice (some ⟨g, 0, none⟩) 0 cap) := c0
  have hUS : ∀ (W : World) (q : Option Addr), (Builtin.unsafeString_ #[pU8, 3] 9 #[.pointer q, .int .i64 0]).run Tryz.prog W = .ok (.string .empty) W := fun W q => Lib.run_unsafeString_none W _ _ _ q
  have hSD : (Builtin.unsafeSliceData_ #[22] pU8 #[.slice (some ⟨g, 0, none⟩) 0 cap]).run Tryz.prog w.drew = .ok (.pointer (some ⟨g, 0, none⟩)) w.drew := Lib.run_unsafeSliceData_row _ _ _ _ _ _ hc0
  clear hc0
  go_enter Tryz.func106, Tryz.ntmps106
  go_wp2
  go_region
  all_goals (go_wp2; go_ret; exact ⟨rfl, (Kept.refl _ w).drewN 1⟩)
theorem String_noroom (w : World) {b k : Nat} (g : Nat) (cur : Array Value) (hb : b < w.heap.size) (hg : w.heap[g]? = some (.cells cur U8 (0, 0))) (c0 : w.cell? ⟨b, k + 1, none⟩ = some (.slice (some ⟨g, 0, none⟩) 0 0)) :
    Calls Tryz.prog 106 #[.pointer (some ⟨b, k, none⟩)] w fun e w' => e = .returned (.string ⟨#[]⟩) ∧ Kept [] w w' := by
  have c1 : w.drew.cell? ⟨b, k + 1, none⟩ = some (.slice (some ⟨g, 0, none⟩) 0 0) := c0
  have hUS : ∀ (W : World) (q : Option Addr), (Builtin.unsafeString_ #[pU8, 3] 9 #[.pointer q, .int .i64 0]).run Tryz.prog W = .ok (.string .empty) W := fun W q => Lib.run_unsafeString_none W _ _ _ q
  have hSD : (Builtin.unsafeSliceData_ #[22] pU8 #[.slice (some ⟨g, 0, none⟩) 0 0]).run Tryz.prog w.drew = .ok (.pointer (some ⟨w.drew.heap.size, 0, none⟩)) (w.drew.alloc (.view ⟨g, 0, none⟩ U8)) :=
    Lib.run_unsafeSliceData_zero w.drew _ _ U8 Tryz.underlying241 ⟨g, 0, none⟩ 0 (U8, cur.size) (by have hg' : w.drew.heap[g]? = some (.cells cur U8 (0, 0)) := hg; simp [World.shape?, hg'])
  have c2 : (w.drew.alloc (.view ⟨g, 0, none⟩ U8)).cell? ⟨b, k + 1, none⟩ = some (.slice (some ⟨g, 0, none⟩) 0 0) := (((Below.refl _ w).alloc (Nat.le_refl _) (.view ⟨g, 0, none⟩ U8)).cell (p := ⟨b, k + 1, none⟩) hb).trans c0
  have c3 : (w.alloc (.view ⟨g, 0, none⟩ U8)).drew.cell? ⟨b, k + 1, none⟩ = some (.slice (some ⟨g, 0, none⟩) 0 0) := c2
  go_enter Tryz.func106, Tryz.ntmps106
  go_wp2
  go_region
  all_goals (go_wp2; go_ret; exact ⟨rfl, ((Kept.refl _ w).drewN 1).alloc _⟩)

theorem String_any (w : World) {T : TypeId} {b k B : Nat} {l : Bs} {pv bv : Value} {cs : Array Value} (h : BAt w T b k B l pv bv cs) :
    Calls Tryz.prog 106 #[.pointer (some ⟨b, k, none⟩)] w fun e w' => e = .returned (.string (str l)) ∧ Kept bv.ownBlock.toList w w' := by
  have c1 : w.cell? ⟨b, k + 1, none⟩ = some bv := cell_at h.cells h.buf
  have hown := h.own
  by_cases h0 : l = []
  · subst h0
    rcases hown.2 with ⟨rfl, _⟩ | ⟨g, cap, cur, rfl, hbg, hg, _, _, _, _⟩
    · exact String_nil w c1
    · by_cases hc0 : cap = 0
      · subst hc0
        refine (String_noroom w g cur h.lt hg c1).mono ?_
        rintro e w' ⟨rfl, hK⟩
        exact ⟨rfl, hK.mono (by simp)⟩
      · refine (String_room w g cap hc0 c1).mono ?_
        rintro e w' ⟨rfl, hK⟩
        exact ⟨rfl, hK.mono (by simp)⟩
  · rcases hown.2 with ⟨_, hz⟩ | ⟨g, cap, cur, rfl, hbg, hg, hn, hc, hs, _⟩
    · exact absurd (List.eq_nil_of_length_eq_zero hz) h0
    · exact String_some w l g cap cur h0 c1 hg hown hn hc hs
end Go.Proofs.YtgednccpjegbmaaGreatDoor.Iw
