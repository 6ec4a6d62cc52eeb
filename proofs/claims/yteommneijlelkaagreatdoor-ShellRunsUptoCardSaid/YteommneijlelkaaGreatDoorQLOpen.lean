/-
  Package lex as plain functions on bytes: a line's tokens, and tokens as a line. No program here.
  Strings as lists of bytes; small laws that the walks of package lex use.
  Tokens as cells.
  Marks: the plain side.
  lex.word: the word as far as it is read, in the heap; what its methods do.
-/
import Derived.Lib.Walk
import Derived.WalkKit
import Derived.LoopTactic
import Derived.WalkSpells
import Derived.WalkLawsBesides
import Derived.Lib.Hide
import Derived.Lib.Bytealg
import Derived.Lib.PathFns
import Derived.Outline
import Derived.Deep.DeepMust
import Derived.Deep.QuietTactic
import Derived.Deep.WholeRow
import Derived.Lib.AsciiSet
import Derived.Laws.ResultCell
import Derived.BigQuiet
import Derived.WalkSmall
import Derived.IntWalk
import Derived.Maps.AppendAt
import Derived.Laws.IdiomStrings
import Derived.Lib.AppendStr
import Derived.Test.YteommneijlelkaaGreatDoorProg
import Derived.Test.YteommneijlelkaaGreatDoorShelf
namespace Go.Proofs.YteommneijlelkaaGreatDoor.Lp
abbrev Bs := List UInt8
/-- A token: its kind, its text. -/
structure T where
  k : Nat
  t : Bs
deriving DecidableEq

def blankB (c : UInt8) : Bool := c == 32 || (c == 9 || c == 10)
def endB (c : UInt8) : Bool := blankB c || (c == 59 || (c == 38 || (c == 124 || (c == 60 || c == 62))))
def specB (c : UInt8) : Bool := endB c || (c == 39 || (c == 34 || c == 92))
/-- The text of a mark. -/
def markT : Nat → Bs
  | 1 => [59]
  | 2 => [38, 38]
  | 3 => [124, 124]
  | 4 => [62]
  | 5 => [62, 62]
  | 6 => [60]
  | _ => []
/-- The kind of the longest mark with which a line begins; 0: none. -/
def markA : Bs → Nat
  | 59 :: _ => 1
  | 38 :: 38 :: _ => 2
  | 124 :: 124 :: _ => 3
  | 62 :: 62 :: _ => 5
  | 62 :: _ => 4
  | 60 :: _ => 6
  | _ => 0
/-- The kind of the longest one of the first marks with which a line begins. -/
def bestA : Nat → Bs → Nat
  | 0, _ => 0
  | k + 1, s => if (markT (k + 1)).isPrefixOf s = true ∧ (markT (bestA k s)).length < (markT (k + 1)).length then k + 1 else bestA k s
theorem best_le (k : Nat) (s : Bs) : bestA k s ≤ k := by
  induction k with
  | zero => exact Nat.le_refl _
  | succ k ih => unfold bestA; split <;> omega
theorem best_mark (s : Bs) : bestA 6 s = markA s := by
  match s with
  | [] => rfl
  | [c] =>
    by_cases h1 : c = 59
    · subst h1; rfl
    · by_cases h2 : c = 62
      · subst h2; rfl
      · by_cases h3 : c = 60
        · subst h3; rfl
        · have e : markA [c] = 0 := by
            unfold markA
            split <;> simp_all
          rw [e]
          have h1' : ¬ 59 = c := fun e => h1 e.symm
          have h2' : ¬ 62 = c := fun e => h2 e.symm
          have h3' : ¬ 60 = c := fun e => h3 e.symm
          simp [bestA, markT, h1', h2', h3']
  | c :: d :: r =>
    by_cases h1 : c = 59
    · subst h1; simp [bestA, markT, markA]
    · by_cases h2 : c = 62
      · subst h2
        by_cases hd : d = 62
        · subst hd; simp [bestA, markT, markA]
        · have hd' : ¬ 62 = d := fun e => hd e.symm
          simp [bestA, markT, hd']
          unfold markA
          split <;> simp_all
      · by_cases h3 : c = 60
        · subst h3; simp [bestA, markT, markA]
        · have h1' : ¬ 59 = c := fun e => h1 e.symm
          have h2' : ¬ 62 = c := fun e => h2 e.symm
          have h3' : ¬ 60 = c := fun e => h3 e.symm
          by_cases h4 : c = 38
          · subst h4
            by_cases hd : d = 38
            · subst hd; simp [bestA, markT, markA]
            · have hd' : ¬ 38 = d := fun e => hd e.symm
              simp [bestA, markT, hd']
              unfold markA
              split <;> simp_all
          · by_cases h5 : c = 124
            · subst h5
              by_cases hd : d = 124
              · subst hd; simp [bestA, markT, markA]
              · have hd' : ¬ 124 = d := fun e => hd e.symm
                simp [bestA, markT, hd']
                unfold markA
                split <;> simp_all
            · have h4' : ¬ 38 = c := fun e => h4 e.symm
              have h5' : ¬ 124 = c := fun e => h5 e.symm
              simp [bestA, markT, h1', h2', h3', h4', h5']
              unfold markA
              split <;> simp_all
def skipA (s : Bs) : Bs := s.dropWhile blankB

/-- A word as far as it is read: the open quote or 0, whether a backslash stands before, the text. -/
structure W where
  q : UInt8
  e : Bool
  t : Bs
def W.open (w : W) : Bool := w.q != 0 || w.e
def takeA (w : W) (c : UInt8) : W :=
  if w.e = true then ⟨w.q, false, w.t ++ (if w.q ≠ 0 ∧ c ≠ 34 ∧ c ≠ 92 then [92, c] else [c])⟩
  else if c = 92 ∧ w.q ≠ 39 then ⟨w.q, true, w.t⟩
  else if c = 39 ∨ c = 34 then
    (if w.q = 0 then ⟨c, false, w.t⟩ else if w.q = c then ⟨0, false, w.t⟩ else ⟨w.q, false, w.t ++ [c]⟩)
  else ⟨w.q, false, w.t ++ [c]⟩
/-- The word that is being read, and what follows it. -/
def wordA (w : W) : Bs → Option (Bs × Bs)
  | [] => if w.open = true then none else some (w.t, [])
  | c :: r => if w.open = false ∧ endB c = true then some (w.t, c :: r) else wordA (takeA w c) r
def word0 : W := ⟨0, false, []⟩
def firstA (s : Bs) : Option (T × Bs) :=
  if markA s ≠ 0 then some (⟨markA s, []⟩, s.drop (markT (markA s)).length)
  else match s with
    | [] => none
    | c :: r => if endB c = true then none else (wordA word0 (c :: r)).map fun p => (⟨0, p.1⟩, p.2)
def tokF : Nat → Bs → Option (List T)
  | 0, _ => some []
  | n + 1, s => if skipA s = [] then some [] else
    match firstA (skipA s) with
    | none => none
    | some p => (tokF n p.2).map (p.1 :: ·)
def tokA (s : Bs) : Option (List T) := tokF s.length s

theorem skip_len (s : Bs) : (skipA s).length ≤ s.length := (List.dropWhile_suffix _).length_le
theorem skip_skip (s : Bs) : skipA (skipA s) = skipA s := by
  unfold skipA
  induction s with
  | nil => rfl
  | cons c r ih => by_cases h : blankB c = true <;> simp [h, ih]
theorem word_len {w : W} {s : Bs} {p : Bs × Bs} (h : wordA w s = some p) : p.2.length ≤ s.length := by
  induction s generalizing w with
  | nil =>
    unfold wordA at h
    split at h
    · cases h
    · cases h; exact Nat.le_refl _
  | cons c r ih =>
    unfold wordA at h
    split at h
    · cases h; exact Nat.le_refl _
    · exact Nat.le_trans (ih h) (Nat.le_succ _)
theorem mark_pos {s : Bs} (h : markA s ≠ 0) : 1 ≤ (markT (markA s)).length ∧ (markT (markA s)).length ≤ s.length ∧ s ≠ [] := by
  unfold markA at *
  split at h <;> simp_all [markT]
theorem word_less {c : UInt8} {r : Bs} {p : Bs × Bs} (hc : endB c = false) (h : wordA word0 (c :: r) = some p) : p.2.length ≤ r.length := by
  unfold wordA at h
  rw [if_neg (by rintro ⟨_, h⟩; rw [hc] at h; cases h)] at h
  exact word_len h
theorem first_len {s : Bs} {p : T × Bs} (h : firstA s = some p) : p.2.length < s.length := by
  unfold firstA at h
  split at h
  · rename_i hm
    have := mark_pos hm
    cases h
    rw [List.length_drop]; omega
  · split at h
    · cases h
    · split at h
      · cases h
      · rename_i hc
        cases hw : wordA word0 (_ :: _) with
        | none => rw [hw] at h; cases h
        | some q =>
          rw [hw] at h; cases h
          have := word_less (by simpa using hc) hw
          simp; omega
theorem tok_fuel : ∀ {n m : Nat} {s : Bs}, s.length ≤ n → s.length ≤ m → tokF n s = tokF m s
  | 0, 0, _, _, _ => rfl
  | 0, m + 1, s, h, _ => by
    obtain rfl : s = [] := List.length_eq_zero_iff.1 (by omega)
    rfl
  | n + 1, 0, s, _, h => by
    obtain rfl : s = [] := List.length_eq_zero_iff.1 (by omega)
    rfl
  | n + 1, m + 1, s, h, h' => by
    unfold tokF
    split
    · rfl
    · cases hf : firstA (skipA s) with
      | none => rfl
      | some p =>
        have := first_len hf
        have := skip_len s
        show (tokF n p.2).map _ = (tokF m p.2).map _
        rw [tok_fuel (n := n) (m := m) (by omega) (by omega)]
theorem tok_eq (s : Bs) : tokA s = if skipA s = [] then some [] else
    match firstA (skipA s) with
    | none => none
    | some p => (tokA p.2).map (p.1 :: ·) := by
  cases s with
  | nil => rfl
  | cons c r =>
    show tokF (r.length + 1) (c :: r) = _
    unfold tokF
    split
    · rfl
    · cases hf : firstA (skipA (c :: r)) with
      | none => rfl
      | some p =>
        have h1 := first_len hf
        have h2 := skip_len (c :: r)
        simp only [List.length_cons] at h2
        show (tokF r.length p.2).map _ = (tokF _ p.2).map _
        rw [tok_fuel (n := r.length) (m := p.2.length) (by omega) (Nat.le_refl _)]
theorem tok_skip (s : Bs) : tokA (skipA s) = tokA s := by rw [tok_eq, tok_eq s, skip_skip]
theorem tok_bad {s : Bs} (h : skipA s ≠ []) (hf : firstA (skipA s) = none) : tokA s = none := by rw [tok_eq, if_neg h, hf]
theorem tok_good {s : Bs} {t : T} {r : Bs} (h : skipA s ≠ []) (hf : firstA (skipA s) = some (t, r)) : tokA s = (tokA r).map (t :: ·) := by rw [tok_eq, if_neg h, hf]
theorem word_sum : ∀ {s : Bs} {w : W} {p : Bs × Bs}, wordA w s = some p → p.1.length + p.2.length ≤ w.t.length + (if w.e = true then 1 else 0) + s.length
  | [], w, p, h => by
    unfold wordA at h
    split at h
    · cases h
    · cases h; simp
  | c :: r, w, p, h => by
    unfold wordA at h
    split at h
    · cases h; simp
    · have := word_sum h
      have h2 : (takeA w c).t.length + (if (takeA w c).e = true then 1 else 0) ≤ w.t.length + (if w.e = true then 1 else 0) + 1 := by
        unfold takeA
        split
        · rename_i he
          split <;> simp
        · rename_i he
          split
          · simp
          · split
            · split
              · simp
              · split <;> simp
            · simp
      simp only [List.length_cons]
      omega
theorem first_sum {s : Bs} {p : T × Bs} (h : firstA s = some p) : p.1.t.length + p.2.length ≤ s.length := by
  unfold firstA at h
  split at h
  · cases h; simp
  · split at h
    · cases h
    · split at h
      · cases h
      · cases hw : wordA word0 (_ :: _) with
        | none => rw [hw] at h; cases h
        | some q =>
          rw [hw] at h; cases h
          have := word_sum hw
          simpa [word0] using this
def sumT (l : List T) : Nat := (l.map (·.t.length)).sum
theorem tokF_len : ∀ {n : Nat} {s : Bs} {l : List T}, tokF n s = some l → l.length ≤ s.length ∧ sumT l ≤ s.length
  | 0, s, l, h => by cases h; exact ⟨Nat.zero_le _, Nat.zero_le _⟩
  | n + 1, s, l, h => by
    unfold tokF at h
    split at h
    · cases h; exact ⟨Nat.zero_le _, Nat.zero_le _⟩
    · cases hf : firstA (skipA s) with
      | none => rw [hf] at h; cases h
      | some p =>
        rw [hf] at h
        replace h : (tokF n p.2).map (p.1 :: ·) = some l := h
        cases ht : tokF n p.2 with
        | none => rw [ht] at h; cases h
        | some m =>
          rw [ht] at h; cases h
          have h1 := tokF_len ht
          have h2 := first_len hf
          have h3 := first_sum hf
          have h4 := skip_len s
          refine ⟨by simp; omega, ?_⟩
          show p.1.t.length + sumT m ≤ s.length
          omega
theorem tok_len {s : Bs} {l : List T} (h : tokA s = some l) : l.length ≤ s.length ∧ sumT l ≤ s.length := tokF_len h

/-! Tokens as a line. -/
def replA (s : Bs) : Bs := s.flatMap fun c => if c = 39 then [39, 92, 39, 39] else [c]
def plainB (s : Bs) : Bool := s.all fun c => !specB c
def quoteA (s : Bs) : Bs := if s ≠ [] ∧ plainB s = true then s else 39 :: replA s ++ [39]
def showT (x : T) : Bs := if 1 ≤ x.k ∧ x.k ≤ 6 then markT x.k else quoteA x.t
def showA : List T → Bs
  | [] => []
  | [x] => showT x
  | x :: y :: r => showT x ++ 32 :: showA (y :: r)

/-- What can follow a token. -/
def After (R : Bs) : Prop := R = [] ∨ ∃ r, R = 32 :: r
/-- A token that was read, or may be read. -/
def Fit (x : T) : Prop := x.k ≤ 6 ∧ (x.k ≠ 0 → x.t = [])
theorem mark_le (s : Bs) : markA s ≤ 6 := by unfold markA; split <;> simp
theorem first_fit {s : Bs} {p : T × Bs} (h : firstA s = some p) : Fit p.1 := by
  unfold firstA at h
  split at h
  · cases h; exact ⟨mark_le s, fun _ => rfl⟩
  · split at h
    · cases h
    · split at h
      · cases h
      · cases hw : wordA word0 (_ :: _) with
        | none => rw [hw] at h; cases h
        | some q => rw [hw] at h; cases h; exact ⟨Nat.zero_le _, fun h => absurd rfl h⟩
theorem tok_fit : ∀ {n : Nat} {s : Bs} {l : List T}, tokF n s = some l → ∀ x ∈ l, Fit x
  | 0, s, l, h, x, hx => by cases h; cases hx
  | n + 1, s, l, h, x, hx => by
    unfold tokF at h
    split at h
    · cases h; cases hx
    · cases hf : firstA (skipA s) with
      | none => rw [hf] at h; cases h
      | some p =>
        rw [hf] at h
        replace h : (tokF n p.2).map (p.1 :: ·) = some l := h
        cases ht : tokF n p.2 with
        | none => rw [ht] at h; cases h
        | some m =>
          rw [ht] at h; cases h
          rcases List.mem_cons.1 hx with rfl | hx
          · exact first_fit hf
          · exact tok_fit ht x hx
theorem sum_mem {l : List T} {x : T} (h : x ∈ l) : x.t.length ≤ sumT l := by
  induction l with
  | nil => cases h
  | cons y r ih =>
    show _ ≤ y.t.length + sumT r
    rcases List.mem_cons.1 h with rfl | h
    · omega
    · have := ih h; omega

/-! The reference's way through a line. -/
/-- What is still to come, in a word. -/
def contA (w : W) (r : Bs) : Option (List T) :=
  match wordA w r with
  | none => none
  | some p => (tokA p.2).map (⟨0, p.1⟩ :: ·)
/-- What is still to come: 0 between words, 1 in a word, 2 in single quotes, 3 in double ones. -/
def stA : Nat → Bs → Bs → Option (List T)
  | 0, _, r => tokA r
  | 1, t, r => contA ⟨0, false, t⟩ r
  | 2, t, r => contA ⟨39, false, t⟩ r
  | _, t, r => contA ⟨34, false, t⟩ r
end Go.Proofs.YteommneijlelkaaGreatDoor.Lp
namespace Go.Proofs.YteommneijlelkaaGreatDoor.Lx
open Go.RowKit Go.Proofs.YteommneijlelkaaGreatDoor
set_option maxRecDepth 100000

abbrev Bs := List UInt8
def by8 (s : ByteArray) : Bs := s.data.toList
theorem by8_len (s : ByteArray) : (by8 s).length = s.size := (Lib.size_eq s).symm
theorem by8_drop (s : ByteArray) (n : Nat) : by8 (s.extract n s.size) = (by8 s).drop n := Lib.extract_to_end s n
theorem by8_take (s : ByteArray) (n : Nat) : by8 (s.extract 0 n) = (by8 s).take n := Lib.extract_from_zero s n
theorem by8_get {s : ByteArray} {k : Nat} (h : k < s.size) : (by8 s)[k]? = some s[k] := Lib.Pa.at_eq s k h
theorem by8_at {s : ByteArray} {k : Nat} (h : k < s.size) : (by8 s).drop k = s[k] :: (by8 s).drop (k + 1) := by
  have hl : k < (by8 s).length := by rw [by8_len]; exact h
  rw [List.drop_eq_getElem_cons hl]
  rfl
theorem by8_nil {s : ByteArray} (h : s.size = 0) : by8 s = [] := List.length_eq_zero_iff.1 (by rw [by8_len]; exact h)
theorem by8_ext {a b : ByteArray} (h : by8 a = by8 b) : a = b := by
  have : a.data = b.data := Array.toList_inj.1 h
  cases a; cases b; simp at this; subst this; rfl
theorem by8_snoc {s : ByteArray} {k : Nat} (h : k < s.size) : (by8 s).take (k + 1) = (by8 s).take k ++ [s[k]] := by
  have hl : k < (by8 s).length := by rw [by8_len]; exact h
  rw [List.take_succ_eq_append_getElem hl]
  rfl
theorem ret_bool {a b : Bool} (h : a = b) : Ending.returned (.bool a) = .returned (.bool b) := by rw [h]
theorem ret_int {a b : Int} (h : a = b) : Ending.returned (.int .i64 a) = .returned (.int .i64 b) := by rw [h]
theorem below_drewN {B : Nat} {a w : World} (h : Below B a w) (n : Nat) : Below B a (w.drewN n) := ⟨h.os, h.tape, h.output, h.size, h.block⟩
theorem eq_true {a b : UInt8} (h : a = b) : (((a.toNat : Nat) : Int) == ((b.toNat : Nat) : Int)) = true := by rw [h]; exact beq_self_eq_true _
theorem eq_false {a b : UInt8} (h : ¬ a = b) : (((a.toNat : Nat) : Int) == ((b.toNat : Nat) : Int)) = false := by
  rw [beq_eq_false_iff_ne]; intro e; exact h (UInt8.toNat_inj.1 (by omega))
theorem owns_slice {w : World} {base : Nat} {e : TypeId} {size : Nat} {v : Value} {n : Nat} {xs : List Value} (h : w.ownsRow base e size v n xs) : ∃ a c, v = .slice a n c := by
  rcases h.2 with ⟨rfl, rfl⟩ | ⟨g, cap, cur, rfl, _⟩
  · exact ⟨_, _, rfl⟩
  · exact ⟨_, _, rfl⟩
/-- A beginning of a row is owned as the row is. -/
theorem owns_take {w : World} {base : Nat} {e : TypeId} {a : Option Addr} {n c : Nat} {xs : List Value} (h : w.ownsRow base e 1 (.slice a n c) n xs) {m : Nat} (hm : m ≤ n) (ha : a ≠ none) : w.ownsRow base e 1 (.slice a m c) m (xs.take m) := by
  obtain ⟨hl, h⟩ := h
  rcases h with ⟨h, _⟩ | ⟨g, cap, cur, h, hb, hg, hn, hc, hs, ht⟩
  · cases h; exact absurd rfl ha
  · cases h
    refine ⟨by rw [List.length_take]; omega, .inr ⟨g, c, cur, rfl, hb, hg, by omega, hc, hs, ?_⟩⟩
    rw [← ht, List.take_take]
    congr 1; omega
theorem owns_addr {w : World} {base : Nat} {e : TypeId} {a : Option Addr} {n c : Nat} {xs : List Value} (h : w.ownsRow base e 1 (.slice a n c) n xs) (hn : 0 < n) : ∃ g, a = some ⟨g, 0, none⟩ ∧ n ≤ c := by
  rcases h.2 with ⟨h, h0⟩ | ⟨g, cap, cur, h, hb, hg, hn, hc, hs, ht⟩
  · omega
  · cases h; exact ⟨g, rfl, hn⟩
theorem owns_cell {w : World} {base : Nat} {e : TypeId} {g n c : Nat} {xs : List Value} (h : w.ownsRow base e 1 (.slice (some ⟨g, 0, none⟩) n c) n xs) {j : Nat} {u : Value} (hj : xs[j]? = some u) : w.cell? ⟨g, j, none⟩ = some u := by
  have := h.cells (g := g) rfl j u hj
  simpa [Addr.add_lit] using this
theorem bcell {W w1 : World} (hb : Below W.heap.size W w1) : (∀ b o, b < W.heap.size → w1.cell? ⟨b, o, none⟩ = W.cell? ⟨b, o, none⟩) ∧ (∀ b o, b < W.heap.size → w1.frozen? ⟨b, o, none⟩ = W.frozen? ⟨b, o, none⟩) :=
  ⟨fun b o h => hb.cell (p := ⟨b, o, none⟩) h, fun b o h => hb.frozen (p := ⟨b, o, none⟩) h⟩
theorem below_setRow {B : Nat} {a w : World} (h : Below B a w) {g : Nat} (hg : B ≤ g) (cs : Array Value) : Below B a (w.setRow g cs) :=
  ⟨h.os, h.tape, h.output, by rw [setRow_size]; exact h.size, fun b hb => by rw [setRow_other _ _ _ _ (by omega)]; exact h.block b hb⟩
abbrev U8 : TypeId := 5
theorem infoU : (Tryz.prog.info? U8).map (fun i => (i.zero, i.size, i.bytes)) = some (some (.int .u8 0), 1, 1) := by kernel_rfl
def bytesC (l : List UInt8) : List Value := l.map fun b => Value.int .u8 (b.toNat : Int)
theorem bytesC_app (a b : List UInt8) : bytesC (a ++ b) = bytesC a ++ bytesC b := by simp [bytesC]
theorem one_new (wr : World) (x : Value) (T : TypeId) : ∀ (j : Nat) (u : Value), [x][j]? = some u → (wr.alloc (.cells #[x] T)).cell? ((⟨wr.heap.size, 0, none⟩ : Addr).add j) = some u := by
  intro j u hj
  rw [Addr.add_lit, World.cell?_alloc_at _ _ _ _ (by simp)]
  match j, hj with
  | 0, hj => simpa using hj
theorem cell_at {w : World} {n i : Nat} {cs : Array Value} {T : TypeId} {v : Value} (h : w.heap[n]? = some (.cells cs T (0, 0))) (hv : cs[i]? = some v) : w.cell? ⟨n, i, none⟩ = some v := by simp [World.cell?, h, hv]
theorem frozen_at {w : World} {n : Nat} {cs : Array Value} {T : TypeId} (h : w.heap[n]? = some (.cells cs T (0, 0))) (i : Nat) : w.frozen? ⟨n, i, none⟩ = false := by simp [World.frozen?, h]
theorem heap_new (w : World) (o : Obj) {n : Nat} (h : w.heap.size = n) : (w.alloc o).heap[n]? = some o := by subst h; exact Array.getElem?_push_size
theorem heap_set3 {w : World} {b i : Nat} {cs : Array Value} {T : TypeId} (h : w.heap[b]? = some (.cells cs T (0, 0))) (v : Value) : (w.setCell ⟨b, i, none⟩ v).heap[b]? = some (.cells (cs.setIfInBounds i v) T (0, 0)) := by
  have hb : b < w.heap.size := (Array.getElem?_eq_some_iff.1 h).1
  have hb' : w.heap[b] = .cells cs T (0, 0) := by have := Array.getElem?_eq_getElem hb; rw [h] at this; exact (Option.some.inj this).symm
  simp [World.setCell, Array.getElem?_modify, h]
theorem owns_kept_cell {w : World} {base : Nat} {e : TypeId} {size : Nat} {v : Value} {m : Nat} {xs : List Value} (h : w.ownsRow base e size v m xs) {a : Nat} (ha : a < base) (i : Nat) (u : Value) : (w.setCell ⟨a, i, none⟩ u).ownsRow base e size v m xs := by
  have hg : w.grownBy (w.setCell ⟨a, i, none⟩ u) (some a) := ⟨rfl, rfl, rfl, by simp [World.setCell], fun k _ hk => heap_setCell_other w ⟨a, i, none⟩ k u (fun e => hk (by rw [e]))⟩
  refine h.kept hg ?_
  rcases hb : v.ownBlock with _ | g
  · exact .inl rfl
  · refine .inr fun e => ?_
    cases e
    have := (h.lt _ hb).1
    omega
theorem owns_below {wr w3 : World} {base : Nat} {e : TypeId} {z : Nat} {v : Value} {n : Nat} {xs : List Value} (h : wr.ownsRow base e z v n xs) (B : Below wr.heap.size wr w3) : w3.ownsRow base e z v n xs := by
  refine ⟨h.1, ?_⟩
  rcases h.2 with h | ⟨g, cap, cur, h1, h2, h3, h4⟩
  · exact .inl h
  · exact .inr ⟨g, cap, cur, h1, h2, (B.block g (Array.getElem?_eq_some_iff.1 h3).1).trans h3, h4⟩
/-- A list of bytes as a string. -/
def str (l : Bs) : ByteArray := ⟨l.toArray⟩
theorem by8_str (l : Bs) : by8 (str l) = l := by simp [by8, str]
theorem str_by8 (s : ByteArray) : str (by8 s) = s := by8_ext (by8_str _)
theorem str_size (l : Bs) : (str l).size = l.length := by rw [← by8_len, by8_str]
theorem convert_row {w : World} {B : Nat} {a : Option Addr} {q : Bs} {c : Nat} (hrow : w.ownsRow B U8 1 (.slice a q.length c) q.length (bytesC q)) :
    (convert 84 9 (.slice a q.length c)).run Tryz.prog w = .ok (.string (str q)) w := by
  by_cases h0 : 0 < q.length
  · obtain ⟨g, rfl, _⟩ := owns_addr hrow h0
    exact run_convert_bytes_back (P := Tryz.prog) w 84 9 5 ⟨g, 0, none⟩ c q Tryz.underlying84 Tryz.underlying5 Tryz.underlying9
          (fun j hj => by
            have := owns_cell hrow (j := j) (u := .int .u8 (q[j].toNat : Int)) (by simp [bytesC, hj])
            rw [Addr.add_lit, Nat.zero_add]
            exact this)
  · have h1 : q = [] := List.eq_nil_of_length_eq_zero (by omega)
    subst h1
    show (convert 84 9 (.slice a 0 c)).run Tryz.prog w = .ok (.string ⟨#[]⟩) w
    rw [run_convert_bytes_string w _ _ 5 a 0 c Tryz.underlying84 Tryz.underlying5 Tryz.underlying9]
    cases a <;> simp [Conv.bytesToString] <;> rfl
end Go.Proofs.YteommneijlelkaaGreatDoor.Lx
namespace Go.Proofs.YteommneijlelkaaGreatDoor.Lx
open Go.RowKit Go.Proofs.YteommneijlelkaaGreatDoor
set_option maxRecDepth 100000

abbrev TT : TypeId := 116
theorem infoT : (Tryz.prog.info? TT).map (fun i => (i.zero, i.size, i.bytes)) = some (some (.agg #[.int .i64 0, .string ByteArray.empty]), 2, 24) := by kernel_rfl
/-- A token as its two cells. -/
def tC (x : Lp.T) : List Value := [.int .i64 x.k, .string (str x.t)]
def tsC (l : List Lp.T) : List Value := l.flatMap tC
theorem tsC_snoc (l : List Lp.T) (x : Lp.T) : tsC (l ++ [x]) = tsC l ++ tC x := by simp [tsC]
theorem tsC_get {l : List Lp.T} {k : Nat} (h : k < l.length) : (tsC l)[k * 2]? = some (.int .i64 l[k].k) ∧ (tsC l)[k * 2 + 1]? = some (.string (str l[k].t)) := by
  induction l generalizing k with
  | nil => cases h
  | cons x r ih =>
    cases k with
    | zero => exact ⟨rfl, rfl⟩
    | succ k =>
      have := ih (k := k) (by simpa using h)
      show (tC x ++ tsC r)[(k + 1) * 2]? = _ ∧ (tC x ++ tsC r)[(k + 1) * 2 + 1]? = _
      rw [List.getElem?_append_right (by show 2 ≤ _; omega), List.getElem?_append_right (by show 2 ≤ _; omega)]
      have e1 : (k + 1) * 2 - (tC x).length = k * 2 := by show (k + 1) * 2 - 2 = _; omega
      have e2 : (k + 1) * 2 + 1 - (tC x).length = k * 2 + 1 := by show (k + 1) * 2 + 1 - 2 = _; omega
      rw [e1, e2]
      exact this
theorem two_at (W : World) {n : Nat} (hn : W.heap.size = n) (x y : Value) (T : TypeId) : ∀ (j : Nat) (u : Value), [x, y][j]? = some u → (W.alloc (.cells #[x, y] T)).cell? ((⟨n, 0, none⟩ : Addr).add j) = some u := by
  subst hn
  intro j u hj
  rw [Addr.add_lit, World.cell?_alloc_at _ _ _ _ (by simp)]
  match j, hj with
  | 0, hj => simpa using hj
  | 1, hj => simpa using hj
end Go.Proofs.YteommneijlelkaaGreatDoor.Lx
namespace Go.Proofs.YteommneijlelkaaGreatDoor.Lx
open Go.RowKit Go.Proofs.YteommneijlelkaaGreatDoor
set_option maxRecDepth 100000

theorem mark_len (k : Nat) : (Lp.markT k).length ≤ 2 := by
  unfold Lp.markT; split <;> decide
theorem prefix_is {m : Bs} {s : ByteArray} : m.isPrefixOf (by8 s) = (decide (m.length ≤ s.size) && decide (s.extract 0 m.length = str m)) := by
  rw [Bool.eq_iff_iff, List.isPrefixOf_iff_prefix, Bool.and_eq_true, decide_eq_true_eq, decide_eq_true_eq]
  constructor
  · intro h
    have h1 := h.length_le
    rw [by8_len] at h1
    refine ⟨h1, by8_ext ?_⟩
    rw [by8_take, by8_str]
    exact (List.prefix_iff_eq_take.1 h).symm
  · rintro ⟨_, h2⟩
    have := congrArg by8 h2
    rw [by8_take, by8_str] at this
    rw [List.prefix_iff_eq_take]
    exact this.symm

/-- What a look at one mark more comes to. -/
theorem best_le (k : Nat) (s : Bs) : Lp.bestA k s ≤ k := Lp.best_le k s
theorem best_yes {k : Nat} {s : Bs} (h : (Lp.markT (k + 1)).isPrefixOf s = true) (h2 : (Lp.markT (Lp.bestA k s)).length < (Lp.markT (k + 1)).length) : Lp.bestA (k + 1) s = k + 1 := if_pos ⟨h, h2⟩
theorem best_no {k : Nat} {s : Bs} (h : ¬ ((Lp.markT (k + 1)).isPrefixOf s = true ∧ (Lp.markT (Lp.bestA k s)).length < (Lp.markT (k + 1)).length)) : Lp.bestA (k + 1) s = Lp.bestA k s := if_neg h

end Go.Proofs.YteommneijlelkaaGreatDoor.Lx
namespace Go.Proofs.YteommneijlelkaaGreatDoor.Lx
open Go.RowKit Go.Proofs.YteommneijlelkaaGreatDoor
set_option maxRecDepth 100000

abbrev WT : TypeId := 176
/-- The word X lies in block b; its text behind it. -/
def WAt (w : World) (b : Nat) (X : Lp.W) : Prop :=
  ∃ a c, w.heap[b]? = some (.cells #[.slice a X.t.length c, .int .u8 (X.q.toNat : Int), .bool X.e] WT (0, 0)) ∧ w.ownsRow (b + 1) U8 1 (.slice a X.t.length c) X.t.length (bytesC X.t)
theorem WAt.lt {w : World} {b : Nat} {X : Lp.W} (h : WAt w b X) : b < w.heap.size := by
  obtain ⟨a, c, h, _⟩ := h
  exact (Array.getElem?_eq_some_iff.1 h).1

theorem open_any (w : World) (b : Nat) (X : Lp.W) (h : WAt w b X) : Calls Tryz.prog 115 #[.pointer (some ⟨b, 0, none⟩)] w fun e w' => e = .returned (.bool X.open) ∧ w = w' := by
  obtain ⟨a, c, H, hrow⟩ := h
  obtain ⟨q, e, t⟩ := X
  have q2 : w.cell? ⟨b, 2, none⟩ = some (.bool e) := cell_at H rfl
  by_cases hq : q = 0
  · subst hq
    have HX : Hid (Lp.W.open ⟨0, e, t⟩ = e) := Lib.hid (by simp [Lp.W.open])
    have q1 : w.cell? ⟨b, 1, none⟩ = some (.int .u8 0) := cell_at H rfl
    clear H hrow
    go_enter Tryz.func115, Tryz.ntmps115
    go_wp2
    go_ret
    exact ⟨by rw [HX.out]; rfl, rfl⟩
  · have hb : ((q.toNat : Int) == 0) = false := eq_false (b := 0) hq
    have hb2 : ¬ q.toNat = 0 := fun e => hq (UInt8.toNat_inj.1 e)
    have HX : Hid (Lp.W.open ⟨q, e, t⟩ = true) := Lib.hid (by simp [Lp.W.open, hq])
    have q1 : w.cell? ⟨b, 1, none⟩ = some (.int .u8 (q.toNat : Int)) := cell_at H rfl
    clear H hrow hq
    go_enter Tryz.func115, Tryz.ntmps115
    go_wp2
    go_ret
    exact ⟨by rw [HX.out]; rfl, rfl⟩

theorem token_any (w : World) (b : Nat) (X : Lp.W) (h : WAt w b X) : Calls Tryz.prog 116 #[.pointer (some ⟨b, 0, none⟩)] w fun e w' => e = .returned (.agg #[.int .i64 0, .string (str X.t)]) ∧ Below w.heap.size w w' := by
  obtain ⟨a, c, H, hrow⟩ := h
  have q0 : w.cell? ⟨b, 0, none⟩ = some (.slice a X.t.length c) := cell_at H rfl
  have hlt : b < w.heap.size := (Array.getElem?_eq_some_iff.1 H).1
  have hconv := convert_row hrow
  have hconv1 := fun o => convert_row (hrow.alloc o)
  clear H hrow
  go_enter Tryz.func116, Tryz.ntmps116
  go_wp2
  exact bodyPost_ret (v := .agg #[.int .i64 0, .string (str X.t)]) (by simp [results, Tryz.results116, go_sem]) rfl ⟨rfl, (Below.refl _ _).alloc (Nat.le_refl _) _⟩

/-- What a step of a word leaves. -/
def TakePost (w : World) (b : Nat) (X : Lp.W) (v : Ending) (e : Ending) (w' : World) : Prop := e = v ∧ WAt w' b X ∧ Below b w w'
theorem WAt.set1 {w : World} {b : Nat} {X : Lp.W} (h : WAt w b X) (q : UInt8) : WAt (w.setCell ⟨b, 1, none⟩ (.int .u8 (q.toNat : Int))) b ⟨q, X.e, X.t⟩ := by
  obtain ⟨a, c, H, hrow⟩ := h
  exact ⟨a, c, heap_set3 H _, owns_kept_cell hrow (Nat.lt_succ_self b) 1 _⟩
theorem WAt.set2 {w : World} {b : Nat} {X : Lp.W} (h : WAt w b X) (e : Bool) : WAt (w.setCell ⟨b, 2, none⟩ (.bool e)) b ⟨X.q, e, X.t⟩ := by
  obtain ⟨a, c, H, hrow⟩ := h
  exact ⟨a, c, heap_set3 H _, owns_kept_cell hrow (Nat.lt_succ_self b) 2 _⟩
theorem WAt.cells {w : World} {b : Nat} {X : Lp.W} (h : WAt w b X) : w.cell? ⟨b, 1, none⟩ = some (.int .u8 (X.q.toNat : Int)) ∧ w.cell? ⟨b, 2, none⟩ = some (.bool X.e) ∧ (∀ i, w.frozen? ⟨b, i, none⟩ = false) ∧ b < w.heap.size := by
  obtain ⟨a, c, H, hrow⟩ := h
  exact ⟨cell_at H rfl, cell_at H rfl, fun i => frozen_at H i, (Array.getElem?_eq_some_iff.1 H).1⟩
/-- The box after its text has grown. -/
structure Grew (w w' : World) (b : Nat) (qv ev old nw : Value) (m : Nat) (xs : List Value) : Prop where
  heap : (w'.setCell ⟨b, 0, none⟩ nw).heap[b]? = some (.cells #[nw, qv, ev] WT (0, 0))
  row : (w'.setCell ⟨b, 0, none⟩ nw).ownsRow (b + 1) U8 1 nw m xs
  below : Below b w (w'.setCell ⟨b, 0, none⟩ nw)
  z0 : w'.frozen? ⟨b, 0, none⟩ = false
  z2 : w'.frozen? ⟨b, 2, none⟩ = false
  lt : b < w'.heap.size
  c0 : w'.cell? ⟨b, 0, none⟩ = some old
  c2 : w'.cell? ⟨b, 2, none⟩ = some ev
theorem raw_grown {w w' : World} {b m m' : Nat} {qv ev old nw : Value} {xs ys : List Value} {o : Obj} (H : w.heap[b]? = some (.cells #[old, qv, ev] WT (0, 0)))
    (hrow : w.ownsRow (b + 1) U8 1 old m xs) (ho : w'.ownsRow (b + 1) U8 1 nw m' ys) (hg : (w.alloc o).grownBy w' old.ownBlock) : Grew w w' b qv ev old nw m' ys := by
  have hb : b < w.heap.size := (Array.getElem?_eq_some_iff.1 H).1
  have h1 := Below.heap_alloc w o b hb
  have h2 : w'.heap[b]? = (w.alloc o).heap[b]? := by
    refine hg.block b (by simp; omega) ?_
    intro e
    have := (hrow.lt b e.symm).1
    omega
  have H' := (h2.trans h1).trans H
  have hB : Below b w w' := ((Below.refl b w).alloc (by omega) o).grown hg (by simp; omega) fun j e => by have := (hrow.lt j e).1; omega
  exact ⟨heap_set3 H' _, owns_kept_cell ho (Nat.lt_succ_self b) 0 _, hB.setCell (Nat.le_refl _) _, frozen_at H' 0, frozen_at H' 2, (Array.getElem?_eq_some_iff.1 H').1, cell_at H' rfl, cell_at H' rfl⟩
theorem Grew.wat {w w' : World} {b m : Nat} {X : Lp.W} {t : Bs} {old : Value} {a : Option Addr} {c : Nat} {xs : List Value} (h : Grew w w' b (.int .u8 (X.q.toNat : Int)) (.bool X.e) old (.slice a m c) m xs) (hm : m = t.length) (hx : xs = bytesC t) :
    WAt (w'.setCell ⟨b, 0, none⟩ (.slice a m c)) b ⟨X.q, X.e, t⟩ := by
  subst hm; subst hx
  exact ⟨a, c, h.heap, h.row⟩
theorem new_at (W : World) {n : Nat} (hn : W.heap.size = n) (x : Value) (T : TypeId) : ∀ (j : Nat) (u : Value), [x][j]? = some u → (W.alloc (.cells #[x] T)).cell? ((⟨n, 0, none⟩ : Addr).add j) = some u := by
  subst hn; exact one_new W x T
end Go.Proofs.YteommneijlelkaaGreatDoor.Lx
