/-
  Cells and blocks; joined texts; texts cut at a byte.
-/
import Derived.Lib.Builder
import Derived.Lib.UnsafeStr
import Derived.Laws.Externs
import Derived.Lib.Strings
import Derived.Lib.AppendStr
import Derived.Lib.Join
import Derived.RangeFuncNested
import Derived.RangeFuncBox
import Derived.Test.YtjjlafbdhpojpaaDoorWReads
import Derived.Test.YtjjlafbdhpojpaaDoorIPlain
import Derived.Test.YtjjlafbdhpojpaaDoorShelf
namespace Go.Proofs.YtjjlafbdhpojpaaDoor.Iw
open Go.RowKit Go.Proofs.YtjjlafbdhpojpaaDoor Go.Proofs.YtjjlafbdhpojpaaDoor.Ww
set_option maxRecDepth 100000

/-- What a call may turn: these blocks, and new ones. -/
structure Kept (X : List Nat) (w w' : World) : Prop where
  os : w'.os = w.os
  tape : w'.tape = w.tape
  output : w'.output = w.output
  size : w.heap.size ≤ w'.heap.size
  block : ∀ i, i < w.heap.size → i ∉ X → w'.heap[i]? = w.heap[i]?

theorem Kept.refl (X : List Nat) (w : World) : Kept X w w := ⟨rfl, rfl, rfl, Nat.le_refl _, fun _ _ _ => rfl⟩
theorem Kept.trans {X : List Nat} {a b c : World} (h : Kept X a b) (k : Kept X b c) : Kept X a c :=
  ⟨k.os.trans h.os, k.tape.trans h.tape, k.output.trans h.output, Nat.le_trans h.size k.size, fun i hi hx => (k.block i (Nat.lt_of_lt_of_le hi h.size) hx).trans (h.block i hi hx)⟩
theorem Kept.mono {X Y : List Nat} {a b : World} (h : Kept X a b) (hs : ∀ i, i ∈ X → i ∈ Y) : Kept Y a b :=
  ⟨h.os, h.tape, h.output, h.size, fun i hi hx => h.block i hi fun e => hx (hs i e)⟩
theorem Kept.of_below {X : List Nat} {a b : World} (h : Below a.heap.size a b) : Kept X a b := ⟨h.os, h.tape, h.output, h.size, fun i hi _ => h.block i hi⟩
theorem Kept.below {X : List Nat} {a b c : World} (h : Kept X a b) (k : Below b.heap.size b c) : Kept X a c := h.trans (.of_below k)
theorem Kept.alloc {X : List Nat} {a b : World} (h : Kept X a b) (o : Obj) : Kept X a (b.alloc o) := h.below ((Below.refl _ b).alloc (Nat.le_refl _) o)
theorem Kept.drewN {X : List Nat} {a b : World} (h : Kept X a b) (n : Nat) : Kept X a (b.drewN n) := ⟨h.os, h.tape, h.output, h.size, h.block⟩
theorem Kept.setCell {X : List Nat} {a b : World} (h : Kept X a b) {p : Addr} (hp : p.block ∈ X ∨ a.heap.size ≤ p.block) (u : Value) : Kept X a (b.setCell p u) :=
  ⟨h.os, h.tape, h.output, by simpa [World.setCell] using h.size, fun i hi hx => (Below.heap_setCell _ _ _ _ (by
    rcases hp with hp | hp
    · exact fun e => hx (e ▸ hp)
    · omega)).trans (h.block i hi hx)⟩
theorem Kept.grown {X : List Nat} {a b c : World} {row : Option Nat} (h : Kept X a b) (hg : b.grownBy c row) (hr : ∀ r, row = some r → r ∈ X ∨ a.heap.size ≤ r) : Kept X a c :=
  ⟨hg.os.trans h.os, hg.tape.trans h.tape, hg.output.trans h.output, Nat.le_trans h.size hg.size, fun i hi hx => (hg.block i (Nat.lt_of_lt_of_le hi h.size) (fun e => by
    rcases hr i e.symm with hr | hr
    · exact hx hr
    · omega)).trans (h.block i hi hx)⟩
theorem Kept.to_below {X : List Nat} {a b : World} {B : Nat} (h : Kept X a b) (hB : B ≤ a.heap.size) (hX : ∀ i ∈ X, B ≤ i) : Below B a b :=
  ⟨h.os, h.tape, h.output, h.size, fun i hi => h.block i (by omega) fun e => by have := hX i e; omega⟩
theorem Kept.cell {X : List Nat} {a b : World} (h : Kept X a b) {p : Addr} (hp : p.block < a.heap.size) (hx : p.block ∉ X) : b.cell? p = a.cell? p := World.cell?_of_block (w := a) (h.block p.block hp hx)
theorem Kept.frozen {X : List Nat} {a b : World} (h : Kept X a b) {p : Addr} (hp : p.block < a.heap.size) (hx : p.block ∉ X) : b.frozen? p = a.frozen? p := World.frozen?_of_block (w := a) (h.block p.block hp hx)


def str (l : Bs) : ByteArray := ⟨l.toArray⟩
theorem by8_str (l : Bs) : by8 (str l) = l := rfl
theorem str_by8 (s : ByteArray) : str (by8 s) = s := rfl
theorem str_size (l : Bs) : (str l).size = l.length := by rw [← by8_len, by8_str]
theorem str_inj {a b : Bs} (h : str a = str b) : a = b := by have := congrArg by8 h; rwa [by8_str, by8_str] at this
theorem cell_at {w : World} {n i : Nat} {cs : Array Value} {T : TypeId} {v : Value} (h : w.heap[n]? = some (.cells cs T (0, 0))) (hv : cs[i]? = some v) : w.cell? ⟨n, i, none⟩ = some v := by simp [World.cell?, h, hv]
theorem frozen_at {w : World} {n : Nat} {cs : Array Value} {T : TypeId} (h : w.heap[n]? = some (.cells cs T (0, 0))) (i : Nat) : w.frozen? ⟨n, i, none⟩ = false := by simp [World.frozen?, h]
theorem heap_new (w : World) (o : Obj) {n : Nat} (h : w.heap.size = n) : (w.alloc o).heap[n]? = some o := by subst h; exact Array.getElem?_push_size
theorem heap_set3 {w : World} {b i : Nat} {cs : Array Value} {T : TypeId} (h : w.heap[b]? = some (.cells cs T (0, 0))) (v : Value) : (w.setCell ⟨b, i, none⟩ v).heap[b]? = some (.cells (cs.setIfInBounds i v) T (0, 0)) := by
  have hb : b < w.heap.size := (Array.getElem?_eq_some_iff.1 h).1
  have hb' : w.heap[b] = .cells cs T (0, 0) := by have := Array.getElem?_eq_getElem hb; rw [h] at this; exact (Option.some.inj this).symm
  simp [World.setCell, Array.getElem?_modify, h]
theorem one_new (wr : World) (x : Value) (T : TypeId) : ∀ (j : Nat) (u : Value), [x][j]? = some u → (wr.alloc (.cells #[x] T)).cell? ((⟨wr.heap.size, 0, none⟩ : Addr).add j) = some u := by
  intro j u hj
  rw [Addr.add_lit, World.cell?_alloc_at _ _ _ _ (by simp)]
  match j, hj with
  | 0, hj => simpa using hj
theorem by8_some {s : ByteArray} {k : Nat} {c : UInt8} (h : k < s.size) (hc : (by8 s)[k]? = some c) : c = s[k] := by
  rw [by8_get h] at hc; exact (Option.some.inj hc).symm

abbrev ST : TypeId := 9
/- Texts cut at a byte. -/
theorem index_ways (c : UInt8) : ∀ l : Bs, (c ∉ l ∧ Lib.indexByte l c = -1) ∨ ∃ a b, l = a ++ c :: b ∧ c ∉ a ∧ Lib.indexByte l c = a.length
  | [] => .inl ⟨by simp, rfl⟩
  | x :: l => by
    unfold Lib.indexByte
    by_cases hx : x = c
    · subst hx
      exact .inr ⟨[], l, rfl, by simp, by simp⟩
    · have hx' : (x == c) = false := beq_eq_false_iff_ne.2 hx
      rw [hx']
      rcases index_ways c l with ⟨h1, h2⟩ | ⟨a, b, h1, h2, h3⟩
      · exact .inl ⟨by simp [h1, Ne.symm hx], by rw [h2]; rfl⟩
      · refine .inr ⟨x :: a, b, by rw [h1]; rfl, by simp [h2, Ne.symm hx], ?_⟩
        rw [h3]
        have : ((a.length : Int) == -1) = false := by rw [beq_eq_false_iff_ne]; omega
        simp [this]
theorem index_no {c : UInt8} {l : Bs} (h : c ∉ l) : Lib.indexByte l c = -1 := by
  rcases index_ways c l with ⟨_, h2⟩ | ⟨a, b, rfl, _, _⟩
  · exact h2
  · exact absurd (by simp) h
theorem app_inj {c : UInt8} : ∀ {a a' b b' : Bs}, a ++ c :: b = a' ++ c :: b' → c ∉ a → c ∉ a' → a = a' ∧ b = b'
  | [], [], _, _, h, _, _ => ⟨rfl, (List.cons.inj h).2⟩
  | [], x :: _, _, _, h, _, h2 => absurd (by rw [(List.cons.inj h).1]; simp) h2
  | x :: _, [], _, _, h, h1, _ => absurd (by rw [← (List.cons.inj h).1]; simp) h1
  | x :: a, y :: a', _, _, h, h1, h2 => by
    have hh := List.cons.inj h
    have h3 := app_inj (a := a) (a' := a') hh.2 (fun e => h1 (List.mem_cons_of_mem _ e)) (fun e => h2 (List.mem_cons_of_mem _ e))
    exact ⟨by rw [hh.1, h3.1], h3.2⟩
theorem index_yes {c : UInt8} {a b : Bs} (h : c ∉ a) : Lib.indexByte (a ++ c :: b) c = a.length := by
  rcases index_ways c (a ++ c :: b) with ⟨h2, _⟩ | ⟨a', b', h1, h2, h3⟩
  · exact absurd (by simp) h2
  · rw [h3, (app_inj h1 h h2).1]
theorem Index_no (w : World) (s : ByteArray) (c : UInt8) (h : c ∉ by8 s) : Calls Tryd.prog 29 #[.string s, .string ⟨#[c]⟩] w fun e w' => e = .returned (.int .i64 (-1)) ∧ w = w' :=
  (Tryd.stringslite_Index_one s c w).mono fun _ _ ⟨he, hw⟩ => ⟨by rw [he, show Lib.indexByte s.data.toList c = -1 from index_no h], hw.symm⟩
theorem Index_yes (w : World) (s : ByteArray) (c : UInt8) (k : Nat) (b : Bs) (hk : k ≤ s.size) (he : by8 s = (by8 s).take k ++ c :: b) (h : c ∉ (by8 s).take k) : Calls Tryd.prog 29 #[.string s, .string ⟨#[c]⟩] w fun e w' => e = .returned (.int .i64 k) ∧ w = w' :=
  (Tryd.stringslite_Index_one s c w).mono fun _ _ ⟨hr, hw⟩ => ⟨by
    have : Lib.indexByte (by8 s) c = k := by
      rw [he, index_yes h, List.length_take, by8_len, Nat.min_eq_left hk]
    rw [hr]; exact congrArg (fun i => Ending.returned (.int .i64 i)) this, hw.symm⟩

theorem CutIn_no (w : World) (s : ByteArray) (c : UInt8) (h : c ∉ by8 s) :
    Calls Tryd.prog 63 #[.string s, .string ⟨#[c]⟩] w fun e w' => e = .returned (.tuple #[.string s, .string ByteArray.empty, .bool false]) ∧ Below w.heap.size w w' := by
  have HC := Lib.hid (Index_no w s c h)
  clear h
  go_enter Tryd.func63, Tryd.ntmps63
  go_wp2_with fail
  refine HC.out.mono ?_
  rintro e w1 ⟨rfl, rfl⟩
  go_wp2_with fail
  go_ret3
  exact ⟨rfl, Below.refl _ _⟩
theorem CutIn_yes (w : World) (s : ByteArray) (hs : s.size ≤ 1000000) (c : UInt8) (k : Nat) (b : Bs) (hk : k + 1 ≤ s.size) (he : by8 s = (by8 s).take k ++ c :: b) (h : c ∉ (by8 s).take k) :
    Calls Tryd.prog 63 #[.string s, .string ⟨#[c]⟩] w fun e w' => e = .returned (.tuple #[.string (s.extract 0 k), .string (s.extract (k + 1) s.size), .bool true]) ∧ Below w.heap.size w w' := by
  have HC := Lib.hid (Index_yes w s c k b (by omega) he h)
  have hwr : IntKind.i64.wrap ((k : Int) + 1) = (k : Int) + 1 := by rw [IntWalk.i64_in _ (by omega)]
  have ho0 : (0 : Int) ≤ (k : Int) := Int.natCast_nonneg _
  have hoi : (k : Int) < (s.size : Int) := by omega
  have ho1 : (0 : Int) ≤ (k : Int) + 1 := by omega
  have ho2 : (k : Int) + 1 ≤ (s.size : Int) := by omega
  have ho3 : ((k : Int) + 1).toNat = k + 1 := by omega
  clear h he hk
  go_enter Tryd.func63, Tryd.ntmps63
  go_wp2_with fail
  refine HC.out.mono ?_
  rintro e w1 ⟨rfl, rfl⟩
  go_wp2_with fail
  go_quiet (fail)
  go_wp2
  go_ret3
  exact ⟨rfl, below_drewN (Below.refl _ _) _⟩
theorem Cut_no (w : World) (s : ByteArray) (c : UInt8) (h : c ∉ by8 s) :
    Calls Tryd.prog 48 #[.string s, .string ⟨#[c]⟩] w fun e w' => e = .returned (.tuple #[.string s, .string ByteArray.empty, .bool false]) ∧ Below w.heap.size w w' := by
  have HC := Lib.hid (CutIn_no w s c h)
  clear h
  go_enter Tryd.func48, Tryd.ntmps48
  go_wp2_with fail
  refine HC.out.mono ?_
  rintro e w1 ⟨rfl, hB⟩
  go_wp2_with fail
  go_ret3
  exact ⟨rfl, hB⟩
theorem Cut_yes (w : World) (s : ByteArray) (hs : s.size ≤ 1000000) (c : UInt8) (a b : Bs) (he : by8 s = a ++ c :: b) (h : c ∉ a) :
    Calls Tryd.prog 48 #[.string s, .string ⟨#[c]⟩] w fun e w' => e = .returned (.tuple #[.string (str a), .string (str b), .bool true]) ∧ Below w.heap.size w w' := by
  have hl : a.length + b.length + 1 = s.size := by rw [← by8_len, he]; simp; omega
  have hta : (by8 s).take a.length = a := by rw [he]; simp
  have htb : (by8 s).drop (a.length + 1) = b := by rw [he]; simp
  have e1 : s.extract 0 a.length = str a := by8_ext (by rw [by8_take, hta]; rfl)
  have e2 : s.extract (a.length + 1) s.size = str b := by8_ext (by rw [by8_drop, htb]; rfl)
  have HC0 := CutIn_yes w s hs c a.length b (by omega) (by rw [hta, ← he]) (by rw [hta]; exact h)
  rw [e1, e2] at HC0
  have HC := Lib.hid HC0
  clear h he hl hta htb e1 e2 HC0 hs
  go_enter Tryd.func48, Tryd.ntmps48
  go_wp2_with fail
  refine HC.out.mono ?_
  rintro e w1 ⟨rfl, hB⟩
  go_wp2_with fail
  go_ret3
  exact ⟨rfl, hB⟩

/- Joined words. -/
def joinS (xs : List ByteArray) : ByteArray := ⟨(Lib.join (xs.map (·.data.toList)) [32]).toArray⟩
theorem Join_any (w : World) {B : Nat} {v : Value} {xs : List ByteArray} (h : w.ownsRow B ST 1 v xs.length (strsC xs)) (hN : xs.length ≤ 100000000) (hlen : (by8 (joinS xs)).length ≤ 100000000) :
    Calls Tryd.prog 38 #[v] w fun e w' => e = .returned (.string (joinS xs)) ∧ Below w.heap.size w w' := by
  rcases h.2 with ⟨rfl, h0⟩ | ⟨g, cap, cur, rfl, hb, hg, hn, hc, hs, ht⟩
  · have e0 : xs = [] := List.length_eq_zero_iff.1 h0
    subst e0
    clear h hlen hN
    go_enter Tryd.func38, Tryd.ntmps38
    go_wp2_with fail
    refine (Tryd.strings_Join_none none 0 ⟨#[32]⟩ w).mono ?_
    rintro e w' ⟨rfl, rfl⟩
    go_wp2_with fail
    go_ret
    exact ⟨rfl, Below.refl _ _⟩
  · have hlen' : (Lib.join (xs.map (·.data.toList)) [32]).length ≤ 140737488355328 := Nat.le_trans (show _ ≤ 100000000 from hlen) (by decide)
    have HJ := Lib.hid (Tryd.strings_Join g 0 cap xs ⟨#[32]⟩ w (fun j x hj => by
      have := h.cells (g := g) rfl j (.string x) (by simp [strsC, hj])
      simpa [Addr.add_lit] using this) (Array.getElem?_eq_some_iff.1 hg).1 (by omega) hn hlen')
    clear h ht hs hc hlen hlen'
    go_enter Tryd.func38, Tryd.ntmps38
    go_wp2_with fail
    refine HJ.out.mono ?_
    rintro e w' ⟨rfl, hB⟩
    go_wp2_with fail
    go_ret
    exact ⟨rfl, hB⟩
end Go.Proofs.YtjjlafbdhpojpaaDoor.Iw
