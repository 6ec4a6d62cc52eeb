/-
  strings.IndexRune of one of the runes from 128 on in a text of bytes below 128: none. First part: how such runes are written and read; the runes that are no runes.
-/
import Derived.Shelf.Strings.IndexAnyAll
import Derived.Shelf.Small.Utf8
import Derived.Lib.DecodeN
import Derived.Lib.OthersKept
import Derived.Laws.IdiomStrings
import Derived.Deep.LoopGhost
import Derived.Test.YtjjlafbdhpojpaaDoorShelf
import Derived.Test.YtjjlafbdhpojpaaDoorIBase
namespace Go.Proofs.YtjjlafbdhpojpaaDoor.Mw
open Go.RowKit Go.Proofs.YtjjlafbdhpojpaaDoor Go.Proofs.YtjjlafbdhpojpaaDoor.Ww Go.Proofs.YtjjlafbdhpojpaaDoor.Iw
set_option maxRecDepth 1000000

theorem x_IndexByte (s : ByteArray) (c : Int) (w : World) : Calls Tryd.prog 94 #[.string s, .int .u8 c] w fun e w' => e = .returned (.int .i64 (Lib.indexByte s.data.toList c.toNat.toUInt8)) ∧ w' = w := Any.strings_IndexByte { Tryd.lays150 with } s c w
theorem x_ValidRune (r : Int) (w : World) : Calls Tryd.prog 95 #[.int .i32 r] w fun e w' => e = .returned (.bool (Lib.validRune r)) ∧ w' = w := Any.utf8_ValidRune { Tryd.lays150 with } r w
theorem x_IndexRune_ascii (s : ByteArray) (r : Int) (w : World) (h0 : 0 ≤ r) (h1 : r < 128) : Calls Tryd.prog 91 #[.string s, .int .i32 r] w fun e w' => e = .returned (.int .i64 (Lib.indexByte s.data.toList r.toNat.toUInt8)) ∧ w' = w := Any.strings_IndexRune_ascii { Tryd.lays150 with } s r w h0 h1
theorem x_shouldUse (n : Int) (w : World) : Calls Tryd.prog 93 #[.int .i64 n] w fun e w' => e = .returned (.bool (decide (8 < n))) ∧ w' = w := Any.strings_shouldUseASCIISet { Tryd.lays150 with } n w
/-- A callee that leaves the world alone, behind draws and draws of this region. -/
theorem quiet_at {P : Program} {f : FuncId} {args : Array Value} {w : World} {a n : Nat} {v : Value} (h : ∀ W : World, Calls P f args W fun e w' => e = .returned v ∧ w' = W) :
    Calls P f args (w.drewN (a + n)) fun e w'' => e = .returned v ∧ ∃ m, w'' = w.drewN (a + m) := (h _).mono fun _ _ ⟨he, hm⟩ => ⟨he, n, hm⟩

theorem decodeN_high (n b0 b1 b2 b3 : Nat) (h0 : 128 ≤ b0) (hn : 1 ≤ n) : ∃ c d, Lib.decodeN n b0 b1 b2 b3 = (c, d) ∧ 128 ≤ c ∧ c ≤ 1114111 ∧ 1 ≤ d ∧ d ≤ n ∧ d ≤ 4 ∧ (2 ≤ d → 128 ≤ b1) ∧ (3 ≤ d → 128 ≤ b2) ∧ (4 ≤ d → 128 ≤ b3) := by
  unfold Lib.decodeN
  rw [if_neg (by omega)]
  split
  · split
    · exact ⟨_, _, rfl, by omega, by omega, by omega, by omega, by omega, by omega, by omega, by omega⟩
    · exact ⟨_, _, rfl, by omega, by omega, by omega, by omega, by omega, by omega, by omega, by omega⟩
  · split
    · split
      · exact ⟨_, _, rfl, by omega, by omega, by omega, by omega, by omega, by omega, by omega, by omega⟩
      · exact ⟨_, _, rfl, by omega, by omega, by omega, by omega, by omega, by omega, by omega, by omega⟩
    · split
      · split
        · exact ⟨_, _, rfl, by omega, by omega, by omega, by omega, by omega, by omega, by omega, by omega⟩
        · exact ⟨_, _, rfl, by omega, by omega, by omega, by omega, by omega, by omega, by omega, by omega⟩
      · exact ⟨_, _, rfl, by omega, by omega, by omega, by omega, by omega, by omega, by omega, by omega⟩

theorem get_bang {s : ByteArray} {k : Nat} (h : k < s.size) : s.get! k = s[k] := get_at s k h

/-- A rune that begins with a byte from 128 on: what it takes are such bytes. -/
theorem decode_span (s : ByteArray) (i : Nat) (h : i < s.size) (hb : 128 ≤ s[i].toNat) :
    ∃ c d, Utf8.decode s i = (c, d) ∧ 128 ≤ c ∧ c ≤ 1114111 ∧ 1 ≤ d ∧ i + d ≤ s.size ∧ ∀ k (hk : k < s.size), i ≤ k → k < i + d → 128 ≤ s[k].toNat := by
  obtain ⟨c, d, he, h1, h2, h3, h4, h5, h6, h7, h8⟩ := decodeN_high (s.size - i) (s.get! i).toNat (s.get! (i + 1)).toNat (s.get! (i + 2)).toNat (s.get! (i + 3)).toNat (by rw [get_bang h]; exact hb) (by omega)
  refine ⟨c, d, by rw [Lib.decode_at, he], h1, h2, h3, by omega, fun k hk hik hkd => ?_⟩
  rw [← get_bang hk]
  rcases (by omega : k = i ∨ k = i + 1 ∨ k = i + 2 ∨ k = i + 3) with rfl | rfl | rfl | rfl
  · rw [get_bang h]; exact hb
  · exact h6 (by omega)
  · exact h7 (by omega)
  · exact h8 (by omega)

theorem b8 {n : Nat} (h : 128 ≤ n) (h2 : n < 256) : 128 ≤ (UInt8.ofNat n).toNat := by
  rw [UInt8.toNat_ofNat', Nat.mod_eq_of_lt h2]; exact h

/-- What a rune from 128 on is written with: two to four bytes, each from 128 on. -/
def HighText (t : ByteArray) : Prop := 2 ≤ t.size ∧ t.size ≤ 4 ∧ ∀ x ∈ t.data.toList, 128 ≤ x.toNat
def encC (c : Nat) : ByteArray :=
  if c < 0x80 then ⟨#[UInt8.ofNat c]⟩
  else if c < 0x800 then ⟨#[UInt8.ofNat (0xC0 + c / 64), UInt8.ofNat (0x80 + c % 64)]⟩
  else if c < 0x10000 then ⟨#[UInt8.ofNat (0xE0 + c / 4096), UInt8.ofNat (0x80 + c / 64 % 64), UInt8.ofNat (0x80 + c % 64)]⟩
  else ⟨#[UInt8.ofNat (0xF0 + c / 262144), UInt8.ofNat (0x80 + c / 4096 % 64), UInt8.ofNat (0x80 + c / 64 % 64), UInt8.ofNat (0x80 + c % 64)]⟩
theorem encode_is (r : Int) : Utf8.encode r = encC (if Utf8.valid r then r.toNat else Utf8.runeError) := rfl
theorem encC_high (c : Nat) (h : 128 ≤ c) (h2 : c ≤ 1114111) : HighText (encC c) := by
  unfold encC
  rw [if_neg (by omega)]
  split
  · refine ⟨Nat.le_refl _, show 2 ≤ 4 by decide, ?_⟩
    intro x hx
    simp only [List.mem_cons, List.not_mem_nil, or_false] at hx
    rcases hx with rfl | rfl
    · exact b8 (by omega) (by omega)
    · exact b8 (by omega) (by omega)
  · split
    · refine ⟨show 2 ≤ 3 by decide, show 3 ≤ 4 by decide, ?_⟩
      intro x hx
      simp only [List.mem_cons, List.not_mem_nil, or_false] at hx
      rcases hx with rfl | rfl | rfl
      · exact b8 (by omega) (by omega)
      · exact b8 (by omega) (by omega)
      · exact b8 (by omega) (by omega)
    · refine ⟨show 2 ≤ 4 by decide, Nat.le_refl _, ?_⟩
      intro x hx
      simp only [List.mem_cons, List.not_mem_nil, or_false] at hx
      rcases hx with rfl | rfl | rfl | rfl
      · exact b8 (by omega) (by omega)
      · exact b8 (by omega) (by omega)
      · exact b8 (by omega) (by omega)
      · exact b8 (by omega) (by omega)
theorem enc_high (r : Int) (h : 128 ≤ r) (h2 : r ≤ 1114111) : ∃ t : ByteArray, Utf8.encode r = t ∧ 2 ≤ t.size ∧ t.size ≤ 4 ∧ ∀ k (hk : k < t.size), 128 ≤ t[k].toNat := by
  obtain ⟨c, hc, hc1, hc2⟩ : ∃ c : Nat, (if Utf8.valid r then r.toNat else Utf8.runeError) = c ∧ 128 ≤ c ∧ c ≤ 1114111 := by
    refine ⟨_, rfl, ?_⟩
    split
    · omega
    · exact ⟨by decide, by decide⟩
  obtain ⟨h3, h4, h5⟩ := encC_high c hc1 hc2
  exact ⟨encC c, by rw [encode_is, hc], h3, h4, fun k hk => h5 _ (Array.mem_toList_iff.2 (Array.getElem_mem hk))⟩

theorem indexHi_any (w : World) (l : ByteArray) (x : UInt8) (hl : ∀ k (hk : k < l.size), l[k].toNat < 128) (hx : 128 ≤ x.toNat) :
    Calls Tryd.prog 94 #[.string l, .int .u8 (x.toNat : Int)] w fun e w' => e = .returned (.int .i64 (-1)) ∧ w' = w := by
  refine (x_IndexByte l x.toNat w).mono ?_
  rintro e w' ⟨rfl, rfl⟩
  refine ⟨?_, rfl⟩
  have hb : ((x.toNat : Int)).toNat.toUInt8 = x := by simp
  rw [hb]
  have hge := Lib.indexByte_ge l.data.toList x
  by_cases h : Lib.indexByte l.data.toList x = -1
  · rw [h]
  · exfalso
    have h1 := (Lib.indexByte_some (l := l.data.toList) (c := x) (o := (Lib.indexByte l.data.toList x).toNat) (by omega)).1
    obtain ⟨hlt, e⟩ := List.getElem?_eq_some_iff.1 h1
    have hlt2 : (Lib.indexByte l.data.toList x).toNat < l.size := by rw [Lib.size_eq]; exact hlt
    have := hl _ hlt2
    have e2 : l[(Lib.indexByte l.data.toList x).toNat] = x := e
    rw [e2] at this
    omega

set_option maxHeartbeats 2000000 in
theorem runeErr_any (w : World) :
    Calls Tryd.prog 91 #[.string ⟨#[32, 9, 10, 58, 35, 61]⟩, .int .i32 65533] w fun e w' => e = .returned (.int .i64 (-1)) ∧ Below w.heap.size w w' := by
  go_enter Tryd.func91, Tryd.ntmps91
  go_wp2
  go_loopg [5, 6] 6 (fun g _ _ wx => ∃ i : Nat, i + g = 6 ∧ wx = w.iter ⟨#[32, 9, 10, 58, 35, 61]⟩ i)
  case atStart => exact ⟨0, by omega, rfl⟩
  case round =>
    obtain ⟨i, hig, rfl⟩ := hrel
    cases gk with
    | zero =>
      obtain rfl : i = 6 := by omega
      have hnx := run_next_end (P := Tryd.prog) w ⟨#[32, 9, 10, 58, 35, 61]⟩ 6
      go_wp2
      go_ret
      exact ⟨rfl, (Below.refl _ _).alloc (Nat.le_refl _) _⟩
    | succ g =>
      rcases (by omega : i = 0 ∨ i = 1 ∨ i = 2 ∨ i = 3 ∨ i = 4 ∨ i = 5) with rfl | rfl | rfl | rfl | rfl | rfl
      · have hnx := fun ty => run_next_ascii (P := Tryd.prog) w ⟨#[32, 9, 10, 58, 35, 61]⟩ 0 ty (by decide) (by decide)
        go_wp2
        go_roundg g
        case measure => omega
        case rel => exact ⟨1, by omega, rfl⟩
      · have hnx := fun ty => run_next_ascii (P := Tryd.prog) w ⟨#[32, 9, 10, 58, 35, 61]⟩ 1 ty (by decide) (by decide)
        go_wp2
        go_roundg g
        case measure => omega
        case rel => exact ⟨2, by omega, rfl⟩
      · have hnx := fun ty => run_next_ascii (P := Tryd.prog) w ⟨#[32, 9, 10, 58, 35, 61]⟩ 2 ty (by decide) (by decide)
        go_wp2
        go_roundg g
        case measure => omega
        case rel => exact ⟨3, by omega, rfl⟩
      · have hnx := fun ty => run_next_ascii (P := Tryd.prog) w ⟨#[32, 9, 10, 58, 35, 61]⟩ 3 ty (by decide) (by decide)
        go_wp2
        go_roundg g
        case measure => omega
        case rel => exact ⟨4, by omega, rfl⟩
      · have hnx := fun ty => run_next_ascii (P := Tryd.prog) w ⟨#[32, 9, 10, 58, 35, 61]⟩ 4 ty (by decide) (by decide)
        go_wp2
        go_roundg g
        case measure => omega
        case rel => exact ⟨5, by omega, rfl⟩
      · have hnx := fun ty => run_next_ascii (P := Tryd.prog) w ⟨#[32, 9, 10, 58, 35, 61]⟩ 5 ty (by decide) (by decide)
        go_wp2
        go_roundg g
        case measure => omega
        case rel => exact ⟨6, by omega, rfl⟩

set_option maxHeartbeats 2000000 in
theorem runeBad_any (w : World) (r : Nat) (h : 128 ≤ r) (h2 : r ≤ 1114111) (hne : ¬ r = 65533) (hv : Lib.validRune r = false) :
    Calls Tryd.prog 91 #[.string ⟨#[32, 9, 10, 58, 35, 61]⟩, .int .i32 r] w fun e w' => e = .returned (.int .i64 (-1)) ∧ Below w.heap.size w w' := by
  have hb : ((r : Int) == 65533) = false := by rw [beq_eq_false_iff_ne]; omega
  have HV := Lib.hid hv
  have H2 := Lib.hid h2
  clear hv hne h2
  go_enter Tryd.func91, Tryd.ntmps91
  go_wp2_with (go_at_call 95; go_must (refine (x_ValidRune _ _).mono ?_); rintro e w' ⟨rfl, rfl⟩; rw [HV.out])
  go_ret
  exact ⟨rfl, Below.refl _ _⟩

end Go.Proofs.YtjjlafbdhpojpaaDoor.Mw
