/-
  (*list).put.
  (*expansion).substitute, at the chapter's example.
-/
import Derived.Test.YtebagfadcjgllaaGreatDoorXAdd
import Derived.Test.YtebagfadcjgllaaGreatDoorXPlain
import Derived.Test.YtebagfadcjgllaaGreatDoorXChanged
namespace Go.Proofs.YtebagfadcjgllaaGreatDoor.Xw
open Go.RowKit Go.Proofs.YtebagfadcjgllaaGreatDoor Go.Proofs.YtebagfadcjgllaaGreatDoor.Ww Go.Proofs.YtebagfadcjgllaaGreatDoor.Tw Go.Proofs.YtebagfadcjgllaaGreatDoor.Kw Go.Proofs.YtebagfadcjgllaaGreatDoor.Jw Go.Proofs.YtebagfadcjgllaaGreatDoor.Xb
set_option maxRecDepth 100000

abbrev LT : TypeId := 98
theorem liesL : liesAt Tryz.prog Tryz.prog.depth LT (3 / Tryz.prog.cellsOf LT) 0 BT 1 = true := by kernel_rfl
/-- A list in block b: its text, whether it has an element. -/
structure LAt (w : World) (b B : Nat) (l : Bs) (q : Bool) (pv bv : Value) (cs : Array Value) : Prop where
  b : BAt w LT b 0 B l pv bv cs
  has : cs[2]? = some (.bool q)
  size : cs.size = 3
theorem LAt.new (w : World) : LAt (w.alloc (.cells #[.pointer none, .slice none 0 0, .bool false] LT)) w.heap.size (w.heap.size + 1) [] false (.pointer none) (.slice none 0 0) #[.pointer none, .slice none 0 0, .bool false] :=
  ⟨⟨heap_last _ _, rfl, rfl, .inl rfl, World.ownsRow_nil _ _ _ _, liesL, by decide⟩, rfl, rfl⟩
theorem LAt.kept {w w' : World} {b B : Nat} {l : Bs} {q : Bool} {pv bv : Value} {cs : Array Value} {Y : List Nat} (h : LAt w b B l q pv bv cs) (hk : Kept Y w w') (hb : b ∉ Y) (hv : ∀ i ∈ Y, i < B) : LAt w' b B l q pv bv cs := ⟨h.b.kept hk hb hv, h.has, h.size⟩
theorem LAt.below {w w' : World} {b B : Nat} {l : Bs} {q : Bool} {pv bv : Value} {cs : Array Value} (h : LAt w b B l q pv bv cs) (hB : Below w.heap.size w w') : LAt w' b B l q pv bv cs := ⟨h.b.below hB, h.has, h.size⟩
theorem LAt.set {w : World} {b B : Nat} {l : Bs} {q : Bool} {pv bv : Value} {cs : Array Value} (h : LAt w b B l q pv bv cs) (r : Bool) : LAt (w.setCell ⟨b, 2, none⟩ (.bool r)) b B l r pv bv (cs.setIfInBounds 2 (.bool r)) := by
  have hg : w.grownBy (w.setCell ⟨b, 2, none⟩ (.bool r)) (some b) := ⟨rfl, rfl, rfl, by simp [World.setCell], fun j _ hj => Below.heap_setCell _ _ _ _ (fun e => hj (by simp [e]))⟩
  exact ⟨⟨heap_set (i := 2) h.b.cells _, by rw [Array.getElem?_setIfInBounds_ne (by omega)]; exact h.b.ptr, by rw [Array.getElem?_setIfInBounds_ne (by omega)]; exact h.b.buf, h.b.used, h.b.own.kept hg (Or.inr h.b.not_own), by simpa using h.b.lies, h.b.ne⟩, by simp [h.size], by simp [h.size]⟩
theorem LAt.cell {w : World} {b B : Nat} {l : Bs} {q : Bool} {pv bv : Value} {cs : Array Value} (h : LAt w b B l q pv bv cs) : w.cell? ⟨b, 2, none⟩ = some (.bool q) := cell_at h.b.cells h.has
/-- What an addition leaves. -/
def Added (w : World) (b B : Nat) (l : Bs) (q : Bool) (w' : World) : Prop := ∃ (Y : List Nat) (bv' : Value) (cs' : Array Value), LAt w' b B l q (.pointer (some ⟨b, 0, none⟩)) bv' cs' ∧ Kept Y w w' ∧ ∀ i ∈ Y, i = b ∨ B ≤ i
theorem ladd_any (w : World) {b B : Nat} {l : Bs} {q : Bool} {pv bv : Value} {cs : Array Value} (h : LAt w b B l q pv bv cs) (s : ByteArray) (hl : l.length + s.size ≤ 1048576) :
    (hBw : B ≤ w.heap.size) → Calls Tryz.prog 27 #[.pointer (some ⟨b, 0, none⟩), .string s] w fun e w' => e = .returned (.tuple #[]) ∧ Added w b B (l ++ by8 s) q w' := by
  intro hBw
  refine (add_any w h.b s hl hBw).mono ?_
  rintro e w' ⟨rfl, bv', hb, hk⟩
  have hsz := h.size
  refine ⟨rfl, _, bv', _, ⟨hb, ?_, ?_⟩, hk, fun i hi => ?_⟩
  · unfold bCs
    rw [Array.getElem?_setIfInBounds_ne (by omega), Array.getElem?_setIfInBounds_ne (by omega)]
    exact h.has
  · unfold bCs; simpa using hsz
  · rcases List.mem_cons.1 hi with rfl | hi
    · exact .inl rfl
    · exact .inr (h.b.fresh i hi)
theorem kept_join {Y Z : List Nat} {a b c : World} (h : Kept Y a b) (k : Kept Z b c) : Kept (Y ++ Z) a c := (h.mono fun i hi => by simp [hi]).trans (k.mono fun i hi => by simp [hi])
set_option maxHeartbeats 2000000 in
theorem put_any (w : World) {b B : Nat} {l : Bs} {q : Bool} {pv bv : Value} {cs : Array Value} (h : LAt w b B l q pv bv cs) (s : ByteArray) (hl : l.length + s.size + 1 ≤ 1048576) (hBw : B ≤ w.heap.size) :
    Calls Tryz.prog 36 #[.pointer (some ⟨b, 0, none⟩), .string s] w fun e w' => e = .returned (.tuple #[]) ∧ Added w b B (l ++ (if q = true then [32] else []) ++ by8 s) true w' := by
  have hlt := h.b.lt
  have c2 := h.cell
  have f2 := frozen_at h.b.cells 2
  cases q with
  | false =>
    have HL := Lib.hid (h.set true)
    have HK := Lib.hid ((Kept.refl [b] w).setCell (p := ⟨b, 2, none⟩) (.inl (by simp)) (.bool true))
    clear h
    go_enter Tryz.func36, Tryz.ntmps36
    go_wp2_with fail
    refine (ladd_any _ HL.out s (by omega) (by simpa [World.setCell] using hBw)).mono ?_
    rintro e w1 ⟨rfl, Y, bv', cs', hL1, hK1, hY⟩
    have HL1 := Lib.hid hL1
    have HK1 := Lib.hid (kept_join HK.out hK1)
    clear hL1 hK1 HL HK
    go_wp2_with fail
    go_end0
    refine ⟨rfl, _, bv', cs', ?_, HK1.out, fun i hi => ?_⟩
    · exact HL1.out
    · rcases List.mem_append.1 hi with hi | hi
      · exact .inl (List.mem_singleton.1 hi)
      · exact hY i hi
  | true =>
    have H := Lib.hid h
    clear h
    go_enter Tryz.func36, Tryz.ntmps36
    go_wp2_with fail
    refine (ladd_any _ H.out ⟨#[32]⟩ (by show l.length + 1 ≤ _; omega) hBw).mono ?_
    rintro e w1 ⟨rfl, Y, bv1, cs1, hL1, hK1, hY⟩
    have hlt1 := hL1.b.lt
    have d2 := hL1.cell
    have g2 := frozen_at hL1.b.cells 2
    have HL2 := Lib.hid (hL1.set true)
    have HK2 := Lib.hid (kept_join hK1 ((Kept.refl [b] w1).setCell (p := ⟨b, 2, none⟩) (.inl (by simp)) (.bool true)))
    have hB1 : B ≤ (w1.setCell ⟨b, 2, none⟩ (.bool true)).heap.size := by have := hK1.size; simp [World.setCell]; omega
    clear hL1 hK1 H
    go_wp2_with fail
    refine (ladd_any _ HL2.out s (by rw [List.length_append]; show l.length + 1 + s.size ≤ _; omega) hB1).mono ?_
    rintro e w3 ⟨rfl, Z, bv3, cs3, hL3, hK3, hZ⟩
    have HL3 := Lib.hid hL3
    have HK3 := Lib.hid (kept_join HK2.out hK3)
    clear hL3 hK3 HL2 HK2
    go_wp2_with fail
    go_end0
    refine ⟨rfl, _, bv3, cs3, ?_, HK3.out, fun i hi => ?_⟩
    · have h := HL3.out
      rw [show by8 ⟨#[32]⟩ = [32] from rfl, List.append_assoc] at h
      exact h
    · rcases List.mem_append.1 hi with hi | hi
      · rcases List.mem_append.1 hi with hi | hi
        · exact hY i hi
        · exact .inl (List.mem_singleton.1 hi)
      · exact hZ i hi
end Go.Proofs.YtebagfadcjgllaaGreatDoor.Xw

namespace Go.Proofs.YtebagfadcjgllaaGreatDoor.Xw
open Go.RowKit Go.Proofs.YtebagfadcjgllaaGreatDoor Go.Proofs.YtebagfadcjgllaaGreatDoor.Ww Go.Proofs.YtebagfadcjgllaaGreatDoor.Tw Go.Proofs.YtebagfadcjgllaaGreatDoor.Kw Go.Proofs.YtebagfadcjgllaaGreatDoor.Jw Go.Proofs.YtebagfadcjgllaaGreatDoor.Xb
set_option maxRecDepth 100000

theorem LAt.base {w : World} {b B : Nat} {q : Bool} {pv : Value} {cs : Array Value} (h : LAt w b B [] q pv (.slice none 0 0) cs) (B' : Nat) : LAt w b B' [] q pv (.slice none 0 0) cs :=
  ⟨⟨h.b.cells, h.b.ptr, h.b.buf, h.b.used, World.ownsRow_nil _ _ _ _, h.b.lies, h.b.ne⟩, h.has, h.size⟩
/-- a.c b.c, and what it becomes. -/
def aX : Bs := [97, 46, 99, 32, 98, 46, 99]
def bX : Bs := [97, 46, 111, 32, 98, 46, 111]
theorem all_X : (wordsS Xc.sX).map (chS Xc.fX Xc.tX) = [str [97, 46, 111], str [98, 46, 111]] := by
  rw [Xc.words_X]
  unfold chS
  simp only [List.map_cons, List.map_nil]
  rw [show Tp.changeA (by8 (str [97, 46, 99])) (by8 Xc.fX) (by8 Xc.tX) = [97, 46, 111] by decide, show Tp.changeA (by8 (str [98, 46, 99])) (by8 Xc.fX) (by8 Xc.tX) = [98, 46, 111] by decide]
section
variable {xb tb ab lb yb : Nat} {gv kv : Value} {X : List Nat} {L : List Jp.V}
set_option maxHeartbeats 4000000 in
theorem sub_X (d : Int) (B : List (Bs × Unit)) (h1 : 0 ≤ d) (hd : d < 60) (HV : ValueC xb tb ab lb yb gv kv X L [88] d B (some aX)) (w : World) (hC : Cx xb tb ab lb yb gv kv X L w d B) :
    Calls Tryz.prog 60 #[.pointer (some ⟨xb, 0, none⟩), .string (str [88]), .string (str [46, 99]), .string (str [46, 111])] w (XPost xb tb ab lb yb gv kv X L (fun s => .string (str s)) w d B (some bX)) := by
  have HP1 := Lib.hid (expand_plain (xb := xb) (tb := tb) (ab := ab) (lb := lb) (yb := yb) (gv := gv) (kv := kv) (X := X) (L := L) [88] d B (by decide) (by decide) h1 hd)
  have HP2 := Lib.hid (expand_plain (xb := xb) (tb := tb) (ab := ab) (lb := lb) (yb := yb) (gv := gv) (kv := kv) (X := X) (L := L) [46, 99] d B (by decide) (by decide) h1 hd)
  have HP3 := Lib.hid (expand_plain (xb := xb) (tb := tb) (ab := ab) (lb := lb) (yb := yb) (gv := gv) (kv := kv) (X := X) (L := L) [46, 111] d B (by decide) (by decide) h1 hd)
  have HV := Lib.hid HV
  have HO := Lib.hid (On.refl hC)
  have HH := Lib.hid fun W => Has_any W (str [46, 99]) (by decide)
  rw [show (Tp.atA (by8 (str [46, 99]))).isSome = false by decide] at HH
  clear hC
  go_enter Tryz.func60, Tryz.ntmps60
  go_wp2_with fail
  refine (HP1.out _ HO.out.cx).mono ?_
  rintro e w1 ⟨rfl, hC1, hK1⟩
  have HO1 := Lib.hid (HO.out.call hC1 hK1)
  clear hC1 hK1 HO HP1
  go_wp2_with fail
  refine (HV.out _ HO1.out.cx).mono ?_
  rintro e w2 ⟨rfl, hC2, hK2⟩
  have HO2 := Lib.hid (HO1.out.call hC2 hK2)
  clear hC2 hK2 HO1 HV
  go_wp2_with fail
  refine (HP2.out _ HO2.out.cx).mono ?_
  rintro e w3 ⟨rfl, hC3, hK3⟩
  have HO3 := Lib.hid (HO2.out.call hC3 hK3)
  clear hC3 hK3 HO2 HP2
  go_wp2_with fail
  refine (HP3.out _ HO3.out.cx).mono ?_
  rintro e w4 ⟨rfl, hC4, hK4⟩
  have HO4 := Lib.hid (HO3.out.call hC4 hK4)
  clear hC4 hK4 HO3 HP3
  go_wp2_with fail
  refine (HH.out _).mono ?_
  rintro e w5 ⟨rfl, B5⟩
  have HO5 := Lib.hid (HO4.out.below B5)
  have z1 : (str [46, 99]).size = 2 := rfl
  have z2 : (str [46, 111]).size = 2 := rfl
  clear B5 HO4 HH
  go_wp2_with fail
  have q1 : (⟨#[37]⟩ : ByteArray) ++ str [46, 99] = Xc.fX := by decide
  have q2 : (⟨#[37]⟩ : ByteArray) ++ str [46, 111] = Xc.tX := by decide
  have q3 : str aX = Xc.sX := rfl
  rw [q1, q2, q3]
  clear q1 q2 q3
  refine (Xc.changed_X _).mono ?_
  rintro e w6 ⟨rfl, B6⟩
  have HO6 := Lib.hid (HO5.out.below B6)
  have HN := Lib.hid (LAt.new w6)
  have HO7 := Lib.hid (HO6.out.below ((Below.refl w6.heap.size w6).alloc (Nat.le_refl _) (.cells #[.pointer none, .slice none 0 0, .bool false] LT)))
  have hxw := HO6.out.lt.2.2
  clear B6 HO5 HO6 z1 z2
  go_wp2_with fail
  generalize w6.alloc (.cells #[.pointer none, .slice none 0 0, .bool false] LT) = w7 at *
  refine (Split_any _ Xc.sX (by decide)).mono ?_
  rintro e w8 ⟨v8, rfl, ho8, B8⟩
  have HO8 := Lib.hid (HO7.out.below B8)
  have HN8 := Lib.hid (HN.out.below B8)
  have HR8 := Lib.hid (Rd.of_own ho8)
  obtain ⟨a8, c8, rfl⟩ := owns_slice ho8
  clear ho8 B8 HO7 HN
  have HA := Lib.hid (All_own w8 _ (wordsS Xc.sX) Xc.fX Xc.tX HR8.out (by rw [Xc.words_X]; decide) (by rw [Xc.words_X]; decide) (by decide) (by decide))
  rw [all_X, show (wordsS Xc.sX).length = 2 by rw [Xc.words_X]; rfl] at HA
  rw [show (wordsS Xc.sX).length = 2 by rw [Xc.words_X]; rfl]
  clear HR8
  go_wp2_with fail
  refine HA.out.mono ?_
  rintro e w9 ⟨v9, rfl, ho9, B9⟩
  have HO9 := Lib.hid (HO8.out.below B9)
  have HN9 := Lib.hid ((HN8.out.below B9).base w9.heap.size)
  obtain ⟨a9, c9, rfl⟩ := owns_slice ho9
  obtain ⟨g, rfl, hg, hgb, x0, x1⟩ : ∃ g, a9 = some ⟨g, 0, none⟩ ∧ g < w9.heap.size ∧ w8.heap.size ≤ g ∧ w9.cell? ⟨g, 0, none⟩ = some (.string (str [97, 46, 111])) ∧ w9.cell? ⟨g, 1, none⟩ = some (.string (str [98, 46, 111])) := by
    rcases ho9.2 with ⟨_, hz⟩ | ⟨g, cap, cur, hv, hb, hg, _⟩
    · cases hz
    · cases hv
      exact ⟨g, rfl, (Array.getElem?_eq_some_iff.1 hg).1, hb, ho9.cells (g := g) rfl 0 _ rfl, ho9.cells (g := g) rfl 1 _ rfl⟩
  have hnl := HN8.out.b.lt
  clear ho9 B9 HO8 HN8 HA
  go_wp2_with fail
  have e1 := emp_is (l := [97, 46, 111]) (by decide)
  have e2 := emp_no (l := [97, 46, 111]) (by decide)
  have e3 := emp_is (l := [98, 46, 111]) (by decide)
  have e4 := emp_no (l := [98, 46, 111]) (by decide)
  have y1 : (str [97, 46, 111]).size = 3 := rfl
  have y2 : (str [98, 46, 111]).size = 3 := rfl
  have b1 : by8 (str [97, 46, 111]) = [97, 46, 111] := rfl
  have b2 : by8 (str [98, 46, 111]) = [98, 46, 111] := rfl
  have HP := Lib.hid (put_any w9 HN9.out (str [97, 46, 111]) (by decide) (Nat.le_refl _))
  rw [b1] at HP
  have HY := Lib.hid (And.intro y2 b2)
  clear b1 b2 y1 y2
  generalize str [97, 46, 111] = u1 at *
  generalize str [98, 46, 111] = u2 at *
  refine wp_loop_rounds 3 ?_
  rw [rounds_succ]
  go_wp2_with fail
  refine HP.out.mono ?_
  rintro e w10 ⟨rfl, Y, bv1, cs1, hL1, hK1, hY1⟩
  have HL1 := Lib.hid hL1
  have HO10 := Lib.hid (HO9.out.fresh hK1 (fun i hi => by
    rcases hY1 i hi with rfl | h
    · exact hxw
    · have := HO9.out.lt.2.2; omega))
  have x1b := (hK1.cell (p := ⟨g, 1, none⟩) hg (fun h => by
    rcases hY1 g h with e | h
    · have : g = w6.heap.size := e; omega
    · omega)).trans x1
  have hsz := hK1.size
  have HP2 := Lib.hid (put_any w10 HL1.out u2 (by rw [HY.out.1]; decide) hsz)
  rw [HY.out.2] at HP2
  clear hL1 hK1 HP HN9 HO9 x0 x1
  go_wp2_with fail
  rw [rounds_succ]
  go_wp2_with fail
  refine HP2.out.mono ?_
  rintro e w11 ⟨rfl, Z, bv2, cs2, hL2, hK2, hZ2⟩
  have HL2 := Lib.hid hL2
  have HO11 := Lib.hid (HO10.out.fresh hK2 (fun i hi => by
    rcases hZ2 i hi with rfl | h
    · exact hxw
    · have := HO10.out.lt.2.2; omega))
  clear hL2 hK2 HP2 HL1 HO10 x1b
  go_wp2_with fail
  rw [rounds_succ]
  go_wp2_with fail
  refine (String_any _ HL2.out.b).mono ?_
  rintro e w12 ⟨rfl, hK3⟩
  have hfr := HL2.out.b.fresh
  have HO12 := Lib.hid (HO11.out.fresh hK3 (fun i hi => by have := hfr i hi; omega))
  clear hK3 HL2 HO11
  go_wp2_with fail
  go_ret
  exact ⟨rfl, HO12.out.cx, HO12.out.k⟩
end
end Go.Proofs.YtebagfadcjgllaaGreatDoor.Xw
