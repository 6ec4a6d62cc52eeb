/-
  flatironref02.places: a pattern's places, as the document's answer lists them.
-/
import Derived.Lib.AppendStr
import Derived.WalkSmall
import Derived.Maps.AppendAt
import Derived.Laws.IdiomStrings
import Derived.Test.YtdckeefhncdegaaDoorFns
namespace Go.Proofs.YtdckeefhncdegaaDoor.Gm
open Go.RowKit Go.Proofs.YtdckeefhncdegaaDoor
set_option maxRecDepth 100000

def kindP : Gl.Pl → Int
  | .star => 0
  | .any => 1
  | .br _ => 2
  | .lit _ => 3
def textP : Gl.Pl → Bs
  | .star => []
  | .any => []
  | .br t => t
  | .lit c => [c]
/-- A place as its two cells. -/
def plC (x : Gl.Pl) : List Value := [.int .i64 (kindP x), .string ⟨(textP x).toArray⟩]
def plsC (l : List Gl.Pl) : List Value := l.flatMap plC

theorem infoP : (Tryd.prog.info? 33).map (fun i => (i.zero, i.size, i.bytes)) = some (some (.agg #[.int .i64 0, .string ByteArray.empty]), 2, 24) := by kernel_rfl

theorem owns_slice {w : World} {base : Nat} {e : TypeId} {size : Nat} {v : Value} {n : Nat} {xs : List Value} (h : w.ownsRow base e size v n xs) : ∃ a c, v = .slice a n c := by
  rcases h.2 with ⟨rfl, rfl⟩ | ⟨g, cap, cur, rfl, _⟩
  · exact ⟨_, _, rfl⟩
  · exact ⟨_, _, rfl⟩

theorem two_new (wr : World) (o : Obj) (x y : Value) (T : TypeId) : ∀ (j : Nat) (u : Value), [x, y][j]? = some u → ((wr.alloc o).alloc (.cells #[x, y] T)).cell? ((⟨wr.heap.size + 1, 0, none⟩ : Addr).add j) = some u := by
  intro j u hj
  rw [Addr.add_lit, World.cell?_alloc_at _ _ _ _ (by simp)]
  match j, hj with
  | 0, hj => simpa using hj
  | 1, hj => simpa using hj

theorem plsC_snoc (l : List Gl.Pl) (x : Gl.Pl) : plsC (l ++ [x]) = plsC l ++ plC x := by simp [plsC]

theorem one_is {p : ByteArray} {k : Nat} (h : k < p.size) : p.extract k (k + 1) = ⟨[p[k]].toArray⟩ := by
  refine by8_ext ?_
  show (p.extract k (k + 1)).data.toList = _
  rw [ByteArray.data_extract, Array.toList_extract, List.extract_eq_take_drop, Nat.add_sub_cancel_left]
  show ((by8 p).drop k).take 1 = _
  rw [by8_at h]; rfl
theorem part_is (p : ByteArray) (k n m : Nat) (hm : m = k + n) : p.extract k m = ⟨(((by8 p).drop k).take n).toArray⟩ := by
  subst hm
  refine by8_ext ?_
  show (p.extract k (k + n)).data.toList = _
  rw [ByteArray.data_extract, Array.toList_extract, List.extract_eq_take_drop, Nat.add_sub_cancel_left]
  rfl

/-- One place more. -/
theorem places_step {p : ByteArray} {k n : Nat} {X : Gl.Pl} (h : k < p.size) (hX : Gl.place ((by8 p).drop k) = X) (hn : Gl.pc ((by8 p).drop k) = n) :
    Gl.places ((by8 p).drop k) = X :: Gl.places ((by8 p).drop (k + n)) ∧ k + n ≤ p.size ∧ 1 ≤ n := by
  have hne : (by8 p).drop k ≠ [] := by rw [by8_at h]; simp
  have h1 := Gl.pc_le ((by8 p).drop k)
  have h2 := Gl.pc_pos hne
  rw [List.length_drop, by8_len, hn] at h1
  rw [hn] at h2
  exact ⟨by rw [Gl.places_cons hne, hX, hn, List.drop_drop], by omega, h2⟩

/-- What a round keeps. -/
def PlRel (B : Nat) (w : World) (p : ByteArray) (v i : Value) (wr : World) : Prop :=
  ∃ (k : Nat) (out : List Gl.Pl) (a : Option Addr) (c : Nat), i = .int .i64 k ∧ v = .slice a out.length c ∧ wr.ownsRow B 33 2 (.slice a out.length c) out.length (plsC out) ∧ Below B w wr ∧
      k ≤ p.size ∧ out ++ Gl.places ((by8 p).drop k) = Gl.places (by8 p) ∧ out.length ≤ k

theorem PlRel.next {B : Nat} {w w1 : World} {p : ByteArray} {k n : Nat} {out : List Gl.Pl} {X : Gl.Pl} {K : Int} {T : ByteArray} {a2 : Option Addr} {c2 : Nat}
    (hcut : out ++ Gl.places ((by8 p).drop k) = Gl.places (by8 p)) (hlen : out.length ≤ k)
    (hX : Gl.places ((by8 p).drop k) = X :: Gl.places ((by8 p).drop (k + n)) ∧ k + n ≤ p.size ∧ 1 ≤ n) (hT : plC X = [.int .i64 K, .string T])
    (ho : w1.ownsRow B 33 2 (.slice a2 (out.length + 1) c2) (out.length + 1) (plsC out ++ [.int .i64 K, .string T])) (hB : Below B w w1) :
    PlRel B w p (.slice a2 (out.length + 1) c2) (.int .i64 ((k : Int) + (n : Int))) w1 :=
  ⟨k + n, out ++ [X], a2, c2, by go_num, by rw [List.length_append]; rfl, by rw [plsC_snoc, hT, List.length_append]; exact ho, hB, hX.2.1, by rw [List.append_assoc, List.singleton_append, ← hX.1]; exact hcut, by rw [List.length_append]; have := hX.2.2; simp; omega⟩

set_option maxHeartbeats 8000000 in
theorem places_any (w : World) (p : ByteArray) (hs : p.size ≤ 1000000) :
    Calls Tryd.prog 15 #[.string p] w fun e w' => ∃ (a : Option Addr) (c : Nat), e = .returned (.slice a (Gl.places (by8 p)).length c) ∧ w'.ownsRow w.heap.size 33 2 (.slice a (Gl.places (by8 p)).length c) (Gl.places (by8 p)).length (plsC (Gl.places (by8 p))) ∧ Below w.heap.size w w' ∧ (Gl.places (by8 p)).length ≤ p.size := by
  obtain ⟨i0, hi, hz0, hz1, hz2⟩ := info_parts infoP
  go_enter Tryd.func15, Tryd.ntmps15
  go_wp2
  go_loopw [3, 4] (fun v i wr => PlRel w.heap.size w p v i wr)
    (fun _ i _ => p.size - (intOf i).toNat)
  case atStart => exact ⟨0, [], none, 0, rfl, rfl, World.ownsRow_nil _ _ _ _, Below.refl _ _, Nat.zero_le _, rfl, Nat.le_refl _⟩
  case round =>
    obtain ⟨k, out, a, c, rfl, rfl, hr, hB, hk, hcut, hlen⟩ := hrel
    by_cases hlt : k < p.size
    · have HC := Lib.hid hcut
      have hcons := by8_at hlt
      clear hcut
      by_cases h42 : p[k] = 42
      · have hb : ((p[k].toNat : Int) == 42) = true := by rw [h42]; rfl
        have HX := Lib.hid (places_step (X := .star) (n := 1) hlt (by rw [hcons, h42]; rfl) (by rw [hcons, h42]; rfl))
        have HP : Hid (plC .star = [.int .i64 0, .string ⟨#[]⟩]) := Lib.hid rfl
        clear h42 hcons
        go_wp2_with (at_builtin; refine wpList_append_own _ rfl _ _ 29 rfl w.heap.size 33 i0 (.agg #[.int .i64 0, .string ByteArray.empty]) 2 24 Tryd.underlying29 hi hz0 hz1 hz2 rfl (by decide) _ _ _ rfl ((hr.alloc _).alloc _) ⟨wr.heap.size + 1, 0, none⟩ 1 1 [.int .i64 0, .string ⟨#[]⟩] rfl rfl (two_new _ _ _ _ _) (by simp [Value.oneCell']) (by unfold maxLen; omega) (by omega) (by have := hB.size; simp; omega) ?_; intro v' w1 hown' hgrow _; obtain ⟨a2, c2, rfl⟩ := owns_slice hown')
        go_roundw
        case rel => exact PlRel.next HC.out hlen HX.out HP.out hown' (((hB.alloc hB.size _).alloc (by have := hB.size; simp; omega) _).grown hgrow (by have := hB.size; simp; omega) fun j ej => (hr.lt j ej).1)
        case measure => have := HX.out.2; simp [intOf] <;> omega
      · have hb : ((p[k].toNat : Int) == 42) = false := eq_false (b := 42) h42
        by_cases h63 : p[k] = 63
        · have hb2 : ((p[k].toNat : Int) == 63) = true := by rw [h63]; rfl
          have HX := Lib.hid (places_step (X := .any) (n := 1) hlt (by rw [hcons, h63]; rfl) (by rw [hcons, h63]; rfl))
          have HP : Hid (plC .any = [.int .i64 1, .string ⟨#[]⟩]) := Lib.hid rfl
          clear h42 h63 hcons
          go_wp2_with (at_builtin; refine wpList_append_own _ rfl _ _ 29 rfl w.heap.size 33 i0 (.agg #[.int .i64 0, .string ByteArray.empty]) 2 24 Tryd.underlying29 hi hz0 hz1 hz2 rfl (by decide) _ _ _ rfl ((hr.alloc _).alloc _) ⟨wr.heap.size + 1, 0, none⟩ 1 1 [.int .i64 1, .string ⟨#[]⟩] rfl rfl (two_new _ _ _ _ _) (by simp [Value.oneCell']) (by unfold maxLen; omega) (by omega) (by have := hB.size; simp; omega) ?_; intro v' w1 hown' hgrow _; obtain ⟨a2, c2, rfl⟩ := owns_slice hown')
          go_roundw
          case rel => exact PlRel.next HC.out hlen HX.out HP.out hown' (((hB.alloc hB.size _).alloc (by have := hB.size; simp; omega) _).grown hgrow (by have := hB.size; simp; omega) fun j ej => (hr.lt j ej).1)
          case measure => have := HX.out.2; simp [intOf] <;> omega
        · have hb2 : ((p[k].toNat : Int) == 63) = false := eq_false (b := 63) h63
          by_cases h91 : p[k] = 91
          · have hb3 : ((p[k].toNat : Int) == 91) = true := by rw [h91]; rfl
            have hend := Lib.hid (end_any wr (p.extract (k + 1) p.size) (by rw [ByteArray.size_extract]; omega))
            cases he : Gl.endOf ((by8 p).drop (k + 1)) with
            | none =>
              have HV : Hid (endI (by8 (p.extract (k + 1) p.size)) = -1) := Lib.hid (by rw [by8_drop]; unfold endI; rw [he])
              have HX := Lib.hid (places_step (X := .lit 91) (n := 1) hlt (by rw [hcons, h91, Gl.place_cons, he]; rfl) (by rw [hcons, h91, Gl.pc_cons, he]; rfl))
              have HP : Hid (plC (.lit 91) = [.int .i64 3, .string (p.extract k (k + 1))]) := Lib.hid (by rw [one_is hlt, h91]; rfl)
              clear h42 h63 h91 hcons he
              go_wp2_with (first
                | (go_at_call 33; go_must (refine (end_any _ (p.extract (k + 1) p.size) (by rw [ByteArray.size_extract]; omega)).mono ?_); rw [HV.out]; rintro e w' ⟨rfl, rfl⟩)
                | (at_builtin; refine wpList_append_own _ rfl _ _ 29 rfl w.heap.size 33 i0 (.agg #[.int .i64 0, .string ByteArray.empty]) 2 24 Tryd.underlying29 hi hz0 hz1 hz2 rfl (by decide) _ _ _ rfl ((hr.alloc _).alloc _) ⟨wr.heap.size + 1, 0, none⟩ 1 1 [.int .i64 3, .string (p.extract k (k + 1))] rfl rfl (two_new _ _ _ _ _) (by simp [Value.oneCell']) (by unfold maxLen; omega) (by omega) (by have := hB.size; simp; omega) ?_; intro v' w1 hown' hgrow _; obtain ⟨a2, c2, rfl⟩ := owns_slice hown'))
              go_roundw
              case rel => exact PlRel.next HC.out hlen HX.out HP.out hown' (((hB.alloc hB.size _).alloc (by have := hB.size; simp; omega) _).grown hgrow (by have := hB.size; simp; omega) fun j ej => (hr.lt j ej).1)
              case measure => have := HX.out.2; simp [intOf] <;> omega
            | some j =>
              have HV : Hid (endI (by8 (p.extract (k + 1) p.size)) = (j : Int)) := Lib.hid (by rw [by8_drop]; unfold endI; rw [he])
              have HX := Lib.hid (places_step (X := .br (((by8 p).drop (k + 1)).take j)) (n := j + 2) hlt (by rw [hcons, h91, Gl.place_cons, he]; rfl) (by rw [hcons, h91, Gl.pc_cons, he]; rfl))
              have HP : Hid (plC (.br (((by8 p).drop (k + 1)).take j)) = [.int .i64 2, .string (p.extract (k + 1) (k + 1 + j))]) := Lib.hid (by rw [part_is p (k + 1) j _ rfl]; rfl)
              have hjk := HX.out.2.1
              clear h42 h63 h91 hcons he
              go_wp2_with (first
                | (go_at_call 33; go_must (refine (end_any _ (p.extract (k + 1) p.size) (by rw [ByteArray.size_extract]; omega)).mono ?_); rw [HV.out]; rintro e w' ⟨rfl, rfl⟩)
                | (at_builtin; refine wpList_append_own _ rfl _ _ 29 rfl w.heap.size 33 i0 (.agg #[.int .i64 0, .string ByteArray.empty]) 2 24 Tryd.underlying29 hi hz0 hz1 hz2 rfl (by decide) _ _ _ rfl ((hr.alloc _).alloc _) ⟨wr.heap.size + 1, 0, none⟩ 1 1 [.int .i64 2, .string (p.extract (k + 1) (k + 1 + j))] rfl rfl (two_new _ _ _ _ _) (by simp [Value.oneCell']) (by unfold maxLen; omega) (by omega) (by have := hB.size; simp; omega) ?_; intro v' w1 hown' hgrow _; obtain ⟨a2, c2, rfl⟩ := owns_slice hown'))
              go_roundw
              case rel => exact PlRel.next HC.out hlen HX.out HP.out hown' (((hB.alloc hB.size _).alloc (by have := hB.size; simp; omega) _).grown hgrow (by have := hB.size; simp; omega) fun j ej => (hr.lt j ej).1)
              case measure => have := HX.out.2; simp [intOf] <;> omega
          · have hb3 : ((p[k].toNat : Int) == 91) = false := eq_false (b := 91) h91
            by_cases h92 : p[k] = 92
            · have hb4 : ((p[k].toNat : Int) == 92) = true := by rw [h92]; rfl
              by_cases h1 : k + 1 < p.size
              · have HX := Lib.hid (places_step (X := .lit p[k + 1]) (n := 2) hlt (by rw [hcons, h92, Gl.place_cons, by8_at h1]; rfl) (by rw [hcons, h92, Gl.pc_cons, by8_at h1]; rfl))
                have HP : Hid (plC (.lit p[k + 1]) = [.int .i64 3, .string (p.extract (k + 1) (k + 2))]) := Lib.hid (by rw [one_is h1]; rfl)
                clear h42 h63 h91 h92 hcons
                go_wp2_with (at_builtin; refine wpList_append_own _ rfl _ _ 29 rfl w.heap.size 33 i0 (.agg #[.int .i64 0, .string ByteArray.empty]) 2 24 Tryd.underlying29 hi hz0 hz1 hz2 rfl (by decide) _ _ _ rfl ((hr.alloc _).alloc _) ⟨wr.heap.size + 1, 0, none⟩ 1 1 [.int .i64 3, .string (p.extract (k + 1) (k + 2))] rfl rfl (two_new _ _ _ _ _) (by simp [Value.oneCell']) (by unfold maxLen; omega) (by omega) (by have := hB.size; simp; omega) ?_; intro v' w1 hown' hgrow _; obtain ⟨a2, c2, rfl⟩ := owns_slice hown')
                go_roundw
                case rel => exact PlRel.next HC.out hlen HX.out HP.out hown' (((hB.alloc hB.size _).alloc (by have := hB.size; simp; omega) _).grown hgrow (by have := hB.size; simp; omega) fun j ej => (hr.lt j ej).1)
                case measure => have := HX.out.2; simp [intOf] <;> omega
              · have HX := Lib.hid (places_step (X := .lit 92) (n := 1) hlt (by rw [hcons, h92, Gl.place_cons, List.drop_of_length_le (by rw [by8_len]; omega)]; rfl) (by rw [hcons, h92, Gl.pc_cons, List.drop_of_length_le (by rw [by8_len]; omega)]; rfl))
                have HP : Hid (plC (.lit 92) = [.int .i64 3, .string (p.extract k (k + 1))]) := Lib.hid (by rw [one_is hlt, h92]; rfl)
                clear h42 h63 h91 h92 hcons
                go_wp2_with (at_builtin; refine wpList_append_own _ rfl _ _ 29 rfl w.heap.size 33 i0 (.agg #[.int .i64 0, .string ByteArray.empty]) 2 24 Tryd.underlying29 hi hz0 hz1 hz2 rfl (by decide) _ _ _ rfl ((hr.alloc _).alloc _) ⟨wr.heap.size + 1, 0, none⟩ 1 1 [.int .i64 3, .string (p.extract k (k + 1))] rfl rfl (two_new _ _ _ _ _) (by simp [Value.oneCell']) (by unfold maxLen; omega) (by omega) (by have := hB.size; simp; omega) ?_; intro v' w1 hown' hgrow _; obtain ⟨a2, c2, rfl⟩ := owns_slice hown')
                go_roundw
                case rel => exact PlRel.next HC.out hlen HX.out HP.out hown' (((hB.alloc hB.size _).alloc (by have := hB.size; simp; omega) _).grown hgrow (by have := hB.size; simp; omega) fun j ej => (hr.lt j ej).1)
                case measure => have := HX.out.2; simp [intOf] <;> omega
            · have hb4 : ((p[k].toNat : Int) == 92) = false := eq_false (b := 92) h92
              have HX := Lib.hid (places_step (X := .lit p[k]) (n := 1) hlt (by rw [hcons, Gl.place_cons, if_neg h42, if_neg h63, if_neg h91, if_neg h92]) (by rw [hcons, Gl.pc_cons, if_neg h91, if_neg h92]))
              have HP : Hid (plC (.lit p[k]) = [.int .i64 3, .string (p.extract k (k + 1))]) := Lib.hid (by rw [one_is hlt]; rfl)
              clear h42 h63 h91 h92 hcons
              go_wp2_with (at_builtin; refine wpList_append_own _ rfl _ _ 29 rfl w.heap.size 33 i0 (.agg #[.int .i64 0, .string ByteArray.empty]) 2 24 Tryd.underlying29 hi hz0 hz1 hz2 rfl (by decide) _ _ _ rfl ((hr.alloc _).alloc _) ⟨wr.heap.size + 1, 0, none⟩ 1 1 [.int .i64 3, .string (p.extract k (k + 1))] rfl rfl (two_new _ _ _ _ _) (by simp [Value.oneCell']) (by unfold maxLen; omega) (by omega) (by have := hB.size; simp; omega) ?_; intro v' w1 hown' hgrow _; obtain ⟨a2, c2, rfl⟩ := owns_slice hown')
              go_roundw
              case rel => exact PlRel.next HC.out hlen HX.out HP.out hown' (((hB.alloc hB.size _).alloc (by have := hB.size; simp; omega) _).grown hgrow (by have := hB.size; simp; omega) fun j ej => (hr.lt j ej).1)
              case measure => have := HX.out.2; simp [intOf] <;> omega
    · obtain rfl : k = p.size := by omega
      rw [List.drop_of_length_le (by rw [by8_len]; exact Nat.le_refl _), Gl.places_nil, List.append_nil] at hcut
      subst hcut
      go_wp2
      go_ret
      exact ⟨a, c, rfl, hr, hB, hlen⟩
end Go.Proofs.YtdckeefhncdegaaDoor.Gm
