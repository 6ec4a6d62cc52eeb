/-
  stem.All: each word, changed.
  expand.changed, at the chapter's example: how long its words are once they are changed.
  (*list).put.
  (*expansion).substitute, at the chapter's example.
  (*expansion).inside and reference, of a name between brackets.
-/
import Derived.OwnWalk
import Derived.Laws.OwnMore
import Derived.Test.YtgednccpjegbmaaGreatDoorQTPut
import Derived.Test.YtgednccpjegbmaaGreatDoorQTBase
import Derived.Test.YtgednccpjegbmaaGreatDoorQWSplit
import Derived.Test.YtgednccpjegbmaaGreatDoorQXPlain
import Derived.Lib.IndexAny
import Derived.Test.YtgednccpjegbmaaGreatDoorQWCut
namespace Go.Proofs.YtgednccpjegbmaaGreatDoor.Tw
open Go.RowKit Go.Proofs.YtgednccpjegbmaaGreatDoor Go.Proofs.YtgednccpjegbmaaGreatDoor.Ww
set_option maxRecDepth 100000

abbrev ST : TypeId := 9
theorem infoS : (Tryz.prog.info? ST).map (fun i => (i.zero, i.size, i.bytes)) = some (some (.string ByteArray.empty), 1, 16) := by kernel_rfl
theorem owns_below {wr w3 : World} {base : Nat} {e : TypeId} {z : Nat} {v : Value} {n : Nat} {xs : List Value} (h : wr.ownsRow base e z v n xs) (B : Below wr.heap.size wr w3) : w3.ownsRow base e z v n xs := by
  refine ⟨h.1, ?_⟩
  rcases h.2 with h | ⟨g, cap, cur, h1, h2, h3, h4⟩
  · exact .inl h
  · exact .inr ⟨g, cap, cur, h1, h2, (B.block g (Array.getElem?_eq_some_iff.1 h3).1).trans h3, h4⟩
/-- A whole store, and the world behind it as a variable. -/
theorem store_box {P : Program} {ops : Array Oper} {rest : List Oper} {o : Oper} {a : Act} {w : World} {Q : Exit → Act → World → Prop} (hgd : o.guard = none) (ty : TypeId) (x y : Operand) (ho : o.op = .store ty x y)
    (g : Nat) (cells : Array Value) (hx : a.eval x = .pointer (some ⟨g, 0, none⟩)) (hy : a.eval y = .agg cells)
    (t : TypeId) (old : Array Value) (hg : w.heap[g]? = some (.cells old t (0, 0))) (hi : (P.info? ty).map (·.size) = some cells.size)
    (hold : old.size = cells.size) (h1 : cells.all (·.oneCell') = true)
    (h : ∀ W3 : World, Hid (W3.heap[g]? = some (.cells cells t (0, 0))) → Hid (W3 = w.setRow g cells) → wpList P ops Q rest (a.put o.dst undef) W3) : wpList P ops Q (o :: rest) a w :=
  wpList_store_row hgd ty x y ho g cells hx hy t old hg hi hold h1 (h _ (Lib.hid (setRow_heap _ _ _ _ _ _ hg)) (Lib.hid rfl))
theorem own_down {w : World} {base b' : Nat} {e : TypeId} {size : Nat} {v : Value} {n : Nat} {xs : List Value} (h : w.ownsRow base e size v n xs) (hb : b' ≤ base) : w.ownsRow b' e size v n xs := by
  refine ⟨h.1, ?_⟩
  rcases h.2 with h | ⟨g, cap, cur, h1, h2, h3⟩
  · exact .inl h
  · exact .inr ⟨g, cap, cur, h1, Nat.le_trans hb h2, h3⟩
/-- What is known at a round of All. -/
def AllRel (w0 : World) (l : List ByteArray) (a b : ByteArray) (v i : Value) (wr : World) : Prop :=
  ∃ (k : Nat) (ad : Option Addr) (c : Nat), v = .slice ad k c ∧ i = .int .i64 (k : Int) ∧ k ≤ l.length ∧ wr.ownsRow w0.heap.size ST 1 (.slice ad k c) k (strsC ((l.take k).map (chS a b))) ∧ Below w0.heap.size w0 wr
theorem all_next {w0 wr w3 w4 : World} {l : List ByteArray} {a b : ByteArray} {k : Nat} {ad ad2 : Option Addr} {c c2 : Nat} (hk : k < l.length) (hB : Below w0.heap.size w0 wr) (B3 : Below wr.heap.size wr w3)
    (ho : wr.ownsRow w0.heap.size ST 1 (.slice ad k c) k (strsC ((l.take k).map (chS a b))))
    (hown : w4.ownsRow w0.heap.size ST 1 (.slice ad2 (k + 1) c2) (k + 1) (strsC ((l.take k).map (chS a b)) ++ [.string (chS a b l[k])])) (o : Obj)
    (hg : (w3.alloc o).grownBy w4 (Value.slice ad k c).ownBlock) : AllRel w0 l a b (.slice ad2 (k + 1) c2) (.int .i64 ((k : Int) + 1)) w4 := by
  refine ⟨k + 1, ad2, c2, rfl, by go_num, hk, ?_, ?_⟩
  · rw [List.take_succ_eq_append_getElem hk, List.map_append]
    unfold strsC at hown ⊢
    rw [List.map_append]
    exact hown
  · have h3 := hB.trans (B3.mono hB.size)
    exact (h3.alloc h3.size o).grown hg (by have := h3.size; simp; omega) fun j ej => (ho.lt j ej).1

set_option maxHeartbeats 4000000 in
theorem All_own (w : World) (v : Value) (l : List ByteArray) (a b : ByteArray) (hr : Rd w w.heap.size v (strsC l)) (hl : l.length ≤ 100000) (hs : ∀ x ∈ l, x.size ≤ 100000) (ha : a.size ≤ 100000) (hb : b.size ≤ 100000) :
    Calls Tryz.prog 263 #[v, .string a, .string b] w fun e w' => ∃ v, e = .returned v ∧ w'.ownsRow w.heap.size ST 1 v l.length (strsC (l.map (chS a b))) ∧ Below w.heap.size w w' := by
  obtain ⟨i0, hi, hz0, hz1, hz2⟩ := info_parts infoS
  have HR := Lib.hid hr
  obtain ⟨a0, c0, rfl, hc0⟩ := hr.shape
  have HS := Lib.hid hs
  have HA := Lib.hid fun W => cut_any W a (by omega)
  have HB := Lib.hid fun W => cut_any W b (by omega)
  have HM := Lib.hid fun W x (hx : x.size ≤ 100000) => change_any W x a b (by omega) (by omega) (by omega)
  have sA : (patC a).size = 4 := by unfold patC patOf; split <;> rfl
  have sB : (patC b).size = 4 := by unfold patC patOf; split <;> rfl
  have oA : (patC a).all (·.oneCell') = true := by unfold patC patOf; split <;> simp [Value.oneCell']
  have oB : (patC b).all (·.oneCell') = true := by unfold patC patOf; split <;> simp [Value.oneCell']
  have iA : (Tryz.prog.info? PA).map (·.size) = some (patC a).size := by rw [sA]; exact sizeA
  have iB : (Tryz.prog.info? PA).map (·.size) = some (patC b).size := by rw [sB]; exact sizeA
  have zA : zeroP.size = (patC a).size := by rw [sA]; rfl
  have zB : zeroP.size = (patC b).size := by rw [sB]; rfl
  unfold patV at HA HB HM
  clear hs hr sA sB
  generalize patC a = pa at *
  generalize patC b = pb at *
  rw [strsC_len] at *
  go_enter Tryz.func263, Tryz.ntmps263
  go_wp2_with fail
  refine (HA.out _).mono ?_
  rintro e w1 ⟨rfl, B1⟩
  go_wp2_with fail
  refine (HB.out _).mono ?_
  rintro e w2 ⟨rfl, B2⟩
  have HBW := Lib.hid (B1.trans (B2.mono B1.size))
  have HX := Lib.hid (two_box w2 (.cells zeroP PA) (.cells zeroP PA))
  clear B1 B2
  go_wp2_with (first
    | (refine store_box rfl PA _ _ rfl w2.heap.size pa rfl rfl PA zeroP HX.out.1 iA zA oA ?_; intro W3 HG3 HE3; have HY3 : Hid (W3.heap[w2.heap.size + 1]? = some (.cells zeroP PA (0, 0)) ∧ W3.heap.size = w2.heap.size + 2) := Lib.hid (by rw [HE3.out]; exact ⟨(setRow_other _ _ _ _ (by omega)).trans HX.out.2, by rw [setRow_size]; simp⟩); have HB3 : Hid (Below w2.heap.size w2 W3) := Lib.hid (by rw [HE3.out]; exact below_setRow (((Below.refl _ _).alloc (Nat.le_refl _) _).alloc (by simp) _) (Nat.le_refl _) _); clear HE3)
    | (refine store_box rfl PA _ _ rfl (w2.heap.size + 1) pb rfl rfl PA zeroP HY3.out.1 iB zB oB ?_; intro W4 HG4 HE4; have HY4 : Hid (W4.heap[w2.heap.size]? = some (.cells pa PA (0, 0)) ∧ W4.heap.size = w2.heap.size + 2) := Lib.hid (by rw [HE4.out]; exact ⟨(setRow_other _ _ _ _ (by omega)).trans HG3.out, by rw [setRow_size]; exact HY3.out.2⟩); have HB4 : Hid (Below w.heap.size w W4) := Lib.hid (by rw [HE4.out]; exact below_setRow (HBW.out.trans (HB3.out.mono HBW.out.size)) (by have := HBW.out.size; omega) _); clear HE4))
  go_loopw [9, 18] (fun v i wr => AllRel W4 l a b v i wr) (fun _ i _ => l.length - (intOf i).toNat)
  case atStart => exact ⟨0, none, 0, rfl, rfl, Nat.zero_le _, World.ownsRow_nil _ _ _ _, Below.refl _ _⟩
  case round =>
    obtain ⟨k, ad, c, rfl, rfl, hk, ho, hB⟩ := hrel
    have HO := Lib.hid ho
    have HBB := Lib.hid hB
    by_cases hlt : k < l.length
    · obtain ⟨g, o, c', hv, hc', hg, hx⟩ := HR.out.open_ (by rw [strsC_len]; omega)
      rw [strsC_len] at hv hc'
      obtain ⟨rfl, _, rfl⟩ := (Value.slice.injEq ..).mp hv
      have hcx : wr.cell? ⟨g, o + k, none⟩ = some (.string l[k]) := ((HB4.out.trans (hB.mono HB4.out.size)).cell (p := ⟨g, o + k, none⟩) hg).trans (hx k _ (strsC_get l hlt))
      have HP1 := Lib.hid ((hB.block w2.heap.size (by have := HY4.out.2; omega)).trans HY4.out.1)
      have HP2 := Lib.hid ((hB.block (w2.heap.size + 1) (by have := HY4.out.2; omega)).trans HG4.out)
      have HC := Lib.hid fun W => HM.out W l[k] (HS.out _ (List.getElem_mem hlt))
      have hki : (k : Int) < l.length := by omega
      have hk0 : (0 : Int) ≤ (k : Int) := Int.natCast_nonneg _
      have hgv : l.length ≤ c0 := by omega
      have HN := Lib.hid fun w3 w4 ad2 c2 => @all_next W4 wr w3 w4 l a b k ad ad2 c c2 hlt hB
      have hch : str (Tp.changeA (by8 l[k]) (by8 a) (by8 b)) = chS a b l[k] := rfl
      rw [hch] at HC
      clear hx ho hB hch
      generalize chS a b l[k] = r at *
      generalize l[k] = x at *
      go_wp2_with (first
        | (refine wpList_load_row rfl PA _ rfl w2.heap.size rfl PA pa (0, 0) _ HP1.out undA rfl iA ?_)
        | (refine wpList_load_row rfl PA _ rfl (w2.heap.size + 1) rfl PA pb (0, 0) _ HP2.out undA rfl iB ?_))
      refine (HC.out _).mono ?_
      rintro e w3 ⟨rfl, B3⟩
      have HO3 := Lib.hid (owns_below HO.out B3)
      have hs3 : w2.heap.size + 2 ≤ w3.heap.size := by have h1 := HY4.out.2; have h2 := HBB.out.size; have h3 := B3.size; omega
      go_wp2_with (at_builtin; refine wpList_append_own _ rfl _ _ 76 rfl W4.heap.size ST i0 (.string ByteArray.empty) 1 16 Tryz.underlying76 hi hz0 hz1 hz2 rfl (by decide) _ _ _ rfl (HO3.out.alloc _) ⟨w3.heap.size, 0, none⟩ 1 1 [.string r] rfl rfl (cell_one_new _ _ _) (by simp [Value.oneCell']) (by unfold maxLen; omega) (by omega) (by have := HY4.out.2; simp; omega) ?_; intro v' w4 hown' hgrow _; obtain ⟨a2, c2, rfl⟩ := owns_slice hown')
      go_roundw
      case rel => exact HN.out _ _ _ _ B3 HO.out hown' _ hgrow
      case measure => simp [intOf]; omega
    · obtain rfl : k = l.length := by omega
      have hki : ¬ (l.length : Int) < l.length := by omega
      clear ho hB
      go_wp2_with fail
      go_ret
      refine ⟨_, rfl, ?_, HB4.out.trans (HBB.out.mono HB4.out.size)⟩
      have := HO.out
      rw [List.take_of_length_le (Nat.le_refl _)] at this
      exact own_down this HB4.out.size
end Go.Proofs.YtgednccpjegbmaaGreatDoor.Tw
namespace Go.Proofs.YtgednccpjegbmaaGreatDoor.Xc
open Go.RowKit Go.Shelf Go.Proofs.YtgednccpjegbmaaGreatDoor Go.Proofs.YtgednccpjegbmaaGreatDoor.Ww Go.Proofs.YtgednccpjegbmaaGreatDoor.Tw
attribute [local go_sem] Oper.semAt_some
set_option maxRecDepth 100000

end Go.Proofs.YtgednccpjegbmaaGreatDoor.Xc
namespace Go.Proofs.YtgednccpjegbmaaGreatDoor.Xw
open Go.RowKit Go.Proofs.YtgednccpjegbmaaGreatDoor Go.Proofs.YtgednccpjegbmaaGreatDoor.Ww Go.Proofs.YtgednccpjegbmaaGreatDoor.Tw Go.Proofs.YtgednccpjegbmaaGreatDoor.Kw Go.Proofs.YtgednccpjegbmaaGreatDoor.Jw Go.Proofs.YtgednccpjegbmaaGreatDoor.Xb
set_option maxRecDepth 100000

abbrev LT : TypeId := 233
end Go.Proofs.YtgednccpjegbmaaGreatDoor.Xw

namespace Go.Proofs.YtgednccpjegbmaaGreatDoor.Xw
open Go.RowKit Go.Proofs.YtgednccpjegbmaaGreatDoor Go.Proofs.YtgednccpjegbmaaGreatDoor.Ww Go.Proofs.YtgednccpjegbmaaGreatDoor.Tw Go.Proofs.YtgednccpjegbmaaGreatDoor.Kw Go.Proofs.YtgednccpjegbmaaGreatDoor.Jw Go.Proofs.YtgednccpjegbmaaGreatDoor.Xb
set_option maxRecDepth 100000

section
variable {xb tb ab lb yb : Nat} {gv kv : Value} {X : List Nat} {L : List Jp.V}
end
end Go.Proofs.YtgednccpjegbmaaGreatDoor.Xw
namespace Go.Proofs.YtgednccpjegbmaaGreatDoor.Xw
open Go.RowKit Go.Proofs.YtgednccpjegbmaaGreatDoor Go.Proofs.YtgednccpjegbmaaGreatDoor.Ww Go.Proofs.YtgednccpjegbmaaGreatDoor.Tw Go.Proofs.YtgednccpjegbmaaGreatDoor.Kw Go.Proofs.YtgednccpjegbmaaGreatDoor.Jw Go.Proofs.YtgednccpjegbmaaGreatDoor.Xb
set_option maxRecDepth 100000

section
variable {xb tb ab lb yb : Nat} {gv kv : Value} {X : List Nat} {L : List Jp.V}
end
end Go.Proofs.YtgednccpjegbmaaGreatDoor.Xw
