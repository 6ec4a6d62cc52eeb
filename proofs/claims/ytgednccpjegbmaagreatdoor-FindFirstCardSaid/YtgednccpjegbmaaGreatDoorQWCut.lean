/-
  words.set: which bytes a text has, as an array of 256.
  A fresh cell.
  words.follow: the ends of the brackets that are open, behind one byte more.
  words.Cut: where the first byte of some stands, that isn't between brackets.
-/
import Derived.Test.YtgednccpjegbmaaGreatDoorQTBase
namespace Go.Proofs.YtgednccpjegbmaaGreatDoor.Ww
open Go.RowKit Go.Proofs.YtgednccpjegbmaaGreatDoor
set_option maxRecDepth 1000000

abbrev AT : TypeId := 194
theorem infoA : (Tryz.prog.info? AT).map (fun i => (i.zero, i.size)) = some (some (.agg (Array.replicate 256 (.bool false))), 256) := by kernel_rfl
theorem sizeA : (Tryz.prog.info? AT).map (·.size) = some 256 := (zero_of_info infoA).2
theorem zeroA (w : World) : (zeroValue AT).run Tryz.prog w = .ok (.agg (Array.replicate 256 (.bool false))) w := (zero_of_info infoA).1 w

theorem set_round (s : ByteArray) (i : Nat) (h : i < s.size) : (Lib.setCells ((by8 s).take i)).setIfInBounds s[i].toNat (.bool true) = Lib.setCells ((by8 s).take (i + 1)) := by
  rw [by8_snoc h, Lib.setCells_snoc]

def Zs : Array Value := Array.replicate 256 (.bool false)
/-- What the loop's head knows. -/
def SetRel (w : World) (s : ByteArray) (s7 : Value) (wx : World) : Prop :=
  ∃ i : Nat, i ≤ s.size ∧ s7 = .int .i64 i ∧ wx.heap[w.heap.size]? = some (.cells Zs AT (0, 0)) ∧ wx.heap[w.heap.size + 1]? = some (.cells (Lib.setCells ((by8 s).take i)) AT (0, 0)) ∧ Below w.heap.size w wx
theorem SetRel.next {w wx : World} {s : ByteArray} {i : Nat} (hlt : i < s.size) (h0 : wx.heap[w.heap.size]? = some (.cells Zs AT (0, 0)))
    (h1 : wx.heap[w.heap.size + 1]? = some (.cells (Lib.setCells ((by8 s).take i)) AT (0, 0))) (hB : Below w.heap.size w wx) {x : UInt8} (hx : s[i] = x) :
    SetRel w s (.int .i64 ((i : Int) + 1)) (wx.setCell ⟨w.heap.size + 1, x.toNat, none⟩ (.bool true)) := by
  refine ⟨i + 1, hlt, by go_num, ?_, ?_, hB.setCell (by simp) _⟩
  · rw [heap_setCell_other _ _ _ _ (by simp)]; exact h0
  · rw [heap_setCell_same _ _ _ _ _ _ h1, ← set_round s i hlt, hx]

set_option maxHeartbeats 4000000 in
theorem set_any (s : ByteArray) (w : World) (hs : s.size ≤ 1000000) :
    Calls Tryz.prog 204 #[.string s] w fun e w' => e = .returned (.agg (Lib.setCells (by8 s))) ∧ Below w.heap.size w w' := by
  have hz := zeroA
  go_enter Tryz.func204, Tryz.ntmps204
  go_wp2
  go_loopw [7] (fun s7 wx => SetRel w s s7 wx) (fun s7 _ => s.size - (intOf s7).toNat)
  case atStart => exact ⟨0, Nat.zero_le _, rfl, by rw [heap_alloc2_old]; rfl, by rw [heap_alloc2_new]; rfl, ((Below.refl _ _).alloc (Nat.le_refl _) _).alloc (by simp) _⟩
  case round =>
    obtain ⟨i, hi, rfl, h0, h1, hB⟩ := hrel
    by_cases hlt : i < s.size
    · obtain ⟨x, hx⟩ : ∃ x : UInt8, s[i]'hlt = x := ⟨_, rfl⟩
      have HR := Lib.hid (SetRel.next hlt h0 h1 hB hx)
      have hx256 : (x.toNat : Int) < 256 := by have := UInt8.toNat_lt x; omega
      have hcell := (cell_of_row wr _ x.toNat _ _ _ h1).trans (Lib.setCells_at ((by8 s).take i) x)
      have hfr := frozen_of_row wr _ x.toNat _ _ h1
      clear h0 h1
      go_wp2
      go_roundw
      case rel => exact HR.out
      case measure => simp [intOf]; omega
    · obtain rfl : i = s.size := by omega
      rw [List.take_of_length_le (by rw [by8_len]; exact Nat.le_refl _)] at h1
      have H0 := Lib.hid h0
      have H1 := Lib.hid h1
      clear h0 h1
      go_wp2_with (first
        | (refine wpList_load_row rfl AT _ rfl (w.heap.size + 1) rfl AT (Lib.setCells (by8 s)) (0, 0) _ H1.out Tryz.underlying194 rfl (by rw [Lib.setCells_size]; exact sizeA) ?_)
        | (refine wpList_store_row rfl AT _ _ rfl w.heap.size (Lib.setCells (by8 s)) rfl rfl AT Zs H0.out (by rw [Lib.setCells_size]; exact sizeA) (by rw [Lib.setCells_size]; rfl) (Lib.setCells_one _) ?_))
      (try simp only [Exit.inBlock, Exit.then])
      exact bodyPost_ret (v := .agg (Lib.setCells (by8 s))) (results_cell_row rfl _ _ w.heap.size AT _ (0, 0) _ rfl (setRow_heap _ _ _ _ _ _ H0.out) Tryz.underlying194 rfl (by rw [Lib.setCells_size]; exact sizeA)) rfl ⟨rfl, below_setRow hB (Nat.le_refl _) _⟩
end Go.Proofs.YtgednccpjegbmaaGreatDoor.Ww
namespace Go.Proofs.YtgednccpjegbmaaGreatDoor.Ww
open Go.RowKit Go.Proofs.YtgednccpjegbmaaGreatDoor
set_option maxRecDepth 100000

theorem one_new (wr : World) (x : Value) (T : TypeId) : ∀ (j : Nat) (u : Value), [x][j]? = some u → (wr.alloc (.cells #[x] T)).cell? ((⟨wr.heap.size, 0, none⟩ : Addr).add j) = some u := by
  intro j u hj
  rw [Addr.add_lit, World.cell?_alloc_at _ _ _ _ (by simp)]
  match j, hj with
  | 0, hj => simpa using hj
end Go.Proofs.YtgednccpjegbmaaGreatDoor.Ww
namespace Go.Proofs.YtgednccpjegbmaaGreatDoor.Ww
open Go.RowKit Go.Proofs.YtgednccpjegbmaaGreatDoor
set_option maxRecDepth 100000

abbrev U8 : TypeId := 5
theorem infoU : (Tryz.prog.info? U8).map (fun i => (i.zero, i.size, i.bytes)) = some (some (.int .u8 0), 1, 1) := by kernel_rfl
/-- The ends of brackets, as cells. -/
def endsC (op : Bs) : List Value := op.map fun x => Value.int .u8 ((Wp.close x).toNat : Int)
theorem endsC_snoc (op : Bs) (c : UInt8) : endsC (op ++ [c]) = endsC op ++ [Value.int .u8 ((Wp.close c).toNat : Int)] := by simp [endsC]
theorem endsC_cut (op : Bs) : endsC op.dropLast = (endsC op).take (op.length - 1) := by
  rw [List.dropLast_eq_take]; simp [endsC, List.map_take]
theorem endsC_last {op : Bs} {d : UInt8} (h : op.getLast? = some d) : (endsC op)[op.length - 1]? = some (Value.int .u8 ((Wp.close d).toNat : Int)) := by
  rw [List.getLast?_eq_getElem?] at h
  simp [endsC, h]

def FollowPost (B : Nat) (op : Bs) (w : World) (e : Ending) (w' : World) : Prop :=
  ∃ a c, e = .returned (.slice a op.length c) ∧ w'.ownsRow B U8 1 (.slice a op.length c) op.length (endsC op) ∧ Below B w w'

theorem FollowPost.app {B : Nat} {op : Bs} {c : UInt8} {w w1 : World} {a2 : Option Addr} {c2 : Nat} {d : Int} (hc : c = 40 ∨ c = 123) (hd : ((Wp.close c).toNat : Int) = d)
    (h : w1.ownsRow B U8 1 (.slice a2 (op.length + 1) c2) (op.length + 1) (endsC op ++ [.int .u8 d])) (hB : Below B w w1) : FollowPost B (Wp.next op c) w (.returned (.slice a2 (op.length + 1) c2)) w1 := by
  rw [Wp.next_open hc]
  subst hd
  refine ⟨a2, c2, by rw [List.length_append]; rfl, ?_, hB⟩
  rw [endsC_snoc, List.length_append]
  exact h

set_option maxHeartbeats 4000000 in
theorem follow_any (w : World) (B : Nat) (op : Bs) (ho : Wp.Open op) (c : UInt8) (a : Option Addr) (cp : Nat) (hr : w.ownsRow B U8 1 (.slice a op.length cp) op.length (endsC op)) (hl : op.length ≤ 1000000) (hB : B ≤ w.heap.size) :
    Calls Tryz.prog 205 #[.slice a op.length cp, .int .u8 (c.toNat : Int)] w (FollowPost B (Wp.next op c) w) := by
  obtain ⟨i0, hi, hz0, hz1, hz2⟩ := info_parts infoU
  by_cases h40 : c = 40
  · have hb : ((c.toNat : Int) == 40) = true := by rw [h40]; rfl
    have HF := Lib.hid fun (w1 : World) (a2 : Option Addr) (c2 : Nat) => @FollowPost.app B op c w w1 a2 c2 41 (.inl h40) (by rw [h40]; rfl)
    clear h40
    go_enter Tryz.func205, Tryz.ntmps205
    go_wp2_with (at_builtin; refine wpList_append_own _ rfl _ _ 22 rfl B U8 i0 (.int .u8 0) 1 1 Tryz.underlying22 hi hz0 hz1 hz2 rfl (by decide) _ _ _ rfl (hr.alloc _) ⟨w.heap.size, 0, none⟩ 1 1 [.int .u8 41] rfl rfl (one_new _ _ _) (by simp [Value.oneCell']) (by unfold maxLen; omega) (by omega) (by simp; omega) ?_; intro v' w1 hown' hgrow _; obtain ⟨a2, c2, rfl⟩ := owns_slice hown')
    go_ret
    exact HF.out _ _ _ hown' (((Below.refl B w).alloc hB _).grown hgrow (by simp; omega) fun j ej => (hr.lt j ej).1)
  · have hb : ((c.toNat : Int) == 40) = false := eq_false (b := 40) h40
    by_cases h123 : c = 123
    · have hb2 : ((c.toNat : Int) == 123) = true := by rw [h123]; rfl
      have HF := Lib.hid fun (w1 : World) (a2 : Option Addr) (c2 : Nat) => @FollowPost.app B op c w w1 a2 c2 125 (.inr h123) (by rw [h123]; rfl)
      clear h40 h123
      go_enter Tryz.func205, Tryz.ntmps205
      go_wp2_with (at_builtin; refine wpList_append_own _ rfl _ _ 22 rfl B U8 i0 (.int .u8 0) 1 1 Tryz.underlying22 hi hz0 hz1 hz2 rfl (by decide) _ _ _ rfl (hr.alloc _) ⟨w.heap.size, 0, none⟩ 1 1 [.int .u8 125] rfl rfl (one_new _ _ _) (by simp [Value.oneCell']) (by unfold maxLen; omega) (by omega) (by simp; omega) ?_; intro v' w1 hown' hgrow _; obtain ⟨a2, c2, rfl⟩ := owns_slice hown')
      go_ret
      exact HF.out _ _ _ hown' (((Below.refl B w).alloc hB _).grown hgrow (by simp; omega) fun j ej => (hr.lt j ej).1)
    · have hb2 : ((c.toNat : Int) == 123) = false := eq_false (b := 123) h123
      cases hlast : op.getLast? with
      | none =>
        have h0 : op = [] := List.getLast?_eq_none_iff.1 hlast
        have HF : Hid (FollowPost B (Wp.next op c) w (.returned (.slice a op.length cp)) w) := Lib.hid ⟨a, cp, by rw [Wp.next_other h40 h123 (by rw [hlast]; intro d h; cases h)], by rw [Wp.next_other h40 h123 (by rw [hlast]; intro d h; cases h)]; exact hr, Below.refl _ _⟩
        subst h0
        clear hr hlast h40 h123
        go_enter Tryz.func205, Tryz.ntmps205
        go_wp2
        go_ret
        exact HF.out
      | some d =>
        have hne : 0 < op.length := by
          cases op with
          | nil => cases hlast
          | cons _ _ => simp
        obtain ⟨g, rfl, hcp⟩ := owns_addr hr hne
        have hcell := owns_cell hr (endsC_last hlast)
        by_cases hcd : c = Wp.close d
        · have hb3 : (((Wp.close d).toNat : Int) == (c.toNat : Int)) = true := eq_true hcd.symm
          have HF : Hid (FollowPost B (Wp.next op c) w (.returned (.slice (some ⟨g, 0, none⟩) (op.length - 1) cp)) w) := Lib.hid (by
            rw [Wp.next_close ho hlast hcd]
            refine ⟨_, _, by rw [List.length_dropLast], ?_, Below.refl _ _⟩
            rw [endsC_cut, List.length_dropLast]
            exact owns_take hr (by omega) (by simp))
          clear hr hlast h40 h123 hcd
          generalize hn : op.length = n at *
          obtain ⟨k, rfl⟩ : ∃ k, n = k + 1 := ⟨n - 1, by omega⟩
          clear hn
          have hk : k + 1 - 1 = k := rfl
          rw [hk] at hcell HF
          go_enter Tryz.func205, Tryz.ntmps205
          go_wp2
          go_ret
          exact HF.out
        · have hb3 : (((Wp.close d).toNat : Int) == (c.toNat : Int)) = false := eq_false (fun h => hcd h.symm)
          have HF : Hid (FollowPost B (Wp.next op c) w (.returned (.slice (some ⟨g, 0, none⟩) op.length cp)) w) := Lib.hid (by
            rw [Wp.next_other h40 h123 (by rw [hlast]; intro d' h; rw [← Option.some.inj h]; exact hcd)]
            exact ⟨_, _, rfl, hr, Below.refl _ _⟩)
          clear hr hlast h40 h123 hcd
          generalize hn : op.length = n at *
          obtain ⟨k, rfl⟩ : ∃ k, n = k + 1 := ⟨n - 1, by omega⟩
          clear hn
          have hk : k + 1 - 1 = k := rfl
          rw [hk] at hcell
          go_enter Tryz.func205, Tryz.ntmps205
          go_wp2
          go_ret
          exact HF.out
end Go.Proofs.YtgednccpjegbmaaGreatDoor.Ww
namespace Go.Proofs.YtgednccpjegbmaaGreatDoor.Ww
open Go.RowKit Go.Proofs.YtgednccpjegbmaaGreatDoor
set_option maxRecDepth 100000

/-- What Cut returns. -/
def cutOut (s : ByteArray) : Option Nat → Value
  | none => .tuple #[.string s, .int .u8 0, .string ⟨#[]⟩]
  | some k => .tuple #[.string (s.extract 0 k), .int .u8 (((by8 s).getD k 0).toNat : Int), .string (s.extract (k + 1) s.size)]
theorem cutOut_some {s : ByteArray} {k : Nat} (h : k < s.size) : cutOut s (some k) = .tuple #[.string (s.extract 0 k), .int .u8 (s[k].toNat : Int), .string (s.extract (k + 1) s.size)] := by
  show Value.tuple #[.string (s.extract 0 k), .int .u8 (((by8 s).getD k 0).toNat : Int), .string (s.extract (k + 1) s.size)] = _
  rw [List.getD_eq_getElem?_getD, by8_get h]
  rfl

def CutPost (s stops : ByteArray) (w : World) (e : Ending) (w' : World) : Prop := e = .returned (cutOut s (Wp.cutA (by8 stops) [] (by8 s) 0)) ∧ Below w.heap.size w w'

/-- What the loop's head knows. -/
def CutRel (w : World) (s stops : ByteArray) (b : Nat) (v i : Value) (wr : World) : Prop :=
  ∃ (k : Nat) (op : Bs) (a : Option Addr) (cp : Nat), v = .slice a op.length cp ∧ i = .int .i64 k ∧ k ≤ s.size ∧ op.length ≤ k ∧ Wp.Open op ∧ wr.ownsRow (b + 1) U8 1 (.slice a op.length cp) op.length (endsC op) ∧
    b + 1 ≤ wr.heap.size ∧ wr.heap[b]? = some (.cells (Lib.setCells (by8 stops)) AT (0, 0)) ∧ Below w.heap.size w wr ∧ Wp.cutA (by8 stops) op ((by8 s).drop k) k = Wp.cutA (by8 stops) [] (by8 s) 0

theorem CutRel.next {w wr w1 : World} {s stops : ByteArray} {b k : Nat} {op : Bs} {a2 : Option Addr} {c2 : Nat} (hk : k < s.size) (hl : op.length ≤ k) (ho : Wp.Open op) (hm : ¬ (op = [] ∧ (by8 stops).contains s[k] = true))
    (hb : b + 1 ≤ wr.heap.size) (hg : wr.heap[b]? = some (.cells (Lib.setCells (by8 stops)) AT (0, 0))) (hB : Below w.heap.size w wr) (hw : w.heap.size ≤ b) (hC : Wp.cutA (by8 stops) op ((by8 s).drop k) k = Wp.cutA (by8 stops) [] (by8 s) 0)
    (hr : w1.ownsRow (b + 1) U8 1 (.slice a2 (Wp.next op s[k]).length c2) (Wp.next op s[k]).length (endsC (Wp.next op s[k]))) (h1 : Below (b + 1) wr w1) :
    CutRel w s stops b (.slice a2 (Wp.next op s[k]).length c2) (.int .i64 ((k : Int) + 1)) w1 := by
  refine ⟨k + 1, Wp.next op s[k], a2, c2, rfl, by go_num, hk, ?_, ho.next, hr, Nat.le_trans hb h1.size, ?_, hB.trans (h1.mono (by omega)), ?_⟩
  · have := Wp.next_len op s[k]; omega
  · rw [h1.block b (by omega)]; exact hg
  · rw [← hC, by8_at hk, Wp.cutA_miss hm]

set_option maxHeartbeats 4000000 in
theorem Cut_any (w : World) (s stops : ByteArray) (hs : s.size ≤ 100000) (hst : stops.size ≤ 100000) :
    Calls Tryz.prog 158 #[.string s, .string stops] w (CutPost s stops w) := by
  have hz := zeroA
  go_enter Tryz.func158, Tryz.ntmps158
  go_wp2_with fail
  refine (set_any stops _ (by omega)).mono ?_
  rintro e w1 ⟨rfl, B1⟩
  have H1 := Lib.hid (heap_alloc_last w1 (.cells Zs AT (0, 0)))
  go_wp2_with (refine wpList_store_row rfl AT _ _ rfl w1.heap.size (Lib.setCells (by8 stops)) rfl rfl AT Zs H1.out (by rw [Lib.setCells_size]; exact sizeA) (by rw [Lib.setCells_size]; rfl) (Lib.setCells_one _) ?_)
  have HG := Lib.hid (setRow_heap _ w1.heap.size _ (Lib.setCells (by8 stops)) _ _ H1.out)
  have HB : Hid (Below w.heap.size w ((w1.alloc (.cells Zs AT (0, 0))).setRow w1.heap.size (Lib.setCells (by8 stops)))) := Lib.hid (below_setRow (B1.alloc B1.size _) B1.size _)
  go_loopw [8, 14] (fun v i wr => CutRel w s stops w1.heap.size v i wr) (fun _ i _ => s.size - (intOf i).toNat)
  case atStart => exact ⟨0, [], none, 0, rfl, rfl, Nat.zero_le _, Nat.le_refl _, Wp.Open.nil, World.ownsRow_nil _ _ _ _, by simp, HG.out, HB.out, rfl⟩
  case round =>
    obtain ⟨k, op, a, cp, rfl, rfl, hk, hl, ho, hr, hb, hg, hB, hC⟩ := hrel
    clear H1 HG HB
    by_cases hlt : k < s.size
    · by_cases h0 : op = []
      · subst h0
        have hx256 : (s[k].toNat : Int) < 256 := by have := UInt8.toNat_lt s[k]; omega
        have hcell := (cell_of_row wr _ s[k].toNat _ _ _ hg).trans (Lib.setCells_at (by8 stops) s[k])
        cases hct : (by8 stops).contains s[k] with
        | true =>
          rw [hct] at hcell
          have HP : Hid (CutPost s stops w (.returned (.tuple #[.string (s.extract 0 k), .int .u8 (s[k].toNat : Int), .string (s.extract (k + 1) s.size)])) wr) := Lib.hid (by
            refine ⟨?_, hB⟩
            rw [← hC, by8_at hlt, Wp.cutA_hit hct, cutOut_some hlt])
          have HB := Lib.hid hB
          have hw1 : IntKind.i64.wrap (↑k + 1) = ↑k + 1 := IntWalk.i64_in _ (by omega)
          have hw2 : (0 : Int) ≤ ↑k + 1 := by omega
          have hw3 : ((k : Int) + 1).toNat = k + 1 := by omega
          clear hC hg ho hr hct
          go_wp2_with fail
          go_quiet (fail)
          go_wp2_with fail
          go_ret3
          exact ⟨HP.out.1, below_drewN HB.out _⟩
        | false =>
          rw [hct] at hcell
          have HN := Lib.hid fun (w2 : World) (a2 : Option Addr) (c2 : Nat) => @CutRel.next w wr w2 s stops w1.heap.size k [] a2 c2 hlt hl ho (fun h => by rw [hct] at h; cases h.2) hb hg hB B1.size hC
          have HR := Lib.hid hr
          have HO := Lib.hid ho
          clear hC hg ho hr hct
          go_wp2_with fail
          refine (follow_any wr (w1.heap.size + 1) [] HO.out s[k] a cp HR.out (by simp) hb).mono ?_
          rintro e w2 ⟨a2, c2, rfl, hown, hb2⟩
          have HR2 := Lib.hid hown
          clear hown
          go_wp2_with fail
          go_roundw
          case rel => exact HN.out _ _ _ HR2.out hb2
          case measure => simp [intOf]; omega
      · have hpos : 0 < op.length := List.length_pos_iff.2 h0
        have hb0 : ((op.length : Int) == 0) = false := beq_eq_false_iff_ne.2 (by omega)
        have HN := Lib.hid fun (w2 : World) (a2 : Option Addr) (c2 : Nat) => @CutRel.next w wr w2 s stops w1.heap.size k op a2 c2 hlt hl ho (fun h => h0 h.1) hb hg hB B1.size hC
        have HR := Lib.hid hr
        have HO := Lib.hid ho
        clear hC hg ho hr h0
        go_wp2_with fail
        refine (follow_any wr (w1.heap.size + 1) op HO.out s[k] a cp HR.out (by omega) hb).mono ?_
        rintro e w2 ⟨a2, c2, rfl, hown, hb2⟩
        have HR2 := Lib.hid hown
        clear hown
        go_wp2_with fail
        go_roundw
        case rel => exact HN.out _ _ _ HR2.out hb2
        case measure => simp [intOf]; omega
    · obtain rfl : k = s.size := by omega
      have HP : Hid (CutPost s stops w (.returned (.tuple #[.string s, .int .u8 0, .string ⟨#[]⟩])) wr) := Lib.hid (by
        refine ⟨?_, hB⟩
        rw [← hC, List.drop_of_length_le (by rw [by8_len]; exact Nat.le_refl _), Wp.cutA_nil]
        rfl)
      clear hC hg ho hr
      go_wp2_with fail
      go_ret3
      exact HP.out
end Go.Proofs.YtgednccpjegbmaaGreatDoor.Ww
