/-
  The law LinesGrow, walked.
-/
import Derived.Deep.RegionHeld3
import Derived.Deep.DeepCutAuto
import Derived.Test.YtgncnffejennfaaDoorILaw
namespace Go.Proofs.YtgncnffejennfaaDoor.Iw
open Go.RowKit Go.Proofs.YtgncnffejennfaaDoor Go.Proofs.YtgncnffejennfaaDoor.Ww
set_option maxRecDepth 100000

theorem Count_any (w : World) (s : ByteArray) : Calls Tryd.prog 9 #[.string s, .string ⟨#[10]⟩] w fun e w' => e = .returned (.int .i64 ((by8 s).count 10 : Nat)) ∧ w = w' :=
  (Tryd.strings_Count_one s 10 w).mono fun _ _ ⟨he, hw⟩ => ⟨he, hw.symm⟩
theorem HasSfx_any (w : World) (s : ByteArray) (q : Bool) (hs : s.size ≤ 1000000) (hq : ((by8 s).getLast? == some 92) = q) : Calls Tryd.prog 8 #[.string s, .string ⟨#[92]⟩] w fun e w' => e = .returned (.bool q) ∧ w = w' :=
  Sfx_any w (by8 s) q (by rw [by8_len]; exact hs) hq
theorem TrimTwo_any (w : World) (t : Bs) (ht : Ip.Fine t) (hs : t.length ≤ 1000000) : Calls Tryd.prog 11 #[.string (str t), .string ⟨#[32, 9]⟩] w fun e w' => e = .returned (.string (str t)) ∧ Below w.heap.size w w' := by
  refine (Any.strings_Trim_laid Tryd.laysTrim infoA2 (str t) ⟨#[32, 9]⟩ w (by rw [str_size]; omega) (by decide) (fun j b h => by
    match j, h with
    | 0, h => obtain rfl := Option.some.inj h; decide
    | 1, h => obtain rfl := Option.some.inj h; decide)).mono ?_
  rintro e w' ⟨rfl, hB⟩
  refine ⟨?_, hB⟩
  have : Lib.trimS (str t).data.toList (⟨#[32, 9]⟩ : ByteArray).data.toList = t := Ip.trim_same ht
  rw [this]; rfl
theorem neq_TN (n : Int) (t : ByteArray) (q : Bool) (w : World) : (binOp .neq LT (.agg #[.int .i64 n, .string t, .bool q]) (.agg #[.int .i64 n, .string t, .bool q])).run Tryd.prog w = .ok (.bool false) w := by
  rw [run_neq_struct, eq_line LT fieldsT fieldsTL (by kernel_rfl)]; simp [Result.andThen]

set_option maxHeartbeats 2000000 in
theorem LinesGrowL_any (w : World) (a b : ByteArray) (hs : 3000 < a.size + b.size) (ha0 : a.size ≤ 140737488355328) (hb0 : b.size ≤ 140737488355328) :
    Calls Tryd.prog 4 #[.string a, .string b] w fun e w' => e = .returned (.bool true) ∧ Below w.heap.size w w' := by
  have HL : Hid (∀ W, Calls Tryd.prog 5 #[] W fun e w' => e = .returned (.bool true) ∧ Below W.heap.size W w') := Lib.hid lives_any
  have hd : (3000 : Int) < (a.size : Int) + (b.size : Int) := by omega
  have hw : IntKind.i64.wrap ((a.size : Int) + (b.size : Int)) = (a.size : Int) + (b.size : Int) := by rw [IntWalk.i64_in _ (by omega)]
  go_enter Tryd.func4, Tryd.ntmps4
  go_wp2_with fail
  refine (HL.out _).mono ?_
  rintro e w1 ⟨rfl, B1⟩
  go_wp2_with fail
  refine (HL.out _).mono ?_
  rintro e w2 ⟨rfl, B2⟩
  go_wp2_with fail
  go_ret
  exact ⟨rfl, B1.trans (B2.mono B1.size)⟩
set_option maxHeartbeats 2000000 in
theorem LinesGrowS_any (w : World) (a b : ByteArray) (hs : a.size + b.size ≤ 3000) (h92 : (by8 a).getLast? = some 92) :
    Calls Tryd.prog 4 #[.string a, .string b] w fun e w' => e = .returned (.bool true) ∧ Below w.heap.size w w' := by
  have HL : Hid (∀ W, Calls Tryd.prog 5 #[] W fun e w' => e = .returned (.bool true) ∧ Below W.heap.size W w') := Lib.hid lives_any
  have HS := Lib.hid fun W => HasSfx_any W a true (by omega) (by rw [h92]; rfl)
  have hd : ¬ (3000 : Int) < (a.size : Int) + (b.size : Int) := by omega
  have hw : IntKind.i64.wrap ((a.size : Int) + (b.size : Int)) = (a.size : Int) + (b.size : Int) := by rw [IntWalk.i64_in _ (by omega)]
  clear h92
  go_enter Tryd.func4, Tryd.ntmps4
  go_wp2_with fail
  refine (HL.out _).mono ?_
  rintro e w1 ⟨rfl, B1⟩
  go_wp2_with fail
  refine (HS.out _).mono ?_
  rintro e w' ⟨rfl, rfl⟩
  go_wp2_with fail
  refine (HL.out _).mono ?_
  rintro e w2 ⟨rfl, B2⟩
  go_wp2_with fail
  go_ret
  exact ⟨rfl, B1.trans (B2.mono B1.size)⟩

theorem linesA_short {s : ByteArray} {x : Ip.L} (hs : s.size ≤ 3001) (h : x ∈ Ip.linesA (by8 s)) : x.t.length ≤ 1000000 := by
  have := Ip.linesA_len h
  rw [by8_len] at this; omega
/-- The two boxes that are compared. -/
def K6 (n : Nat) (x : Ip.L) (N : Int) (w4 W : World) : Prop :=
  W.cell? ⟨n, 0, none⟩ = some (.int .i64 N) ∧ W.cell? ⟨n, 1, none⟩ = some (.string (str x.t)) ∧ W.cell? ⟨n, 2, none⟩ = some (.bool x.q) ∧
    W.cell? ⟨n + 1, 0, none⟩ = some (.int .i64 N) ∧ W.cell? ⟨n + 1, 1, none⟩ = some (.string (str x.t)) ∧ W.cell? ⟨n + 1, 2, none⟩ = some (.bool x.q) ∧ Below w4.heap.size w4 W ∧ n + 2 ≤ W.heap.size
theorem k6_new {x : Ip.L} {N : Int} {w4 wr : World} (hB : Below w4.heap.size w4 wr) (hws : w4.heap.size ≤ wr.heap.size) :
    K6 wr.heap.size x N w4 ((wr.alloc (.cells #[.int .i64 N, .string (str x.t), .bool x.q] LT)).alloc (.cells #[.int .i64 N, .string (str x.t), .bool x.q] LT)) := by
  have h1 : ((wr.alloc (.cells #[.int .i64 N, .string (str x.t), .bool x.q] LT)).alloc (.cells #[.int .i64 N, .string (str x.t), .bool x.q] LT)).heap[wr.heap.size]? = some (.cells #[.int .i64 N, .string (str x.t), .bool x.q] LT (0, 0)) :=
    (((Below.refl (wr.heap.size + 1) (wr.alloc (.cells #[.int .i64 N, .string (str x.t), .bool x.q] LT))).alloc (by rw [World.size_alloc]; exact Nat.le_refl _) _).block _ (Nat.lt_succ_self _)).trans (World.alloc_heap_new _ _)
  have h2 : ((wr.alloc (.cells #[.int .i64 N, .string (str x.t), .bool x.q] LT)).alloc (.cells #[.int .i64 N, .string (str x.t), .bool x.q] LT)).heap[wr.heap.size + 1]? = some (.cells #[.int .i64 N, .string (str x.t), .bool x.q] LT (0, 0)) :=
    heap_new _ _ (by rw [World.size_alloc])
  exact ⟨cell_at h1 rfl, cell_at h1 rfl, cell_at h1 rfl, cell_at h2 rfl, cell_at h2 rfl, cell_at h2 rfl, (hB.alloc hws _).alloc (by rw [World.size_alloc]; omega) _, by rw [World.size_alloc, World.size_alloc]; exact Nat.le_refl _⟩
theorem held_six {n : Nat} {x : Ip.L} {N : Int} {w4 W w6 : World} (h : K6 n x N w4 W) (B : Below W.heap.size W w6) : K6 n x N w4 w6 := by
  obtain ⟨h1, h2, h3, h4, h5, h6, h7, h8⟩ := h
  exact ⟨(B.cell (p := ⟨n, 0, none⟩) (by show n < _; omega)).trans h1, (B.cell (p := ⟨n, 1, none⟩) (by show n < _; omega)).trans h2, (B.cell (p := ⟨n, 2, none⟩) (by show n < _; omega)).trans h3,
    (B.cell (p := ⟨n + 1, 0, none⟩) (by show n + 1 < _; omega)).trans h4, (B.cell (p := ⟨n + 1, 1, none⟩) (by show n + 1 < _; omega)).trans h5, (B.cell (p := ⟨n + 1, 2, none⟩) (by show n + 1 < _; omega)).trans h6, h7.trans (B.mono h7.size), Nat.le_trans h8 B.size⟩

set_option maxHeartbeats 8000000 in
theorem LinesGrow_any (w : World) (a b : ByteArray) (hs : a.size + b.size ≤ 3000) (h92 : ¬ (by8 a).getLast? = some 92) :
    Calls Tryd.prog 4 #[.string a, .string b] w fun e w' => e = .returned (.bool true) ∧ Below w.heap.size w w' := by
  have HL : Hid (∀ W, Calls Tryd.prog 5 #[] W fun e w' => e = .returned (.bool true) ∧ Below W.heap.size W w') := Lib.hid lives_any
  have HS := Lib.hid fun W => HasSfx_any W a false (by omega) (by rw [beq_eq_false_iff_ne]; exact h92)
  have HC := Lib.hid fun W => Count_any W a
  have hcl := List.count_le_length (a := (10 : UInt8)) (l := by8 a)
  rw [by8_len] at hcl
  have hboth : by8 (a ++ ⟨#[10]⟩ ++ b) = by8 a ++ 10 :: by8 b := by
    rw [by8_add, by8_add]
    show by8 a ++ [10] ++ by8 b = _
    simp
  have hAl := Ip.linesA_le (by8 a)
  have hBl := Ip.linesA_le (by8 b)
  have hcb := List.count_le_length (a := (10 : UInt8)) (l := by8 b)
  rw [by8_len] at hcb
  have HO1 := Lib.hid fun W => Of_any W a (by omega)
  have HO2 := Lib.hid fun W => Of_any W b (by omega)
  have h3 := fun W => Of_any W (a ++ ⟨#[10]⟩ ++ b) (by rw [ByteArray.size_append, ByteArray.size_append]; show a.size + 1 + b.size ≤ _; omega)
  have hup := Ip.linesA_up (by8 (a ++ ⟨#[10]⟩ ++ b))
  have hfine := fun x hx => @Ip.linesA_fine (by8 (a ++ ⟨#[10]⟩ ++ b)) x hx
  have hge := fun x hx => @Ip.linesA_ge (by8 (a ++ ⟨#[10]⟩ ++ b)) x hx
  have hlt := fun x hx => @Ip.linesA_lt (by8 b) x hx
  rw [by8_len b] at hlt
  rw [hboth, Ip.linesA_both h92, Ip.rows_len] at h3 hup hfine hge
  have HO3 := Lib.hid h3
  have hlen := fun x hx => @linesA_short (a ++ ⟨#[10]⟩ ++ b) x (by rw [ByteArray.size_append, ByteArray.size_append]; show a.size + 1 + b.size ≤ _; omega) hx
  rw [hboth, Ip.linesA_both h92, Ip.rows_len] at hlen
  generalize Ip.linesA (by8 a) = X at *
  generalize Ip.linesA (by8 b) = Y at *
  generalize (by8 a).count 10 = d at *
  generalize hM : X ++ Y.map (Ip.shift (d + 1)) = M at *
  have HM := Lib.hid hM
  have HUP := Lib.hid hup
  have HF := Lib.hid hfine
  have HGE := Lib.hid hge
  have HLT := Lib.hid hlt
  have hMl : M.length = X.length + Y.length := by rw [← hM]; simp
  have hd : ¬ (3000 : Int) < (a.size : Int) + (b.size : Int) := by omega
  have hw : IntKind.i64.wrap ((a.size : Int) + (b.size : Int)) = (a.size : Int) + (b.size : Int) := by rw [IntWalk.i64_in _ (by omega)]
  clear h92 hboth h3 hup hfine hge hM hlt
  go_enter Tryd.func4, Tryd.ntmps4
  go_wp2_with fail
  refine (HL.out _).mono ?_
  rintro e w1 ⟨rfl, B1⟩
  go_wp2_with fail
  refine (HS.out _).mono ?_
  rintro e w' ⟨rfl, rfl⟩
  go_wp2_with fail
  refine (HC.out _).mono ?_
  rintro e w' ⟨rfl, rfl⟩
  go_wp2_with fail
  refine (HO1.out _).mono ?_
  rintro e w2 ⟨xa, xc, rfl, r1, B2⟩
  go_wp2_with fail
  refine (HO2.out _).mono ?_
  rintro e w3 ⟨ya, yc, rfl, r2, B3⟩
  go_wp2_with fail
  refine (HO3.out _).mono ?_
  rintro e w4 ⟨ma, mc, rfl, r3, B4⟩
  have R1 := Lib.hid (owns_below (owns_below r1 B3) B4)
  have R2 := Lib.hid (owns_below r2 B4)
  have R3 := Lib.hid r3
  have HB := Lib.hid (((B1.trans (B2.mono B1.size)).trans (B3.mono (Nat.le_trans B1.size B2.size))).trans (B4.mono (Nat.le_trans (Nat.le_trans B1.size B2.size) B3.size)))
  have hsz : w.heap.size ≤ w4.heap.size := HB.out.size
  clear r1 r2 r3 B1 B2 B3 B4
  have hq1 : ((M.length : Int) != (X.length : Int) + (Y.length : Int)) = false := by rw [hMl]; simp
  have hq2 : ¬ ((d : Int) + 1 < (X.length : Int)) := by omega
  have hw2 : IntKind.i64.wrap ((X.length : Int) + (Y.length : Int)) = (X.length : Int) + (Y.length : Int) := by rw [IntWalk.i64_in _ (by omega)]
  have hX3 : X.length ≤ 3001 := by omega
  have hM3 : M.length ≤ 6002 := by omega
  have hd3 : d ≤ 3000 := by omega
  have HMl := Lib.hid hMl
  clear hMl hAl hBl hcl hcb hs hd hw
  go_wp2_with fail
  have hgd := guardT
  go_loopw [9, 56] (fun v9 v56 wr => ∃ i la : Nat, v56 = .int .i64 i ∧ v9 = .int .i64 la ∧ i ≤ M.length ∧ (∀ j (h : j < M.length), i ≤ j → la < M[j].n) ∧ Below w4.heap.size w4 wr) (fun _ v56 _ => M.length - (intOf v56).toNat)
  case atStart => exact ⟨0, 0, rfl, rfl, Nat.zero_le _, fun j h _ => HGE.out _ (List.getElem_mem h), Below.refl _ _⟩
  case round =>
    obtain ⟨i, la, rfl, rfl, hix, hla, hB⟩ := hrel
    by_cases hlt : i < M.length
    · have hmem := List.getElem_mem hlt
      have hN1 := hla i hlt (Nat.le_refl _)
      have HLA : Hid (∀ j (h : j < M.length), i + 1 ≤ j → M[i].n < M[j].n) := Lib.hid fun j h hj => List.pairwise_iff_getElem.1 HUP.out i j hlt h (by omega)
      obtain ⟨hf, hf0⟩ := HF.out _ hmem
      obtain ⟨g, rfl, hgc, hg, _, x0, x1, x2⟩ := line_cells R3.out hlt
      have p0 : wr.cell? ⟨g, i * 3, none⟩ = some (.int .i64 (M[i].n : Int)) := (hB.cell (p := ⟨g, i * 3, none⟩) hg).trans x0
      have p1 : wr.cell? ⟨g, i * 3 + 1, none⟩ = some (.string (str M[i].t)) := (hB.cell (p := ⟨g, i * 3 + 1, none⟩) hg).trans x1
      have p2 : wr.cell? ⟨g, i * 3 + 2, none⟩ = some (.bool M[i].q) := (hB.cell (p := ⟨g, i * 3 + 2, none⟩) hg).trans x2
      have hws := hB.size
      have hki : (i : Int) < M.length := by omega
      have hk0 : (0 : Int) ≤ (i : Int) := Int.natCast_nonneg _
      by_cases hiX : i < X.length
      · have hMX : M[i] = X[i] := by
          have : M[i]? = X[i]? := by rw [← HM.out, List.getElem?_append_left hiX]
          rw [List.getElem?_eq_getElem hlt, List.getElem?_eq_getElem hiX] at this
          exact Option.some.inj this
        obtain ⟨g', rfl, hgc', hg', _, y0, y1, y2⟩ := line_cells R1.out hiX
        rw [← hMX] at y0 y1 y2
        clear hMX
        generalize hx : M[i] = x at *
        have HA : Hid (Below w4.heap.size w4 ((wr.alloc (.cells #[.int .i64 (x.n : Int), .string (str x.t), .bool x.q] LT)).alloc (.cells #[.int .i64 0, .string ⟨#[]⟩, .bool false] LT))) := Lib.hid ((hB.alloc hws _).alloc (by rw [World.size_alloc]; omega) _)
        have z0 : ((wr.alloc (.cells #[.int .i64 (x.n : Int), .string (str x.t), .bool x.q] LT)).alloc (.cells #[.int .i64 0, .string ⟨#[]⟩, .bool false] LT)).cell? ⟨g', i * 3, none⟩ = some (.int .i64 (x.n : Int)) := (HA.out.cell (p := ⟨g', i * 3, none⟩) hg').trans y0
        have z1 : ((wr.alloc (.cells #[.int .i64 (x.n : Int), .string (str x.t), .bool x.q] LT)).alloc (.cells #[.int .i64 0, .string ⟨#[]⟩, .bool false] LT)).cell? ⟨g', i * 3 + 1, none⟩ = some (.string (str x.t)) := (HA.out.cell (p := ⟨g', i * 3 + 1, none⟩) hg').trans y1
        have z2 : ((wr.alloc (.cells #[.int .i64 (x.n : Int), .string (str x.t), .bool x.q] LT)).alloc (.cells #[.int .i64 0, .string ⟨#[]⟩, .bool false] LT)).cell? ⟨g', i * 3 + 2, none⟩ = some (.bool x.q) := (HA.out.cell (p := ⟨g', i * 3 + 2, none⟩) hg').trans y2
        have hkX : (i : Int) < X.length := by omega
        have HK5 : Hid (K6 wr.heap.size x (x.n : Int) w4 ((wr.alloc (.cells #[.int .i64 (x.n : Int), .string (str x.t), .bool x.q] LT)).alloc (.cells #[.int .i64 (x.n : Int), .string (str x.t), .bool x.q] LT))) := Lib.hid (k6_new hB hws)
        have hqe : ((str x.t).toList).isEmpty = false := by rw [Lib.toList_data]; show x.t.isEmpty = false; cases h : x.t with | nil => exact absurd h hf0 | cons => rfl
        have hqe2 : ¬ (str x.t).toList = [] := by rw [Lib.toList_data]; exact hf0
        have hqn : ¬ (x.n : Int) ≤ (la : Int) := by omega
        have hq := fun W => neq_TN (x.n : Int) (str x.t) x.q W
        have HCA := Lib.hid fun W => ContainsAny_any W (str x.t) (by rw [by8_str]; exact hf.1)
        have HTR := Lib.hid fun W => TrimTwo_any W x.t hf (hlen x hmem)
        clear x0 x1 x2 y0 y1 y2 hla hmem hx hf hf0
        go_upto_region 16 with (fail)
        generalize hW5 : (wr.alloc (.cells #[.int .i64 (x.n : Int), .string (str x.t), .bool x.q] LT)).alloc (.cells #[.int .i64 (x.n : Int), .string (str x.t), .bool x.q] LT) = W5 at *
        go_cut [108] (fun v wx => v = .bool false ∧ Below w4.heap.size w4 wx ∧ wx.cell? ⟨wr.heap.size, 0, none⟩ = some (.int .i64 (x.n : Int)))
        case first =>
          have K1 : W5.cell? ⟨wr.heap.size, 0, none⟩ = some (.int .i64 (x.n : Int)) ∧ W5.cell? ⟨wr.heap.size, 1, none⟩ = some (.string (str x.t)) ∧ W5.cell? ⟨wr.heap.size, 2, none⟩ = some (.bool x.q) ∧
              W5.cell? ⟨wr.heap.size + 1, 0, none⟩ = some (.int .i64 (x.n : Int)) ∧ W5.cell? ⟨wr.heap.size + 1, 1, none⟩ = some (.string (str x.t)) ∧ W5.cell? ⟨wr.heap.size + 1, 2, none⟩ = some (.bool x.q) ∧ Below w4.heap.size w4 W5 ∧ wr.heap.size + 2 ≤ W5.heap.size := HK5.out
          have S5 : W5.drew.cell? ⟨wr.heap.size, 0, none⟩ = some (.int .i64 (x.n : Int)) ∧ W5.drew.cell? ⟨wr.heap.size, 1, none⟩ = some (.string (str x.t)) ∧ W5.drew.cell? ⟨wr.heap.size, 2, none⟩ = some (.bool x.q) ∧
              W5.drew.cell? ⟨wr.heap.size + 1, 0, none⟩ = some (.int .i64 (x.n : Int)) ∧ W5.drew.cell? ⟨wr.heap.size + 1, 1, none⟩ = some (.string (str x.t)) ∧ W5.drew.cell? ⟨wr.heap.size + 1, 2, none⟩ = some (.bool x.q) ∧ Below w4.heap.size w4 W5.drew ∧ wr.heap.size + 2 ≤ W5.drew.heap.size := ⟨K1.1, K1.2.1, K1.2.2.1, K1.2.2.2.1, K1.2.2.2.2.1, K1.2.2.2.2.2.1, K1.2.2.2.2.2.2.1.drew, K1.2.2.2.2.2.2.2⟩
          clear K1
          go_region_held3 (fun W => W.cell? ⟨wr.heap.size, 0, none⟩ = some (.int .i64 (x.n : Int)) ∧ W.cell? ⟨wr.heap.size, 1, none⟩ = some (.string (str x.t)) ∧ W.cell? ⟨wr.heap.size, 2, none⟩ = some (.bool x.q) ∧
              W.cell? ⟨wr.heap.size + 1, 0, none⟩ = some (.int .i64 (x.n : Int)) ∧ W.cell? ⟨wr.heap.size + 1, 1, none⟩ = some (.string (str x.t)) ∧ W.cell? ⟨wr.heap.size + 1, 2, none⟩ = some (.bool x.q) ∧ Below w4.heap.size w4 W ∧ wr.heap.size + 2 ≤ W.heap.size)
            (first | exact S5 | exact S6)
            (first
              | (go_at_call 10; refine (HCA.out _).mono ?_; rintro e w6 ⟨rfl, rfl⟩)
              | (go_at_call 11; refine (HTR.out _).mono ?_; rintro e w6 ⟨rfl, B6⟩; have S6 := held_six S5 B6))
          all_goals go_wp2_with fail
          all_goals go_meet
          all_goals exact ⟨rfl, S6.2.2.2.2.2.2.1, S6.1⟩
        case rest =>
          obtain ⟨rfl, hBc, hcc⟩ := hcut
          go_wp2_with fail
          go_roundw
          case rel => exact ⟨i + 1, x.n, by go_num, rfl, hlt, fun j h hj => by exact HLA.out j h hj, hBc⟩
          case measure => simp [intOf]; omega
      · have hiY : i - X.length < Y.length := by have := HMl.out; omega
        have hMX : M[i] = Ip.shift (d + 1) Y[i - X.length] := by
          have : M[i]? = some (Ip.shift (d + 1) Y[i - X.length]) := by
            rw [← HM.out, List.getElem?_append_right (by omega), List.getElem?_map, List.getElem?_eq_getElem hiY]; rfl
          rw [List.getElem?_eq_getElem hlt] at this
          exact Option.some.inj this
        have HLA : Hid (∀ j (h : j < M.length), i + 1 ≤ j → Y[i - X.length].n + (d + 1) < M[j].n) := Lib.hid fun j h hj => by
          have := HLA.out j h hj
          rw [hMX] at this; exact this
        obtain ⟨g', rfl, hgc', hg', _, y0, y1, y2⟩ := line_cells R2.out hiY
        have hyn := HLT.out _ (List.getElem_mem hiY)
        generalize hx : Y[i - X.length] = x at *
        have hN : (M[i].n : Int) = (x.n : Int) + ((d : Int) + 1) := by rw [hMX]; show ((x.n + (d + 1) : Nat) : Int) = _; omega
        have hMt : M[i].t = x.t := by rw [hMX]; rfl
        have hMq : M[i].q = x.q := by rw [hMX]; rfl
        rw [hN] at p0
        rw [hMt] at p1 hf hf0
        rw [hMq] at p2
        have hlen1 := hlen _ hmem
        rw [hMt] at hlen1
        have hN1' : (la : Int) < (x.n : Int) + ((d : Int) + 1) := by omega
        clear hN hMt hMq
        have hwN : IntKind.i64.wrap ((x.n : Int) + ((d : Int) + 1)) = (x.n : Int) + ((d : Int) + 1) := by rw [IntWalk.i64_in _ (by omega)]
        have hwi : IntKind.i64.wrap ((i : Int) - (X.length : Int)) = ((i - X.length : Nat) : Int) := by rw [IntWalk.i64_in _ (by omega)]; omega
        have hj0 : (0 : Int) ≤ ((i - X.length : Nat) : Int) := by omega
        have hj1 : ((i - X.length : Nat) : Int) < (Y.length : Int) := by omega
        have hNi : ((x.n + (d + 1) : Nat) : Int) = (x.n : Int) + ((d : Int) + 1) := by omega
        have HA : Hid (Below w4.heap.size w4 ((wr.alloc (.cells #[.int .i64 ((x.n : Int) + ((d : Int) + 1)), .string (str x.t), .bool x.q] LT)).alloc (.cells #[.int .i64 0, .string ⟨#[]⟩, .bool false] LT))) := Lib.hid ((hB.alloc hws _).alloc (by rw [World.size_alloc]; omega) _)
        have z0 : ((wr.alloc (.cells #[.int .i64 ((x.n : Int) + ((d : Int) + 1)), .string (str x.t), .bool x.q] LT)).alloc (.cells #[.int .i64 0, .string ⟨#[]⟩, .bool false] LT)).cell? ⟨g', (i - X.length) * 3, none⟩ = some (.int .i64 (x.n : Int)) := (HA.out.cell (p := ⟨g', (i - X.length) * 3, none⟩) hg').trans y0
        have z1 : ((wr.alloc (.cells #[.int .i64 ((x.n : Int) + ((d : Int) + 1)), .string (str x.t), .bool x.q] LT)).alloc (.cells #[.int .i64 0, .string ⟨#[]⟩, .bool false] LT)).cell? ⟨g', (i - X.length) * 3 + 1, none⟩ = some (.string (str x.t)) := (HA.out.cell (p := ⟨g', (i - X.length) * 3 + 1, none⟩) hg').trans y1
        have z2 : ((wr.alloc (.cells #[.int .i64 ((x.n : Int) + ((d : Int) + 1)), .string (str x.t), .bool x.q] LT)).alloc (.cells #[.int .i64 0, .string ⟨#[]⟩, .bool false] LT)).cell? ⟨g', (i - X.length) * 3 + 2, none⟩ = some (.bool x.q) := (HA.out.cell (p := ⟨g', (i - X.length) * 3 + 2, none⟩) hg').trans y2
        have hkX : ¬ (i : Int) < X.length := by omega
        have HK5 : Hid (K6 wr.heap.size x ((x.n : Int) + ((d : Int) + 1)) w4 ((wr.alloc (.cells #[.int .i64 ((x.n : Int) + ((d : Int) + 1)), .string (str x.t), .bool x.q] LT)).alloc (.cells #[.int .i64 ((x.n : Int) + ((d : Int) + 1)), .string (str x.t), .bool x.q] LT))) := Lib.hid (k6_new hB hws)
        have hqe : ((str x.t).toList).isEmpty = false := by rw [Lib.toList_data]; show x.t.isEmpty = false; cases h : x.t with | nil => exact absurd h hf0 | cons => rfl
        have hqe2 : ¬ (str x.t).toList = [] := by rw [Lib.toList_data]; exact hf0
        have hqn : ¬ ((x.n : Int) + ((d : Int) + 1)) ≤ (la : Int) := by omega
        have hq := fun W => neq_TN ((x.n : Int) + ((d : Int) + 1)) (str x.t) x.q W
        have HCA := Lib.hid fun W => ContainsAny_any W (str x.t) (by rw [by8_str]; exact hf.1)
        have HTR := Lib.hid fun W => TrimTwo_any W x.t hf hlen1
        clear x0 x1 x2 y0 y1 y2 hla hmem hx hf hf0 hMX
        go_upto_region 16 with (fail)
        generalize hW5 : (wr.alloc (.cells #[.int .i64 ((x.n : Int) + ((d : Int) + 1)), .string (str x.t), .bool x.q] LT)).alloc (.cells #[.int .i64 ((x.n : Int) + ((d : Int) + 1)), .string (str x.t), .bool x.q] LT) = W5 at *
        go_cut [108] (fun v wx => v = .bool false ∧ Below w4.heap.size w4 wx ∧ wx.cell? ⟨wr.heap.size, 0, none⟩ = some (.int .i64 ((x.n : Int) + ((d : Int) + 1))))
        case first =>
          have K1 : W5.cell? ⟨wr.heap.size, 0, none⟩ = some (.int .i64 ((x.n : Int) + ((d : Int) + 1))) ∧ W5.cell? ⟨wr.heap.size, 1, none⟩ = some (.string (str x.t)) ∧ W5.cell? ⟨wr.heap.size, 2, none⟩ = some (.bool x.q) ∧
              W5.cell? ⟨wr.heap.size + 1, 0, none⟩ = some (.int .i64 ((x.n : Int) + ((d : Int) + 1))) ∧ W5.cell? ⟨wr.heap.size + 1, 1, none⟩ = some (.string (str x.t)) ∧ W5.cell? ⟨wr.heap.size + 1, 2, none⟩ = some (.bool x.q) ∧ Below w4.heap.size w4 W5 ∧ wr.heap.size + 2 ≤ W5.heap.size := HK5.out
          have S5 : W5.drew.cell? ⟨wr.heap.size, 0, none⟩ = some (.int .i64 ((x.n : Int) + ((d : Int) + 1))) ∧ W5.drew.cell? ⟨wr.heap.size, 1, none⟩ = some (.string (str x.t)) ∧ W5.drew.cell? ⟨wr.heap.size, 2, none⟩ = some (.bool x.q) ∧
              W5.drew.cell? ⟨wr.heap.size + 1, 0, none⟩ = some (.int .i64 ((x.n : Int) + ((d : Int) + 1))) ∧ W5.drew.cell? ⟨wr.heap.size + 1, 1, none⟩ = some (.string (str x.t)) ∧ W5.drew.cell? ⟨wr.heap.size + 1, 2, none⟩ = some (.bool x.q) ∧ Below w4.heap.size w4 W5.drew ∧ wr.heap.size + 2 ≤ W5.drew.heap.size := ⟨K1.1, K1.2.1, K1.2.2.1, K1.2.2.2.1, K1.2.2.2.2.1, K1.2.2.2.2.2.1, K1.2.2.2.2.2.2.1.drew, K1.2.2.2.2.2.2.2⟩
          clear K1
          go_region_held3 (fun W => W.cell? ⟨wr.heap.size, 0, none⟩ = some (.int .i64 ((x.n : Int) + ((d : Int) + 1))) ∧ W.cell? ⟨wr.heap.size, 1, none⟩ = some (.string (str x.t)) ∧ W.cell? ⟨wr.heap.size, 2, none⟩ = some (.bool x.q) ∧
              W.cell? ⟨wr.heap.size + 1, 0, none⟩ = some (.int .i64 ((x.n : Int) + ((d : Int) + 1))) ∧ W.cell? ⟨wr.heap.size + 1, 1, none⟩ = some (.string (str x.t)) ∧ W.cell? ⟨wr.heap.size + 1, 2, none⟩ = some (.bool x.q) ∧ Below w4.heap.size w4 W ∧ wr.heap.size + 2 ≤ W.heap.size)
            (first | exact S5 | exact S6)
            (first
              | (go_at_call 10; refine (HCA.out _).mono ?_; rintro e w6 ⟨rfl, rfl⟩)
              | (go_at_call 11; refine (HTR.out _).mono ?_; rintro e w6 ⟨rfl, B6⟩; have S6 := held_six S5 B6))
          all_goals go_wp2_with fail
          all_goals go_meet
          all_goals exact ⟨rfl, S6.2.2.2.2.2.2.1, S6.1⟩
        case rest =>
          obtain ⟨rfl, hBc, hcc⟩ := hcut
          go_wp2_with fail
          go_roundw
          case rel => exact ⟨i + 1, x.n + (d + 1), by go_num, by rw [hNi], hlt, fun j h hj => HLA.out j h hj, hBc⟩
          case measure => simp [intOf]; omega
    · have HB3 := Lib.hid hB
      have hki : ¬ (i : Int) < M.length := by omega
      go_wp2_with fail
      go_ret
      exact ⟨rfl, HB.out.trans (HB3.out.mono hsz)⟩
end Go.Proofs.YtgncnffejennfaaDoor.Iw
