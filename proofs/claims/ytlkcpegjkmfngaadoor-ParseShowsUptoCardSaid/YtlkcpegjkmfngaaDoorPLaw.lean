/-
  flatironlaw06.lives and ParseLines.
-/
import Derived.Test.YtlkcpegjkmfngaaDoorPLine
import Derived.Test.YtlkcpegjkmfngaaDoorPRLine
import Derived.Test.YtlkcpegjkmfngaaDoorPShow
import Derived.Test.YtlkcpegjkmfngaaDoorPSame
namespace Go.Proofs.YtlkcpegjkmfngaaDoor.Px
open Go.RowKit Go.Proofs.YtlkcpegjkmfngaaDoor Go.Proofs.YtlkcpegjkmfngaaDoor.Lx
set_option maxRecDepth 100000

theorem fieldsG1 : Tryd.prog.underlying G1 = some (.struct (Tryd.prog.fieldsOf G1)) := by kernel_rfl
theorem fieldsG1L : (Tryd.prog.fieldsOf G1).toList.map (fun f => (f.name, f.type, f.offset)) = [("Kind", 36, 0), ("Path", 9, 1)] := by kernel_rfl
theorem guardG1 : Tryd.prog.eqGuardType Tryd.prog.depth G1 = false := by kernel_rfl
theorem eql_to1 (w : World) (k : Int) (a : ByteArray) : (binOp .eql G1 (.agg #[.int .i64 k, .string a]) (.agg #[.int .i64 k, .string a])).run Tryd.prog w = .ok (.bool true) w := by
  have hp : Tryd.prog.stoodInHeld G1 = false := by kernel_rfl
  rw [run_eql_struct, run_equalIn_struct _ _ _ _ _ fieldsG1 hp]
  have hf := fieldsG1L
  generalize (Tryd.prog.fieldsOf G1).toList = fs at hf
  obtain ⟨f, l1, rfl, hf1, hl1⟩ := List.map_eq_cons_iff.1 hf
  obtain ⟨g, l2, rfl, hg1, hl2⟩ := List.map_eq_cons_iff.1 hl1
  obtain rfl := List.map_eq_nil_iff.1 hl2
  simp only [Prod.mk.injEq] at hf1 hg1
  obtain ⟨n1, t1, o1⟩ := hf1
  obtain ⟨n2, t2, o2⟩ := hg1
  have e1 := fun d => run_equalIn_int (P := Tryd.prog) w d 36 .i64 .i64 k k Tryd.underlying36
  have e2 := fun d => run_equalIn_string (P := Tryd.prog) w d 9 a a Tryd.underlying9
  have e1' := e1 9998
  have e2' := e2 9998
  unfold Op.eqFields Op.eqFields Op.eqFields
  rw [n1, n2, t1, t2, o1, o2]
  simp [go_sem, part]

def liveS : ByteArray := ⟨#[97, 32, 62, 120, 32, 38, 38, 32, 98]⟩
def liveL : List Pp.C := [⟨1, [[97]], [⟨4, [120]⟩]⟩, ⟨2, [[98]], []⟩]
theorem live_is : Pp.lineA (by8 liveS) = some liveL := by decide

set_option maxHeartbeats 4000000 in
theorem lives_any (w : World) (hG : Glob w) : Calls Tryd.prog 5 #[] w fun e w' => e = .returned (.bool true) ∧ Below w.heap.size w w' := by
  have hT := Line_any w liveS (by decide) hG
  rw [live_is] at hT
  have hgd := guardG1
  have hq := fun W => eql_to1 W 4 ⟨#[120]⟩
  go_enter Tryd.func5, Tryd.ntmps5
  go_wp2_with fail
  refine hT.mono ?_
  rintro e w1 ⟨⟨v, X, hX, rfl, hC⟩, hB1⟩
  obtain ⟨x0, X1, rfl, h0, hX1⟩ := List.map_eq_cons_iff.1 hX
  obtain ⟨x1, X2, rfl, h1, hX2⟩ := List.map_eq_cons_iff.1 hX1
  obtain rfl := List.map_eq_nil_iff.1 hX2
  obtain ⟨c0, vw0, vt0⟩ := x0
  obtain ⟨c1, vw1, vt1⟩ := x1
  simp only at h0 h1
  subst h0 h1
  obtain ⟨a, cp, rfl, _⟩ := hC.1.shape
  obtain ⟨b, o, rfl, hcp, hb, hcells⟩ := hC.cells (by simp)
  obtain ⟨p0, p1, p2⟩ := hcells 0 (by simp)
  obtain ⟨q0, q1, q2⟩ := hcells 1 (by simp)
  have hI := (hC.2 _ (by simp : (⟨⟨1, [[97]], [⟨4, [120]⟩]⟩, vw0, vt0⟩ : CV) ∈ _)).2
  obtain ⟨a2, c2, h2, _⟩ := hI.shape
  simp only at h2
  subst h2
  obtain ⟨b', o', rfl, hcp', hb', hx⟩ := tos_cells (l := [⟨4, [120]⟩]) hI (by simp)
  obtain ⟨r0, r1⟩ := hx 0 (by simp)
  simp only [Nat.zero_mul, Nat.add_zero, Nat.one_mul, List.getElem_cons_zero, List.getElem_cons_succ] at p0 p1 p2 q0 q1 q2 r0 r1
  have r1' : w1.cell? ⟨b', o' + 1, none⟩ = some (.string ⟨#[120]⟩) := r1
  clear hT hcells hx hI hC r1 hX hX1 hX2
  go_wp2_with fail
  go_ret
  exact ⟨rfl, hB1⟩

theorem ParseLinesL_any (w : World) (s : ByteArray) (hs : 1000 < s.size) (hm : s.size ≤ 140737488355328) (hG : Glob w) : Calls Tryd.prog 3 #[.string s] w fun e w' => e = .returned (.bool true) ∧ Below w.heap.size w w' := by
  have hL := lives_any w hG
  have HG := Lib.hid hG
  go_enter Tryd.func3, Tryd.ntmps3
  go_wp2_with fail
  refine hL.mono ?_
  rintro e w1 ⟨rfl, hB1⟩
  have hL2 := lives_any w1 (HG.out.below hB1)
  go_wp2_with fail
  refine hL2.mono ?_
  rintro e w2 ⟨rfl, hB2⟩
  go_wp2_with fail
  go_ret
  exact ⟨rfl, hB1.trans (hB2.mono hB1.size)⟩

/-- Few commands, by their numbers. -/
theorem few_of {X : List CV} {L : List Pp.C} {n : Nat} (h : X.map CV.c = L) (h1 : L.length ≤ n) (h2 : Pp.numA L ≤ n) (hn : n ≤ 100000) : FewC X := by
  subst h
  refine ⟨by simp at h1; omega, fun x hx => ?_⟩
  have := (Pp.num_mem (l := X.map CV.c) (c := x.c) (List.mem_map.2 ⟨x, hx, rfl⟩)).1
  unfold Pp.C.num at this
  omega
theorem few_few {X : List CV} (h : FewC X) : Few X := h

set_option maxHeartbeats 400000 in
theorem ParseLines_any (w : World) (s : ByteArray) (hs : s.size ≤ 1000) (hG : Glob w) : Calls Tryd.prog 3 #[.string s] w fun e w' => e = .returned (.bool true) ∧ Below w.heap.size w w' := by
  have hL := lives_any w hG
  have HG := Lib.hid hG
  have HT := Lib.hid fun (W : World) (hB : Below w.heap.size w W) => Line_any W s (by omega) (hG.below hB)
  have HR := Lib.hid fun (W : World) => RLine_any W s (by omega)
  have hsz := fun L (h : Pp.lineA (by8 s) = some L) => Pp.line_size h
  have hrt := fun L (h : Pp.lineA (by8 s) = some L) => Pp.line_right h
  rw [by8_len] at hsz
  clear hG
  go_enter Tryd.func3, Tryd.ntmps3
  go_wp2_with fail
  refine hL.mono ?_
  rintro e w1 ⟨rfl, hB1⟩
  go_wp2_with fail
  refine (HT.out w1 hB1).mono ?_
  cases ho : Pp.lineA (by8 s) with
  | none =>
    rw [ho] at HR
    clear hsz hrt
    rintro e w2 ⟨rfl, hB2⟩
    go_wp2_with fail
    refine (HR.out w2).mono ?_
    rintro e w3 ⟨⟨v, rfl⟩, hB3⟩
    go_wp2_with fail
    go_ret
    exact ⟨rfl, hB1.trans ((hB2.mono hB1.size).trans (hB3.mono (hB1.trans (hB2.mono hB1.size)).size))⟩
  | some L =>
    rw [ho] at HR
    have hS := Lib.hid (hsz L ho)
    have hRt := Lib.hid (hrt L ho)
    clear hsz hrt ho
    rintro e w2 ⟨⟨v, X, hX, rfl, hC⟩, hB2⟩
    have HX := Lib.hid hX
    have hFew : Hid (FewC X) := Lib.hid (few_of (n := 2000) hX (by have := hS.out; omega) (by have := hS.out; omega) (by omega))
    clear hX
    have hC2 := hB1.trans (hB2.mono hB1.size)
    obtain ⟨a, cp, rfl, _⟩ := hC.1.shape
    go_wp2_with fail
    refine (HR.out w2).mono ?_
    rintro e w3 ⟨⟨v3, X3, hX3, rfl, hC3r⟩, hB3⟩
    have HX3 := Lib.hid hX3
    clear hX3
    have hC3 := hC2.trans (hB3.mono hC2.size)
    have hCa := hC.grow hB3
    have hSh := Lib.hid (Show_yes w3 a cp X (by rw [HX.out]; exact hRt.out) hCa (few_few hFew.out) (by rw [HX.out]; have := Pp.toksA_len L; have := hS.out; omega) (by rw [HX.out]; have := Pp.toksA_len L; have := hS.out; omega) (HG.out.below hC3))
    go_wp2_with fail
    refine hSh.out.mono ?_
    rintro e w4 ⟨rfl, hB4⟩
    have hC4 := hC3.trans (hB4.mono hC3.size)
    have hsz4 : (str (Lp.showA (Pp.toksA (X.map CV.c)))).size ≤ 100000 := by rw [str_size, HX.out]; have := Pp.show_size (l := L); have := hS.out; omega
    have hT2 := Line_any w4 (str (Lp.showA (Pp.toksA (X.map CV.c)))) hsz4 (HG.out.below hC4)
    have e2 : Pp.lineA (by8 (str (Lp.showA (Pp.toksA (X.map CV.c))))) = some L := by rw [by8_str, HX.out, Pp.line_shown hRt.out]
    rw [e2] at hT2
    clear e2
    have HT2 := Lib.hid hT2
    clear hT2
    have hCa4 := hCa.grow hB4
    have hCr4 := hC3r.grow hB4
    go_wp2_with fail
    refine HT2.out.mono ?_
    rintro e w5 ⟨⟨v5, X5, hX5, rfl, hC5r⟩, hB5⟩
    have HX5 := Lib.hid hX5
    have hFew5 : Hid (FewC X5) := Lib.hid (few_of (n := 2000) hX5 (by have := hS.out; omega) (by have := hS.out; omega) (by omega))
    clear hX5
    have hC5 := hC4.trans (hB5.mono hC4.size)
    have hCa5 := hCa4.grow hB5
    have hCr5 := hCr4.grow hB5
    obtain ⟨a5, cp5, rfl, _⟩ := hC5r.1.shape
    have hO := Of_any w5 a cp X hCa5 hFew.out
    go_wp2_with fail
    refine hO.mono ?_
    rintro e w6 ⟨v6, X6, hX6, rfl, hC6r, hB6⟩
    have hC6 := hC5.trans (hB6.mono hC5.size)
    have hSa := same_yes w6 v6 v3 X6 X3 hC6r (hCr5.grow hB6) (by rw [hX6, HX.out, HX3.out]) (few_of (n := 2000) (hX6.trans HX.out) (by have := hS.out; omega) (by have := hS.out; omega) (by omega))
    have hCa6 := hCa5.grow hB6
    have hCb6 := hC5r.grow hB6
    have hCr6 := hCr5.grow hB6
    clear hO hX6
    go_wp2_with fail
    refine hSa.mono ?_
    rintro e w7 ⟨rfl, hB7⟩
    have hC7 := hC6.trans (hB7.mono hC6.size)
    have hCa7 := hCa6.grow hB7
    have hCb7 := hCb6.grow hB7
    have hCr7 := hCr6.grow hB7
    have hRi := Right_any w7 a cp X true (Lib.hid (by rw [HX.out]; exact hRt.out)) hCa7 (few_few hFew.out)
    clear hSa
    go_wp2_with fail
    refine hRi.mono ?_
    rintro e w8 ⟨rfl, hB8⟩
    have hC8 := hC7.trans (hB8.mono hC7.size)
    have hCb8 := hCb7.grow hB8
    have hCr8 := hCr7.grow hB8
    have hO := Of_any w8 a5 cp5 X5 hCb8 hFew5.out
    clear hRi
    go_wp2_with fail
    refine hO.mono ?_
    rintro e w9 ⟨v9, X9, hX9, rfl, hC9r, hB9⟩
    have hC9 := hC8.trans (hB9.mono hC8.size)
    have hSa := same_yes w9 v9 v3 X9 X3 hC9r (hCr8.grow hB9) (by rw [hX9, HX5.out, HX3.out]) (few_of (n := 2000) (hX9.trans HX5.out) (by have := hS.out; omega) (by have := hS.out; omega) (by omega))
    clear hO hX9
    go_wp2_with fail
    refine hSa.mono ?_
    rintro e w10 ⟨rfl, hB10⟩
    go_wp2_with fail
    go_ret
    exact ⟨rfl, hC9.trans (hB10.mono hC9.size)⟩
end Go.Proofs.YtlkcpegjkmfngaaDoor.Px
