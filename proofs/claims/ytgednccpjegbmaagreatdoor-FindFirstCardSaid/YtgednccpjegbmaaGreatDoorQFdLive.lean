/-
  flatironlaw17.lives.
-/
import Derived.BigQuiet
import Derived.Test.YtgednccpjegbmaaGreatDoorQFdCmds
import Derived.Test.YtgednccpjegbmaaGreatDoorQFdStar
import Derived.Test.YtgednccpjegbmaaGreatDoorQFdOf
import Derived.Test.YtgednccpjegbmaaGreatDoorQFdPlain
import Derived.Test.YtgednccpjegbmaaGreatDoorQFdReadP
import Derived.Test.YtgednccpjegbmaaGreatDoorQSNew
import Derived.Test.YtgednccpjegbmaaGreatDoorQDQRule2
namespace Go.Proofs.YtgednccpjegbmaaGreatDoor.Dq
open Go.RowKit Go.Proofs.YtgednccpjegbmaaGreatDoor Go.Maps Go.Proofs.YtgednccpjegbmaaGreatDoor.Ww Go.Proofs.YtgednccpjegbmaaGreatDoor.Tw Go.Proofs.YtgednccpjegbmaaGreatDoor.Kw Go.Proofs.YtgednccpjegbmaaGreatDoor.Jw Go.Proofs.YtgednccpjegbmaaGreatDoor.Xb Go.Proofs.YtgednccpjegbmaaGreatDoor.Xw Go.Proofs.YtgednccpjegbmaaGreatDoor.Dz
set_option maxRecDepth 100000
/-! ### the texts -/
abbrev mkS : Bs := [77, 97, 107, 101, 102, 105, 108, 101]
abbrev mkB : ByteArray := ⟨#[77, 97, 107, 101, 102, 105, 108, 101]⟩
abbrev xoB : ByteArray := ⟨#[120, 46, 111]⟩
abbrev xcB : ByteArray := ⟨#[120, 46, 99]⟩
abbrev liB : ByteArray := ⟨#[37, 46, 111, 58, 32, 37, 46, 99, 10, 9, 101, 99, 104, 111, 32, 36, 42]⟩
def liF : List Sw.F := [⟨mkS, Fp.liveS, 0, false⟩, ⟨[120, 46, 99], [], 0, false⟩]
def liL : List Sw.F := (Sw.newA liF).1.L
theorem li_code : (Sw.newA liF).2 = 0 := by kernel_rfl
theorem li_get : Sw.readA (Sw.getR liL mkS) = (Fp.liveS, 0) := by kernel_rfl
abbrev eStar : Bs := [101, 99, 104, 111, 32, 36, 42]
abbrev eX : Bs := [101, 99, 104, 111, 32, 120]
def liP : Pn := ⟨⟨#[37, 46, 111]⟩, ⟨#[37, 46, 99]⟩, 1, [⟨2, eStar, true⟩], Fp.targS, Fp.needS 2, []⟩
theorem li_ok : liP.Ok := ⟨⟨by decide, by decide, by kernel_rfl⟩, ⟨by decide, by decide, by kernel_rfl⟩, ⟨by decide, by decide, by kernel_rfl⟩, by kernel_rfl, by decide⟩
theorem li_meets : liP.Meets ⟨#[46]⟩ xoB [120] [120, 46, 99] [120, 46, 99] := ⟨by kernel_rfl, by kernel_rfl, by kernel_rfl, ⟨_, rfl⟩, by decide, by decide, by decide⟩
theorem li_parts : Mp.partsA Fp.liveS = .ok ([liP].map Pn.P) := by rfl
theorem dot_join : Pt.join [[46], mkS] = some mkS := by kernel_rfl
theorem dot_clean : isPath [46] = true := by kernel_rfl
abbrev FiA : TypeId := 31
theorem new_li (w : World) (b : Nat) (hb : b = w.heap.size) : Calls Tryz.prog 7 #[.slice (some ⟨b, 0, none⟩) 2 2] (w.alloc (.cells #[.string mkB, .string liB, .int .i64 0, .bool false, .string xcB, .string ⟨#[]⟩, .int .i64 0, .bool false] FiA)) fun e w' =>
    ∃ sb bm c, e = .returned (.tuple #[.pointer (some ⟨sb, 0, none⟩), .int .i64 0]) ∧ Sw.StoreAt w' sb bm liL c ∧ Below w.heap.size w w' := by
  subst hb
  have hh := heap_last w (.cells #[.string mkB, .string liB, .int .i64 0, .bool false, .string xcB, .string ⟨#[]⟩, .int .i64 0, .bool false] FiA)
  have hG : Sw.Given (w.alloc (.cells #[.string mkB, .string liB, .int .i64 0, .bool false, .string xcB, .string ⟨#[]⟩, .int .i64 0, .bool false] FiA)) w.heap.size 0 2 liF := ⟨by simp, fun j f hf => by
    match j, hf with
    | 0, hf => cases hf; exact ⟨cell_at hh rfl, cell_at hh rfl, cell_at hh rfl, cell_at hh rfl⟩
    | 1, hf => cases hf; exact ⟨cell_at hh rfl, cell_at hh rfl, cell_at hh rfl, cell_at hh rfl⟩, by
    intro f hf
    simp [liF] at hf
    rcases hf with rfl | rfl
    · exact ⟨by decide, by decide⟩
    · exact ⟨by decide, by decide⟩, by decide⟩
  have h := Sw.New_some _ _ 0 2 liF hG
  refine h.mono ?_
  intro e w' h
  unfold Sw.NewPost at h
  rw [if_pos li_code] at h
  obtain ⟨sb, bm, rfl, h1, h2, h3, hB⟩ := h
  exact ⟨sb, bm, _, rfl, h3, ((Below.refl _ w).alloc (Nat.le_refl _) _).trans (hB.mono (by simp))⟩
/-- What is there: x.c. -/
def thX (p : ByteArray) : Bool := p.toList == [120, 46, 99]
theorem there_li : ThereC 13 #[] thX (fun _ => True) where
  call W p _ := by
    show Calls Tryz.prog 13 #[.string p] W _
    unfold thX
    go_enter Tryz.func13, Tryz.ntmps13
    go_wp2_with fail
    go_ret
    exact ⟨rfl, Below.refl _ _⟩
  enter args w := by kernel_rfl
  below _ _ _ _ := trivial
  kept _ _ _ _ _ _ _ _ _ := trivial
/-- What abides an expansion: a map. -/
theorem map_stays {α : Type} {K : Kind α} {b : Nat} {L : List (Bs × α)} : Dz.Abides fun W => Kw.MapAt K W b L := fun W W' Z hk hz h => by
  obtain ⟨es, ck, hh⟩ := Kw.MapAt.obj h
  refine h.block (hk.block b h.lt fun e => ?_)
  rcases hz b e with h1 | ⟨cs', T', fz', h1, h2⟩
  · have := h.lt; omega
  · rw [hh] at h1; cases h1
set_option maxHeartbeats 4000000 in
/-- The text of the line. -/
theorem text_star (W : World) (v0 : Value) (mb : Nat) (L : List Aw.En) (gv : Value) (st : Bs) (hM : Kw.MapAt Aw.AK W mb L) (hg : Kp.get L (by8 ⟨#[42]⟩) = some (by8 ⟨#[42]⟩, str st)) (hst : st.length ≤ 1000) :
    Calls Tryz.prog 30 #[.agg #[v0, .map (some mb), gv], .string (str eStar)] W fun e w' => e = .returned (.tuple #[.string (str ([101, 99, 104, 111, 32] ++ st)), .int .i64 0]) ∧ Below W.heap.size W w' := by
  refine (Text_zl W v0 (.map (some mb)) gv eStar [] (fun r _ => r = str ([101, 99, 104, 111, 32] ++ st)) ?_ (by simp)).mono ?_
  · intro xb kb lb yb W1 hx hC hk hl hB
    have hv : GoesZ xb v0 (.map (some mb)) gv (.map (some kb)) (.map (some lb)) (.map (some yb)) [] (fun W => Kw.MapAt LK W lb [] ∧ Kw.MapAt Aw.AK W mb L) (fun _ => True) (0 + 1) 157 #[.pointer (some ⟨xb, 0, none⟩), .string ⟨#[42]⟩] (.string (str st)) := fun w2 hC2 hI2 _ => by
      refine (value_auto hC2 hI2.1 hI2.2 ⟨#[42]⟩ (str st) hg (by decide)).mono ?_
      rintro e w3 ⟨rfl, B3⟩
      exact ⟨rfl, hC2.below B3, Kept.of_below B3, trivial⟩
    have h := expand_pre_z (P := fun _ => True) [101, 99, 104, 111, 32] [42] st (by decide) (by decide) (by decide) (by omega) (by decide) (by decide) (map_stays.and map_stays) (fun _ _ _ _ _ _ => trivial) (by simp) (ref_star (map_stays.and map_stays) st hv) W1 hC ⟨hl, hM.below hB⟩ (by simp)
    refine h.mono ?_
    rintro e w2 ⟨rfl, _, hk2, _⟩
    exact ⟨_, rfl, hk2, rfl⟩
  · rintro e w' ⟨r, W2, rfl, hk, rfl, _⟩
    exact ⟨rfl, hk.to_below (Nat.le_refl _) (by simp)⟩
set_option maxHeartbeats 2000000 in
theorem equal_x (w : World) (g k c d : Nat) (h1 : FAt w g xcB xcB) (h2 : FAt w k xcB xcB) :
    Calls Tryz.prog 14 #[.slice (some ⟨g, 0, none⟩) 1 c, .slice (some ⟨k, 0, none⟩) 1 d] w fun e w' => e = .returned (.bool true) ∧ Below w.heap.size w w' := by
  have hq : ∀ w : World, (binOp .neq FiT (.agg #[.string xcB, .string xcB]) (.agg #[.string xcB, .string xcB])).run Tryz.prog w = .ok (.bool false) w := fun w => by kernel_rfl
  obtain ⟨c1, a1, a2, a3⟩ := h1
  obtain ⟨c2, b1, b2, b3⟩ := h2
  have x1 := cell_at a1 a2
  have x2 := cell_at a1 a3
  have y1 := cell_at b1 b2
  have y2 := cell_at b1 b3
  have l1 := (Array.getElem?_eq_some_iff.1 a1).1
  have l2 := (Array.getElem?_eq_some_iff.1 b1).1
  clear a1 a2 a3 b1 b2 b3
  go_enter Tryz.func14, Tryz.ntmps14
  go_wp2_with fail
  refine wp_loop_rounds 2 ?_
  rw [rounds_succ]
  go_wp2_with fail
  go_quiet (fail)
  go_wp2_with fail
  rw [rounds_succ]
  go_wp2_with fail
  go_ret
  exact ⟨rfl, ((Kept.refl [] w).drewN _).to_below (Nat.le_refl _) (by simp)⟩
set_option maxHeartbeats 8000000 in
theorem lives17 (w : World) (hG : Ew.GM w) : Calls Tryz.prog 5 #[] w fun e w' => e = .returned (.bool true) ∧ Below w.heap.size w w' := by
  have HN := Lib.hid fun W b hb => new_li W b hb
  have hqF : ∀ w : World, (binOp .eql FaT (.agg #[.int .i64 0, .string ⟨#[]⟩, .int .i64 0]) (.agg #[.int .i64 0, .string ⟨#[]⟩, .int .i64 0])).run Tryz.prog w = .ok (.bool true) w := fun w => by kernel_rfl
  have HG := Lib.hid hG
  clear hG
  go_enter Tryz.func5, Tryz.ntmps5
  go_wp2_with fail
  refine (HN.out w _ rfl).mono ?_
  rintro e w1 ⟨sb, bm, c, rfl, hS, B1⟩
  have HS := Lib.hid hS
  have HB1 := Lib.hid B1
  clear hS B1 HN
  go_wp2_with fail
  refine (PNew_new w1).mono ?_
  rintro e w2 ⟨rfl, hT, B2⟩
  have HS2 := Lib.hid (HS.out.below B2)
  have HT := Lib.hid hT
  have HB2 := Lib.hid (HB1.out.trans (B2.mono HB1.out.size))
  clear hT B2 HS HB1
  go_wp2_with fail
  refine (Read_pats w2 (some ⟨sb, 0, none⟩) HT.out ⟨#[46]⟩ mkS Fp.liveS (by decide) dot_clean (Lib.hid dot_join) (fun W hW => by
    have h := Sw.Read_any W mkB (Sw.getR liL mkS) (HS2.out.below hW) (by decide) (Lib.hid rfl)
    rw [li_get] at h
    exact h) (by decide) [liP] (by simpa using li_ok) (by decide) li_parts).mono ?_
  rintro e w3 ⟨db, rfl, B3, hdb, cb, pv, l, hl, hd, hp⟩
  have HB3 := Lib.hid ((HB2.out.trans (B3.mono HB2.out.size)).alloc (Nat.le_trans HB2.out.size B3.size) (.cells #[.int .i64 0, .string ⟨#[]⟩, .int .i64 0] FaT))
  have hA : Below w3.heap.size w3 (w3.alloc (.cells #[.int .i64 0, .string ⟨#[]⟩, .int .i64 0] FaT)) := (Below.refl _ w3).alloc (Nat.le_refl _) _
  have HNT := Lib.hid (show NoTg (w3.alloc (.cells #[.int .i64 0, .string ⟨#[]⟩, .int .i64 0] FaT)) db ⟨#[46]⟩ pv from ⟨cb, _, _, alloc_keep hd _⟩)
  have HP := Lib.hid (hp.below hA)
  have hl1 : l.length ≤ 30 := by have := congrArg List.length hl; simp at this; omega
  have HL := Lib.hid (And.intro hl hl1)
  clear hA hd hp hl hl1 B3 HT HB2 HS2 hdb
  go_upto_region 5 with (fail)
  generalize w3.alloc (.cells #[.int .i64 0, .string ⟨#[]⟩, .int .i64 0] FaT) = w4 at *
  have hnf : ∀ w : World, (binOp .eql 46 (.func (.func 13) #[] #[]) .nilFunc).run Tryz.prog w = .ok (.bool false) w := fun w => by kernel_rfl
  have HO := Lib.hid (Of_any (w := w4) there_li hnf trivial HNT.out HP.out HL.out.2 xoB xoB [120] (fun _ => [120, 46, 99]) (fun _ => [120, 46, 99]) (by decide) (by decide) (by decide) (fun q hq => by
    have h1 : q.p ∈ l.map PnV.p := List.mem_map_of_mem hq
    rw [HL.out.1] at h1
    rw [List.mem_singleton.1 h1]; exact li_meets))
  clear hnf
  go_wp2_with fail
  refine HO.out.mono ?_
  rintro e w5 ⟨hc, B5⟩
  unfold CompP at hc
  have hth : thX (str [120, 46, 99]) = true := by unfold thX; rw [toList_by8]; decide
  rw [HL.out.1, show [liP].find? (fun _ => thX (str [120, 46, 99])) = some liP from List.find?_cons_of_pos hth] at hc
  obtain ⟨nv, rv, r, hr, rfl, hnv, hrv⟩ := hc
  obtain rfl : r = ⟨2, eStar, true⟩ := by have : [(⟨2, eStar, true⟩ : Ip.L)] = [r] := hr; exact (List.cons.inj this).1.symm
  obtain ⟨gf, cf, rfl, hfa, _, _⟩ := files_one_is hnv
  obtain ⟨gr, cr, rfl, _⟩ := id hrv
  have hA6 := (Below.refl w5.heap.size w5).alloc (Nat.le_refl _) (.cells (nodeC xoB xoB (.slice (some ⟨gf, 0, none⟩) 1 cf) (.slice none 0 0) (.slice (some ⟨gr, 0, none⟩) 1 cr) (str [120]) (liP.ln : Int) false true) NoT)
  have HB5 := Lib.hid (HB3.out.trans (B5.mono HB3.out.size))
  have HB6 := Lib.hid (HB5.out.trans (hA6.mono HB5.out.size))
  have HF6 := Lib.hid (hfa.block (hA6.block _ hfa.lt))
  have HL6 := Lib.hid (hrv.below hA6)
  have HN6 := Lib.hid (heap_last w5 (.cells (nodeC xoB xoB (.slice (some ⟨gf, 0, none⟩) 1 cf) (.slice none 0 0) (.slice (some ⟨gr, 0, none⟩) 1 cr) (str [120]) (liP.ln : Int) false true) NoT))
  have HT6 := Lib.hid ((HNT.out.below B5).below hA6)
  clear hA6 B5 hnv hrv hfa hr HO HNT HP HL HB3
  unfold nodeC at *
  go_upto_region 6 with (fail)
  generalize w5.alloc (.cells #[.string xoB, .string xoB, .slice (some ⟨gf, 0, none⟩) 1 cf, .slice none 0 0, .slice (some ⟨gr, 0, none⟩) 1 cr, .string (str [120]), .int .i64 (liP.ln : Int), .bool false, .bool true] NoT) = w6 at *
  have HC := Lib.hid (Commands_one (HG.out.below HB6.out) (some ⟨sb, 0, none⟩) HT6.out xoB xoB (str [120, 46, 99]) (str [120]) (.slice (some ⟨gr, 0, none⟩) 1 cr) ⟨2, eStar, true⟩ HL6.out (liP.ln : Int) (cf := cf) (str [120, 46, 99]) (by obtain ⟨cs, f1, f2, f3⟩ := HF6.out; exact cell_at f1 f2) (by obtain ⟨cs, f1, f2, f3⟩ := HF6.out; exact cell_at f1 f3) HF6.out.lt (by decide) (by decide) (by decide) eX (by decide)
    (fun W tb mb L gv hM hall => text_star W _ mb L gv [120] hM (hall (⟨#[42]⟩, str [120]) (List.mem_flatMap.2 ⟨(⟨#[42]⟩, str [120]), by unfold Aw.plainT; simp, by unfold Aw.threeT; simp⟩)) (by decide))
    (fun W => command_is W eX (by decide) (by kernel_rfl) (by kernel_rfl) 2))
  unfold nodeC at HC
  go_wp2_with (refine wpList_load_row rfl NoT _ rfl w5.heap.size rfl NoT _ (0, 0) _ HN6.out undNo rfl sizeNo ?_)
  refine HC.out.mono ?_
  rintro e w7 ⟨gl, cl, rfl, hgl, hll, B7⟩
  have hA7 : Below w7.heap.size w7 (w7.alloc (.cells #[.int .i64 0, .string ⟨#[]⟩, .int .i64 0] FaT)) := (Below.refl _ w7).alloc (Nat.le_refl _) _
  have hB7 := HB6.out.trans (B7.mono HB6.out.size)
  have HB7 := Lib.hid (hB7.trans (hA7.mono hB7.size))
  have HN7 := Lib.hid ((hA7.block _ (Nat.lt_of_lt_of_le (Array.getElem?_eq_some_iff.1 HN6.out).1 B7.size)).trans ((B7.block _ (Array.getElem?_eq_some_iff.1 HN6.out).1).trans HN6.out))
  have HF7 := Lib.hid ((HF6.out.block (B7.block _ HF6.out.lt)).block (hA7.block _ (Nat.lt_of_lt_of_le HF6.out.lt B7.size)))
  have HZ7 := Lib.hid (heap_last w7 (.cells #[.int .i64 0, .string ⟨#[]⟩, .int .i64 0] FaT))
  have HR7 := Lib.hid (And.intro ((hA7.cell (p := ⟨gl, 0, none⟩) hll).trans hgl) (Nat.lt_of_lt_of_le hll hA7.size))
  clear hA7 hB7 hgl hll B7 HC HN6 HF6 HL6 HT6 HB6
  go_upto_region 7 with (fail)
  generalize w7.alloc (.cells #[.int .i64 0, .string ⟨#[]⟩, .int .i64 0] FaT) = w8 at *
  have n8 : w8.cell? ⟨w5.heap.size, 8, none⟩ = some (.bool true) := cell_at HN7.out rfl
  have n5 : w8.cell? ⟨w5.heap.size, 5, none⟩ = some (.string ⟨#[120]⟩) := cell_at HN7.out rfl
  have n2 : w8.cell? ⟨w5.heap.size, 2, none⟩ = some (.slice (some ⟨gf, 0, none⟩) 1 cf) := cell_at HN7.out rfl
  have ln := (Array.getElem?_eq_some_iff.1 HN7.out).1
  go_wp2_with fail
  have hA8 : Below w8.heap.size w8 (w8.alloc (.cells #[.string xcB, .string xcB] FiT)) := (Below.refl _ w8).alloc (Nat.le_refl _) _
  refine (equal_x _ gf w8.heap.size cf 1 (HF7.out.block (hA8.block _ HF7.out.lt)) ⟨_, heap_last w8 _, rfl, rfl⟩).mono ?_
  rintro e w9 ⟨rfl, B9⟩
  have hB9 := hA8.trans (B9.mono hA8.size)
  have HB9 := Lib.hid (HB7.out.trans (hB9.mono HB7.out.size))
  have hz9 := (hB9.block _ (Array.getElem?_eq_some_iff.1 HZ7.out).1).trans HZ7.out
  have z0 : w9.cell? ⟨w7.heap.size, 0, none⟩ = some (.int .i64 0) := cell_at hz9 rfl
  have z1 : w9.cell? ⟨w7.heap.size, 1, none⟩ = some (.string ⟨#[]⟩) := cell_at hz9 rfl
  have z2 : w9.cell? ⟨w7.heap.size, 2, none⟩ = some (.int .i64 0) := cell_at hz9 rfl
  have lz := (Array.getElem?_eq_some_iff.1 hz9).1
  have r0 : w9.cell? ⟨gl, 0, none⟩ = some (.string ⟨#[101, 99, 104, 111, 32, 120]⟩) := (hB9.cell (p := ⟨gl, 0, none⟩) HR7.out.2).trans HR7.out.1
  have lr : gl < w9.heap.size := Nat.lt_of_lt_of_le HR7.out.2 hB9.size
  clear hA8 B9 hB9 hz9 HB7 HN7 HF7 HZ7 HR7 n8 n5 n2 ln
  go_wp2_with fail
  go_ret
  exact ⟨rfl, HB9.out⟩
end Go.Proofs.YtgednccpjegbmaaGreatDoor.Dq
