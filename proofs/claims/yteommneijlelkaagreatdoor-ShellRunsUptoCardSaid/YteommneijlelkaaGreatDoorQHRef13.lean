/-
  The reference's several: rm, touch, mkdir.
  The reference's open: a command's redirections.
  The reference's rm and mkdir without words; test, of any words.
-/
import Derived.Test.YteommneijlelkaaGreatDoorQHRef8
import Derived.Test.YteommneijlelkaaGreatDoorQHRef10
import Derived.Deep.DeepCutAuto
namespace Go.Proofs.YteommneijlelkaaGreatDoor.Hx
open Go.RowKit Go.Proofs.YteommneijlelkaaGreatDoor Go.Maps Go.Proofs.YteommneijlelkaaGreatDoor.Sw
set_option maxRecDepth 100000
section
variable {qb N : Nat} {v x : Value} {k : Hp.K} {st ran : Int} {out : Bs} {l : List Bs}

/-- Where several stands. -/
def SevRel (w : World) (qb : Nat) (act : Hp.Act) (st ran : Int) (out : Bs) (L : List Bs) (R : Hp.K × Nat) (m : Nat) (v10 v11 : Value) (wr : World) : Prop :=
  ∃ (i n : Nat) (k' : Hp.K) (v' : Value), v10 = .int .i64 n ∧ v11 = .int .i64 i ∧ i ≤ L.length ∧ Hp.eachA act k' (L.drop i) n = R ∧ RefAt wr qb v' k' st ran out ∧ Hp.Ok k' m ∧ Kept [qb] w wr
theorem all_congr {p q : UInt8 → Bool} (h : ∀ c, p c = q c) {l : Bs} : l.all p = l.all q := by
  rw [show p = q from funext h]
theorem hasB_one (c a : UInt8) : Ww.hasB ⟨#[a]⟩ c = (c == a) := by
  show ([a] : Bs).contains c = _
  simp only [List.contains_cons, List.contains_nil, Bool.or_false]
theorem hasB_two (c a b : UInt8) : Ww.hasB ⟨#[a, b]⟩ c = (c == a || c == b) := by
  show ([a, b] : Bs).contains c = _
  simp only [List.contains_cons, List.contains_nil, Bool.or_false]
theorem flags_no {w w' : World} {letters : ByteArray} {e : Ending} (h : (Hp.flagsOf l).all (Ww.hasB letters) = false) (hp : RFlagsPost w qb N letters l e w') : e = .returned (.tuple #[.string ⟨#[]⟩, .slice none 0 0, .bool false]) ∧ Below w.heap.size w w' := by
  unfold RFlagsPost at hp
  rw [h] at hp
  exact hp
theorem flags_yes {w w' : World} {letters : ByteArray} {e : Ending} (h : (Hp.flagsOf l).all (Ww.hasB letters) = true) (hp : RFlagsPost w qb N letters l e w') : (∃ x, e = .returned (.tuple #[.string (str (Hp.flagsOf l)), x, .bool true]) ∧ RWs w qb N x (Hp.restOf l)) ∧ Below w.heap.size w w' := by
  unfold RFlagsPost at hp
  rw [h] at hp
  exact hp
theorem wtL_twice (l : List Bs) : 2 * l.length ≤ Hp.wtL l := by
  unfold Hp.wtL
  induction l with
  | nil => simp
  | cons x r ih => simp at *; omega

set_option maxHeartbeats 4000000 in
theorem rtouch_any (w : World) (m : Nat) (hR : RefAt w qb v k st ran out) (hO : Hp.Ok k m) (hN : N ≤ w.heap.size) (hx : RWs w qb N x l) (hl : ∀ y ∈ l, m + y.length + 2 ≤ 100000) (hw : Hp.wtL l ≤ 100000) :
    Calls Tryz.prog 99 #[.pointer (some ⟨qb, 0, none⟩), .string ⟨#[116, 111, 117, 99, 104]⟩, x] w (RefPost w qb st ran out (Hp.touchC k l)) := by
  have hlt := hR.lt
  obtain ⟨va, vn, vc, rfl⟩ := hR.files.shape
  obtain ⟨a, c, rfl, hcl⟩ := Px.Rg.shape hx
  have h8 : l.length ≤ 100000 := by have := wtL_twice l; omega
  have HCL := Lib.hid hcl
  have HX := Lib.hid hx
  have HJ := Lib.hid hN
  have HR := Lib.hid hR
  by_cases hnil : l = []
  · subst hnil
    clear hx hR hcl
    go_enter Tryz.func99, Tryz.ntmps99
    go_wp2_with fail
    go_ret
    exact ⟨rfl, ⟨_, HR.out⟩, .refl _ _⟩
  · have hpos : 0 < l.length := List.length_pos_iff.2 hnil
    have q0 : ((l.length : Int) == 0) = false := by rw [beq_eq_false_iff_ne]; omega
    obtain ⟨L, hL⟩ : ∃ L, l = L := ⟨_, rfl⟩
    subst hL
    obtain ⟨act, hact⟩ : ∃ act : Hp.Act, act = .touch := ⟨_, rfl⟩
    obtain ⟨R, hRes⟩ : ∃ R, Hp.eachA act k l 0 = R := ⟨_, rfl⟩
    have HRE : Hid (Hp.touchC k l = R) := Lib.hid (by unfold Hp.touchC; rw [if_neg hnil, ← hact]; exact hRes)
    have HONE : Hid (∀ (W : World) (v' : Value) (k' : Hp.K) (p : ByteArray), RefAt W qb v' k' st ran out → Hp.Ok k' m → p.size ≤ 100000 → Calls Tryz.prog 146 #[.pointer (some ⟨qb, 0, none⟩), .string ⟨#[116, 111, 117, 99, 104]⟩, .string p, .string ⟨#[]⟩] W (RefPost W qb st ran out (Hp.oneA act k' (bs p)))) :=
      Lib.hid fun W v' k' p h1 h2 h3 => by rw [hact]; exact rone_touch W p ⟨#[]⟩ h1 h2.fine h3
    have HLE := Lib.hid hl
    have HST : Hid (SevRel w qb act st ran out l R m (.int .i64 0) (.int .i64 0) w) := Lib.hid ⟨0, 0, k, _, rfl, rfl, Nat.zero_le _, by rw [List.drop_zero]; exact hRes, HR.out, hO, .refl _ _⟩
    clear hx hR hcl hnil hRes hact hO hl
    go_enter Tryz.func99, Tryz.ntmps99
    go_wp2_with fail
    go_loopw [10, 11] (fun v10 v11 wr => SevRel w qb act st ran out l R m v10 v11 wr) (fun _ v11 _ => l.length - (intOf v11).toNat)
    case atStart => exact HST.out
    case round =>
      clear HST
      obtain ⟨i, n, k', v', rfl, rfl, hi', hea, hR', hok, hK⟩ := hrel
      obtain ⟨c0, c1, c2, c3, c4, c5, c6, c7, c8⟩ := hR'.cells
      have hlt' := hR'.lt
      by_cases hlt2 : i < l.length
      · have hki : (i : Int) < (l.length : Int) := by omega
        have hk0 : (0 : Int) ≤ (i : Int) := Int.natCast_nonneg _
        have hdrop : l.drop i = l[i] :: l.drop (i + 1) := List.drop_eq_getElem_cons hlt2
        rw [hdrop] at hea
        by_cases hcode : k'.code = 0
        · have hq : (k'.code == 0) = true := by simpa using hcode
          have hX' := HX.out.kept hK HJ.out
          obtain ⟨b, o, rfl, _, hb, hy⟩ := RWs.cell hX' (by omega)
          have e0 : wr.cell? ⟨b, o + i, none⟩ = some (.string (str l[i])) := hy i hlt2
          have hyl0 := HLE.out l[i] (List.getElem_mem hlt2)
          have hsy : (str l[i]).size ≤ 800000 := by rw [← bs_len, bs_str]; omega
          have hci : (i : Int) < (c : Int) := by have := HCL.out; omega
          have hd' : k'.d.length ≤ 100000 := by have := hok.dir; omega
          generalize hyl : l[i] = y at *
          obtain ⟨q, hj⟩ : ∃ q, Hp.joinP k'.d y = q := ⟨_, rfl⟩
          have HP := Lib.hid fun (W : World) (h : RefAt W qb v' k' st ran out) => rpath_any W (str y) q h hd' hsy (Lib.hid (by rw [bs_str]; exact hj))
          have HR2 := Lib.hid hR'
          have HK2 := Lib.hid hK
          have HOK := Lib.hid hok
          have hws := hK.size
          cases q with
          | none =>
            dsimp only [Option.getD, Option.isSome] at HP
            have hnone : Hp.eachA act k' (y :: l.drop (i + 1)) n = Hp.eachA act k' (l.drop (i + 1)) 1 := by
              conv => lhs; unfold Hp.eachA
              rw [if_neg (by simpa using hcode), hj]
            have HE : Hid (Hp.eachA act k' (l.drop (i + 1)) 1 = R) := Lib.hid (by rw [← hea, hnone])
            clear hnone
            clear hea hR' hK hd' hj hyl hdrop hcode hX' hy hb hsy hok hyl0
            go_wp2_with fail
            refine (HP.out _ HR2.out).mono ?_
            rintro e w1 ⟨rfl, B1⟩
            have HR1 := Lib.hid (HR2.out.below B1)
            go_wp2_with fail
            go_roundw
            case rel => exact ⟨i + 1, 1, k', _, rfl, by go_num, hlt2, HE.out, HR1.out, HOK.out, HK2.out.below B1⟩
            case measure => simp [intOf]; omega
          | some p =>
            dsimp only [Option.getD, Option.isSome] at HP
            have hpl := Hp.joinP_len hj
            have hpl2 : (str p).size ≤ 100000 := by rw [← bs_len, bs_str]; have := hok.dir; omega
            have HO := Lib.hid fun (W : World) (h : RefAt W qb v' k' st ran out) => HONE.out W v' k' (str p) h hok hpl2
            have hokn := (Hp.one_ok (a := act) hok (p := p) (by rw [← bs_str p, bs_len]; exact hpl2)).1
            rw [bs_str] at HO
            have heac : Hp.eachA act k' (y :: l.drop (i + 1)) n = Hp.eachA act (Hp.oneA act k' p).1 (l.drop (i + 1)) (if (Hp.oneA act k' p).2 = 0 then n else 1) := by
              conv => lhs; unfold Hp.eachA
              rw [if_neg (by simpa using hcode), hj]
            rw [heac] at hea
            generalize Hp.oneA act k' p = one at *
            obtain ⟨k2, s2⟩ := one
            have HOK2 := Lib.hid hokn
            by_cases hs2 : s2 = 0
            · subst hs2
              have HE : Hid (Hp.eachA act k2 (l.drop (i + 1)) n = R) := Lib.hid (by rw [← hea]; rfl)
              clear hea hR' hK hd' hj hyl hdrop hcode hX' hy hb hsy hok hyl0 hpl hpl2 hokn heac
              go_wp2_with fail
              refine (HP.out _ HR2.out).mono ?_
              rintro e w1 ⟨rfl, B1⟩
              have HR1 := Lib.hid (HR2.out.below B1)
              go_wp2_with fail
              refine (HO.out _ HR1.out).mono ?_
              rintro e w2 ⟨rfl, ⟨v2, hR2⟩, K2⟩
              have HRR := Lib.hid hR2
              clear hR2
              go_wp2_with fail
              go_roundw
              case rel => exact ⟨i + 1, n, k2, v2, rfl, by go_num, hlt2, HE.out, HRR.out, HOK2.out, (HK2.out.below B1).trans K2⟩
              case measure => simp [intOf]; omega
            · have hs2b : ((s2 : Int) != 0) = true := by simp; omega
              have HE : Hid (Hp.eachA act k2 (l.drop (i + 1)) 1 = R) := Lib.hid (by rw [← hea]; simp only [if_neg hs2])
              clear hea hR' hK hd' hj hyl hdrop hcode hX' hy hb hsy hok hyl0 hpl hpl2 hokn heac hs2
              go_wp2_with fail
              refine (HP.out _ HR2.out).mono ?_
              rintro e w1 ⟨rfl, B1⟩
              have HR1 := Lib.hid (HR2.out.below B1)
              go_wp2_with fail
              refine (HO.out _ HR1.out).mono ?_
              rintro e w2 ⟨rfl, ⟨v2, hR2⟩, K2⟩
              have HRR := Lib.hid hR2
              clear hR2
              go_wp2_with fail
              go_roundw
              case rel => exact ⟨i + 1, 1, k2, v2, rfl, by go_num, hlt2, HE.out, HRR.out, HOK2.out, (HK2.out.below B1).trans K2⟩
              case measure => simp [intOf]; omega
        · have hq : (k'.code == 0) = false := by simpa using hcode
          have HE : Hid ((k', n) = R) := Lib.hid (by rw [← hea]; unfold Hp.eachA; rw [if_pos hcode])
          have HR2 := Lib.hid hR'
          have HK2 := Lib.hid hK
          clear hea hcode hR' hK hok hdrop
          go_wp2_with fail
          go_ret
          rw [HRE.out, ← HE.out]
          exact ⟨rfl, ⟨_, HR2.out⟩, HK2.out⟩
      · obtain rfl : i = l.length := by omega
        have HE : Hid ((k', n) = R) := Lib.hid (by rw [← hea, List.drop_length]; rfl)
        have HR2 := Lib.hid hR'
        have HK2 := Lib.hid hK
        have hki : ¬ (l.length : Int) < (l.length : Int) := by omega
        clear hea hR' hK hok
        go_wp2_with fail
        go_ret
        rw [HRE.out, ← HE.out]
        exact ⟨rfl, ⟨_, HR2.out⟩, HK2.out⟩

set_option maxHeartbeats 4000000 in
theorem rmkdir_any (w : World) (m : Nat) (hR : RefAt w qb v k st ran out) (hO : Hp.Ok k m) (hN : N ≤ w.heap.size) (hx : RWs w qb N x l) (hl : ∀ y ∈ l, m + y.length + 2 ≤ 100000) (hw : Hp.wtL l ≤ 100000) (hne : l ≠ []) :
    Calls Tryz.prog 99 #[.pointer (some ⟨qb, 0, none⟩), .string ⟨#[109, 107, 100, 105, 114]⟩, x] w (RefPost w qb st ran out (Hp.mkdirC k l)) := by
  have hlt := hR.lt
  obtain ⟨va, vn, vc, rfl⟩ := hR.files.shape
  obtain ⟨a, c, rfl, hcl0⟩ := Px.Rg.shape hx
  have h8 : l.length ≤ 100000 := by have := wtL_twice l; omega
  have HJ := Lib.hid hN
  have HR := Lib.hid hR
  obtain ⟨b0, o0, rfl, _, _, _⟩ := RWs.cell hx (List.length_pos_iff.2 hne)
  have HFg := Lib.hid (rflags_some w ⟨#[112]⟩ b0 o0 c hx (List.length_pos_iff.2 hne) hcl0 (by decide) hw)
  have hall : (Hp.flagsOf l).all (Ww.hasB ⟨#[112]⟩) = (Hp.flagsOf l).all (fun c => c == 112) := all_congr fun c => hasB_one c 112
  clear hx hR hcl0 hne
  cases hf : (Hp.flagsOf l).all (fun c => c == 112) with
  | false =>
    have HRE : Hid (Hp.mkdirC k l = (k, 1)) := Lib.hid (by unfold Hp.mkdirC; rw [if_pos hf])
    have HF2 := Lib.hid (HFg.out.mono (fun e w' h => flags_no (hall.trans hf) h))
    clear hf hall HFg hl hO
    go_enter Tryz.func99, Tryz.ntmps99
    go_wp2_with fail
    refine HF2.out.mono ?_
    rintro e w1 ⟨rfl, B1⟩
    have HR1 := Lib.hid (HR.out.below B1)
    go_wp2_with fail
    go_ret
    rw [HRE.out]
    exact ⟨rfl, ⟨_, HR1.out⟩, .of_below B1⟩
  | true =>
    have HF2 := Lib.hid (HFg.out.mono (fun e w' h => flags_yes (hall.trans hf) h))
    have hsub : ∀ y ∈ Hp.restOf l, m + y.length + 2 ≤ 100000 := fun y hy => hl y (Hp.rest_sub l y hy)
    have HM : Hp.mkdirC k l = if Hp.restOf l = [] then (k, 1) else Hp.eachA (.mkdir (decide (Hp.flagsOf l ≠ []))) k (Hp.restOf l) 0 := by unfold Hp.mkdirC; rw [if_neg (by rw [hf]; exact fun h => by cases h)]
    have hrl : (Hp.restOf l).length ≤ 100000 := Nat.le_trans (List.dropWhile_sublist _).length_le h8
    have hfl : (str (Hp.flagsOf l)).size ≤ 100000 := by rw [← bs_len, bs_str]; exact Nat.le_trans (flags_len l) hw
    clear hf hall HFg hl h8
    generalize Hp.restOf l = L at *
    generalize Hp.flagsOf l = fl at *
    by_cases hnil : L = []
    · subst hnil
      have HRE : Hid (Hp.mkdirC k l = (k, 1)) := Lib.hid (by rw [HM]; rfl)
      clear HM hsub hO
      go_enter Tryz.func99, Tryz.ntmps99
      go_wp2_with fail
      refine HF2.out.mono ?_
      rintro e w1 ⟨⟨x1, rfl, hx1⟩, B1⟩
      have HR1 := Lib.hid (HR.out.below B1)
      obtain ⟨a1, c1, rfl, _⟩ := Px.Rg.shape hx1
      go_wp2_with fail
      go_ret
      rw [HRE.out]
      exact ⟨rfl, ⟨_, HR1.out⟩, .of_below B1⟩
    · have hpos : 0 < L.length := List.length_pos_iff.2 hnil
      have q0 : ((L.length : Int) == 0) = false := by rw [beq_eq_false_iff_ne]; omega
      obtain ⟨act, hact⟩ : ∃ act : Hp.Act, act = .mkdir (decide (fl ≠ [])) := ⟨_, rfl⟩
      obtain ⟨R, hRes⟩ : ∃ R, Hp.eachA act k L 0 = R := ⟨_, rfl⟩
      have HRE : Hid (Hp.mkdirC k l = R) := Lib.hid (by rw [HM, if_neg hnil, ← hact]; exact hRes)
      have HONE : Hid (∀ (W : World) (v' : Value) (k' : Hp.K) (p : ByteArray), RefAt W qb v' k' st ran out → Hp.Ok k' m → p.size ≤ 100000 → Calls Tryz.prog 146 #[.pointer (some ⟨qb, 0, none⟩), .string ⟨#[109, 107, 100, 105, 114]⟩, .string p, .string (str fl)] W (RefPost W qb st ran out (Hp.oneA act k' (bs p)))) :=
        Lib.hid fun W v' k' p h1 h2 h3 => by rw [hact]; exact rone_mkdir W p (str fl) _ (Lib.hid rfl) h1 h2.fine h2.closed h3
      have HLE := Lib.hid hsub
      have HR0 := Lib.hid hRes
      have HOk := Lib.hid hO
      clear HM hRes hact hsub hnil hO
      go_enter Tryz.func99, Tryz.ntmps99
      go_wp2_with fail
      refine HF2.out.mono ?_
      rintro e w1 ⟨⟨x1, rfl, hx1⟩, B1⟩
      have HR1 := Lib.hid (HR.out.below B1)
      obtain ⟨a, c, rfl, hcl⟩ := Px.Rg.shape hx1
      have HX := Lib.hid hx1
      have HCL := Lib.hid hcl
      have HST : Hid (SevRel w qb act st ran out L R m (.int .i64 0) (.int .i64 0) w1) := Lib.hid ⟨0, 0, k, _, rfl, rfl, Nat.zero_le _, by rw [List.drop_zero]; exact HR0.out, HR1.out, HOk.out, .of_below B1⟩
      clear hx1 hcl B1
      go_wp2_with fail
      go_loopw [10, 11] (fun v10 v11 wr => SevRel w qb act st ran out L R m v10 v11 wr) (fun _ v11 _ => L.length - (intOf v11).toNat)
      case atStart => exact HST.out
      case round =>
        clear HST
        obtain ⟨i, n, k', v', rfl, rfl, hi', hea, hR', hok, hK⟩ := hrel
        obtain ⟨c0, c1, c2, c3, c4, c5, c6, c7, c8⟩ := hR'.cells
        have hlt' := hR'.lt
        by_cases hlt2 : i < L.length
        · have hki : (i : Int) < (L.length : Int) := by omega
          have hk0 : (0 : Int) ≤ (i : Int) := Int.natCast_nonneg _
          have hdrop : L.drop i = L[i] :: L.drop (i + 1) := List.drop_eq_getElem_cons hlt2
          rw [hdrop] at hea
          by_cases hcode : k'.code = 0
          · have hq : (k'.code == 0) = true := by simpa using hcode
            have hX' := HX.out.kept hK HJ.out
            obtain ⟨b, o, rfl, _, hb, hy⟩ := RWs.cell hX' (by omega)
            have e0 : wr.cell? ⟨b, o + i, none⟩ = some (.string (str L[i])) := hy i hlt2
            have hyl0 := HLE.out L[i] (List.getElem_mem hlt2)
            have hsy : (str L[i]).size ≤ 800000 := by rw [← bs_len, bs_str]; omega
            have hci : (i : Int) < (c : Int) := by have := HCL.out; omega
            have hd' : k'.d.length ≤ 100000 := by have := hok.dir; omega
            generalize hyl : L[i] = y at *
            obtain ⟨q, hj⟩ : ∃ q, Hp.joinP k'.d y = q := ⟨_, rfl⟩
            have HP := Lib.hid fun (W : World) (h : RefAt W qb v' k' st ran out) => rpath_any W (str y) q h hd' hsy (Lib.hid (by rw [bs_str]; exact hj))
            have HR2 := Lib.hid hR'
            have HK2 := Lib.hid hK
            have HOK := Lib.hid hok
            have hws := hK.size
            cases q with
            | none =>
              dsimp only [Option.getD, Option.isSome] at HP
              have hnone : Hp.eachA act k' (y :: L.drop (i + 1)) n = Hp.eachA act k' (L.drop (i + 1)) 1 := by
                conv => lhs; unfold Hp.eachA
                rw [if_neg (by simpa using hcode), hj]
              have HE : Hid (Hp.eachA act k' (L.drop (i + 1)) 1 = R) := Lib.hid (by rw [← hea, hnone])
              clear hnone
              clear hea hR' hK hd' hj hyl hdrop hcode hX' hy hb hsy hok hyl0
              go_wp2_with fail
              refine (HP.out _ HR2.out).mono ?_
              rintro e w1 ⟨rfl, B1⟩
              have HR1 := Lib.hid (HR2.out.below B1)
              go_wp2_with fail
              go_roundw
              case rel => exact ⟨i + 1, 1, k', _, rfl, by go_num, hlt2, HE.out, HR1.out, HOK.out, HK2.out.below B1⟩
              case measure => simp [intOf]; omega
            | some p =>
              dsimp only [Option.getD, Option.isSome] at HP
              have hpl := Hp.joinP_len hj
              have hpl2 : (str p).size ≤ 100000 := by rw [← bs_len, bs_str]; have := hok.dir; omega
              have HO := Lib.hid fun (W : World) (h : RefAt W qb v' k' st ran out) => HONE.out W v' k' (str p) h hok hpl2
              have hokn := (Hp.one_ok (a := act) hok (p := p) (by rw [← bs_str p, bs_len]; exact hpl2)).1
              rw [bs_str] at HO
              have heac : Hp.eachA act k' (y :: L.drop (i + 1)) n = Hp.eachA act (Hp.oneA act k' p).1 (L.drop (i + 1)) (if (Hp.oneA act k' p).2 = 0 then n else 1) := by
                conv => lhs; unfold Hp.eachA
                rw [if_neg (by simpa using hcode), hj]
              rw [heac] at hea
              generalize Hp.oneA act k' p = one at *
              obtain ⟨k2, s2⟩ := one
              have HOK2 := Lib.hid hokn
              by_cases hs2 : s2 = 0
              · subst hs2
                have HE : Hid (Hp.eachA act k2 (L.drop (i + 1)) n = R) := Lib.hid (by rw [← hea]; rfl)
                clear hea hR' hK hd' hj hyl hdrop hcode hX' hy hb hsy hok hyl0 hpl hpl2 hokn heac
                go_wp2_with fail
                refine (HP.out _ HR2.out).mono ?_
                rintro e w1 ⟨rfl, B1⟩
                have HR1 := Lib.hid (HR2.out.below B1)
                go_wp2_with fail
                refine (HO.out _ HR1.out).mono ?_
                rintro e w2 ⟨rfl, ⟨v2, hR2⟩, K2⟩
                have HRR := Lib.hid hR2
                clear hR2
                go_wp2_with fail
                go_roundw
                case rel => exact ⟨i + 1, n, k2, v2, rfl, by go_num, hlt2, HE.out, HRR.out, HOK2.out, (HK2.out.below B1).trans K2⟩
                case measure => simp [intOf]; omega
              · have hs2b : ((s2 : Int) != 0) = true := by simp; omega
                have HE : Hid (Hp.eachA act k2 (L.drop (i + 1)) 1 = R) := Lib.hid (by rw [← hea]; simp only [if_neg hs2])
                clear hea hR' hK hd' hj hyl hdrop hcode hX' hy hb hsy hok hyl0 hpl hpl2 hokn heac hs2
                go_wp2_with fail
                refine (HP.out _ HR2.out).mono ?_
                rintro e w1 ⟨rfl, B1⟩
                have HR1 := Lib.hid (HR2.out.below B1)
                go_wp2_with fail
                refine (HO.out _ HR1.out).mono ?_
                rintro e w2 ⟨rfl, ⟨v2, hR2⟩, K2⟩
                have HRR := Lib.hid hR2
                clear hR2
                go_wp2_with fail
                go_roundw
                case rel => exact ⟨i + 1, 1, k2, v2, rfl, by go_num, hlt2, HE.out, HRR.out, HOK2.out, (HK2.out.below B1).trans K2⟩
                case measure => simp [intOf]; omega
          · have hq : (k'.code == 0) = false := by simpa using hcode
            have HE : Hid ((k', n) = R) := Lib.hid (by rw [← hea]; unfold Hp.eachA; rw [if_pos hcode])
            have HR2 := Lib.hid hR'
            have HK2 := Lib.hid hK
            clear hea hcode hR' hK hok hdrop
            go_wp2_with fail
            go_ret
            rw [HRE.out, ← HE.out]
            exact ⟨rfl, ⟨_, HR2.out⟩, HK2.out⟩
        · obtain rfl : i = L.length := by omega
          have HE : Hid ((k', n) = R) := Lib.hid (by rw [← hea, List.drop_length]; rfl)
          have HR2 := Lib.hid hR'
          have HK2 := Lib.hid hK
          have hki : ¬ (L.length : Int) < (L.length : Int) := by omega
          clear hea hR' hK hok
          go_wp2_with fail
          go_ret
          rw [HRE.out, ← HE.out]
          exact ⟨rfl, ⟨_, HR2.out⟩, HK2.out⟩

set_option maxHeartbeats 4000000 in
theorem rrm_any (w : World) (m : Nat) (hR : RefAt w qb v k st ran out) (hO : Hp.Ok k m) (hN : N ≤ w.heap.size) (hx : RWs w qb N x l) (hl : ∀ y ∈ l, m + y.length + 2 ≤ 100000) (hw : Hp.wtL l ≤ 100000) (hne : l ≠ []) :
    Calls Tryz.prog 99 #[.pointer (some ⟨qb, 0, none⟩), .string ⟨#[114, 109]⟩, x] w (RefPost w qb st ran out (Hp.rmA k l)) := by
  have hlt := hR.lt
  obtain ⟨va, vn, vc, rfl⟩ := hR.files.shape
  obtain ⟨a, c, rfl, hcl0⟩ := Px.Rg.shape hx
  have h8 : l.length ≤ 100000 := by have := wtL_twice l; omega
  have HJ := Lib.hid hN
  have HR := Lib.hid hR
  obtain ⟨b0, o0, rfl, _, _, _⟩ := RWs.cell hx (List.length_pos_iff.2 hne)
  have HFg := Lib.hid (rflags_some w ⟨#[114, 102]⟩ b0 o0 c hx (List.length_pos_iff.2 hne) hcl0 (by decide) hw)
  have hall : (Hp.flagsOf l).all (Ww.hasB ⟨#[114, 102]⟩) = (Hp.flagsOf l).all (fun c => c == 114 || c == 102) := all_congr fun c => hasB_two c 114 102
  clear hx hR hcl0 hne
  cases hf : (Hp.flagsOf l).all (fun c => c == 114 || c == 102) with
  | false =>
    have HRE : Hid (Hp.rmA k l = (k, 1)) := Lib.hid (by unfold Hp.rmA; rw [if_pos hf])
    have HF2 := Lib.hid (HFg.out.mono (fun e w' h => flags_no (hall.trans hf) h))
    have HH := Lib.hid fun W => Ww.Has_any W ⟨#[]⟩ 102 (by decide)
    rw [show Ww.hasB ⟨#[]⟩ 102 = false from rfl] at HH
    clear hf hall HFg hl hO
    go_enter Tryz.func99, Tryz.ntmps99
    go_wp2_with fail
    refine HF2.out.mono ?_
    rintro e w1 ⟨rfl, B1⟩
    have HR1 := Lib.hid (HR.out.below B1)
    go_wp2_with fail
    refine (HH.out _).mono ?_
    rintro e w2 ⟨rfl, rfl⟩
    go_wp2_with fail
    go_ret
    rw [HRE.out]
    exact ⟨rfl, ⟨_, HR1.out⟩, .of_below B1⟩
  | true =>
    have HF2 := Lib.hid (HFg.out.mono (fun e w' h => flags_yes (hall.trans hf) h))
    have hsub : ∀ y ∈ Hp.restOf l, m + y.length + 2 ≤ 100000 := fun y hy => hl y (Hp.rest_sub l y hy)
    have HM : Hp.rmA k l = if Hp.restOf l = [] ∧ (Hp.flagsOf l).contains 102 = false then (k, 1) else Hp.eachA (.rm ((Hp.flagsOf l).contains 114) ((Hp.flagsOf l).contains 102)) k (Hp.restOf l) 0 := by unfold Hp.rmA; rw [if_neg (by rw [hf]; exact fun h => by cases h)]
    have hrl : (Hp.restOf l).length ≤ 100000 := Nat.le_trans (List.dropWhile_sublist _).length_le h8
    have hfl : (str (Hp.flagsOf l)).size ≤ 100000 := by rw [← bs_len, bs_str]; exact Nat.le_trans (flags_len l) hw
    clear hf hall HFg hl h8
    generalize Hp.restOf l = L at *
    generalize Hp.flagsOf l = fl at *
    have HH := Lib.hid fun W => Ww.Has_any W (str fl) 102 (by omega)
    rw [show Ww.hasB (str fl) 102 = fl.contains 102 from rfl] at HH
    obtain ⟨force, hfo⟩ : ∃ force, fl.contains 102 = force := ⟨_, rfl⟩
    rw [hfo] at HH HM
    by_cases hnil : L = [] ∧ force = false
    · obtain ⟨rfl, rfl⟩ := hnil
      have HRE : Hid (Hp.rmA k l = (k, 1)) := Lib.hid (by rw [HM]; rfl)
      clear HM hsub hO hfo
      go_enter Tryz.func99, Tryz.ntmps99
      go_wp2_with fail
      refine HF2.out.mono ?_
      rintro e w1 ⟨⟨x1, rfl, hx1⟩, B1⟩
      have HR1 := Lib.hid (HR.out.below B1)
      obtain ⟨a1, c1, rfl, _⟩ := Px.Rg.shape hx1
      go_wp2_with fail
      refine (HH.out _).mono ?_
      rintro e w2 ⟨rfl, rfl⟩
      go_wp2_with fail
      go_ret
      rw [HRE.out]
      exact ⟨rfl, ⟨_, HR1.out⟩, .of_below B1⟩
    · obtain ⟨act, hact⟩ : ∃ act : Hp.Act, act = .rm (fl.contains 114) force := ⟨_, rfl⟩
      obtain ⟨R, hRes⟩ : ∃ R, Hp.eachA act k L 0 = R := ⟨_, rfl⟩
      have HRE : Hid (Hp.rmA k l = R) := Lib.hid (by rw [HM, if_neg hnil, ← hact]; exact hRes)
      have HONE : Hid (∀ (W : World) (v' : Value) (k' : Hp.K) (p : ByteArray), RefAt W qb v' k' st ran out → Hp.Ok k' m → p.size ≤ 100000 → Calls Tryz.prog 146 #[.pointer (some ⟨qb, 0, none⟩), .string ⟨#[114, 109]⟩, .string p, .string (str fl)] W (RefPost W qb st ran out (Hp.oneA act k' (bs p)))) :=
        Lib.hid fun W v' k' p h1 h2 h3 => by rw [hact]; exact rone_rm W p (str fl) h1 h2.fine h2.closed h3 (by omega) _ _ (Lib.hid rfl) (Lib.hid hfo)
      have HLE := Lib.hid hsub
      have HR0 := Lib.hid hRes
      have HOk := Lib.hid hO
      have hz : (L.length = 0 ∧ force = true) ∨ (0 < L.length) := by
        rcases Nat.eq_zero_or_pos L.length with h | h
        · left
          refine ⟨h, ?_⟩
          cases hf2 : force with
          | true => rfl
          | false => exact absurd ⟨List.length_eq_zero_iff.1 h, hf2⟩ hnil
        · exact .inr h
      have HZ : Hid (((L.length : Int) == 0 && !force) = false) := Lib.hid (by
        rcases hz with ⟨_, rfl⟩ | h
        · simp
        · have : ((L.length : Int) == 0) = false := by rw [beq_eq_false_iff_ne]; omega
          rw [this]; rfl)
      clear HM hRes hact hsub hnil hO hfo hz
      have HZ2 := HZ.out
      cases force with
      | true =>
        clear HZ2
        go_enter Tryz.func99, Tryz.ntmps99
        go_wp2_with fail
        refine HF2.out.mono ?_
        rintro e w1 ⟨⟨x1, rfl, hx1⟩, B1⟩
        have HR1 := Lib.hid (HR.out.below B1)
        obtain ⟨a, c, rfl, hcl⟩ := Px.Rg.shape hx1
        have HX := Lib.hid hx1
        have HCL := Lib.hid hcl
        have HST : Hid (SevRel w qb act st ran out L R m (.int .i64 0) (.int .i64 0) w1) := Lib.hid ⟨0, 0, k, _, rfl, rfl, Nat.zero_le _, by rw [List.drop_zero]; exact HR0.out, HR1.out, HOk.out, .of_below B1⟩
        clear hx1 hcl B1
        go_wp2_with fail
        refine (HH.out _).mono ?_
        rintro e w2 ⟨rfl, rfl⟩
        by_cases hpz : L.length = 0
        · have q0 : ((L.length : Int) == 0) = true := by rw [hpz]; rfl
          clear hpz
          go_wp2_with fail
          go_loopw [10, 11] (fun v10 v11 wr => SevRel w qb act st ran out L R m v10 v11 wr) (fun _ v11 _ => L.length - (intOf v11).toNat)
          case atStart => exact HST.out
          case round =>
            clear HST
            obtain ⟨i, n, k', v', rfl, rfl, hi', hea, hR', hok, hK⟩ := hrel
            obtain ⟨c0, c1, c2, c3, c4, c5, c6, c7, c8⟩ := hR'.cells
            have hlt' := hR'.lt
            by_cases hlt2 : i < L.length
            · have hki : (i : Int) < (L.length : Int) := by omega
              have hk0 : (0 : Int) ≤ (i : Int) := Int.natCast_nonneg _
              have hdrop : L.drop i = L[i] :: L.drop (i + 1) := List.drop_eq_getElem_cons hlt2
              rw [hdrop] at hea
              by_cases hcode : k'.code = 0
              · have hq : (k'.code == 0) = true := by simpa using hcode
                have hX' := HX.out.kept hK HJ.out
                obtain ⟨b, o, rfl, _, hb, hy⟩ := RWs.cell hX' (by omega)
                have e0 : wr.cell? ⟨b, o + i, none⟩ = some (.string (str L[i])) := hy i hlt2
                have hyl0 := HLE.out L[i] (List.getElem_mem hlt2)
                have hsy : (str L[i]).size ≤ 800000 := by rw [← bs_len, bs_str]; omega
                have hci : (i : Int) < (c : Int) := by have := HCL.out; omega
                have hd' : k'.d.length ≤ 100000 := by have := hok.dir; omega
                generalize hyl : L[i] = y at *
                obtain ⟨q, hj⟩ : ∃ q, Hp.joinP k'.d y = q := ⟨_, rfl⟩
                have HP := Lib.hid fun (W : World) (h : RefAt W qb v' k' st ran out) => rpath_any W (str y) q h hd' hsy (Lib.hid (by rw [bs_str]; exact hj))
                have HR2 := Lib.hid hR'
                have HK2 := Lib.hid hK
                have HOK := Lib.hid hok
                have hws := hK.size
                cases q with
                | none =>
                  dsimp only [Option.getD, Option.isSome] at HP
                  have hnone : Hp.eachA act k' (y :: L.drop (i + 1)) n = Hp.eachA act k' (L.drop (i + 1)) 1 := by
                    conv => lhs; unfold Hp.eachA
                    rw [if_neg (by simpa using hcode), hj]
                  have HE : Hid (Hp.eachA act k' (L.drop (i + 1)) 1 = R) := Lib.hid (by rw [← hea, hnone])
                  clear hnone
                  clear hea hR' hK hd' hj hyl hdrop hcode hX' hy hb hsy hok hyl0
                  go_wp2_with fail
                  refine (HP.out _ HR2.out).mono ?_
                  rintro e w1 ⟨rfl, B1⟩
                  have HR1 := Lib.hid (HR2.out.below B1)
                  go_wp2_with fail
                  go_roundw
                  case rel => exact ⟨i + 1, 1, k', _, rfl, by go_num, hlt2, HE.out, HR1.out, HOK.out, HK2.out.below B1⟩
                  case measure => simp [intOf]; omega
                | some p =>
                  dsimp only [Option.getD, Option.isSome] at HP
                  have hpl := Hp.joinP_len hj
                  have hpl2 : (str p).size ≤ 100000 := by rw [← bs_len, bs_str]; have := hok.dir; omega
                  have HO := Lib.hid fun (W : World) (h : RefAt W qb v' k' st ran out) => HONE.out W v' k' (str p) h hok hpl2
                  have hokn := (Hp.one_ok (a := act) hok (p := p) (by rw [← bs_str p, bs_len]; exact hpl2)).1
                  rw [bs_str] at HO
                  have heac : Hp.eachA act k' (y :: L.drop (i + 1)) n = Hp.eachA act (Hp.oneA act k' p).1 (L.drop (i + 1)) (if (Hp.oneA act k' p).2 = 0 then n else 1) := by
                    conv => lhs; unfold Hp.eachA
                    rw [if_neg (by simpa using hcode), hj]
                  rw [heac] at hea
                  generalize Hp.oneA act k' p = one at *
                  obtain ⟨k2, s2⟩ := one
                  have HOK2 := Lib.hid hokn
                  by_cases hs2 : s2 = 0
                  · subst hs2
                    have HE : Hid (Hp.eachA act k2 (L.drop (i + 1)) n = R) := Lib.hid (by rw [← hea]; rfl)
                    clear hea hR' hK hd' hj hyl hdrop hcode hX' hy hb hsy hok hyl0 hpl hpl2 hokn heac
                    go_wp2_with fail
                    refine (HP.out _ HR2.out).mono ?_
                    rintro e w1 ⟨rfl, B1⟩
                    have HR1 := Lib.hid (HR2.out.below B1)
                    go_wp2_with fail
                    refine (HO.out _ HR1.out).mono ?_
                    rintro e w2 ⟨rfl, ⟨v2, hR2⟩, K2⟩
                    have HRR := Lib.hid hR2
                    clear hR2
                    go_wp2_with fail
                    go_roundw
                    case rel => exact ⟨i + 1, n, k2, v2, rfl, by go_num, hlt2, HE.out, HRR.out, HOK2.out, (HK2.out.below B1).trans K2⟩
                    case measure => simp [intOf]; omega
                  · have hs2b : ((s2 : Int) != 0) = true := by simp; omega
                    have HE : Hid (Hp.eachA act k2 (L.drop (i + 1)) 1 = R) := Lib.hid (by rw [← hea]; simp only [if_neg hs2])
                    clear hea hR' hK hd' hj hyl hdrop hcode hX' hy hb hsy hok hyl0 hpl hpl2 hokn heac hs2
                    go_wp2_with fail
                    refine (HP.out _ HR2.out).mono ?_
                    rintro e w1 ⟨rfl, B1⟩
                    have HR1 := Lib.hid (HR2.out.below B1)
                    go_wp2_with fail
                    refine (HO.out _ HR1.out).mono ?_
                    rintro e w2 ⟨rfl, ⟨v2, hR2⟩, K2⟩
                    have HRR := Lib.hid hR2
                    clear hR2
                    go_wp2_with fail
                    go_roundw
                    case rel => exact ⟨i + 1, 1, k2, v2, rfl, by go_num, hlt2, HE.out, HRR.out, HOK2.out, (HK2.out.below B1).trans K2⟩
                    case measure => simp [intOf]; omega
              · have hq : (k'.code == 0) = false := by simpa using hcode
                have HE : Hid ((k', n) = R) := Lib.hid (by rw [← hea]; unfold Hp.eachA; rw [if_pos hcode])
                have HR2 := Lib.hid hR'
                have HK2 := Lib.hid hK
                clear hea hcode hR' hK hok hdrop
                go_wp2_with fail
                go_ret
                rw [HRE.out, ← HE.out]
                exact ⟨rfl, ⟨_, HR2.out⟩, HK2.out⟩
            · obtain rfl : i = L.length := by omega
              have HE : Hid ((k', n) = R) := Lib.hid (by rw [← hea, List.drop_length]; rfl)
              have HR2 := Lib.hid hR'
              have HK2 := Lib.hid hK
              have hki : ¬ (L.length : Int) < (L.length : Int) := by omega
              clear hea hR' hK hok
              go_wp2_with fail
              go_ret
              rw [HRE.out, ← HE.out]
              exact ⟨rfl, ⟨_, HR2.out⟩, HK2.out⟩
        · have q0 : ((L.length : Int) == 0) = false := by rw [beq_eq_false_iff_ne]; omega
          clear hpz
          go_wp2_with fail
          go_loopw [10, 11] (fun v10 v11 wr => SevRel w qb act st ran out L R m v10 v11 wr) (fun _ v11 _ => L.length - (intOf v11).toNat)
          case atStart => exact HST.out
          case round =>
            clear HST
            obtain ⟨i, n, k', v', rfl, rfl, hi', hea, hR', hok, hK⟩ := hrel
            obtain ⟨c0, c1, c2, c3, c4, c5, c6, c7, c8⟩ := hR'.cells
            have hlt' := hR'.lt
            by_cases hlt2 : i < L.length
            · have hki : (i : Int) < (L.length : Int) := by omega
              have hk0 : (0 : Int) ≤ (i : Int) := Int.natCast_nonneg _
              have hdrop : L.drop i = L[i] :: L.drop (i + 1) := List.drop_eq_getElem_cons hlt2
              rw [hdrop] at hea
              by_cases hcode : k'.code = 0
              · have hq : (k'.code == 0) = true := by simpa using hcode
                have hX' := HX.out.kept hK HJ.out
                obtain ⟨b, o, rfl, _, hb, hy⟩ := RWs.cell hX' (by omega)
                have e0 : wr.cell? ⟨b, o + i, none⟩ = some (.string (str L[i])) := hy i hlt2
                have hyl0 := HLE.out L[i] (List.getElem_mem hlt2)
                have hsy : (str L[i]).size ≤ 800000 := by rw [← bs_len, bs_str]; omega
                have hci : (i : Int) < (c : Int) := by have := HCL.out; omega
                have hd' : k'.d.length ≤ 100000 := by have := hok.dir; omega
                generalize hyl : L[i] = y at *
                obtain ⟨q, hj⟩ : ∃ q, Hp.joinP k'.d y = q := ⟨_, rfl⟩
                have HP := Lib.hid fun (W : World) (h : RefAt W qb v' k' st ran out) => rpath_any W (str y) q h hd' hsy (Lib.hid (by rw [bs_str]; exact hj))
                have HR2 := Lib.hid hR'
                have HK2 := Lib.hid hK
                have HOK := Lib.hid hok
                have hws := hK.size
                cases q with
                | none =>
                  dsimp only [Option.getD, Option.isSome] at HP
                  have hnone : Hp.eachA act k' (y :: L.drop (i + 1)) n = Hp.eachA act k' (L.drop (i + 1)) 1 := by
                    conv => lhs; unfold Hp.eachA
                    rw [if_neg (by simpa using hcode), hj]
                  have HE : Hid (Hp.eachA act k' (L.drop (i + 1)) 1 = R) := Lib.hid (by rw [← hea, hnone])
                  clear hnone
                  clear hea hR' hK hd' hj hyl hdrop hcode hX' hy hb hsy hok hyl0
                  go_wp2_with fail
                  refine (HP.out _ HR2.out).mono ?_
                  rintro e w1 ⟨rfl, B1⟩
                  have HR1 := Lib.hid (HR2.out.below B1)
                  go_wp2_with fail
                  go_roundw
                  case rel => exact ⟨i + 1, 1, k', _, rfl, by go_num, hlt2, HE.out, HR1.out, HOK.out, HK2.out.below B1⟩
                  case measure => simp [intOf]; omega
                | some p =>
                  dsimp only [Option.getD, Option.isSome] at HP
                  have hpl := Hp.joinP_len hj
                  have hpl2 : (str p).size ≤ 100000 := by rw [← bs_len, bs_str]; have := hok.dir; omega
                  have HO := Lib.hid fun (W : World) (h : RefAt W qb v' k' st ran out) => HONE.out W v' k' (str p) h hok hpl2
                  have hokn := (Hp.one_ok (a := act) hok (p := p) (by rw [← bs_str p, bs_len]; exact hpl2)).1
                  rw [bs_str] at HO
                  have heac : Hp.eachA act k' (y :: L.drop (i + 1)) n = Hp.eachA act (Hp.oneA act k' p).1 (L.drop (i + 1)) (if (Hp.oneA act k' p).2 = 0 then n else 1) := by
                    conv => lhs; unfold Hp.eachA
                    rw [if_neg (by simpa using hcode), hj]
                  rw [heac] at hea
                  generalize Hp.oneA act k' p = one at *
                  obtain ⟨k2, s2⟩ := one
                  have HOK2 := Lib.hid hokn
                  by_cases hs2 : s2 = 0
                  · subst hs2
                    have HE : Hid (Hp.eachA act k2 (L.drop (i + 1)) n = R) := Lib.hid (by rw [← hea]; rfl)
                    clear hea hR' hK hd' hj hyl hdrop hcode hX' hy hb hsy hok hyl0 hpl hpl2 hokn heac
                    go_wp2_with fail
                    refine (HP.out _ HR2.out).mono ?_
                    rintro e w1 ⟨rfl, B1⟩
                    have HR1 := Lib.hid (HR2.out.below B1)
                    go_wp2_with fail
                    refine (HO.out _ HR1.out).mono ?_
                    rintro e w2 ⟨rfl, ⟨v2, hR2⟩, K2⟩
                    have HRR := Lib.hid hR2
                    clear hR2
                    go_wp2_with fail
                    go_roundw
                    case rel => exact ⟨i + 1, n, k2, v2, rfl, by go_num, hlt2, HE.out, HRR.out, HOK2.out, (HK2.out.below B1).trans K2⟩
                    case measure => simp [intOf]; omega
                  · have hs2b : ((s2 : Int) != 0) = true := by simp; omega
                    have HE : Hid (Hp.eachA act k2 (L.drop (i + 1)) 1 = R) := Lib.hid (by rw [← hea]; simp only [if_neg hs2])
                    clear hea hR' hK hd' hj hyl hdrop hcode hX' hy hb hsy hok hyl0 hpl hpl2 hokn heac hs2
                    go_wp2_with fail
                    refine (HP.out _ HR2.out).mono ?_
                    rintro e w1 ⟨rfl, B1⟩
                    have HR1 := Lib.hid (HR2.out.below B1)
                    go_wp2_with fail
                    refine (HO.out _ HR1.out).mono ?_
                    rintro e w2 ⟨rfl, ⟨v2, hR2⟩, K2⟩
                    have HRR := Lib.hid hR2
                    clear hR2
                    go_wp2_with fail
                    go_roundw
                    case rel => exact ⟨i + 1, 1, k2, v2, rfl, by go_num, hlt2, HE.out, HRR.out, HOK2.out, (HK2.out.below B1).trans K2⟩
                    case measure => simp [intOf]; omega
              · have hq : (k'.code == 0) = false := by simpa using hcode
                have HE : Hid ((k', n) = R) := Lib.hid (by rw [← hea]; unfold Hp.eachA; rw [if_pos hcode])
                have HR2 := Lib.hid hR'
                have HK2 := Lib.hid hK
                clear hea hcode hR' hK hok hdrop
                go_wp2_with fail
                go_ret
                rw [HRE.out, ← HE.out]
                exact ⟨rfl, ⟨_, HR2.out⟩, HK2.out⟩
            · obtain rfl : i = L.length := by omega
              have HE : Hid ((k', n) = R) := Lib.hid (by rw [← hea, List.drop_length]; rfl)
              have HR2 := Lib.hid hR'
              have HK2 := Lib.hid hK
              have hki : ¬ (L.length : Int) < (L.length : Int) := by omega
              clear hea hR' hK hok
              go_wp2_with fail
              go_ret
              rw [HRE.out, ← HE.out]
              exact ⟨rfl, ⟨_, HR2.out⟩, HK2.out⟩
      | false =>
        have q0 : ((L.length : Int) == 0) = false := by simpa using HZ2
        clear HZ2
        go_enter Tryz.func99, Tryz.ntmps99
        go_wp2_with fail
        refine HF2.out.mono ?_
        rintro e w1 ⟨⟨x1, rfl, hx1⟩, B1⟩
        have HR1 := Lib.hid (HR.out.below B1)
        obtain ⟨a, c, rfl, hcl⟩ := Px.Rg.shape hx1
        have HX := Lib.hid hx1
        have HCL := Lib.hid hcl
        have HST : Hid (SevRel w qb act st ran out L R m (.int .i64 0) (.int .i64 0) w1) := Lib.hid ⟨0, 0, k, _, rfl, rfl, Nat.zero_le _, by rw [List.drop_zero]; exact HR0.out, HR1.out, HOk.out, .of_below B1⟩
        clear hx1 hcl B1
        go_wp2_with fail
        refine (HH.out _).mono ?_
        rintro e w2 ⟨rfl, rfl⟩
        go_wp2_with fail
        go_loopw [10, 11] (fun v10 v11 wr => SevRel w qb act st ran out L R m v10 v11 wr) (fun _ v11 _ => L.length - (intOf v11).toNat)
        case atStart => exact HST.out
        case round =>
          clear HST
          obtain ⟨i, n, k', v', rfl, rfl, hi', hea, hR', hok, hK⟩ := hrel
          obtain ⟨c0, c1, c2, c3, c4, c5, c6, c7, c8⟩ := hR'.cells
          have hlt' := hR'.lt
          by_cases hlt2 : i < L.length
          · have hki : (i : Int) < (L.length : Int) := by omega
            have hk0 : (0 : Int) ≤ (i : Int) := Int.natCast_nonneg _
            have hdrop : L.drop i = L[i] :: L.drop (i + 1) := List.drop_eq_getElem_cons hlt2
            rw [hdrop] at hea
            by_cases hcode : k'.code = 0
            · have hq : (k'.code == 0) = true := by simpa using hcode
              have hX' := HX.out.kept hK HJ.out
              obtain ⟨b, o, rfl, _, hb, hy⟩ := RWs.cell hX' (by omega)
              have e0 : wr.cell? ⟨b, o + i, none⟩ = some (.string (str L[i])) := hy i hlt2
              have hyl0 := HLE.out L[i] (List.getElem_mem hlt2)
              have hsy : (str L[i]).size ≤ 800000 := by rw [← bs_len, bs_str]; omega
              have hci : (i : Int) < (c : Int) := by have := HCL.out; omega
              have hd' : k'.d.length ≤ 100000 := by have := hok.dir; omega
              generalize hyl : L[i] = y at *
              obtain ⟨q, hj⟩ : ∃ q, Hp.joinP k'.d y = q := ⟨_, rfl⟩
              have HP := Lib.hid fun (W : World) (h : RefAt W qb v' k' st ran out) => rpath_any W (str y) q h hd' hsy (Lib.hid (by rw [bs_str]; exact hj))
              have HR2 := Lib.hid hR'
              have HK2 := Lib.hid hK
              have HOK := Lib.hid hok
              have hws := hK.size
              cases q with
              | none =>
                dsimp only [Option.getD, Option.isSome] at HP
                have hnone : Hp.eachA act k' (y :: L.drop (i + 1)) n = Hp.eachA act k' (L.drop (i + 1)) 1 := by
                  conv => lhs; unfold Hp.eachA
                  rw [if_neg (by simpa using hcode), hj]
                have HE : Hid (Hp.eachA act k' (L.drop (i + 1)) 1 = R) := Lib.hid (by rw [← hea, hnone])
                clear hnone
                clear hea hR' hK hd' hj hyl hdrop hcode hX' hy hb hsy hok hyl0
                go_wp2_with fail
                refine (HP.out _ HR2.out).mono ?_
                rintro e w1 ⟨rfl, B1⟩
                have HR1 := Lib.hid (HR2.out.below B1)
                go_wp2_with fail
                go_roundw
                case rel => exact ⟨i + 1, 1, k', _, rfl, by go_num, hlt2, HE.out, HR1.out, HOK.out, HK2.out.below B1⟩
                case measure => simp [intOf]; omega
              | some p =>
                dsimp only [Option.getD, Option.isSome] at HP
                have hpl := Hp.joinP_len hj
                have hpl2 : (str p).size ≤ 100000 := by rw [← bs_len, bs_str]; have := hok.dir; omega
                have HO := Lib.hid fun (W : World) (h : RefAt W qb v' k' st ran out) => HONE.out W v' k' (str p) h hok hpl2
                have hokn := (Hp.one_ok (a := act) hok (p := p) (by rw [← bs_str p, bs_len]; exact hpl2)).1
                rw [bs_str] at HO
                have heac : Hp.eachA act k' (y :: L.drop (i + 1)) n = Hp.eachA act (Hp.oneA act k' p).1 (L.drop (i + 1)) (if (Hp.oneA act k' p).2 = 0 then n else 1) := by
                  conv => lhs; unfold Hp.eachA
                  rw [if_neg (by simpa using hcode), hj]
                rw [heac] at hea
                generalize Hp.oneA act k' p = one at *
                obtain ⟨k2, s2⟩ := one
                have HOK2 := Lib.hid hokn
                by_cases hs2 : s2 = 0
                · subst hs2
                  have HE : Hid (Hp.eachA act k2 (L.drop (i + 1)) n = R) := Lib.hid (by rw [← hea]; rfl)
                  clear hea hR' hK hd' hj hyl hdrop hcode hX' hy hb hsy hok hyl0 hpl hpl2 hokn heac
                  go_wp2_with fail
                  refine (HP.out _ HR2.out).mono ?_
                  rintro e w1 ⟨rfl, B1⟩
                  have HR1 := Lib.hid (HR2.out.below B1)
                  go_wp2_with fail
                  refine (HO.out _ HR1.out).mono ?_
                  rintro e w2 ⟨rfl, ⟨v2, hR2⟩, K2⟩
                  have HRR := Lib.hid hR2
                  clear hR2
                  go_wp2_with fail
                  go_roundw
                  case rel => exact ⟨i + 1, n, k2, v2, rfl, by go_num, hlt2, HE.out, HRR.out, HOK2.out, (HK2.out.below B1).trans K2⟩
                  case measure => simp [intOf]; omega
                · have hs2b : ((s2 : Int) != 0) = true := by simp; omega
                  have HE : Hid (Hp.eachA act k2 (L.drop (i + 1)) 1 = R) := Lib.hid (by rw [← hea]; simp only [if_neg hs2])
                  clear hea hR' hK hd' hj hyl hdrop hcode hX' hy hb hsy hok hyl0 hpl hpl2 hokn heac hs2
                  go_wp2_with fail
                  refine (HP.out _ HR2.out).mono ?_
                  rintro e w1 ⟨rfl, B1⟩
                  have HR1 := Lib.hid (HR2.out.below B1)
                  go_wp2_with fail
                  refine (HO.out _ HR1.out).mono ?_
                  rintro e w2 ⟨rfl, ⟨v2, hR2⟩, K2⟩
                  have HRR := Lib.hid hR2
                  clear hR2
                  go_wp2_with fail
                  go_roundw
                  case rel => exact ⟨i + 1, 1, k2, v2, rfl, by go_num, hlt2, HE.out, HRR.out, HOK2.out, (HK2.out.below B1).trans K2⟩
                  case measure => simp [intOf]; omega
            · have hq : (k'.code == 0) = false := by simpa using hcode
              have HE : Hid ((k', n) = R) := Lib.hid (by rw [← hea]; unfold Hp.eachA; rw [if_pos hcode])
              have HR2 := Lib.hid hR'
              have HK2 := Lib.hid hK
              clear hea hcode hR' hK hok hdrop
              go_wp2_with fail
              go_ret
              rw [HRE.out, ← HE.out]
              exact ⟨rfl, ⟨_, HR2.out⟩, HK2.out⟩
          · obtain rfl : i = L.length := by omega
            have HE : Hid ((k', n) = R) := Lib.hid (by rw [← hea, List.drop_length]; rfl)
            have HR2 := Lib.hid hR'
            have HK2 := Lib.hid hK
            have hki : ¬ (L.length : Int) < (L.length : Int) := by omega
            clear hea hR' hK hok
            go_wp2_with fail
            go_ret
            rw [HRE.out, ← HE.out]
            exact ⟨rfl, ⟨_, HR2.out⟩, HK2.out⟩
end
end Go.Proofs.YteommneijlelkaaGreatDoor.Hx
namespace Go.Proofs.YteommneijlelkaaGreatDoor.Hx
open Go.RowKit Go.Proofs.YteommneijlelkaaGreatDoor Go.Maps Go.Proofs.YteommneijlelkaaGreatDoor.Sw
set_option maxRecDepth 100000
abbrev RS : TypeId := 34
section
variable {qb N : Nat} {v x : Value} {k : Hp.K} {st ran : Int} {out : Bs} {l : List Pp.G}

/-- The redirections of a command, in blocks below N. -/
def RGs (w : World) (qb N : Nat) (x : Value) (l : List Pp.G) : Prop := Px.Rg w (fun b => b < N ∧ b ≠ qb) x l.length (Px.tgsC l)
theorem RGs.kept {w w' : World} (h : RGs w qb N x l) (hK : Kept [qb] w w') (hN : N ≤ w.heap.size) : RGs w' qb N x l := h.keep fun b hb => hK.block b (Nat.lt_of_lt_of_le hb.1 hN) (by simp [hb.2])
/-- A store behind Write, in a box, with took still to come. -/
structure Wrote (w : World) (v : Value) (q : St × Int) (b : Nat) (u : Value) (wx : World) : Prop where
  box : wx.heap[b]? = some (.cells #[u, .int .i64 q.1.c] RS (0, 0))
  files : RFiles wx u q.1.L
  new : u = v ∨ ∀ g, u.ownBlock = some g → w.heap.size ≤ g
  below : Below w.heap.size w wx
theorem Wrote.one {w W w3 : World} {q : St × Int} {u : Value} (hB : Below w.heap.size w W) (h3 : Below W.heap.size W w3) (hf : RFiles w3 u q.1.L) (hn : u = v ∨ ∀ g, u.ownBlock = some g → W.heap.size ≤ g) :
    Wrote w v q w3.heap.size u (w3.alloc (.cells #[u, .int .i64 q.1.c] RS)) :=
  ⟨World.alloc_heap_new _ _, hf.below ((Below.refl _ _).alloc (Nat.le_refl _) _), hn.imp id fun h g hg => Nat.le_trans hB.size (h g hg), (hB.trans (h3.mono hB.size)).alloc (Nat.le_trans hB.size h3.size) _⟩
theorem Wrote.two {w w3 : World} {q : St × Int} {u : Value} (hv : ∀ g, v.ownBlock = some g → g < w.heap.size)
    (h3 : Below (w.alloc (.cells #[.slice none 0 0, .int .i64 0] RS)).heap.size (w.alloc (.cells #[.slice none 0 0, .int .i64 0] RS)).drew w3) (hf : RFiles w3 u q.1.L) (hn : u = v ∨ ∀ g, u.ownBlock = some g → (w.alloc (.cells #[.slice none 0 0, .int .i64 0] RS)).heap.size ≤ g) :
    Wrote w v q w.heap.size u ((w3.setCell ⟨w.heap.size, 0, none⟩ u).setCell ⟨w.heap.size, 1, none⟩ (.int .i64 q.1.c)) := by
  have hz : w3.heap[w.heap.size]? = some (.cells #[.slice none 0 0, .int .i64 0] RS (0, 0)) := (h3.block w.heap.size (by simp)).trans (World.alloc_heap_new w (.cells #[.slice none 0 0, .int .i64 0] RS))
  have hu : ∀ g, u.ownBlock = some g → g ≠ w.heap.size := fun g hg e => by
    rcases hn with rfl | hn
    · have := hv g hg; omega
    · have := hn g hg; simp at this; omega
  have hB : Below w.heap.size w w3 := ((Below.refl w.heap.size w).alloc (Nat.le_refl _) (.cells #[.slice none 0 0, .int .i64 0] RS)).trans (((Below.refl _ _).drew.trans h3).mono (by simp))
  exact ⟨heap_set3 (heap_set3 hz u) _, (hf.setCell _ _ _ hu).setCell _ _ _ hu, hn.imp id fun h g hg => by have := h g hg; simp at this; omega, (hB.setCell (Nat.le_refl _) _).setCell (Nat.le_refl _) _⟩
theorem zero_box {w w3 : World} (h3 : Below (w.alloc (.cells #[.slice none 0 0, .int .i64 0] RS)).heap.size (w.alloc (.cells #[.slice none 0 0, .int .i64 0] RS)).drew w3) :
    w3.cell? ⟨w.heap.size, 0, none⟩ = some (.slice none 0 0) ∧ w3.cell? ⟨w.heap.size, 1, none⟩ = some (.int .i64 0) ∧ w3.frozen? ⟨w.heap.size, 0, none⟩ = false ∧ w3.frozen? ⟨w.heap.size, 1, none⟩ = false := by
  have hz : w3.heap[w.heap.size]? = some (.cells #[.slice none 0 0, .int .i64 0] RS (0, 0)) := (h3.block w.heap.size (by simp)).trans (World.alloc_heap_new w (.cells #[.slice none 0 0, .int .i64 0] RS))
  exact ⟨cell_at hz rfl, cell_at hz rfl, frozen_at hz 0, frozen_at hz 1⟩

/-- What open returns. -/
def OpenPost (w : World) (qb : Nat) (st ran : Int) (out : Bs) (r : Hp.K × Option Bs) (e : Ending) (w' : World) : Prop :=
  e = .returned (.tuple #[.string (str (r.2.getD [])), .bool r.2.isSome]) ∧ (∃ v, RefAt w' qb v r.1 st ran out) ∧ Kept [qb] w w'
/-- Where open stands. -/
def ROpenRel (w : World) (qb : Nat) (st ran : Int) (out : Bs) (l : List Pp.G) (R : Hp.K × Option Bs) (m : Nat) (v6 v7 : Value) (wr : World) : Prop :=
  ∃ (i : Nat) (k' : Hp.K) (v' : Value) (dst : Bs), v7 = .int .i64 i ∧ v6 = .string (str dst) ∧ i ≤ l.length ∧ Hp.openA k' (l.drop i) dst = R ∧ RefAt wr qb v' k' st ran out ∧ Hp.Ok k' m ∧ Kept [qb] w wr

set_option maxHeartbeats 4000000 in
theorem ropen_any (w : World) (m : Nat) (hR : RefAt w qb v k st ran out) (hO : Hp.Ok k m) (hN : N ≤ w.heap.size) (hx : RGs w qb N x l) (hl : ∀ g ∈ l, m + g.p.length + 2 ≤ 100000) (h8 : l.length ≤ 100000) :
    Calls Tryz.prog 57 #[.pointer (some ⟨qb, 0, none⟩), x] w (OpenPost w qb st ran out (Hp.openA k l [])) := by
  have hlt := hR.lt
  obtain ⟨a, c, rfl, hcl⟩ := Px.Rg.shape hx
  obtain ⟨va, vn, vc, rfl⟩ := hR.files.shape
  obtain ⟨R, hRes⟩ : ∃ R, Hp.openA k l [] = R := ⟨_, rfl⟩
  rw [hRes]
  have HX := Lib.hid hx
  have HJ := Lib.hid hN
  have HCL := Lib.hid hcl
  have HLE := Lib.hid hl
  have HST : Hid (ROpenRel w qb st ran out l R m (.string ⟨#[]⟩) (.int .i64 0) w) := Lib.hid ⟨0, k, _, [], rfl, rfl, Nat.zero_le _, by rw [List.drop_zero]; exact hRes, hR, hO, .refl _ _⟩
  clear hx hR hcl hRes hO hl
  go_enter Tryz.func57, Tryz.ntmps57
  go_wp2_with fail
  go_loopw [6, 7] (fun v6 v7 wr => ROpenRel w qb st ran out l R m v6 v7 wr) (fun _ v7 _ => l.length - (intOf v7).toNat)
  case atStart => exact HST.out
  case round =>
    clear HST
    obtain ⟨i, k', v', dst, rfl, rfl, hi', hop, hR', hok, hK⟩ := hrel
    obtain ⟨va', vn', vc', rfl⟩ := hR'.files.shape
    by_cases hlt2 : i < l.length
    · have hki : (i : Int) < (l.length : Int) := by omega
      have hk0 : (0 : Int) ≤ (i : Int) := Int.natCast_nonneg _
      have hci : (i : Int) < (c : Int) := by have := HCL.out; omega
      rw [List.drop_eq_getElem_cons hlt2] at hop
      have hX' := HX.out.kept hK HJ.out
      obtain ⟨b, o, rfl, _, hb, hy⟩ := Px.tos_cells hX' (by omega)
      obtain ⟨e0, e1⟩ := hy i hlt2
      have hyl0 := HLE.out l[i] (List.getElem_mem hlt2)
      generalize hyl : l[i] = g at *
      obtain ⟨gk, gp⟩ := g
      have e0 : wr.cell? ⟨b, o + i * 2, none⟩ = some (.int .i64 (gk : Int)) := e0
      have e1 : wr.cell? ⟨b, o + i * 2 + 1, none⟩ = some (.string (str gp)) := e1
      have hyl0 : m + gp.length + 2 ≤ 100000 := hyl0
      have hsy : (str gp).size ≤ 800000 := by rw [← bs_len, bs_str]; omega
      have hd' : k'.d.length ≤ 100000 := by have := hok.dir; omega
      have hbw : b < wr.heap.size := Nat.lt_of_lt_of_le hb.1 (Nat.le_trans HJ.out hK.size)
      have HEE := Lib.hid (show ∀ W, Below wr.heap.size wr W → W.cell? ⟨b, o + i * 2, none⟩ = some (.int .i64 (gk : Int)) from fun W h => (h.cell (p := ⟨b, o + i * 2, none⟩) hbw).trans e0)
      obtain ⟨q, hj⟩ : ∃ q, Hp.joinP k'.d gp = q := ⟨_, rfl⟩
      have HP := Lib.hid fun (W : World) (h : RefAt W qb (.slice va' vn' vc') k' st ran out) => rpath_any W (str gp) q h hd' hsy (Lib.hid (by rw [bs_str]; exact hj))
      have HR2 := Lib.hid hR'
      have HK2 := Lib.hid hK
      have HOK := Lib.hid hok
      have hws := hK.size
      cases q with
      | none =>
        dsimp only [Option.getD, Option.isSome] at HP
        have hnone : Hp.openA k' (⟨gk, gp⟩ :: l.drop (i + 1)) dst = (k', none) := by
          conv => lhs; unfold Hp.openA
          rw [hj]
        have HE : Hid ((k', none) = R) := Lib.hid (by rw [← hop, hnone])
        clear hop hnone hR' hK hd' hj hyl hX' hy hb hsy hok hyl0
        go_wp2_with fail
        refine (HP.out _ HR2.out).mono ?_
        rintro e w1 ⟨rfl, B1⟩
        have HR1 := Lib.hid (HR2.out.below B1)
        go_wp2_with fail
        go_ret2
        rw [← HE.out]
        exact ⟨rfl, ⟨_, HR1.out⟩, HK2.out.below B1⟩
      | some p =>
        dsimp only [Option.getD, Option.isSome] at HP
        have hpl := Hp.joinP_len hj
        have hpl2 : (str p).size ≤ 100000 := by rw [← bs_len, bs_str]; have := hok.dir; omega
        have hpl3 : p.length ≤ 100000 := by have := hok.dir; omega
        by_cases h6 : gk = 6
        · subst h6
          have hlL : k'.s.L.length ≤ 100000 := by have := hok.fine.len; omega
          obtain ⟨⟨tx, rc⟩, hrq⟩ : ∃ q, Hp.readP k' p = q := ⟨_, rfl⟩
          have htx := Hp.read_len hok p
          rw [hrq] at htx
          have HRd := Lib.hid fun (W : World) (h : RFiles W (.slice va' vn' vc') k'.s.L) => show Calls Tryz.prog 94 #[.agg #[.slice va' vn' vc', .int .i64 k'.s.c], .string (str p)] W fun e w' => e = .returned (.tuple #[.string (str tx), .int .i64 rc]) ∧ Below W.heap.size W w' from by
            have h1 := RRead_any W (.slice va' vn' vc') k'.s.c (str p) _ hlL h.files hok.fine.sorted (Lib.hid rfl)
            rw [bs_str] at h1
            have h2 : readA (getR k'.s.L p) = (tx, rc) := hrq
            rw [h2] at h1
            exact h1
          have hsix : Hp.openA k' (⟨6, gp⟩ :: l.drop (i + 1)) dst = if rc = 0 then Hp.openA ⟨k'.s, k'.d, k'.code, tx, k'.outp⟩ (l.drop (i + 1)) dst else (k', none) := by
            conv => lhs; unfold Hp.openA
            rw [hj]
            simp only [hrq]
            rfl
          rw [hsix] at hop
          by_cases hrc : rc = 0
          · subst hrc
            rw [if_pos rfl] at hop
            have HE := Lib.hid hop
            have HOK2 : Hid (Hp.Ok ⟨k'.s, k'.d, k'.code, tx, k'.outp⟩ m) := Lib.hid ⟨hok.fine, hok.closed, hok.dir, htx, hok.outp⟩
            clear hop hsix hR' hK hd' hj hyl hX' hy hb hsy hok hyl0 hpl hpl2 hpl3 hrq htx hlL
            go_wp2_with fail
            refine (HP.out _ HR2.out).mono ?_
            rintro e w1 ⟨rfl, B1⟩
            have hR1 := HR2.out.below B1
            obtain ⟨c0, c1, c2, c3, c4, c5, c6, c7, c8⟩ := hR1.cells
            have hlt1 := hR1.lt
            have HR1 := Lib.hid hR1
            have HF1 := Lib.hid hR1.files
            have e01 := HEE.out _ B1
            clear hR1
            go_wp2_with fail
            refine (HRd.out _ HF1.out).mono ?_
            rintro e w2 ⟨rfl, B2⟩
            have hR2 := HR1.out.below B2
            obtain ⟨g0, g1, g2, g3, g4, g5, g6, g7, g8⟩ := hR2.cells
            have f7 := hR2.frozen 7
            have hlt2' := hR2.lt
            have HRR := Lib.hid hR2
            clear hR2
            go_wp2_with fail
            go_roundw
            case rel => exact ⟨i + 1, _, _, dst, by go_num, rfl, hlt2, HE.out, HRR.out.setIn tx, HOK2.out, kept_set ((HK2.out.below B1).below B2) (by simp) _⟩
            case measure => simp [intOf]; omega
          · rw [if_neg hrc] at hop
            have HE := Lib.hid hop
            have q0 : (rc != 0) = true := by simp [hrc]
            clear hop hsix hR' hK hd' hj hyl hX' hy hb hsy hok hyl0 hpl hpl2 hpl3 hrq htx hlL hrc
            go_wp2_with fail
            refine (HP.out _ HR2.out).mono ?_
            rintro e w1 ⟨rfl, B1⟩
            have hR1 := HR2.out.below B1
            obtain ⟨c0, c1, c2, c3, c4, c5, c6, c7, c8⟩ := hR1.cells
            have hlt1 := hR1.lt
            have HR1 := Lib.hid hR1
            have HF1 := Lib.hid hR1.files
            have e01 := HEE.out _ B1
            clear hR1
            go_wp2_with fail
            refine (HRd.out _ HF1.out).mono ?_
            rintro e w2 ⟨rfl, B2⟩
            go_wp2_with fail
            go_ret2
            rw [← HE.out]
            exact ⟨rfl, ⟨_, HR1.out.below B2⟩, (HK2.out.below B1).below B2⟩
        · have h6b : ((gk : Int) == 6) = false := by rw [beq_eq_false_iff_ne]; omega
          obtain ⟨mo, hmo⟩ : ∃ mo, decide (gk = 5) = mo := ⟨_, rfl⟩
          have h5b : ((gk : Int) == 5) = mo := by
            rw [← hmo, Bool.eq_iff_iff, beq_iff_eq, decide_eq_true_eq]
          obtain ⟨⟨s2, cd⟩, hq⟩ : ∃ q, writeA k'.s p [] mo = q := ⟨_, rfl⟩
          have hoth : Hp.openA k' (⟨gk, gp⟩ :: l.drop (i + 1)) dst = if (k'.took (s2, cd)).2 = 0 then Hp.openA (k'.took (s2, cd)).1 (l.drop (i + 1)) p else ((k'.took (s2, cd)).1, none) := by
            conv => lhs; unfold Hp.openA
            rw [hj]
            simp only
            rw [if_neg h6, hmo, hq]
          rw [hoth] at hop
          have HRm := Lib.hid fun (W : World) (h : RFiles W (.slice va' vn' vc') k'.s.L) => RWrite_any W _ k'.s (str p) ⟨#[]⟩ mo hok.fine (by omega) (by decide) h
          rw [bs_str, show bs ⟨#[]⟩ = [] from rfl, hq] at HRm
          have HOK2 : Hid (Hp.Ok (k'.took (s2, cd)).1 m) := Lib.hid (by rw [← hq]; exact hok.wrote hpl3 mo)
          have HOP := Lib.hid hop
          clear hop hoth hR' hK hd' hj hyl hX' hy hsy hok hyl0 hpl hpl2 hpl3 hq hmo h6
          go_wp2_with fail
          refine (HP.out _ HR2.out).mono ?_
          rintro e w1 ⟨rfl, B1⟩
          have hR1 := HR2.out.below B1
          obtain ⟨c0, c1, c2, c3, c4, c5, c6, c7, c8⟩ := hR1.cells
          have hlt1 := hR1.lt
          have HR1 := Lib.hid hR1
          have e01 := HEE.out _ B1
          have hbw1 : b < w1.heap.size := Nat.lt_of_lt_of_le hbw B1.size
          have HV1 := Lib.hid (hR1.files.own_lt)
          have HKB := Lib.hid (HK2.out.below B1)
          clear hR1 e0 e1 HR2 HK2 HP HEE
          go_upto_region 13 with (fail)
          go_cut [12, 13] (fun v12 v13 wx => ∃ b12 u, v12 = .pointer (some ⟨b12, 0, none⟩) ∧ v13 = .int .i64 cd ∧ Wrote w1 (.slice va' vn' vc') (s2, cd) b12 u wx)
          case first =>
            have HSX := Lib.hid (show ∀ W, Below w1.heap.size w1 W → W.cell? ⟨qb, 0, none⟩ = some (.slice va' vn' vc') ∧ W.cell? ⟨qb, 1, none⟩ = some (.int .i64 k'.s.c) ∧ W.cell? ⟨b, o + i * 2, none⟩ = some (.int .i64 (gk : Int)) from fun W h => ⟨(h.cell (p := ⟨qb, 0, none⟩) hlt1).trans c0, (h.cell (p := ⟨qb, 1, none⟩) hlt1).trans c1, (h.cell (p := ⟨b, o + i * 2, none⟩) hbw1).trans e01⟩)
            have D0 : Below w1.heap.size w1 w1.drew := (Below.refl _ _).drew
            have DA0 := fun o => ((Below.refl w1.heap.size w1).alloc (Nat.le_refl _) o).drew
            go_region_held3 (fun W => W.cell? ⟨qb, 0, none⟩ = some (.slice va' vn' vc') ∧ W.cell? ⟨qb, 1, none⟩ = some (.int .i64 k'.s.c) ∧ W.cell? ⟨b, o + i * 2, none⟩ = some (.int .i64 (gk : Int)))
              ((refine HSX.out _ ?_; first | exact D0 | exact DA0 _ | exact D3 | exact D3.alloc D3.size _ | exact (D3.setCell (Nat.le_refl _) _).setCell (Nat.le_refl _) _))
              (first
                | (go_at_call 59; refine (HRm.out _ (HR1.out.below D0).files).mono ?_; rintro e w3 ⟨u, rfl, hu, ho, B3⟩; have D3 := D0.trans (B3.mono D0.size); obtain ⟨ua, un, uc, rfl⟩ := hu.shape; have HWR : Hid (Wrote w1 (.slice va' vn' vc') (s2, cd) w3.heap.size (.slice ua un uc) (w3.alloc (.cells #[.slice ua un uc, .int .i64 s2.c] RS))) := Lib.hid (Wrote.one (q := (s2, cd)) D0 B3 hu ho); clear hu ho)
                | (go_at_call 59; refine (HRm.out _ (HR1.out.below (DA0 _)).files).mono ?_; rintro e w3 ⟨u, rfl, hu, ho, B3⟩; have D3 := (DA0 _).trans (B3.mono (DA0 _).size); obtain ⟨ua, un, uc, rfl⟩ := hu.shape; obtain ⟨z0, z1, z2, z3⟩ := zero_box B3; have HWR : Hid (Wrote w1 (.slice va' vn' vc') (s2, cd) w1.heap.size (.slice ua un uc) ((w3.setCell ⟨w1.heap.size, 0, none⟩ (.slice ua un uc)).setCell ⟨w1.heap.size, 1, none⟩ (.int .i64 s2.c))) := Lib.hid (Wrote.two (q := (s2, cd)) HV1.out B3 hu ho); clear hu ho))
            all_goals go_wp2_with fail
            all_goals go_meet
            all_goals exact ⟨_, _, rfl, rfl, HWR.out⟩
          case rest =>
            obtain ⟨b12, u, rfl, rfl, hW⟩ := hcut
            obtain ⟨ua, un, uc, rfl⟩ := hW.files.shape
            have t0 := cell_at (i := 0) hW.box rfl
            have t1 := cell_at (i := 1) hW.box rfl
            have HT := Lib.hid (rtook_post w1 wc (.slice ua un uc) (s2, cd) HR1.out hW.below hW.files hW.new)
            clear hW
            generalize k'.took (s2, cd) = tk at *
            obtain ⟨k2, s0⟩ := tk
            by_cases hs0 : s0 = 0
            · subst hs0
              have HE : Hid (Hp.openA k2 (l.drop (i + 1)) p = R) := Lib.hid (by rw [← HOP.out]; rfl)
              clear HOP
              go_wp2_with fail
              refine HT.out.mono ?_
              rintro e w4 ⟨rfl, hRt, hKt⟩
              have HRt := Lib.hid hRt
              clear hRt
              go_wp2_with fail
              go_roundw
              case rel => exact ⟨i + 1, k2, _, p, by go_num, rfl, hlt2, HE.out, HRt.out, HOK2.out, HKB.out.trans hKt⟩
              case measure => simp [intOf]; omega
            · have hs0b : ((s0 : Int) != 0) = true := by simp; omega
              have HE : Hid ((k2, none) = R) := Lib.hid (by rw [← HOP.out]; exact (if_neg hs0).symm)
              clear HOP hs0
              go_wp2_with fail
              refine HT.out.mono ?_
              rintro e w4 ⟨rfl, hRt, hKt⟩
              have HRt := Lib.hid hRt
              clear hRt
              go_wp2_with fail
              go_ret2
              rw [← HE.out]
              exact ⟨rfl, ⟨_, HRt.out⟩, HKB.out.trans hKt⟩
    · obtain rfl : i = l.length := by omega
      have HE : Hid ((k', some dst) = R) := Lib.hid (by rw [← hop, List.drop_length]; rfl)
      have HR2 := Lib.hid hR'
      have HK2 := Lib.hid hK
      have hki : ¬ (l.length : Int) < (l.length : Int) := by omega
      clear hop hR' hK hok
      go_wp2_with fail
      go_ret2
      rw [← HE.out]
      exact ⟨rfl, ⟨_, HR2.out⟩, HK2.out⟩
end
end Go.Proofs.YteommneijlelkaaGreatDoor.Hx
namespace Go.Proofs.YteommneijlelkaaGreatDoor.Hx
open Go.RowKit Go.Proofs.YteommneijlelkaaGreatDoor Go.Maps Go.Proofs.YteommneijlelkaaGreatDoor.Sw
set_option maxRecDepth 100000
section
variable {qb N : Nat} {v x : Value} {k : Hp.K} {st ran : Int} {out : Bs} {l : List Bs}

set_option maxHeartbeats 2000000 in
theorem rflags_nil (w : World) (letters : ByteArray) (b o c : Nat) :
    Calls Tryz.prog 144 #[.slice (some ⟨b, o, none⟩) 0 c, .string letters] w fun e w' => (∃ a' c', e = .returned (.tuple #[.string ⟨#[]⟩, .slice a' 0 c', .bool true])) ∧ Below w.heap.size w w' := by
  have hc0 : (0 : Int) ≤ (c : Int) := Int.natCast_nonneg _
  go_enter Tryz.func144, Tryz.ntmps144
  go_wp2_with fail
  go_loop [7, 8] (fun v7 v8 => v7 = .string ⟨#[]⟩ ∧ v8 = .int .i64 0) (fun _ _ => 0)
  case atStart => exact ⟨rfl, rfl⟩
  case round =>
    obtain ⟨rfl, rfl⟩ := hrel
    go_wp2_with fail
    go_loop [9] (fun v9 => v9 = .int .i64 0) (fun _ => 0)
    case atStart => exact rfl
    case round =>
      obtain rfl := hrel
      go_wp2_with fail
      go_quiet (fail)
      all_goals go_wp2_with fail
      all_goals go_ret3
      all_goals exact ⟨⟨_, _, rfl⟩, below_drewN (Below.refl _ _) _⟩
theorem rmkdir_nil (w : World) (b o c : Nat) (hR : RefAt w qb v k st ran out) :
    Calls Tryz.prog 99 #[.pointer (some ⟨qb, 0, none⟩), .string ⟨#[109, 107, 100, 105, 114]⟩, .slice (some ⟨b, o, none⟩) 0 c] w (RefPost w qb st ran out (Hp.mkdirC k [])) := by
  have HF := Lib.hid (rflags_nil w ⟨#[112]⟩ b o c)
  have HRE : Hid (Hp.mkdirC k [] = (k, 1)) := Lib.hid rfl
  have HR := Lib.hid hR
  have hlt := hR.lt
  clear hR
  go_enter Tryz.func99, Tryz.ntmps99
  go_wp2_with fail
  refine HF.out.mono ?_
  rintro e w1 ⟨⟨a', c', rfl⟩, B1⟩
  have HR1 := Lib.hid (HR.out.below B1)
  go_wp2_with fail
  go_ret
  rw [HRE.out]
  exact ⟨rfl, ⟨_, HR1.out⟩, .of_below B1⟩
theorem rrm_nil (w : World) (b o c : Nat) (hR : RefAt w qb v k st ran out) :
    Calls Tryz.prog 99 #[.pointer (some ⟨qb, 0, none⟩), .string ⟨#[114, 109]⟩, .slice (some ⟨b, o, none⟩) 0 c] w (RefPost w qb st ran out (Hp.rmA k [])) := by
  have HF := Lib.hid (rflags_nil w ⟨#[114, 102]⟩ b o c)
  have HRE : Hid (Hp.rmA k [] = (k, 1)) := Lib.hid rfl
  have HH := Lib.hid fun W => Ww.Has_any W ⟨#[]⟩ 102 (by decide)
  rw [show Ww.hasB ⟨#[]⟩ 102 = false from rfl] at HH
  have HR := Lib.hid hR
  have hlt := hR.lt
  clear hR
  go_enter Tryz.func99, Tryz.ntmps99
  go_wp2_with fail
  refine HF.out.mono ?_
  rintro e w1 ⟨⟨a', c', rfl⟩, B1⟩
  have HR1 := Lib.hid (HR.out.below B1)
  go_wp2_with fail
  refine (HH.out _).mono ?_
  rintro e w2 ⟨rfl, rfl⟩
  go_wp2_with fail
  go_ret
  rw [HRE.out]
  exact ⟨rfl, ⟨_, HR1.out⟩, .of_below B1⟩
theorem rtest_any (w : World) (hR : RefAt w qb v k st ran out) (hF : Fine k.s) (hd : k.d.length ≤ 100000) (hx : RWs w qb N x l) (hl : ∀ y ∈ l, y.length ≤ 100000) (h8 : l.length ≤ 100000) :
    Calls Tryz.prog 100 #[.pointer (some ⟨qb, 0, none⟩), x] w (RefPost w qb st ran out (k, Hp.testA k l)) := by
  have put : Calls Tryz.prog 100 #[.pointer (some ⟨qb, 0, none⟩), x] w (fun e w' => e = .returned (.int .i64 (Hp.testA k l : Nat)) ∧ Below w.heap.size w w') := by
    match l, hx, hl, h8 with
    | [y], hx, _, _ => exact rtest_one w y hx
    | [y0, y1], hx, hl, _ => exact rtest_two w hR hF hd y0 y1 hx (hl y1 (by simp))
    | [y0, y1, y2], hx, _, _ => exact rtest_three w y0 y1 y2 hx
    | [], hx, _, _ => exact rtest_else w hx (by simp) (by simp) (by simp)
    | _ :: _ :: _ :: _ :: _, hx, _, _ => exact rtest_else w hx (by simp) (by simp) (by simp)
  exact put.mono fun e w' ⟨h1, h2⟩ => ⟨h1, ⟨_, hR.below h2⟩, .of_below h2⟩
end
end Go.Proofs.YteommneijlelkaaGreatDoor.Hx
