/-
  words.Trim: a text without the blanks at its ends.
  lines.uncomment.
  lines.Of's closure: one line more, if its text isn't empty.
  lines.each: every line, in order, handed to what is called with it.
-/
import Derived.Lib.SlTrimSet
import Derived.Test.YtgednccpjegbmaaGreatDoorQIBuild
import Derived.Test.YtgednccpjegbmaaGreatDoorQWBlank
import Derived.Maps.AppendAt
namespace Go.Proofs.YtgednccpjegbmaaGreatDoor.Iw
open Go.RowKit Go.Proofs.YtgednccpjegbmaaGreatDoor Go.Proofs.YtgednccpjegbmaaGreatDoor.Ww
set_option maxRecDepth 100000

def trimT (s : ByteArray) : ByteArray := ⟨(Lib.trimS (by8 s) [32, 9, 10]).toArray⟩
theorem infoA2 : (Tryz.prog.info? (Tryz.laysTrim_ren.t 116)).map (fun i => (i.zero, i.size)) = some (some (.agg (Array.replicate 256 (.bool false))), 256) := by kernel_rfl
theorem Trim_any (w : World) (s : ByteArray) (hs : s.size ≤ 1000000) :
    Calls Tryz.prog 61 #[.string s] w fun e w' => e = .returned (.string (trimT s)) ∧ Below w.heap.size w w' := by
  go_enter Tryz.func61, Tryz.ntmps61
  go_wp2_with fail
  refine (Any.strings_Trim_laid Tryz.laysTrim infoA2 s ⟨#[32, 9, 10]⟩ w (by omega) (by decide) (fun j b h => by
    match j, h with
    | 0, h => obtain rfl := Option.some.inj h; decide
    | 1, h => obtain rfl := Option.some.inj h; decide
    | 2, h => obtain rfl := Option.some.inj h; decide)).mono ?_
  rintro e w' ⟨rfl, hB⟩
  go_wp2_with fail
  go_ret
  exact ⟨rfl, hB⟩

end Go.Proofs.YtgednccpjegbmaaGreatDoor.Iw
namespace Go.Proofs.YtgednccpjegbmaaGreatDoor.Iw
open Go.RowKit Go.Proofs.YtgednccpjegbmaaGreatDoor Go.Proofs.YtgednccpjegbmaaGreatDoor.Ww
set_option maxRecDepth 100000

set_option maxHeartbeats 1000000 in
theorem WriteByte_any (w : World) {T : TypeId} {b k B : Nat} {l : Bs} {pv bv : Value} {cs : Array Value} (h : BAt w T b k B l pv bv cs) (c : UInt8) (hl : l.length + 1 ≤ 1000000000000) (hBw : B ≤ w.heap.size) :
    Calls Tryz.prog 124 #[.pointer (some ⟨b, k, none⟩), .int .u8 (c.toNat : Int)] w fun e w' => e = .returned .nilIface ∧
      ∃ bv', BAt w' T b k B (l ++ [c]) (.pointer (some ⟨b, k, none⟩)) bv' ((cs.setIfInBounds k (.pointer (some ⟨b, k, none⟩))).setIfInBounds (k + 1) bv') ∧ Kept (b :: bv.ownBlock.toList) w w' := by
  obtain ⟨i0, hi, hz0, hz1, hz2⟩ := info_parts infoU
  have HC := Lib.hid (copy_any w h)
  have hk : k + 1 < cs.size := by
    have := (Array.getElem?_eq_some_iff.1 h.buf).1
    exact this
  clear h
  go_enter Tryz.func124, Tryz.ntmps124
  go_wp2_with (go_at_call 180; refine HC.out.mono ?_)
  rintro e w1 ⟨rfl, h1, hK1⟩
  have hno := h1.not_own
  have c0 : w1.cell? ⟨b, k, none⟩ = some (.pointer (some ⟨b, k, none⟩)) := cell_at h1.cells h1.ptr
  have c1 : w1.cell? ⟨b, k + 1, none⟩ = some bv := cell_at h1.cells h1.buf
  have hlt1 := h1.lt
  go_wp2_with (at_builtin; refine wpList_append_own _ rfl _ _ 22 rfl B U8 i0 (.int .u8 0) 1 1 Tryz.underlying22 hi hz0 hz1 hz2 rfl (by decide) _ _ _ rfl (h1.own.alloc _) ⟨w1.heap.size, 0, none⟩ 1 1 [.int .u8 (c.toNat : Int)] rfl rfl (one_new _ _ _) (by simp [Value.oneCell']) (by unfold maxLen; omega) (by omega) (by have := hK1.size; simp; omega) ?_)
  intro v' w2 hown' hgrow _
  have hb2 : w2.heap[b]? = some (.cells (cs.setIfInBounds k (.pointer (some ⟨b, k, none⟩))) T (0, 0)) := (hgrow.block b (by simp; omega) (fun e => hno e.symm)).trans ((((Below.refl w1.heap.size w1).alloc (Nat.le_refl _) _).block b hlt1).trans h1.cells)
  have f1 : w2.frozen? ⟨b, k + 1, none⟩ = false := frozen_at hb2 _
  have d1 : w2.cell? ⟨b, k + 1, none⟩ = some bv := cell_at hb2 h1.buf
  have hlt2 : b < w2.heap.size := Nat.lt_of_lt_of_le hlt1 (Nat.le_trans (by simp) hgrow.size)
  obtain ⟨ao, n', rfl⟩ := owns_slice hown'
  go_wp2
  go_ret
  have hlen : (l ++ [c]).length = l.length + 1 := by rw [List.length_append]; rfl
  have hcells : Lib.byteCells (l ++ [c]) = Lib.byteCells l ++ [.int .u8 (c.toNat : Int)] := by simp [Lib.byteCells]
  have hne' : (Value.slice ao (l.length + 1) n').ownBlock ≠ some b := Lib.ownBlock_ne hown' hb2 h1.ne
  refine ⟨rfl, _, ⟨heap_set3 hb2 _, ?_, by simp [hk], .inr rfl, ?_, by simpa using h1.lies, h1.ne⟩, ?_⟩
  · rw [Array.getElem?_setIfInBounds_ne (by omega)]; exact h1.ptr
  · rw [hlen, hcells]
    exact hown'.kept (row := some b) ⟨rfl, rfl, rfl, by simp [World.setCell], fun j _ hj => Below.heap_setCell _ _ _ _ (fun e => hj (by simp [e]))⟩ (Or.inr hne')
  · refine (((hK1.mono (Y := b :: bv.ownBlock.toList) (fun i hi => by simp at hi; simp [hi])).alloc _).grown hgrow (fun r hr => .inl (by simp [hr]))).setCell (.inl (by simp)) _

theorem suffix_yes {a : Bs} {c : UInt8} : Lib.hasSuffix (a ++ [c]) [c] = true := by
  unfold Lib.hasSuffix
  rw [List.isSuffixOf_iff_suffix]; exact ⟨a, rfl⟩
theorem suffix_no {a : Bs} {c : UInt8} (h : a.getLast? ≠ some c) : Lib.hasSuffix a [c] = false := by
  cases hs : Lib.hasSuffix a [c] with
  | false => rfl
  | true =>
    unfold Lib.hasSuffix at hs
    rw [List.isSuffixOf_iff_suffix] at hs
    obtain ⟨p, rfl⟩ := hs
    exact absurd (by simp) h
theorem Suf_yes (w : World) (a : Bs) (hs : a.length ≤ 1000000) : Calls Tryz.prog 122 #[.string (str (a ++ [92])), .string ⟨#[92]⟩] w fun e w' => e = .returned (.tuple #[.string (str a), .bool true]) ∧ w = w' :=
  (Tryz.strings_CutSuffix (str (a ++ [92])) ⟨#[92]⟩ w (by rw [str_size]; simp; omega)).mono fun e w' ⟨he, hw⟩ => by
    refine ⟨?_, hw.symm⟩
    have h1 : Lib.hasSuffix (str (a ++ [92])).data.toList (⟨#[92]⟩ : ByteArray).data.toList = true := suffix_yes
    have h2 : Lib.trimSuffix (str (a ++ [92])).data.toList (⟨#[92]⟩ : ByteArray).data.toList = a := by
      unfold Lib.trimSuffix
      rw [h1, if_pos rfl]
      show List.take ((a ++ [92]).length - 1) (a ++ [92]) = a
      simp
    rw [he, h1, h2]; rfl
theorem Suf_no (w : World) (s : ByteArray) (hs : s.size ≤ 1000000) (h : (by8 s).getLast? ≠ some 92) : Calls Tryz.prog 122 #[.string s, .string ⟨#[92]⟩] w fun e w' => e = .returned (.tuple #[.string s, .bool false]) ∧ w = w' :=
  (Tryz.strings_CutSuffix s ⟨#[92]⟩ w (by omega)).mono fun e w' ⟨he, hw⟩ => by
    refine ⟨?_, hw.symm⟩
    have h1 : Lib.hasSuffix s.data.toList (⟨#[92]⟩ : ByteArray).data.toList = false := suffix_no h
    have h2 : Lib.trimSuffix s.data.toList (⟨#[92]⟩ : ByteArray).data.toList = by8 s := by
      unfold Lib.trimSuffix
      rw [h1]; rfl
    rw [he, h1, h2]; rfl
theorem Suf_any (w : World) (s : ByteArray) (hs : s.size ≤ 1000000) : ∃ (t : ByteArray) (b : Bool), Calls Tryz.prog 122 #[.string s, .string ⟨#[92]⟩] w fun e w' => e = .returned (.tuple #[.string t, .bool b]) ∧ w = w' :=
  ⟨_, _, (Tryz.strings_CutSuffix s ⟨#[92]⟩ w (by omega)).mono fun e w' ⟨he, hw⟩ => ⟨he, hw.symm⟩⟩

/-- Where the loop stands: the builder in block n. -/
def UnRel (w : World) (n : Nat) (s : ByteArray) (vs : Value) (wr : World) : Prop :=
  ∃ (sb : ByteArray) (l : Bs) (pv bv : Value) (cs : Array Value), vs = .string sb ∧ BAt wr BT n 0 n l pv bv cs ∧ cs.size = 2 ∧ l.length + sb.size ≤ s.size ∧ l.getLast? ≠ some 92 ∧ Ip.bareA l (by8 sb) = Ip.bareA [] (by8 s) ∧ Below n w wr

def strV : Value → ByteArray | .string b => b | _ => ByteArray.empty
theorem BAt.own_ge {w : World} {T : TypeId} {b k B : Nat} {l : Bs} {pv bv : Value} {cs : Array Value} (h : BAt w T b k B l pv bv cs) : ∀ i ∈ bv.ownBlock.toList, B ≤ i := fun i hi => (h.own.lt i (by simpa using hi)).1
theorem BAt.kept_below {w w' : World} {T : TypeId} {b k B : Nat} {l : Bs} {pv bv : Value} {cs : Array Value} (h : BAt w T b k B l pv bv cs) (hB : Below w.heap.size w w') : BAt w' T b k B l pv bv cs :=
  ⟨(hB.block b h.lt).trans h.cells, h.ptr, h.buf, h.used, by
    refine ⟨h.own.1, ?_⟩
    rcases h.own.2 with h | ⟨g, cap, cur, h1, h2, h3, h4⟩
    · exact .inl h
    · exact .inr ⟨g, cap, cur, h1, h2, (hB.block g (Array.getElem?_eq_some_iff.1 h3).1).trans h3, h4⟩, h.lies, h.ne⟩

set_option maxHeartbeats 4000000 in
theorem uncomment_any (w : World) (s : ByteArray) (hs : s.size ≤ 1000000) :
    Calls Tryz.prog 78 #[.string s] w fun e w' => e = .returned (.string (str (Ip.bareA [] (by8 s)))) ∧ Below w.heap.size w w' := by
  go_enter Tryz.func78, Tryz.ntmps78
  go_wp2_with fail
  go_loopw [0] (fun vs wr => UnRel w w.heap.size s vs wr) (fun vs _ => (strV vs).size)
  case atStart =>
    refine ⟨s, [], .pointer none, .slice none 0 0, #[.pointer none, .slice none 0 0], rfl, ⟨World.alloc_heap_new w _, rfl, rfl, .inl rfl, World.ownsRow_nil _ _ _ _, liesB, by decide⟩, rfl, by simp, by simp, rfl, (Below.refl _ w).alloc (Nat.le_refl _) _⟩
  case round =>
    obtain ⟨sb, l, pv, bv, cs, rfl, hA, hcs, hl, h92, hE, hB⟩ := hrel
    have hBw := hB.size
    rcases index_ways 35 (by8 sb) with ⟨hno, _⟩ | ⟨a, b, hab, ha, _⟩
    · have HC : Hid (∀ W : World, Calls Tryz.prog 103 #[.string sb, .string ⟨#[35]⟩] W fun e w' => e = .returned (.tuple #[.string sb, .string ByteArray.empty, .bool false]) ∧ Below W.heap.size W w') := Lib.hid fun W => Cut_no W sb 35 hno
      have HS : Hid (∀ W : World, ∃ (t : ByteArray) (b : Bool), Calls Tryz.prog 122 #[.string sb, .string ⟨#[92]⟩] W fun e w' => e = .returned (.tuple #[.string t, .bool b]) ∧ W = w') := Lib.hid fun W => Suf_any W sb (by omega)
      have HE : Hid (Ip.bareA [] (by8 s) = l ++ by8 sb) := Lib.hid (by rw [← hE, Ip.bareA_all hno])
      have HA := Lib.hid hA
      have HB := Lib.hid hB
      clear hE h92 hno hA hB
      go_wp2_with fail
      refine (HC.out _).mono ?_
      rintro e w1 ⟨rfl, B1⟩
      have HA1 := Lib.hid (HA.out.kept_below B1)
      have HW := Lib.hid (WriteString_any w1 HA1.out sb (by omega) (by have := B1.size; omega))
      obtain ⟨t, q, hS⟩ := HS.out w1
      go_wp2_with fail
      refine hS.mono ?_
      rintro e w' ⟨rfl, rfl⟩
      go_wp2_with fail
      refine HW.out.mono ?_
      rintro e w2 ⟨rfl, bv2, hA2, K2⟩
      have HA2 := Lib.hid hA2
      have HT := Lib.hid (String_any w2 hA2)
      clear hA2
      go_wp2_with fail
      refine HT.out.mono ?_
      rintro e w3 ⟨rfl, K3⟩
      go_wp2_with fail
      go_ret
      refine ⟨by rw [HE.out]; rfl, ?_⟩
      refine (HB.out.trans (B1.mono hBw)).trans (((K2.to_below (B := w.heap.size) (Nat.le_trans hBw B1.size) (fun i hi => ?_)).trans (K3.to_below (B := w.heap.size) (Nat.le_trans (Nat.le_trans hBw B1.size) K2.size) (fun i hi => HA2.out.own_ge i hi))))
      rcases List.mem_cons.1 hi with rfl | hi
      · exact Nat.le_refl _
      · exact HA1.out.own_ge i hi
    · have hsb : a.length + b.length + 1 = sb.size := by rw [← by8_len, hab]; simp; omega
      have HC : Hid (∀ W : World, Calls Tryz.prog 103 #[.string sb, .string ⟨#[35]⟩] W fun e w' => e = .returned (.tuple #[.string (str a), .string (str b), .bool true]) ∧ Below W.heap.size W w') := Lib.hid fun W => Cut_yes W sb (by omega) 35 a b hab ha
      have HA := Lib.hid hA
      have HB := Lib.hid hB
      by_cases hq : a.getLast? = some 92
      · obtain ⟨a', rfl⟩ : ∃ a', a = a' ++ [92] := List.getLast?_eq_some_iff.1 hq
        have hsb' : a'.length + 1 + b.length + 1 = sb.size := by simpa using hsb
        have HS : Hid (∀ W : World, Calls Tryz.prog 122 #[.string (str (a' ++ [92])), .string ⟨#[92]⟩] W fun e w' => e = .returned (.tuple #[.string (str a'), .bool true]) ∧ W = w') := Lib.hid fun W => Suf_yes W a' (by omega)
        have HE : Hid (Ip.bareA (l ++ a' ++ [35]) b = Ip.bareA [] (by8 s)) := Lib.hid (by
          rw [← hE, hab, Ip.bareA_kept ha hq]; simp)
        have hsz : (str a').size = a'.length := str_size a'
        have HSZ := Lib.hid hsz
        clear hE h92 hab ha hA hB hq hsz
        go_wp2_with fail
        refine (HC.out _).mono ?_
        rintro e w1 ⟨rfl, B1⟩
        have HA1 := Lib.hid (HA.out.kept_below B1)
        have HW := Lib.hid (WriteString_any w1 HA1.out (str a') (by rw [HSZ.out]; omega) (by have := B1.size; omega))
        go_wp2_with fail
        refine (HS.out _).mono ?_
        rintro e w' ⟨rfl, rfl⟩
        go_wp2_with fail
        refine HW.out.mono ?_
        rintro e w2 ⟨rfl, bv2, hA2, K2⟩
        have HA2 := Lib.hid hA2
        have HT := Lib.hid (WriteByte_any w2 hA2 35 (by rw [List.length_append, by8_len, HSZ.out]; omega) (by have := B1.size; have := K2.size; omega))
        clear hA2
        go_wp2_with fail
        refine HT.out.mono ?_
        rintro e w3 ⟨rfl, bv3, hA3, K3⟩
        have HA3 := Lib.hid hA3
        clear hA3
        go_wp2_with fail
        go_roundw
        case rel =>
          refine ⟨str b, _, _, _, _, rfl, HA3.out, by simp [hcs], ?_, by simp, HE.out, ?_⟩
          · rw [List.length_append, List.length_append, by8_len, HSZ.out, str_size]; simp; omega
          · refine (HB.out.trans (B1.mono hBw)).trans (((K2.to_below (B := w.heap.size) (Nat.le_trans hBw B1.size) (fun i hi => ?_)).trans (K3.to_below (B := w.heap.size) (Nat.le_trans (Nat.le_trans hBw B1.size) K2.size) (fun i hi => ?_))))
            · rcases List.mem_cons.1 hi with rfl | hi
              · exact Nat.le_refl _
              · exact HA1.out.own_ge i hi
            · rcases List.mem_cons.1 hi with rfl | hi
              · exact Nat.le_refl _
              · exact HA2.out.own_ge i hi
        case measure => show (str b).size < sb.size; rw [str_size]; omega
      · have HS : Hid (∀ W : World, Calls Tryz.prog 122 #[.string (str a), .string ⟨#[92]⟩] W fun e w' => e = .returned (.tuple #[.string (str a), .bool false]) ∧ W = w') := Lib.hid fun W => Suf_no W (str a) (by rw [str_size]; omega) hq
        have HE : Hid (Ip.bareA [] (by8 s) = l ++ a) := Lib.hid (by
          rw [← hE, hab, Ip.bareA_end ha h92 hq])
        have HSZ := Lib.hid (str_size a)
        clear hE h92 hab ha hA hB hq
        go_wp2_with fail
        refine (HC.out _).mono ?_
        rintro e w1 ⟨rfl, B1⟩
        have HA1 := Lib.hid (HA.out.kept_below B1)
        have HW := Lib.hid (WriteString_any w1 HA1.out (str a) (by rw [HSZ.out]; omega) (by have := B1.size; omega))
        go_wp2_with fail
        refine (HS.out _).mono ?_
        rintro e w' ⟨rfl, rfl⟩
        go_wp2_with fail
        refine HW.out.mono ?_
        rintro e w2 ⟨rfl, bv2, hA2, K2⟩
        have HA2 := Lib.hid hA2
        have HT := Lib.hid (String_any w2 hA2)
        clear hA2
        go_wp2_with fail
        refine HT.out.mono ?_
        rintro e w3 ⟨rfl, K3⟩
        go_wp2_with fail
        go_ret
        refine ⟨by rw [HE.out]; rfl, ?_⟩
        refine (HB.out.trans (B1.mono hBw)).trans (((K2.to_below (B := w.heap.size) (Nat.le_trans hBw B1.size) (fun i hi => ?_)).trans (K3.to_below (B := w.heap.size) (Nat.le_trans (Nat.le_trans hBw B1.size) K2.size) (fun i hi => HA2.out.own_ge i hi))))
        rcases List.mem_cons.1 hi with rfl | hi
        · exact Nat.le_refl _
        · exact HA1.out.own_ge i hi
end Go.Proofs.YtgednccpjegbmaaGreatDoor.Iw
namespace Go.Proofs.YtgednccpjegbmaaGreatDoor.Iw
open Go.RowKit Go.Proofs.YtgednccpjegbmaaGreatDoor Go.Proofs.YtgednccpjegbmaaGreatDoor.Ww
set_option maxRecDepth 100000

abbrev LT : TypeId := 100
abbrev LS : TypeId := 42
theorem infoLT : (Tryz.prog.info? LT).map (fun i => (i.zero, i.size, i.bytes)) = some (some (.agg #[.int .i64 0, .string ByteArray.empty, .bool false]), 3, 32) := by kernel_rfl
/-- The list that grows, in its variable. -/
def Held (lb : Nat) (P : List Ip.L) (W : World) : Prop := ∃ v, Boxed W lb LS v ∧ W.ownsRow (lb + 1) LT 3 v P.length (linesC P)
theorem Held.below {lb : Nat} {P : List Ip.L} {W W' : World} (h : Held lb P W) (hB : Below W.heap.size W W') : Held lb P W' := by
  obtain ⟨v, h1, h2⟩ := h
  exact ⟨v, (hB.block lb h1.lt).trans h1, owns_below h2 hB⟩

set_option maxHeartbeats 4000000 in
theorem do_any (w : World) (lb : Nat) (P : List Ip.L) (n : Nat) (t : Bs) (q : Bool) (hH : Held lb P w) (hP : P.length ≤ 100001) (ht : t.length ≤ 1000000) :
    Calls Tryz.prog 77 #[.agg #[.int .i64 (n : Int), .string (str t), .bool q], .pointer (some ⟨lb, 0, none⟩)] w fun e w' => e = .returned (.tuple #[]) ∧ Held lb (P ++ Ip.emit n q t) w' ∧ Below lb w w' := by
  obtain ⟨i0, hi1, hz0, hz1, hz2⟩ := info_parts infoLT
  obtain ⟨v, hb, hr⟩ := hH
  obtain ⟨va, vc, rfl⟩ := owns_slice hr
  have hlb := hb.lt
  have HU : Hid (∀ W, Calls Tryz.prog 78 #[.string (str t)] W fun e w' => e = .returned (.string (str (Ip.bareA [] t))) ∧ Below W.heap.size W w') := Lib.hid fun W => uncomment_any W (str t) (by rw [str_size]; exact ht)
  have HT : Hid (∀ W, Calls Tryz.prog 61 #[.string (str (Ip.bareA [] t))] W fun e w' => e = .returned (.string (str (Ip.trim (Ip.bareA [] t)))) ∧ Below W.heap.size W w') := Lib.hid fun W => Trim_any W (str (Ip.bareA [] t)) (by have := Ip.bareA_len t []; rw [List.length_nil] at this; rw [str_size]; omega)
  have HB := Lib.hid hb
  have HR := Lib.hid hr
  clear hb hr
  go_enter Tryz.func77, Tryz.ntmps77
  cases q with
  | true =>
    have X1 : Hid ((w.alloc (.cells #[.int .i64 (n : Int), .string (str t), .bool true] LT)).heap[w.heap.size]? = some (.cells #[.int .i64 (n : Int), .string (str (t)), .bool true] LT (0, 0))) := Lib.hid (World.alloc_heap_new _ _)
    have HBX : Hid (Below w.heap.size w (w.alloc (.cells #[.int .i64 (n : Int), .string (str t), .bool true] LT))) := Lib.hid ((Below.refl _ _).alloc (Nat.le_refl _) _)
    have HSZ : Hid ((w.alloc (.cells #[.int .i64 (n : Int), .string (str t), .bool true] LT)).heap.size = w.heap.size + 1) := Lib.hid (by rw [World.size_alloc])
    have HV : Hid (Boxed (w.alloc (.cells #[.int .i64 (n : Int), .string (str t), .bool true] LT)) lb LS (.slice va P.length vc)) := Lib.hid ((HBX.out.block lb hlb).trans HB.out)
    have HR2 := Lib.hid (owns_below HR.out HBX.out)
    have c0 : (w.alloc (.cells #[.int .i64 (n : Int), .string (str t), .bool true] LT)).cell? ⟨lb, 0, none⟩ = some (.slice va P.length vc) := HV.out.cell
    have g0 : (w.alloc (.cells #[.int .i64 (n : Int), .string (str t), .bool true] LT)).cell? ⟨w.heap.size, 0, none⟩ = some (.int .i64 (n : Int)) := cell_at X1.out rfl
    have g1 : (w.alloc (.cells #[.int .i64 (n : Int), .string (str t), .bool true] LT)).cell? ⟨w.heap.size, 1, none⟩ = some (.string (str (t))) := cell_at X1.out rfl
    have g2 : (w.alloc (.cells #[.int .i64 (n : Int), .string (str t), .bool true] LT)).cell? ⟨w.heap.size, 2, none⟩ = some (.bool true) := cell_at X1.out rfl
    have HE0 : Hid (Ip.textA true t = t) := Lib.hid rfl
    by_cases hU : t = []
    · have hUe : (str (t)).toList = [] := by rw [Lib.toList_data]; exact hU
      have HEm : Hid (Ip.emit n true t = []) := Lib.hid (by unfold Ip.emit; rw [HE0.out, if_pos hU])
      clear hU
      go_wp2_with fail
      go_end0
      exact ⟨rfl, ⟨_, HV.out, by rw [HEm.out, List.append_nil]; exact HR2.out⟩, HBX.out.mono (Nat.le_of_lt hlb)⟩
    · have hUe : ¬ (str (t)).toList = [] := by rw [Lib.toList_data]; exact hU
      have hUf : (str (t)).toList.isEmpty = false := by cases h : (str (t)).toList with | nil => exact absurd h hUe | cons => rfl
      have HEm : Hid (Ip.emit n true t = [⟨n, t, true⟩]) := Lib.hid (by unfold Ip.emit; rw [HE0.out, if_neg hU])
      clear hU
      go_wp2_with (at_builtin; refine wpList_append_own _ rfl _ _ LS rfl (lb + 1) LT i0 (.agg #[.int .i64 0, .string ByteArray.empty, .bool false]) 3 32 Tryz.underlying42 hi1 hz0 hz1 hz2 rfl (by decide) _ _ _ rfl (HR2.out.alloc _) ⟨(w.heap.size + 1), 0, none⟩ 1 1 [.int .i64 (n : Int), .string (str (t)), .bool true] rfl rfl (three_at HSZ.out _ _ _ _) (by simp [Value.oneCell']) (by unfold maxLen; omega) (by omega) (by rw [World.size_alloc, HSZ.out]; omega) ?_; intro v' w3 hown' hgrow _; have hv3 : Boxed w3 lb LS (.slice va P.length vc) := (HV.out.alloc _).kept hgrow (Boxed.not_row HV.out (by decide) HR2.out); have hf3 := hv3.frozen; have hc3 := hv3.cell; obtain ⟨a2, c2, rfl⟩ := owns_slice hown')
      go_end0
      exact ⟨rfl, ⟨_, hv3.set _, by rw [HEm.out, List.length_append, linesC_app]; exact ownsRow_setCell_below hown' (a := ⟨lb, 0, none⟩) (Nat.lt_succ_self lb) _⟩, (((HBX.out.mono (Nat.le_of_lt hlb)).alloc (Nat.le_trans (Nat.le_of_lt hlb) HBX.out.size) _).grown hgrow (by rw [World.size_alloc]; have := HBX.out.size; omega) (fun k hk => by have := (HR2.out.lt k hk).1; omega)).setCell (Nat.le_refl _) _⟩
  | false =>
    have hb0 : (w.alloc (.cells #[.int .i64 (n : Int), .string (str t), .bool false] LT)).heap[w.heap.size]? = some (.cells #[.int .i64 (n : Int), .string (str t), .bool false] LT (0, 0)) := World.alloc_heap_new _ _
    have HB0 := Lib.hid hb0
    clear hb0
    go_wp2_with fail
    refine (HU.out _).mono ?_
    rintro e w1 ⟨rfl, B1⟩
    have hs1 := B1.size
    rw [World.size_alloc] at hs1
    go_wp2_with fail
    refine (HT.out _).mono ?_
    rintro e w2 ⟨rfl, B2⟩
    have hs2 := B2.size
    have HB2 : Hid (w2.heap[w.heap.size]? = some (.cells #[.int .i64 (n : Int), .string (str t), .bool false] LT (0, 0))) := Lib.hid ((B2.block _ (by omega)).trans ((B1.block _ (by simp)).trans HB0.out))
    have HBW : Hid (Below w.heap.size w w2) := Lib.hid ((((Below.refl w.heap.size w).alloc (Nat.le_refl _) _).trans (B1.mono (by simp))).trans (B2.mono (by omega)))
    have f0 : w2.frozen? ⟨w.heap.size, 1, none⟩ = false := frozen_at HB2.out _
    have e1 : w2.cell? ⟨w.heap.size, 1, none⟩ = some (.string (str t)) := cell_at HB2.out rfl
    clear B1 B2
    have X1 : Hid ((w2.setCell ⟨w.heap.size, 1, none⟩ (.string (str (Ip.trim (Ip.bareA [] t))))).heap[w.heap.size]? = some (.cells #[.int .i64 (n : Int), .string (str (Ip.trim (Ip.bareA [] t))), .bool false] LT (0, 0))) := Lib.hid (heap_set3 HB2.out _)
    have HBX : Hid (Below w.heap.size w (w2.setCell ⟨w.heap.size, 1, none⟩ (.string (str (Ip.trim (Ip.bareA [] t)))))) := Lib.hid (HBW.out.setCell (Nat.le_refl _) _)
    have HSZ : Hid ((w2.setCell ⟨w.heap.size, 1, none⟩ (.string (str (Ip.trim (Ip.bareA [] t))))).heap.size = w2.heap.size) := Lib.hid (by simp)
    have HV : Hid (Boxed (w2.setCell ⟨w.heap.size, 1, none⟩ (.string (str (Ip.trim (Ip.bareA [] t))))) lb LS (.slice va P.length vc)) := Lib.hid ((HBX.out.block lb hlb).trans HB.out)
    have HR2 := Lib.hid (owns_below HR.out HBX.out)
    have c0 : (w2.setCell ⟨w.heap.size, 1, none⟩ (.string (str (Ip.trim (Ip.bareA [] t))))).cell? ⟨lb, 0, none⟩ = some (.slice va P.length vc) := HV.out.cell
    have g0 : (w2.setCell ⟨w.heap.size, 1, none⟩ (.string (str (Ip.trim (Ip.bareA [] t))))).cell? ⟨w.heap.size, 0, none⟩ = some (.int .i64 (n : Int)) := cell_at X1.out rfl
    have g1 : (w2.setCell ⟨w.heap.size, 1, none⟩ (.string (str (Ip.trim (Ip.bareA [] t))))).cell? ⟨w.heap.size, 1, none⟩ = some (.string (str (Ip.trim (Ip.bareA [] t)))) := cell_at X1.out rfl
    have g2 : (w2.setCell ⟨w.heap.size, 1, none⟩ (.string (str (Ip.trim (Ip.bareA [] t))))).cell? ⟨w.heap.size, 2, none⟩ = some (.bool false) := cell_at X1.out rfl
    have HE0 : Hid (Ip.textA false t = Ip.trim (Ip.bareA [] t)) := Lib.hid rfl
    by_cases hU : Ip.trim (Ip.bareA [] t) = []
    · have hUe : (str (Ip.trim (Ip.bareA [] t))).toList = [] := by rw [Lib.toList_data]; exact hU
      have HEm : Hid (Ip.emit n false t = []) := Lib.hid (by unfold Ip.emit; rw [HE0.out, if_pos hU])
      clear hU
      go_wp2_with fail
      go_end0
      exact ⟨rfl, ⟨_, HV.out, by rw [HEm.out, List.append_nil]; exact HR2.out⟩, HBX.out.mono (Nat.le_of_lt hlb)⟩
    · have hUe : ¬ (str (Ip.trim (Ip.bareA [] t))).toList = [] := by rw [Lib.toList_data]; exact hU
      have hUf : (str (Ip.trim (Ip.bareA [] t))).toList.isEmpty = false := by cases h : (str (Ip.trim (Ip.bareA [] t))).toList with | nil => exact absurd h hUe | cons => rfl
      have HEm : Hid (Ip.emit n false t = [⟨n, Ip.trim (Ip.bareA [] t), false⟩]) := Lib.hid (by unfold Ip.emit; rw [HE0.out, if_neg hU])
      clear hU
      go_wp2_with (at_builtin; refine wpList_append_own _ rfl _ _ LS rfl (lb + 1) LT i0 (.agg #[.int .i64 0, .string ByteArray.empty, .bool false]) 3 32 Tryz.underlying42 hi1 hz0 hz1 hz2 rfl (by decide) _ _ _ rfl (HR2.out.alloc _) ⟨w2.heap.size, 0, none⟩ 1 1 [.int .i64 (n : Int), .string (str (Ip.trim (Ip.bareA [] t))), .bool false] rfl rfl (three_at HSZ.out _ _ _ _) (by simp [Value.oneCell']) (by unfold maxLen; omega) (by omega) (by rw [World.size_alloc, HSZ.out]; omega) ?_; intro v' w3 hown' hgrow _; have hv3 : Boxed w3 lb LS (.slice va P.length vc) := (HV.out.alloc _).kept hgrow (Boxed.not_row HV.out (by decide) HR2.out); have hf3 := hv3.frozen; have hc3 := hv3.cell; obtain ⟨a2, c2, rfl⟩ := owns_slice hown')
      go_end0
      exact ⟨rfl, ⟨_, hv3.set _, by rw [HEm.out, List.length_append, linesC_app]; exact ownsRow_setCell_below hown' (a := ⟨lb, 0, none⟩) (Nat.lt_succ_self lb) _⟩, (((HBX.out.mono (Nat.le_of_lt hlb)).alloc (Nat.le_trans (Nat.le_of_lt hlb) HBX.out.size) _).grown hgrow (by rw [World.size_alloc]; have := HBX.out.size; omega) (fun k hk => by have := (HR2.out.lt k hk).1; omega)).setCell (Nat.le_refl _) _⟩
end Go.Proofs.YtgednccpjegbmaaGreatDoor.Iw
namespace Go.Proofs.YtgednccpjegbmaaGreatDoor.Iw
open Go.RowKit Go.Proofs.YtgednccpjegbmaaGreatDoor Go.Proofs.YtgednccpjegbmaaGreatDoor.Ww
set_option maxRecDepth 100000

theorem tab_first (s : Bs) : Ip.tab ((Ip.rows s).headD []) = Lib.hasPrefix s [9] := by
  unfold Lib.hasPrefix
  cases s with
  | nil => rfl
  | cons c r =>
    by_cases hc : c = 10
    · subst hc; rw [Ip.rows_nl]; rfl
    · cases hr : Ip.rows r with
      | nil => exact absurd hr (Ip.rows_ne r)
      | cons x l =>
        rw [Ip.rows_ch hc hr]
        show (some c == some 9) = ((9 == c) && true)
        rw [Bool.and_true]
        by_cases h9 : c = 9
        · subst h9; rfl
        · rw [beq_eq_false_iff_ne.2 (by simpa using h9), beq_eq_false_iff_ne.2 (Ne.symm h9)]
theorem Pre_any (w : World) (s : ByteArray) (q : Bool) (hq : Ip.tab ((Ip.rows (by8 s)).headD []) = q) : Calls Tryz.prog 37 #[.string s, .string ⟨#[9]⟩] w fun e w' => e = .returned (.bool q) ∧ w = w' :=
  (Tryz.strings_HasPrefix s ⟨#[9]⟩ w).mono fun e w' ⟨he, hw⟩ => ⟨by rw [he, ← hq, tab_first]; rfl, hw.symm⟩
theorem Sfx_any (w : World) (a : Bs) (q : Bool) (ha : a.length ≤ 1000000) (hq : (a.getLast? == some 92) = q) : Calls Tryz.prog 121 #[.string (str a), .string ⟨#[92]⟩] w fun e w' => e = .returned (.bool q) ∧ w = w' :=
  (Tryz.strings_HasSuffix (str a) ⟨#[92]⟩ w (by rw [str_size]; omega)).mono fun e w' ⟨he, hw⟩ => ⟨by
    rw [he]
    have : Lib.hasSuffix (str a).data.toList (⟨#[92]⟩ : ByteArray).data.toList = q := by
      show Lib.hasSuffix a [92] = q
      cases q with
      | true =>
        rw [beq_iff_eq] at hq
        obtain ⟨a', rfl⟩ := List.getLast?_eq_some_iff.1 hq
        exact suffix_yes
      | false => exact suffix_no (by rw [beq_eq_false_iff_ne] at hq; exact hq)
    rw [this], hw.symm⟩

theorem join_ne {X : List ByteArray} (h : ∀ x ∈ X, by8 x ≠ []) : by8 (joinS X) = [] ↔ X = [] := by
  constructor
  · intro he
    cases X with
    | nil => rfl
    | cons x l =>
      exfalso
      have hx := h x (by simp)
      have : by8 (joinS (x :: l)) = by8 x ++ Lib.joinTail [32] (l.map (·.data.toList)) := by
        show Lib.join ((x :: l).map (·.data.toList)) [32] = _
        rw [List.map_cons, Lib.join_cons]; rfl
      rw [this] at he
      exact hx (List.append_eq_nil_iff.1 he).1
  · rintro rfl; rfl
theorem join_snoc {X : List ByteArray} {x : ByteArray} (h : ∀ x ∈ X, by8 x ≠ []) (hx : by8 x ≠ []) : by8 (joinS (X ++ [x])) = Ip.addA (by8 (joinS X)) (by8 x) := by
  unfold Ip.addA
  rw [if_neg hx]
  cases X with
  | nil =>
    rw [if_pos (show by8 (joinS []) = [] from rfl)]
    show Lib.join ([x].map (·.data.toList)) [32] = _
    rw [List.map_singleton, Lib.join_one]; rfl
  | cons y l =>
    rw [if_neg (fun e => by have := (join_ne h).1 e; cases this)]
    show Lib.join ((y :: l ++ [x]).map (·.data.toList)) [32] = Lib.join ((y :: l).map (·.data.toList)) [32] ++ 32 :: by8 x
    simp [Lib.join_cons, Lib.joinTail]
    rfl

/-- Between two lines: what is left of the text, the row's number, whether more is to come. -/
def EOut (lb : Nat) (W0 : World) (S : Nat) (T : List Ip.L) (v0 v4 v5 : Value) (wr : World) : Prop :=
  ∃ (sb : ByteArray) (k : Nat) (m : Bool) (P : List Ip.L), v0 = .string sb ∧ v4 = .int .i64 k ∧ v5 = .bool m ∧ Held lb P wr ∧ Below lb W0 wr ∧ P.length < k ∧ k ≤ S + 2 ∧
    (m = true → k + sb.size ≤ S + 1 ∧ P ++ Ip.goA k k (Ip.tab ((Ip.rows (by8 sb)).headD [])) [] (Ip.rows (by8 sb)) = T) ∧ (m = false → P = T)
/-- Within a line: besides, its texts, and whether one more row is its own. -/
def EIn (Wb : World) (S n : Nat) (q : Bool) (P T : List Ip.L) (v0 v4 v5 v7 v8 : Value) (wr : World) : Prop :=
  ∃ (sb : ByteArray) (k : Nat) (m c : Bool) (X : List ByteArray), v0 = .string sb ∧ v4 = .int .i64 k ∧ v5 = .bool m ∧ v8 = .bool c ∧ wr.ownsRow Wb.heap.size ST 1 v7 X.length (strsC X) ∧ Below Wb.heap.size Wb wr ∧
    (∀ x ∈ X, by8 x ≠ []) ∧ X.length + n ≤ k ∧ k ≤ S + 2 ∧ (by8 (joinS X)).length ≤ S + 1 ∧
    (c = true → k + sb.size ≤ S + 1 ∧ (by8 (joinS X)).length + sb.size ≤ S ∧ P ++ Ip.goA k n q (by8 (joinS X)) (Ip.rows (by8 sb)) = T) ∧
    (c = false → n < k ∧ (m = false → P ++ Ip.emit n q (by8 (joinS X)) = T) ∧
      (m = true → k + sb.size ≤ S + 1 ∧ P ++ (Ip.emit n q (by8 (joinS X)) ++ Ip.goA k k (Ip.tab ((Ip.rows (by8 sb)).headD [])) [] (Ip.rows (by8 sb))) = T))
/-- One row more. -/
theorem ein_next {Wb wr : World} {S n k : Nat} {q m c : Bool} {P T : List Ip.L} {X X' : List ByteArray} {sb : ByteArray} {v7 : Value} {r : Bs} (hown : wr.ownsRow Wb.heap.size ST 1 v7 X'.length (strsC X')) (hB : Below Wb.heap.size Wb wr)
    (hX : ∀ x ∈ X, by8 x ≠ []) (hX' : X' = if r = [] then X else X ++ [str r]) (hk : X.length + n ≤ k) (hkS : k ≤ S + 1) (hl : (by8 (joinS X)).length + r.length ≤ S)
    (hc : c = true → k + 1 + sb.size ≤ S + 1 ∧ (by8 (joinS X)).length + r.length + 1 + sb.size ≤ S ∧ P ++ Ip.goA (k + 1) n q (Ip.addA (by8 (joinS X)) r) (Ip.rows (by8 sb)) = T)
    (hc' : c = false → (m = false → P ++ Ip.emit n q (Ip.addA (by8 (joinS X)) r) = T) ∧ (m = true → k + 1 + sb.size ≤ S + 1 ∧ P ++ (Ip.emit n q (Ip.addA (by8 (joinS X)) r) ++ Ip.goA (k + 1) (k + 1) (Ip.tab ((Ip.rows (by8 sb)).headD [])) [] (Ip.rows (by8 sb))) = T)) :
    EIn Wb S n q P T (.string sb) (.int .i64 ((k : Int) + 1)) (.bool m) v7 (.bool c) wr := by
  have hJ : by8 (joinS X') = Ip.addA (by8 (joinS X)) r := by
    rw [hX']
    split
    · rename_i h; rw [h]; unfold Ip.addA; rw [if_pos rfl]
    · rename_i h; exact join_snoc hX (by rw [by8_str]; exact h)
  have hJl := Ip.addA_len (by8 (joinS X)) r
  have hXl : X'.length ≤ X.length + 1 := by rw [hX']; split <;> simp
  refine ⟨sb, k + 1, m, c, X', rfl, by go_num, rfl, rfl, hown, hB, ?_, by omega, by omega, by rw [hJ]; omega, ?_, ?_⟩
  · rw [hX']
    split
    · exact hX
    · rename_i h
      intro x hx
      rcases List.mem_append.1 hx with hx | hx
      · exact hX x hx
      · rw [List.mem_singleton.1 hx, by8_str]; exact h
  · intro h
    obtain ⟨h1, h2, h3⟩ := hc h
    rw [hJ]; exact ⟨h1, by omega, h3⟩
  · intro h
    obtain ⟨h1, h2⟩ := hc' h
    rw [hJ]; exact ⟨by omega, h1, h2⟩

set_option maxHeartbeats 8000000 in
theorem each_any (w : World) (lb : Nat) (s : ByteArray) (hs : s.size ≤ 100000) (hH : Held lb [] w) :
    Calls Tryz.prog 76 #[.string s, .func (.func 77) #[] #[.pointer (some ⟨lb, 0, none⟩)]] w fun e w' => e = .returned (.tuple #[]) ∧ Held lb (Ip.linesA (by8 s)) w' ∧ Below lb w w' := by
  obtain ⟨i0, hi1, hz0, hz1, hz2⟩ := info_parts infoS
  have HT : Hid (Ip.goA 1 1 (Ip.tab ((Ip.rows (by8 s)).headD [])) [] (Ip.rows (by8 s)) = Ip.linesA (by8 s)) := Lib.hid rfl
  generalize Ip.linesA (by8 s) = T at *
  have HH := Lib.hid hH
  clear hH
  go_enter Tryz.func76, Tryz.ntmps76
  go_wp2_with fail
  go_loopw [0, 4, 5] (fun v0 v4 v5 wr => EOut lb w s.size T v0 v4 v5 wr) (fun _ v4 _ _ => s.size + 3 - (intOf v4).toNat)
  case atStart => exact ⟨s, 1, true, [], rfl, rfl, rfl, HH.out, Below.refl _ _, Nat.lt_succ_self _, by omega, fun _ => ⟨by omega, HT.out⟩, fun h => by cases h⟩
  case round =>
    rename World => W0
    obtain ⟨sb, k, m, P, rfl, rfl, rfl, hH, hB, hPk, hkS, hm1, hm0⟩ := hrel
    cases m with
    | false =>
      have HE := Lib.hid (hm0 rfl)
      have HB := Lib.hid hB
      have HH2 := Lib.hid hH
      clear hm1 hm0 hB hH
      go_wp2_with fail
      go_end0
      exact ⟨rfl, by rw [← HE.out]; exact HH2.out, HB.out⟩
    | true =>
      obtain ⟨hks, hT⟩ := hm1 rfl
      have HB := Lib.hid hB
      have HH2 := Lib.hid hH
      obtain ⟨q, HQ⟩ : ∃ q, Hid (Ip.tab ((Ip.rows (by8 sb)).headD []) = q) := ⟨_, Lib.hid rfl⟩
      have HPre : Hid (∀ W, Calls Tryz.prog 37 #[.string sb, .string ⟨#[9]⟩] W fun e w' => e = .returned (.bool q) ∧ W = w') := Lib.hid fun W => Pre_any W sb q HQ.out
      rw [HQ.out] at hT
      have HT2 := Lib.hid hT
      clear hm1 hm0 hB hH hT
      go_wp2_with fail
      refine (HPre.out _).mono ?_
      rintro e w' ⟨rfl, rfl⟩
      go_wp2_with fail
      generalize hW1 : W0.alloc (.cells #[.int .i64 (k : Int), .string ByteArray.empty, .bool q] LT) = W1
      go_loopw [0, 4, 5, 7, 8] (fun v0 v4 v5 v7 v8 wr => EIn W1 s.size k q P T v0 v4 v5 v7 v8 wr) (fun _ v4 _ _ _ _ => s.size + 3 - (intOf v4).toNat)
      case atStart => exact ⟨sb, k, true, true, [], rfl, rfl, rfl, rfl, World.ownsRow_nil _ _ _ _, by rw [← hW1]; exact Below.refl _ _, (fun _ h => by cases h), by simp, hkS, by show 0 ≤ _; omega, fun _ => ⟨hks, by show 0 + _ ≤ _; omega, HT2.out⟩, fun h => by cases h⟩
      case round =>
        clear HT2 HPre HQ hks hkS
        obtain ⟨sb, j, m, c, X, rfl, rfl, rfl, rfl, hown, hBx, hX, hXk, hjS, hJl, hc1, hc0⟩ := hrel
        cases c with
        | true =>
          obtain ⟨hks, hJ2, hT⟩ := hc1 rfl
          have HO := Lib.hid hown
          have HBx := Lib.hid hBx
          have HX := Lib.hid hX
          obtain ⟨xa, xc, rfl⟩ := owns_slice hown
          rcases index_ways 10 (by8 sb) with ⟨hno, _⟩ | ⟨a, b, hab, ha, _⟩
          · have HC : Hid (∀ W, Calls Tryz.prog 103 #[.string sb, .string ⟨#[10]⟩] W fun e w' => e = .returned (.tuple #[.string sb, .string ByteArray.empty, .bool false]) ∧ Below W.heap.size W w') := Lib.hid fun W => Cut_no W sb 10 hno
            have HTr : Hid (∀ W, Calls Tryz.prog 61 #[.string sb] W fun e w' => e = .returned (.string (trimT sb)) ∧ Below W.heap.size W w') := Lib.hid fun W => Trim_any W sb (by omega)
            have HR : Hid (by8 (trimT sb) = Ip.trim (by8 sb)) := Lib.hid rfl
            have hlen := Ip.trim_len (by8 sb)
            rw [by8_len] at hlen
            rw [Ip.rows_one hno, Ip.goA_last rfl] at hT
            have HT2 : Hid (P ++ Ip.emit k q (Ip.addA (by8 (joinS X)) (Ip.trim (by8 sb))) = T) := Lib.hid (by rw [← hT]; simp [Ip.goA])
            generalize trimT sb = t at *
            clear hT hno hc1 hc0 hown hBx hX
            go_wp2_with fail
            refine (HC.out _).mono ?_
            rintro e w1 ⟨rfl, B1⟩
            go_wp2_with fail
            refine (HTr.out _).mono ?_
            rintro e w2 ⟨rfl, B2⟩
            have HB2 := Lib.hid ((HBx.out.trans (B1.mono HBx.out.size)).trans (B2.mono (Nat.le_trans HBx.out.size B1.size)))
            have HO2 := Lib.hid (owns_below (owns_below HO.out B1) B2)
            cases ht0 : by8 t with
            | nil =>
              have he : t.toList = [] := by rw [Lib.toList_data]; exact ht0
              have HR0 : Hid (Ip.trim (by8 sb) = []) := Lib.hid (HR.out.symm.trans ht0)
              clear ht0
              go_wp2_with fail
              go_roundw
              case rel => exact ein_next (r := Ip.trim (by8 sb)) (X := X) (X' := X) HO2.out HB2.out HX.out (if_pos HR0.out).symm hXk (by omega) (by omega) (fun h => by cases h) (fun _ => ⟨fun _ => HT2.out, fun h => by cases h⟩)
              case measure => simp [intOf]; omega
            | cons b0 t0 =>
              have he : ¬ t.toList = [] := by rw [Lib.toList_data]; exact fun e => by rw [show t.data.toList = by8 t from rfl, ht0] at e; cases e
              have hf : t.toList.isEmpty = false := by cases h : t.toList with | nil => exact absurd h he | cons => rfl
              have HR0 : Hid (¬ Ip.trim (by8 sb) = []) := Lib.hid (fun e => by rw [← HR.out, ht0] at e; cases e)
              have HTE : Hid (t = str (Ip.trim (by8 sb))) := Lib.hid (by8_ext HR.out)
              clear ht0
              go_wp2_with (at_builtin; refine wpList_append_own _ rfl _ _ 76 rfl W1.heap.size ST i0 (.string ByteArray.empty) 1 16 Tryz.underlying76 hi1 hz0 hz1 hz2 rfl (by decide) _ _ _ rfl (HO2.out.alloc _) ⟨w2.heap.size, 0, none⟩ 1 1 [.string t] rfl rfl (cell_one_new _ _ _) (by simp [Value.oneCell']) (by unfold maxLen; omega) (by omega) (by rw [World.size_alloc]; have := HB2.out.size; omega) ?_; intro v' w3 hown' hgrow _; obtain ⟨a2, c2, rfl⟩ := owns_slice hown')
              go_roundw
              case rel => exact ein_next (r := Ip.trim (by8 sb)) (X := X) (X' := X ++ [str (Ip.trim (by8 sb))]) (by rw [List.length_append, show strsC (X ++ [str (Ip.trim (by8 sb))]) = strsC X ++ [.string (str (Ip.trim (by8 sb)))] by simp [strsC], ← HTE.out]; exact hown') ((HB2.out.alloc HB2.out.size _).grown hgrow (by rw [World.size_alloc]; have := HB2.out.size; omega) fun k hk => (HO2.out.lt k hk).1) HX.out (if_neg HR0.out).symm hXk (by omega) (by omega) (fun h => by cases h) (fun _ => ⟨fun _ => HT2.out, fun h => by cases h⟩)
              case measure => simp [intOf]; omega
          · have hsb : a.length + b.length + 1 = sb.size := by rw [← by8_len, hab]; simp; omega
            have HC : Hid (∀ W, Calls Tryz.prog 103 #[.string sb, .string ⟨#[10]⟩] W fun e w' => e = .returned (.tuple #[.string (str a), .string (str b), .bool true]) ∧ Below W.heap.size W w') := Lib.hid fun W => Cut_yes W sb (by omega) 10 a b hab ha
            rw [hab, Ip.rows_cut ha] at hT
            have hbs : (str b).size = b.length := str_size b
            have hne : (Ip.rows b).isEmpty = false := by cases h : Ip.rows b with | nil => exact absurd h (Ip.rows_ne b) | cons => rfl
            obtain ⟨h, HQ⟩ : ∃ h, Hid ((a.getLast? == some 92) = h) := ⟨_, Lib.hid rfl⟩
            have HS : Hid (∀ W, Calls Tryz.prog 121 #[.string (str a), .string ⟨#[92]⟩] W fun e w' => e = .returned (.bool h) ∧ W = w') := Lib.hid fun W => Sfx_any W a h (by omega) HQ.out
            cases h with
            | true =>
              have hq := HQ.out
              rw [beq_iff_eq] at hq
              obtain ⟨a', ha'⟩ := List.getLast?_eq_some_iff.1 hq
              have hmore : Ip.more a (Ip.rows b) = true := by unfold Ip.more; rw [hne, HQ.out]; rfl
              rw [Ip.goA_more hmore, show a.dropLast = a' by rw [ha', List.dropLast_concat]] at hT
              have hla : a.length = a'.length + 1 := by rw [ha']; simp
              have hlen := Ip.trim_len a'
              obtain ⟨ya, HY⟩ : ∃ ya, Hid (str a = ya) := ⟨_, Lib.hid rfl⟩
              have hys : ya.size = a'.length + 1 := by rw [← HY.out, str_size, hla]
              have q1 : (1 : Int) ≤ (ya.size : Int) := by omega
              have q2 : (ya.size : Int) - 1 ≤ (ya.size : Int) := by omega
              have q3 : ((ya.size : Int) - 1).toNat = a'.length := by omega
              have hyb : by8 (ya.extract 0 a'.length) = a' := by8_cut (c := 92) (by rw [← HY.out, by8_str]; exact ha') hys
              have HTr : Hid (∀ W, Calls Tryz.prog 61 #[.string (ya.extract 0 a'.length)] W fun e w' => e = .returned (.string (trimT (ya.extract 0 a'.length))) ∧ Below W.heap.size W w') := Lib.hid fun W => Trim_any W _ (by rw [ByteArray.size_extract]; omega)
              have HR : Hid (by8 (trimT (ya.extract 0 a'.length)) = Ip.trim a') := Lib.hid (by show Lib.trimS (by8 (ya.extract 0 a'.length)) [32, 9, 10] = _; rw [hyb]; rfl)
              have HT2 := Lib.hid hT
              rw [HY.out] at HC HS
              generalize trimT (ya.extract 0 a'.length) = t at *
              clear hT hc1 hc0 hown hBx hX hab ha hq ha' hmore hne hyb hys
              go_wp2_with fail
              refine (HC.out _).mono ?_
              rintro e w1 ⟨rfl, B1⟩
              go_wp2_with fail
              refine (HS.out _).mono ?_
              rintro e w' ⟨rfl, rfl⟩
              go_wp2_with fail
              refine (HTr.out _).mono ?_
              rintro e w2 ⟨rfl, B2⟩
              have HB2 := Lib.hid ((HBx.out.trans (B1.mono HBx.out.size)).trans (B2.mono (Nat.le_trans HBx.out.size B1.size)))
              have HO2 := Lib.hid (owns_below (owns_below HO.out B1) B2)
              cases ht0 : by8 t with
              | nil =>
                have he : t.toList = [] := by rw [Lib.toList_data]; exact ht0
                have HR0 : Hid (Ip.trim a' = []) := Lib.hid (HR.out.symm.trans ht0)
                clear ht0
                go_wp2_with fail
                go_roundw
                case rel => exact ein_next (r := Ip.trim a') (X := X) (X' := X) HO2.out HB2.out HX.out (if_pos HR0.out).symm hXk (by omega) (by omega) (fun _ => ⟨by omega, by omega, HT2.out⟩) (fun h => by cases h)
                case measure => simp [intOf]; omega
              | cons b0 t0 =>
                have he : ¬ t.toList = [] := by rw [Lib.toList_data]; exact fun e => by rw [show t.data.toList = by8 t from rfl, ht0] at e; cases e
                have hf : t.toList.isEmpty = false := by cases h : t.toList with | nil => exact absurd h he | cons => rfl
                have HR0 : Hid (¬ Ip.trim a' = []) := Lib.hid (fun e => by rw [← HR.out, ht0] at e; cases e)
                have HTE : Hid (t = str (Ip.trim a')) := Lib.hid (by8_ext HR.out)
                clear ht0
                go_wp2_with (at_builtin; refine wpList_append_own _ rfl _ _ 76 rfl W1.heap.size ST i0 (.string ByteArray.empty) 1 16 Tryz.underlying76 hi1 hz0 hz1 hz2 rfl (by decide) _ _ _ rfl (HO2.out.alloc _) ⟨w2.heap.size, 0, none⟩ 1 1 [.string t] rfl rfl (cell_one_new _ _ _) (by simp [Value.oneCell']) (by unfold maxLen; omega) (by omega) (by rw [World.size_alloc]; have := HB2.out.size; omega) ?_; intro v' w3 hown' hgrow _; obtain ⟨a2, c2, rfl⟩ := owns_slice hown')
                go_roundw
                case rel => exact ein_next (r := Ip.trim a') (X := X) (X' := X ++ [str (Ip.trim a')]) (by rw [List.length_append, show strsC (X ++ [str (Ip.trim a')]) = strsC X ++ [.string (str (Ip.trim a'))] by simp [strsC], ← HTE.out]; exact hown') ((HB2.out.alloc HB2.out.size _).grown hgrow (by rw [World.size_alloc]; have := HB2.out.size; omega) fun k hk => (HO2.out.lt k hk).1) HX.out (if_neg HR0.out).symm hXk (by omega) (by omega) (fun _ => ⟨by omega, by omega, HT2.out⟩) (fun h => by cases h)
                case measure => simp [intOf]; omega
            | false =>
              have hmore : Ip.more a (Ip.rows b) = false := by unfold Ip.more; rw [hne, HQ.out]; rfl
              rw [Ip.goA_last hmore] at hT
              have hlen := Ip.trim_len a
              have HTr : Hid (∀ W, Calls Tryz.prog 61 #[.string (str a)] W fun e w' => e = .returned (.string (trimT (str a))) ∧ Below W.heap.size W w') := Lib.hid fun W => Trim_any W _ (by rw [str_size]; omega)
              have HR : Hid (by8 (trimT (str a)) = Ip.trim a) := Lib.hid rfl
              have HT2 := Lib.hid hT
              generalize trimT (str a) = t at *
              clear hT hc1 hc0 hown hBx hX hab ha hmore hne
              go_wp2_with fail
              refine (HC.out _).mono ?_
              rintro e w1 ⟨rfl, B1⟩
              go_wp2_with fail
              refine (HS.out _).mono ?_
              rintro e w' ⟨rfl, rfl⟩
              go_wp2_with fail
              refine (HTr.out _).mono ?_
              rintro e w2 ⟨rfl, B2⟩
              have HB2 := Lib.hid ((HBx.out.trans (B1.mono HBx.out.size)).trans (B2.mono (Nat.le_trans HBx.out.size B1.size)))
              have HO2 := Lib.hid (owns_below (owns_below HO.out B1) B2)
              cases ht0 : by8 t with
              | nil =>
                have he : t.toList = [] := by rw [Lib.toList_data]; exact ht0
                have HR0 : Hid (Ip.trim a = []) := Lib.hid (HR.out.symm.trans ht0)
                clear ht0
                go_wp2_with fail
                go_roundw
                case rel => exact ein_next (r := Ip.trim a) (X := X) (X' := X) HO2.out HB2.out HX.out (if_pos HR0.out).symm hXk (by omega) (by omega) (fun h => by cases h) (fun _ => ⟨(fun h => by cases h), fun _ => ⟨by omega, HT2.out⟩⟩)
                case measure => simp [intOf]; omega
              | cons b0 t0 =>
                have he : ¬ t.toList = [] := by rw [Lib.toList_data]; exact fun e => by rw [show t.data.toList = by8 t from rfl, ht0] at e; cases e
                have hf : t.toList.isEmpty = false := by cases h : t.toList with | nil => exact absurd h he | cons => rfl
                have HR0 : Hid (¬ Ip.trim a = []) := Lib.hid (fun e => by rw [← HR.out, ht0] at e; cases e)
                have HTE : Hid (t = str (Ip.trim a)) := Lib.hid (by8_ext HR.out)
                clear ht0
                go_wp2_with (at_builtin; refine wpList_append_own _ rfl _ _ 76 rfl W1.heap.size ST i0 (.string ByteArray.empty) 1 16 Tryz.underlying76 hi1 hz0 hz1 hz2 rfl (by decide) _ _ _ rfl (HO2.out.alloc _) ⟨w2.heap.size, 0, none⟩ 1 1 [.string t] rfl rfl (cell_one_new _ _ _) (by simp [Value.oneCell']) (by unfold maxLen; omega) (by omega) (by rw [World.size_alloc]; have := HB2.out.size; omega) ?_; intro v' w3 hown' hgrow _; obtain ⟨a2, c2, rfl⟩ := owns_slice hown')
                go_roundw
                case rel => exact ein_next (r := Ip.trim a) (X := X) (X' := X ++ [str (Ip.trim a)]) (by rw [List.length_append, show strsC (X ++ [str (Ip.trim a)]) = strsC X ++ [.string (str (Ip.trim a))] by simp [strsC], ← HTE.out]; exact hown') ((HB2.out.alloc HB2.out.size _).grown hgrow (by rw [World.size_alloc]; have := HB2.out.size; omega) fun k hk => (HO2.out.lt k hk).1) HX.out (if_neg HR0.out).symm hXk (by omega) (by omega) (fun h => by cases h) (fun _ => ⟨(fun h => by cases h), fun _ => ⟨by omega, HT2.out⟩⟩)
                case measure => simp [intOf]; omega
        | false =>
          obtain ⟨hkj, hf, ht⟩ := hc0 rfl
          have hW1s : W1.heap.size = W0.heap.size + 1 := by rw [← hW1, World.size_alloc]
          have HBx := Lib.hid hBx
          have hwr := hBx.size
          have HBX : Hid (wr.heap[W0.heap.size]? = some (.cells #[.int .i64 (k : Int), .string ByteArray.empty, .bool q] LT (0, 0))) := Lib.hid ((HBx.out.block _ (by omega)).trans (by rw [← hW1]; exact World.alloc_heap_new _ _))
          have HBW : Hid (Below W0.heap.size W0 wr) := Lib.hid (Below.trans (by rw [← hW1]; exact (Below.refl _ _).alloc (Nat.le_refl _) _) (HBx.out.mono (by omega)))
          have hXl : X.length ≤ 1000000 := by omega
          have HJ := Lib.hid (Join_any wr hown (by omega) (by omega))
          obtain ⟨J, hJ⟩ : ∃ J, joinS X = str J := ⟨by8 (joinS X), rfl⟩
          have hJb : by8 (joinS X) = J := by rw [hJ, by8_str]
          rw [hJb] at hf ht hJl
          rw [hJ] at HJ
          have HF : Hid (m = false → P ++ Ip.emit k q J = T) := Lib.hid hf
          have HTt : Hid (m = true → j + sb.size ≤ s.size + 1 ∧ P ++ (Ip.emit k q J ++ Ip.goA j j (Ip.tab ((Ip.rows (by8 sb)).headD [])) [] (Ip.rows (by8 sb))) = T) := Lib.hid ht
          clear hf ht hc1 hc0 hown hX hBx hJ hJb hW1
          go_wp2_with fail
          refine HJ.out.mono ?_
          rintro e w1 ⟨rfl, B1⟩
          have hs1 := B1.size
          have HBX1 : Hid (w1.heap[W0.heap.size]? = some (.cells #[.int .i64 (k : Int), .string ByteArray.empty, .bool q] LT (0, 0))) := Lib.hid ((B1.block _ (by omega)).trans HBX.out)
          have f1 : w1.frozen? ⟨W0.heap.size, 1, none⟩ = false := frozen_at HBX1.out _
          have e1 : w1.cell? ⟨W0.heap.size, 1, none⟩ = some (.string ByteArray.empty) := cell_at HBX1.out rfl
          have HX2 : Hid ((w1.setCell ⟨W0.heap.size, 1, none⟩ (.string (str J))).heap[W0.heap.size]? = some (.cells #[.int .i64 (k : Int), .string (str J), .bool q] LT (0, 0))) := Lib.hid (heap_set3 HBX1.out _)
          have HBW2 : Hid (Below W0.heap.size W0 (w1.setCell ⟨W0.heap.size, 1, none⟩ (.string (str J)))) := Lib.hid ((HBW.out.trans (B1.mono (by omega))).setCell (Nat.le_refl _) _)
          have g0 : (w1.setCell ⟨W0.heap.size, 1, none⟩ (.string (str J))).cell? ⟨W0.heap.size, 0, none⟩ = some (.int .i64 (k : Int)) := cell_at HX2.out rfl
          have g1 : (w1.setCell ⟨W0.heap.size, 1, none⟩ (.string (str J))).cell? ⟨W0.heap.size, 1, none⟩ = some (.string (str J)) := cell_at HX2.out rfl
          have g2 : (w1.setCell ⟨W0.heap.size, 1, none⟩ (.string (str J))).cell? ⟨W0.heap.size, 2, none⟩ = some (.bool q) := cell_at HX2.out rfl
          have HD := Lib.hid (do_any (w1.setCell ⟨W0.heap.size, 1, none⟩ (.string (str J))) lb P k J q (HH2.out.below HBW2.out) (by omega) (by omega))
          have hlb : lb < W0.heap.size := by obtain ⟨v, hv, _⟩ := HH2.out; exact hv.lt
          go_wp2_with fail
          refine HD.out.mono ?_
          rintro e w2 ⟨rfl, hH2, B2⟩
          have HH3 := Lib.hid hH2
          clear hH2
          go_wp2_with fail
          go_roundw
          case rel =>
            have hel := Ip.emit_le k q J
            refine ⟨sb, j, m, P ++ Ip.emit k q J, rfl, rfl, rfl, HH3.out, (HB.out.trans (HBW2.out.mono (Nat.le_of_lt hlb))).trans B2, by rw [List.length_append]; omega, hjS, fun h => ⟨(HTt.out h).1, by rw [List.append_assoc]; exact (HTt.out h).2⟩, HF.out⟩
          case measure => simp [intOf]; omega
end Go.Proofs.YtgednccpjegbmaaGreatDoor.Iw
