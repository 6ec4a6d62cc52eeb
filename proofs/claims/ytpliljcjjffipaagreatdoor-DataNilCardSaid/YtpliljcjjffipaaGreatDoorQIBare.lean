/-
  words.Trim: a text without the blanks at its ends.
  lines.uncomment.
-/
import Derived.Lib.SlTrimSet
import Derived.Test.YtpliljcjjffipaaGreatDoorQIBuild
import Derived.Test.YtpliljcjjffipaaGreatDoorQWWords
namespace Go.Proofs.YtpliljcjjffipaaGreatDoor.Iw
open Go.RowKit Go.Proofs.YtpliljcjjffipaaGreatDoor Go.Proofs.YtpliljcjjffipaaGreatDoor.Ww
set_option maxRecDepth 100000

def trimT (s : ByteArray) : ByteArray := ⟨(Lib.trimS (by8 s) [32, 9, 10]).toArray⟩
theorem infoA2 : (Tryz.prog.info? (Tryz.laysTrim_ren.t 116)).map (fun i => (i.zero, i.size)) = some (some (.agg (Array.replicate 256 (.bool false))), 256) := by kernel_rfl
theorem Trim_any (w : World) (s : ByteArray) (hs : s.size ≤ 1000000) :
    Calls Tryz.prog 109 #[.string s] w fun e w' => e = .returned (.string (trimT s)) ∧ Below w.heap.size w w' := by
  go_enter Tryz.func109, Tryz.ntmps109
  go_wp2_with fail
  refine (Any.strings_Trim_laid Tryz.laysTrim infoA2 s ⟨#[32, 9, 10]⟩ w (by omega) (by decide) (fun j b h => by
    match j, h with
    | 0, h => obtain rfl := Option.some.inj h; decide
    | 1, h => obtain rfl := Option.some.inj h; decide
    | 2, h => obtain rfl := Option.some.inj h; decide)).mono ?_
  rintro e w' ⟨rfl, hB⟩
  go_wp2_with fail
  go_ret
  exact ⟨rfl, hB⟩

end Go.Proofs.YtpliljcjjffipaaGreatDoor.Iw
namespace Go.Proofs.YtpliljcjjffipaaGreatDoor.Iw
open Go.RowKit Go.Proofs.YtpliljcjjffipaaGreatDoor Go.Proofs.YtpliljcjjffipaaGreatDoor.Ww
set_option maxRecDepth 100000

set_option maxHeartbeats 1000000 in
theorem WriteByte_any (w : World) {T : TypeId} {b k B : Nat} {l : Bs} {pv bv : Value} {cs : Array Value} (h : BAt w T b k B l pv bv cs) (c : UInt8) (hl : l.length + 1 ≤ 1000000000000) (hBw : B ≤ w.heap.size) :
    Calls Tryz.prog 173 #[.pointer (some ⟨b, k, none⟩), .int .u8 (c.toNat : Int)] w fun e w' => e = .returned .nilIface ∧
      ∃ bv', BAt w' T b k B (l ++ [c]) (.pointer (some ⟨b, k, none⟩)) bv' ((cs.setIfInBounds k (.pointer (some ⟨b, k, none⟩))).setIfInBounds (k + 1) bv') ∧ Kept (b :: bv.ownBlock.toList) w w' := by
  obtain ⟨i0, hi, hz0, hz1, hz2⟩ := info_parts infoU
  have HC := Lib.hid (copy_any w h)
  have hk : k + 1 < cs.size := by
    have := (Array.getElem?_eq_some_iff.1 h.buf).1
    exact this
  clear h
  go_enter Tryz.func173, Tryz.ntmps173
  go_wp2_with (go_at_call 205; refine HC.out.mono ?_)
  rintro e w1 ⟨rfl, h1, hK1⟩
  have hno := h1.not_own
  have c0 : w1.cell? ⟨b, k, none⟩ = some (.pointer (some ⟨b, k, none⟩)) := cell_at h1.cells h1.ptr
  have c1 : w1.cell? ⟨b, k + 1, none⟩ = some bv := cell_at h1.cells h1.buf
  have hlt1 := h1.lt
  go_wp2_with (at_builtin; refine wpList_append_own _ rfl _ _ 137 rfl B U8 i0 (.int .u8 0) 1 1 Tryz.underlying137 hi hz0 hz1 hz2 rfl (by decide) _ _ _ rfl (h1.own.alloc _) ⟨w1.heap.size, 0, none⟩ 1 1 [.int .u8 (c.toNat : Int)] rfl rfl (one_new _ _ _) (by simp [Value.oneCell']) (by unfold maxLen; omega) (by omega) (by have := hK1.size; simp; omega) ?_)
  intro v' w2 hown' hgrow _
  have hb2 : w2.heap[b]? = some (.cells (cs.setIfInBounds k (.pointer (some ⟨b, k, none⟩))) T (0, 0)) := (hgrow.block b (by simp; omega) (fun e => hno e.symm)).trans ((((Below.refl w1.heap.size w1).alloc (Nat.le_refl _) _).block b hlt1).trans h1.cells)
  have f1 : w2.frozen? ⟨b, k + 1, none⟩ = false := frozen_at hb2 _
  have d1 : w2.cell? ⟨b, k + 1, none⟩ = some bv := cell_at hb2 h1.buf
  have hlt2 : b < w2.heap.size := Nat.lt_of_lt_of_le hlt1 (Nat.le_trans (by simp) hgrow.size)
  obtain ⟨ao, n', rfl⟩ := owns_slice hown'
  go_wp2
  go_ret
  have hlen : (l ++ [c]).length = l.length + 1 := by rw [List.length_append]; rfl
  have hcells : Lib.byteCells (l ++ [c]) = Lib.byteCells l ++ [.int .u8 (c.toNat : Int)] := by simp [Lib.byteCells]
  have hne' : (Value.slice ao (l.length + 1) n').ownBlock ≠ some b := Lib.ownBlock_ne hown' hb2 h1.ne
  refine ⟨rfl, _, ⟨heap_set3 hb2 _, ?_, by simp [hk], .inr rfl, ?_, by simpa using h1.lies, h1.ne⟩, ?_⟩
  · rw [Array.getElem?_setIfInBounds_ne (by omega)]; exact h1.ptr
  · rw [hlen, hcells]
    exact hown'.kept (row := some b) ⟨rfl, rfl, rfl, by simp [World.setCell], fun j _ hj => Below.heap_setCell _ _ _ _ (fun e => hj (by simp [e]))⟩ (Or.inr hne')
  · refine (((hK1.mono (Y := b :: bv.ownBlock.toList) (fun i hi => by simp at hi; simp [hi])).alloc _).grown hgrow (fun r hr => .inl (by simp [hr]))).setCell (.inl (by simp)) _

theorem suffix_yes {a : Bs} {c : UInt8} : Lib.hasSuffix (a ++ [c]) [c] = true := by
  unfold Lib.hasSuffix
  rw [List.isSuffixOf_iff_suffix]; exact ⟨a, rfl⟩
theorem suffix_no {a : Bs} {c : UInt8} (h : a.getLast? ≠ some c) : Lib.hasSuffix a [c] = false := by
  cases hs : Lib.hasSuffix a [c] with
  | false => rfl
  | true =>
    unfold Lib.hasSuffix at hs
    rw [List.isSuffixOf_iff_suffix] at hs
    obtain ⟨p, rfl⟩ := hs
    exact absurd (by simp) h
theorem Suf_yes (w : World) (a : Bs) (hs : a.length ≤ 1000000) : Calls Tryz.prog 172 #[.string (str (a ++ [92])), .string ⟨#[92]⟩] w fun e w' => e = .returned (.tuple #[.string (str a), .bool true]) ∧ w = w' :=
  (Tryz.strings_CutSuffix (str (a ++ [92])) ⟨#[92]⟩ w (by rw [str_size]; simp; omega)).mono fun e w' ⟨he, hw⟩ => by
    refine ⟨?_, hw.symm⟩
    have h1 : Lib.hasSuffix (str (a ++ [92])).data.toList (⟨#[92]⟩ : ByteArray).data.toList = true := suffix_yes
    have h2 : Lib.trimSuffix (str (a ++ [92])).data.toList (⟨#[92]⟩ : ByteArray).data.toList = a := by
      unfold Lib.trimSuffix
      rw [h1, if_pos rfl]
      show List.take ((a ++ [92]).length - 1) (a ++ [92]) = a
      simp
    rw [he, h1, h2]; rfl
theorem Suf_no (w : World) (s : ByteArray) (hs : s.size ≤ 1000000) (h : (by8 s).getLast? ≠ some 92) : Calls Tryz.prog 172 #[.string s, .string ⟨#[92]⟩] w fun e w' => e = .returned (.tuple #[.string s, .bool false]) ∧ w = w' :=
  (Tryz.strings_CutSuffix s ⟨#[92]⟩ w (by omega)).mono fun e w' ⟨he, hw⟩ => by
    refine ⟨?_, hw.symm⟩
    have h1 : Lib.hasSuffix s.data.toList (⟨#[92]⟩ : ByteArray).data.toList = false := suffix_no h
    have h2 : Lib.trimSuffix s.data.toList (⟨#[92]⟩ : ByteArray).data.toList = by8 s := by
      unfold Lib.trimSuffix
      rw [h1]; rfl
    rw [he, h1, h2]; rfl
theorem Suf_any (w : World) (s : ByteArray) (hs : s.size ≤ 1000000) : ∃ (t : ByteArray) (b : Bool), Calls Tryz.prog 172 #[.string s, .string ⟨#[92]⟩] w fun e w' => e = .returned (.tuple #[.string t, .bool b]) ∧ w = w' :=
  ⟨_, _, (Tryz.strings_CutSuffix s ⟨#[92]⟩ w (by omega)).mono fun e w' ⟨he, hw⟩ => ⟨he, hw.symm⟩⟩

/-- Where the loop stands: the builder in block n. -/
def UnRel (w : World) (n : Nat) (s : ByteArray) (vs : Value) (wr : World) : Prop :=
  ∃ (sb : ByteArray) (l : Bs) (pv bv : Value) (cs : Array Value), vs = .string sb ∧ BAt wr BT n 0 n l pv bv cs ∧ cs.size = 2 ∧ l.length + sb.size ≤ s.size ∧ l.getLast? ≠ some 92 ∧ Ip.bareA l (by8 sb) = Ip.bareA [] (by8 s) ∧ Below n w wr

def strV : Value → ByteArray | .string b => b | _ => ByteArray.empty
theorem BAt.own_ge {w : World} {T : TypeId} {b k B : Nat} {l : Bs} {pv bv : Value} {cs : Array Value} (h : BAt w T b k B l pv bv cs) : ∀ i ∈ bv.ownBlock.toList, B ≤ i := fun i hi => (h.own.lt i (by simpa using hi)).1
theorem BAt.kept_below {w w' : World} {T : TypeId} {b k B : Nat} {l : Bs} {pv bv : Value} {cs : Array Value} (h : BAt w T b k B l pv bv cs) (hB : Below w.heap.size w w') : BAt w' T b k B l pv bv cs :=
  ⟨(hB.block b h.lt).trans h.cells, h.ptr, h.buf, h.used, by
    refine ⟨h.own.1, ?_⟩
    rcases h.own.2 with h | ⟨g, cap, cur, h1, h2, h3, h4⟩
    · exact .inl h
    · exact .inr ⟨g, cap, cur, h1, h2, (hB.block g (Array.getElem?_eq_some_iff.1 h3).1).trans h3, h4⟩, h.lies, h.ne⟩

set_option maxHeartbeats 4000000 in
theorem uncomment_any (w : World) (s : ByteArray) (hs : s.size ≤ 1000000) :
    Calls Tryz.prog 110 #[.string s] w fun e w' => e = .returned (.string (str (Ip.bareA [] (by8 s)))) ∧ Below w.heap.size w w' := by
  go_enter Tryz.func110, Tryz.ntmps110
  go_wp2_with fail
  go_loopw [0] (fun vs wr => UnRel w w.heap.size s vs wr) (fun vs _ => (strV vs).size)
  case atStart =>
    refine ⟨s, [], .pointer none, .slice none 0 0, #[.pointer none, .slice none 0 0], rfl, ⟨World.alloc_heap_new w _, rfl, rfl, .inl rfl, World.ownsRow_nil _ _ _ _, liesB, by decide⟩, rfl, by simp, by simp, rfl, (Below.refl _ w).alloc (Nat.le_refl _) _⟩
  case round =>
    obtain ⟨sb, l, pv, bv, cs, rfl, hA, hcs, hl, h92, hE, hB⟩ := hrel
    have hBw := hB.size
    rcases index_ways 35 (by8 sb) with ⟨hno, _⟩ | ⟨a, b, hab, ha, _⟩
    · have HC : Hid (∀ W : World, Calls Tryz.prog 94 #[.string sb, .string ⟨#[35]⟩] W fun e w' => e = .returned (.tuple #[.string sb, .string ByteArray.empty, .bool false]) ∧ Below W.heap.size W w') := Lib.hid fun W => Cut_no W sb 35 hno
      have HS : Hid (∀ W : World, ∃ (t : ByteArray) (b : Bool), Calls Tryz.prog 172 #[.string sb, .string ⟨#[92]⟩] W fun e w' => e = .returned (.tuple #[.string t, .bool b]) ∧ W = w') := Lib.hid fun W => Suf_any W sb (by omega)
      have HE : Hid (Ip.bareA [] (by8 s) = l ++ by8 sb) := Lib.hid (by rw [← hE, Ip.bareA_all hno])
      have HA := Lib.hid hA
      have HB := Lib.hid hB
      clear hE h92 hno hA hB
      go_wp2_with fail
      refine (HC.out _).mono ?_
      rintro e w1 ⟨rfl, B1⟩
      have HA1 := Lib.hid (HA.out.kept_below B1)
      have HW := Lib.hid (WriteString_any w1 HA1.out sb (by omega) (by have := B1.size; omega))
      obtain ⟨t, q, hS⟩ := HS.out w1
      go_wp2_with fail
      refine hS.mono ?_
      rintro e w' ⟨rfl, rfl⟩
      go_wp2_with fail
      refine HW.out.mono ?_
      rintro e w2 ⟨rfl, bv2, hA2, K2⟩
      have HA2 := Lib.hid hA2
      have HT := Lib.hid (String_any w2 hA2)
      clear hA2
      go_wp2_with fail
      refine HT.out.mono ?_
      rintro e w3 ⟨rfl, K3⟩
      go_wp2_with fail
      go_ret
      refine ⟨by rw [HE.out]; rfl, ?_⟩
      refine (HB.out.trans (B1.mono hBw)).trans (((K2.to_below (B := w.heap.size) (Nat.le_trans hBw B1.size) (fun i hi => ?_)).trans (K3.to_below (B := w.heap.size) (Nat.le_trans (Nat.le_trans hBw B1.size) K2.size) (fun i hi => HA2.out.own_ge i hi))))
      rcases List.mem_cons.1 hi with rfl | hi
      · exact Nat.le_refl _
      · exact HA1.out.own_ge i hi
    · have hsb : a.length + b.length + 1 = sb.size := by rw [← by8_len, hab]; simp; omega
      have HC : Hid (∀ W : World, Calls Tryz.prog 94 #[.string sb, .string ⟨#[35]⟩] W fun e w' => e = .returned (.tuple #[.string (str a), .string (str b), .bool true]) ∧ Below W.heap.size W w') := Lib.hid fun W => Cut_yes W sb (by omega) 35 a b hab ha
      have HA := Lib.hid hA
      have HB := Lib.hid hB
      by_cases hq : a.getLast? = some 92
      · obtain ⟨a', rfl⟩ : ∃ a', a = a' ++ [92] := List.getLast?_eq_some_iff.1 hq
        have hsb' : a'.length + 1 + b.length + 1 = sb.size := by simpa using hsb
        have HS : Hid (∀ W : World, Calls Tryz.prog 172 #[.string (str (a' ++ [92])), .string ⟨#[92]⟩] W fun e w' => e = .returned (.tuple #[.string (str a'), .bool true]) ∧ W = w') := Lib.hid fun W => Suf_yes W a' (by omega)
        have HE : Hid (Ip.bareA (l ++ a' ++ [35]) b = Ip.bareA [] (by8 s)) := Lib.hid (by
          rw [← hE, hab, Ip.bareA_kept ha hq]; simp)
        have hsz : (str a').size = a'.length := str_size a'
        have HSZ := Lib.hid hsz
        clear hE h92 hab ha hA hB hq hsz
        go_wp2_with fail
        refine (HC.out _).mono ?_
        rintro e w1 ⟨rfl, B1⟩
        have HA1 := Lib.hid (HA.out.kept_below B1)
        have HW := Lib.hid (WriteString_any w1 HA1.out (str a') (by rw [HSZ.out]; omega) (by have := B1.size; omega))
        go_wp2_with fail
        refine (HS.out _).mono ?_
        rintro e w' ⟨rfl, rfl⟩
        go_wp2_with fail
        refine HW.out.mono ?_
        rintro e w2 ⟨rfl, bv2, hA2, K2⟩
        have HA2 := Lib.hid hA2
        have HT := Lib.hid (WriteByte_any w2 hA2 35 (by rw [List.length_append, by8_len, HSZ.out]; omega) (by have := B1.size; have := K2.size; omega))
        clear hA2
        go_wp2_with fail
        refine HT.out.mono ?_
        rintro e w3 ⟨rfl, bv3, hA3, K3⟩
        have HA3 := Lib.hid hA3
        clear hA3
        go_wp2_with fail
        go_roundw
        case rel =>
          refine ⟨str b, _, _, _, _, rfl, HA3.out, by simp [hcs], ?_, by simp, HE.out, ?_⟩
          · rw [List.length_append, List.length_append, by8_len, HSZ.out, str_size]; simp; omega
          · refine (HB.out.trans (B1.mono hBw)).trans (((K2.to_below (B := w.heap.size) (Nat.le_trans hBw B1.size) (fun i hi => ?_)).trans (K3.to_below (B := w.heap.size) (Nat.le_trans (Nat.le_trans hBw B1.size) K2.size) (fun i hi => ?_))))
            · rcases List.mem_cons.1 hi with rfl | hi
              · exact Nat.le_refl _
              · exact HA1.out.own_ge i hi
            · rcases List.mem_cons.1 hi with rfl | hi
              · exact Nat.le_refl _
              · exact HA2.out.own_ge i hi
        case measure => show (str b).size < sb.size; rw [str_size]; omega
      · have HS : Hid (∀ W : World, Calls Tryz.prog 172 #[.string (str a), .string ⟨#[92]⟩] W fun e w' => e = .returned (.tuple #[.string (str a), .bool false]) ∧ W = w') := Lib.hid fun W => Suf_no W (str a) (by rw [str_size]; omega) hq
        have HE : Hid (Ip.bareA [] (by8 s) = l ++ a) := Lib.hid (by
          rw [← hE, hab, Ip.bareA_end ha h92 hq])
        have HSZ := Lib.hid (str_size a)
        clear hE h92 hab ha hA hB hq
        go_wp2_with fail
        refine (HC.out _).mono ?_
        rintro e w1 ⟨rfl, B1⟩
        have HA1 := Lib.hid (HA.out.kept_below B1)
        have HW := Lib.hid (WriteString_any w1 HA1.out (str a) (by rw [HSZ.out]; omega) (by have := B1.size; omega))
        go_wp2_with fail
        refine (HS.out _).mono ?_
        rintro e w' ⟨rfl, rfl⟩
        go_wp2_with fail
        refine HW.out.mono ?_
        rintro e w2 ⟨rfl, bv2, hA2, K2⟩
        have HA2 := Lib.hid hA2
        have HT := Lib.hid (String_any w2 hA2)
        clear hA2
        go_wp2_with fail
        refine HT.out.mono ?_
        rintro e w3 ⟨rfl, K3⟩
        go_wp2_with fail
        go_ret
        refine ⟨by rw [HE.out]; rfl, ?_⟩
        refine (HB.out.trans (B1.mono hBw)).trans (((K2.to_below (B := w.heap.size) (Nat.le_trans hBw B1.size) (fun i hi => ?_)).trans (K3.to_below (B := w.heap.size) (Nat.le_trans (Nat.le_trans hBw B1.size) K2.size) (fun i hi => HA2.out.own_ge i hi))))
        rcases List.mem_cons.1 hi with rfl | hi
        · exact Nat.le_refl _
        · exact HA1.out.own_ge i hi
end Go.Proofs.YtpliljcjjffipaaGreatDoor.Iw
