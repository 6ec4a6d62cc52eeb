/-
  (*Table).All: the variables, by rising names.
-/
import Derived.Shelf.SlIter.Nil
import Derived.Sort.OwnSorted
import Derived.Test.YtfbddbcedoofeaaShelf
import Derived.Test.YtfbddbcedoofeaaJPMay
namespace Go.Proofs.Ytfbddbcedoofeaa.Jw
open Go.RowKit Go.Proofs.Ytfbddbcedoofeaa Go.Proofs.Ytfbddbcedoofeaa.Ww Go.Proofs.Ytfbddbcedoofeaa.Tw Go.Proofs.Ytfbddbcedoofeaa.Kw Go.Maps Go.Shelf Go.Sort
set_option maxRecDepth 100000

theorem strKeys_mapOf {α : Type} (K : Kind α) (L : List (Bs × α)) : strKeys (Kp.mapOf K.enc L) = L.map (·.1) := by
  show ((L.map (Kp.ent K.enc)).map fun q => strOf q.1) = _
  rw [List.map_map]; rfl
theorem sorted_keys {α : Type} (K : Kind α) {L : List (Bs × α)} (hs : Kp.Sorted L) {ss : List (List UInt8)} (h : ss.Perm (strKeys (Kp.mapOf K.enc L))) : ss.mergeSort (fun x y => decide (x ≤ y)) = L.map (·.1) := by
  rw [strKeys_mapOf] at h
  have h2 : ss.mergeSort (fun x y => decide (x ≤ y)) = (L.map (·.1)).mergeSort (fun x y => decide (x ≤ y)) := mergeSort_of_perm h
  rw [h2]
  exact List.mergeSort_of_pairwise (List.pairwise_map.2 (hs.imp fun {a b} hab => by simpa using List.le_of_lt hab))
abbrev MK : TypeId := 53
theorem Keys_any (w : World) (m : Option Nat) : Calls Try.prog 26 #[.map m] w fun e w' =>
    e = .returned (.func (.func 35) #[] #[.pointer (some ⟨w.heap.size, 0, none⟩)]) ∧ w' = w.alloc (.cells #[.map m] MK) :=
  (callsIn_wide (n := 5)).1 (AnyZ.keys_in Try.laysKeys Fence.wide 5 trivial rfl m w)
theorem sorts (m : Nat) : AnyZ.SortsIn Try.prog Try.laysSorted_ren Fence.wide m :=
  ⟨fun blk off cap ss W hH hblk hsz => callsIn_wide.2 (Try.slices_Sort_string blk off cap ss W hH hblk hsz),
   fun p cap W => callsIn_wide.2 (Try.slices_Sort_string_none p cap W)⟩
/-- The keys as a row. -/
def keysC (E : List (Bs × KE)) : List Value := nC (E.map (·.1))
set_option maxHeartbeats 1000000 in
theorem Sorted_any (w : World) {m : Option Nat} {E : List (Bs × KE)} (hM : MOpt KK w m E) (hl : E.length ≤ 1000000) :
    Calls Try.prog 25 #[.func (.func 35) #[] #[.pointer (some ⟨w.heap.size, 0, none⟩)]] (w.alloc (.cells #[.map m] MK)) fun e w' =>
      ∃ v, e = .returned v ∧ w'.ownsRow (w.alloc (.cells #[.map m] MK)).heap.size 9 1 v E.length (keysC E) ∧ Below (w.alloc (.cells #[.map m] MK)).heap.size (w.alloc (.cells #[.map m] MK)) w' := by
  have hs := hM.sorted
  have henc : ∀ ss : List (List UInt8), ss.map encStr = nC ss := fun ss => by simp [nC, str]
  cases m with
  | none =>
    obtain rfl : E = [] := hM
    have hseq : SeqGives Fence.wide 2 Try.prog 35 #[.pointer (some ⟨w.heap.size, 0, none⟩)] encStr (fun ss : List (List UInt8) => ss = []) 0 (w.alloc (.cells #[.map none] MK)) :=
      AnyZ.keys_gives_nil (ρ := Try.laysKeys_ren) { Try.laysKeys with } Fence.wide _ trivial rfl w.heap.size _ (by simp) (by simp)
    have h := AnyZ.sorted_in Try.laysSorted Fence.wide 5 trivial trivial trivial trivial rfl (by omega) (sorts _) (enters_of Try.func34 (by kernel_rfl) rfl) 35 #[.pointer (some ⟨w.heap.size, 0, none⟩)] trivial (enters_of Try.func35 (by kernel_rfl) rfl) _ _ (by unfold maxLen; omega) (by omega) _ hseq
    refine ((callsIn_wide (n := 5)).1 h).mono ?_
    rintro e w' ⟨v, ss, rfl, hS, hrow, _, hb⟩
    obtain rfl : ss = [] := hS
    rw [List.mergeSort_nil] at hrow
    exact ⟨v, rfl, hrow, hb⟩
  | some bm =>
    have hM : MapAt KK w bm E := hM
    have hbl := hM.lt
    have hown := hM.own
    have hmax : Maps.size (Kp.mapOf KK.enc E) ≤ maxLen := by rw [Kp.size_mapOf]; unfold maxLen; omega
    have hbytes : Maps.size (Kp.mapOf KK.enc E) * 16 ≤ 140737488355328 := by rw [Kp.size_mapOf]; omega
    have hseq : SeqGives Fence.wide 2 Try.prog 35 #[.pointer (some ⟨w.heap.size, 0, none⟩)] encStr (fun ss => ss.Perm (strKeys (Kp.mapOf KK.enc E))) (Maps.size (Kp.mapOf KK.enc E)) (w.alloc (.cells #[.map (some bm)] MK)) :=
      AnyZ.keys_gives (ρ := Try.laysKeys_ren) { Try.laysKeys with } Fence.wide _ trivial rfl (by omega) w.heap.size bm _ (Kp.mapOf KK.enc E) _ (by simp) (by simp) ((hM.alloc _).own)
    have h := AnyZ.sorted_in Try.laysSorted Fence.wide 5 trivial trivial trivial trivial rfl (by omega) (sorts _) (enters_of Try.func34 (by kernel_rfl) rfl) 35 #[.pointer (some ⟨w.heap.size, 0, none⟩)] trivial (enters_of Try.func35 (by kernel_rfl) rfl) _ _ hmax hbytes _ hseq
    refine ((callsIn_wide (n := 5)).1 h).mono ?_
    rintro e w' ⟨v, ss, rfl, hS, hrow, _, hb⟩
    refine ⟨v, rfl, ?_, hb⟩
    have hlen : ss.length = E.length := by rw [hS.length_eq, strKeys_mapOf]; simp
    rw [sorted_keys KK hs hS, hlen, henc] at hrow
    exact hrow
theorem infoPV : (Try.prog.info? PV).map (fun i => (i.zero, i.size, i.bytes)) = some (some (.agg #[.string ByteArray.empty, .string ByteArray.empty, .bool false, .int .i64 0]), 4, 48) := by kernel_rfl
theorem field_var (a b c d e : Value) (w : World) : (Instr.field PK (.agg #[a, b, c, d, e]) 0).run Try.prog w = .ok (.agg #[a, b, c, d]) w := by kernel_rfl
/-- What All returns. -/
def APost (w : World) (L : List Jp.V) (e : Ending) (w' : World) : Prop := ∃ v, e = .returned v ∧ w'.ownsRow w.heap.size PV 4 v L.length (vsC L) ∧ Below w.heap.size w w'
theorem PAll_nil (w : World) : Calls Try.prog 10 #[.pointer none] w fun e w' => e = .returned (.slice none 0 0) ∧ w = w' := by
  go_enter Try.func10, Try.ntmps10
  go_wp2
  go_ret
  exact ⟨rfl, rfl⟩
def ARel (W : World) (E : List (Bs × KE)) (vo vi : Value) (wr : World) : Prop :=
  ∃ (i : Nat) (a : Option Addr) (c : Nat), vi = .int .i64 i ∧ i ≤ E.length ∧ vo = .slice a i c ∧ wr.ownsRow W.heap.size PV 4 (.slice a i c) i (vsC ((E.take i).map fun e => e.2.v)) ∧ Below W.heap.size W wr
set_option maxHeartbeats 4000000 in
/-- (*Table).All. -/
theorem PAll_any (w : World) {tb : Nat} {X : List Nat} {L : List Jp.V} {M : List (Bs × Int)} {all : Bool} (h : Tab w tb X L M all) (hl : L.length ≤ 100000) (hzs : ∀ v ∈ L, v.n.length ≤ 1000000) :
    Calls Try.prog 10 #[.pointer (some ⟨tb, 0, none⟩)] w (APost w L) := by
  obtain ⟨i0, hi0, hq0, hq1, hq2⟩ := info_parts infoPV
  obtain ⟨E, mv, mn, O, h, rfl⟩ := h
  have hlE : E.length ≤ 100000 := by simpa using hl
  have c0 := h.c0
  have hlt := h.lt
  have hBa := (Below.refl w.heap.size w).alloc (Nat.le_refl _) (.cells #[.map mv] MK)
  have HSo := Lib.hid (Sorted_any w h.vars (by omega))
  have H := Lib.hid h
  have hs := h.vars.sorted
  have hk := h.keys
  have hff := fun a b c d e (wx : World) => field_var a b c d e wx
  clear h hl
  go_enter Try.func10, Try.ntmps10
  go_wp2_with fail
  refine (Keys_any _ mv).mono ?_
  rintro e w1 ⟨rfl, rfl⟩
  go_wp2_with fail
  refine HSo.out.mono ?_
  rintro e w2 ⟨vk, rfl, hrow, hB2⟩
  have hlen : (E.map (·.1)).length = E.length := by simp
  rw [← hlen] at hrow
  have HRow : Hid (w2.ownsRow (w.alloc (.cells #[.map mv] MK)).heap.size ST 1 vk (E.map (·.1)).length (nC (E.map (·.1)))) := Lib.hid hrow
  obtain ⟨ak, ck, hvk⟩ := owns_slice hrow
  rw [hlen] at hvk
  subst hvk
  have hBW := hBa.trans (hB2.mono hBa.size)
  have HT := Lib.hid (H.out.below hBW)
  clear hrow hlen c0 H HSo hB2
  go_wp2_with fail
  go_loopw [3, 15] (fun vo vi wr => ARel w2 E vo vi wr) (fun _ vi _ => E.length - (intOf vi).toNat)
  case atStart => exact ⟨0, none, 0, rfl, Nat.zero_le _, rfl, World.ownsRow_nil _ _ _ _, Below.refl _ _⟩
  case round =>
    obtain ⟨i, a, c, rfl, hi, rfl, hro, hB⟩ := hrel
    have HRO := Lib.hid hro
    have HB := Lib.hid hB
    have hws := hB.size
    clear hro
    by_cases hlt2 : i < E.length
    · have hrow2 := HRow.out
      rw [show (E.map (·.1)).length = E.length by simp] at hrow2
      have hrow3 : w2.ownsRow (w.alloc (.cells #[.map mv] MK)).heap.size ST 1 (.slice ak (E.map (·.1)).length ck) (E.map (·.1)).length (nC (E.map (·.1))) := by rw [show (E.map (·.1)).length = E.length by simp]; exact hrow2
      obtain ⟨g, hga, hcap, hgl, _, x0⟩ := name_cell hrow3 (i := i) (by simpa using hlt2)
      subst hga
      have x0 : w2.cell? ⟨g, i, none⟩ = some (.string (str E[i].1)) := by simpa using x0
      have p0 := (hB.cell (p := ⟨g, i, none⟩) hgl).trans x0
      have hT := HT.out.below hB
      have d0 := hT.c0
      have hltr := hT.lt
      have hMn := hT.vars
      have hmem : E[i] ∈ E := List.getElem_mem hlt2
      have hval : valA KK E E[i].1 = E[i].2 := by unfold valA; rw [Kp.get_of_mem hs hmem]; rfl
      have hkx := hk _ hmem
      have hzx := hzs E[i].2.v (List.mem_map.2 ⟨_, hmem, rfl⟩)
      have htk : (E.take (i + 1)).map (fun e => e.2.v) = (E.take i).map (fun e => e.2.v) ++ [E[i].2.v] := by rw [List.take_succ_eq_append_getElem hlt2, List.map_append]; rfl
      have hki : (i : Int) < E.length := by omega
      have hk0 : (0 : Int) ≤ (i : Int) := Int.natCast_nonneg _
      have hgr : g < wr.heap.size := Nat.lt_of_lt_of_le hgl hws
      generalize E[i] = x at *
      obtain ⟨k, v, gg⟩ := x
      dsimp only at *
      subst hkx
      obtain ⟨q, hq⟩ : ∃ q, gP gg = .pointer q := ⟨_, rfl⟩
      have hps : (str v.n).size ≤ maxLen := by rw [str_size]; unfold maxLen; omega
      have hV : Hid (KK.val (valA KK E (by8 (str v.n))) = .agg #[.string (str v.n), .string (str v.x), .bool v.s, .int .i64 v.f, .pointer q]) := Lib.hid (by rw [by8_str, hval, ← hq]; rfl)
      have HTK := Lib.hid htk
      have hf1 := fun (wx : World) => hff (.string (str v.n)) (.string (str v.x)) (.bool v.s) (.int .i64 v.f) (.pointer q) wx
      clear htk hval hmem x0 hrow2 hrow3 hT hff hB
      go_wp2_with (first
        | (at_lookup; refine wpList_look (K := KK) _ rfl _ _ rfl rfl rfl hMn hps (.agg #[.string (str v.n), .string (str v.x), .bool v.s, .int .i64 v.f, .pointer q]) hV ?_)
        | (at_builtin; refine wpList_append_own_at _ rfl _ _ 38 rfl w2.heap.size PV i0 (.agg #[.string ByteArray.empty, .string ByteArray.empty, .bool false, .int .i64 0]) 4 48 Try.underlying38 hi0 hq0 hq1 hq2 rfl (by decide) _ _ _ rfl (HRO.out.alloc _) ⟨wr.heap.size, 0, none⟩ 1 1 (vC v) rfl rfl (cells_new _ #[.string (str v.n), .string (str v.x), .bool v.s, .int .i64 v.f] _ rfl) (by simp [vC, Value.oneCell']) (by unfold maxLen; omega) (by omega) (by simp; omega) ?_; intro v4 w4 hown4 hgrow4 _ hat4; obtain ⟨a4, c4, rfl⟩ := owns_slice hown4))
      go_roundw
      case rel => exact ⟨i + 1, a4, c4, by go_num, hlt2, rfl, by rw [HTK.out, vsC_snoc]; exact hown4, (HB.out.alloc hws _).grown hgrow4 (by simp; omega) (fun j ej => (HRO.out.lt j ej).1)⟩
      case measure => simp [intOf]; omega
    · obtain rfl : i = E.length := by omega
      have hki : ¬ (E.length : Int) < E.length := by omega
      have hro := HRO.out
      rw [List.take_length] at hro
      have HRO2 := Lib.hid hro
      clear hro hB
      go_wp2_with fail
      go_ret
      refine ⟨_, rfl, ?_, hBW.trans (HB.out.mono hBW.size)⟩
      rw [List.length_map]
      exact own_mono HRO2.out hBW.size
end Go.Proofs.Ytfbddbcedoofeaa.Jw
