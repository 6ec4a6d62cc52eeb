/-
  flatironref04.Join: words with one blank between.
-/
import Derived.Lib.AppendStr
import Derived.Lib.Join
import Derived.Test.YtenokbceamcekaaGreatDoorQESplit
namespace Go.Proofs.YtenokbceamcekaaGreatDoor.Ew
open Go.RowKit Go.Proofs.YtenokbceamcekaaGreatDoor Go.Proofs.YtenokbceamcekaaGreatDoor.Ww
set_option maxRecDepth 100000

abbrev U8 : TypeId := 5
theorem infoU : (Tryz.prog.info? U8).map (fun i => (i.zero, i.size, i.bytes)) = some (some (.int .u8 0), 1, 1) := by kernel_rfl
theorem one_new (wr : World) (x : Value) (T : TypeId) : ∀ (j : Nat) (u : Value), [x][j]? = some u → (wr.alloc (.cells #[x] T)).cell? ((⟨wr.heap.size, 0, none⟩ : Addr).add j) = some u := by
  intro j u hj
  rw [Addr.add_lit, World.cell?_alloc_at _ _ _ _ (by simp)]
  match j, hj with
  | 0, hj => simpa using hj

def joinS (xs : List ByteArray) : ByteArray := ⟨(Lib.join (xs.map (·.data.toList)) [32]).toArray⟩
def jn (l : List ByteArray) : List UInt8 := Lib.join (l.map (·.data.toList)) [32]
theorem joinS_is (l : List ByteArray) : joinS l = ⟨(jn l).toArray⟩ := rfl
theorem jn_nil : jn [] = [] := rfl
theorem jn_first {l : List ByteArray} (h : 0 < l.length) : jn (l.take (0 + 1)) = l[0].data.toList := by
  rw [List.take_succ_eq_append_getElem h]
  simp [jn, Lib.join_one]
theorem jn_next {l : List ByteArray} {k : Nat} (h : k < l.length) (h0 : 0 < k) : jn (l.take (k + 1)) = jn (l.take k) ++ [32] ++ l[k].data.toList := by
  rw [List.take_succ_eq_append_getElem h]
  cases hr : l.take k with
  | nil =>
    have := congrArg List.length hr
    rw [List.length_take, List.length_nil] at this; omega
  | cons x r =>
    simp [jn, Lib.join_cons, Lib.joinTail]
theorem jn_len : ∀ (l : List ByteArray), (∀ x ∈ l, x.size ≤ 100000) → ∀ k, k ≤ l.length → (jn (l.take k)).length ≤ k * 100001
  | l, _, 0, _ => by simp [jn, Lib.join, List.intercalate]
  | l, h, k + 1, hk => by
    have hlt : k < l.length := by omega
    have hs := h _ (List.getElem_mem hlt)
    have hd : l[k].data.toList.length = l[k].size := (Lib.size_eq _).symm
    rcases Nat.eq_zero_or_pos k with rfl | h0
    · rw [jn_first hlt]; omega
    · have ih := jn_len l h k (by omega)
      rw [jn_next hlt h0, List.length_append, List.length_append]
      simp only [List.length_singleton]; omega

def bytesC (l : List UInt8) : List Value := l.map fun b => Value.int .u8 (b.toNat : Int)
theorem bytesC_app (a b : List UInt8) : bytesC (a ++ b) = bytesC a ++ bytesC b := by simp [bytesC]
theorem bytesC_str (s : ByteArray) : Lib.strCells s = bytesC s.data.toList := rfl

/-- What the loop's head knows. -/
def JnRel (w : World) (l : List ByteArray) (v i : Value) (wr : World) : Prop :=
  ∃ (k : Nat) (q : List UInt8) (a : Option Addr) (c : Nat), k ≤ l.length ∧ i = .int .i64 k ∧ v = .slice a q.length c ∧ q = jn (l.take k) ∧ q.length ≤ k * 100001 ∧
    wr.ownsRow w.heap.size U8 1 (.slice a q.length c) q.length (bytesC q) ∧ Below w.heap.size w wr
theorem JnRel.next {w w1 : World} {l : List ByteArray} {k m : Nat} {q' : List UInt8} {a : Option Addr} {c : Nat} (hk : k < l.length) (hq : q' = jn (l.take (k + 1))) (hm : q'.length = m) (hl : m ≤ (k + 1) * 100001)
    (hr : w1.ownsRow w.heap.size U8 1 (.slice a m c) m (bytesC q')) (hB : Below w.heap.size w w1) : JnRel w l (.slice a m c) (.int .i64 ((k : Int) + 1)) w1 := by
  subst hm
  exact ⟨k + 1, q', a, c, hk, by go_num, rfl, hq, hl, hr, hB⟩

set_option maxHeartbeats 2000000 in
theorem RJoin_any (w : World) (v : Value) (l : List ByteArray) (hr : Rd w w.heap.size v (strsC l)) (hl : l.length ≤ 100000) (hs : ∀ x ∈ l, x.size ≤ 100000) :
    Calls Tryz.prog 13 #[v] w fun e w' => e = .returned (.string (joinS l)) ∧ Below w.heap.size w w' := by
  obtain ⟨i0, hi, hz0, hz1, hz2⟩ := info_parts infoU
  have HR := Lib.hid hr
  obtain ⟨a0, c0, rfl, hc0⟩ := hr.shape
  have HS := Lib.hid hs
  clear hs hr
  rw [strsC_len] at *
  go_enter Tryz.func13, Tryz.ntmps13
  go_wp2
  go_loopw [3, 4] (fun v i wr => JnRel w l v i wr) (fun _ i _ => l.length - (intOf i).toNat)
  case atStart => exact ⟨0, [], none, 0, Nat.zero_le _, rfl, rfl, rfl, Nat.zero_le _, World.ownsRow_nil _ _ _ _, Below.refl _ _⟩
  case round =>
    obtain ⟨k, q, a, c, hk, rfl, rfl, hq, hql, hrow, hB⟩ := hrel
    by_cases hlt : k < l.length
    · obtain ⟨b, o, c', hv, hc', hb, hx⟩ := HR.out.open_ (by rw [strsC_len]; omega)
      simp only [strsC_len] at hv hc'
      obtain ⟨rfl, _, rfl⟩ := (Value.slice.injEq ..).mp hv
      have hcx : wr.cell? ⟨b, o + k, none⟩ = some (.string l[k]) := (hB.cell (p := ⟨b, o + k, none⟩) hb).trans (hx k _ (strsC_get l hlt))
      have hsz := HS.out _ (List.getElem_mem hlt)
      have hszd : l[k].data.toList.length = l[k].size := (Lib.size_eq _).symm
      clear hx
      by_cases h0 : 0 < k
      · have HQ : Hid (q ++ [32] ++ l[k].data.toList = jn (l.take (k + 1)) ∧ (q ++ [32] ++ l[k].data.toList).length = q.length + 1 + l[k].size) := Lib.hid ⟨by rw [hq, jn_next hlt h0], by rw [List.length_append, List.length_append, hszd]; rfl⟩
        have hcx1 : ∀ o1, (wr.alloc o1).cell? ⟨b, o + k, none⟩ = some (.string l[k]) := fun o1 => ((hB.alloc hB.size o1).cell (p := ⟨b, o + k, none⟩) hb).trans ((hB.cell (p := ⟨b, o + k, none⟩) hb).symm.trans hcx)
        clear hq hszd
        go_wp2_with (first
          | (at_builtin; refine wpList_append_own _ rfl _ _ 48 rfl w.heap.size U8 i0 (.int .u8 0) 1 1 Tryz.underlying48 hi hz0 hz1 hz2 rfl (by decide) _ _ _ rfl (hrow.alloc _) ⟨wr.heap.size, 0, none⟩ 1 1 [.int .u8 32] rfl rfl (one_new _ _ _) (by simp [Value.oneCell']) (by unfold maxLen; omega) (by omega) (by have := hB.size; simp; omega) ?_; intro v' w1 hown' hgrow _; obtain ⟨a2, c2, rfl⟩ := owns_slice hown'; have hB1 := (hB.alloc hB.size (.cells #[.int .u8 32] U8)).grown hgrow (by have := hB.size; simp; omega) (fun j ej => (hrow.lt j ej).1); have hcx2 : w1.cell? ⟨b, o + k, none⟩ = some (.string l[k]) := (hB1.cell (p := ⟨b, o + k, none⟩) hb).trans ((hB.cell (p := ⟨b, o + k, none⟩) hb).symm.trans hcx))
          | (at_builtin; refine Lib.wpList_append_own_string _ rfl _ _ 48 9 rfl w.heap.size U8 i0 Tryz.underlying48 Tryz.underlying9 hi hz0 hz1 hz2 _ _ _ rfl hown' l[k] rfl (by unfold maxLen; omega) (by omega) hB1.size ?_; intro v'' w2 hown2 hgrow2 _; obtain ⟨a3, c3, rfl⟩ := owns_slice hown2))
        go_roundw
        case rel =>
          refine JnRel.next hlt HQ.out.1 HQ.out.2 (by omega) ?_ (hB1.grown hgrow2 hB1.size fun j ej => (hown'.lt j ej).1)
          rw [bytesC_app, bytesC_app]
          exact hown2
        case measure => simp [intOf]; omega
      · obtain rfl : k = 0 := by omega
        have HQ : Hid (l[0].data.toList = jn (l.take (0 + 1)) ∧ l[0].data.toList.length = 0 + l[0].size) := Lib.hid ⟨by rw [jn_first hlt], by rw [hszd, Nat.zero_add]⟩
        have hq0 : q = [] := hq
        rw [Nat.add_zero] at hcx
        subst hq0
        clear hq hszd
        go_wp2_with (at_builtin; refine Lib.wpList_append_own_string _ rfl _ _ 48 9 rfl w.heap.size U8 i0 Tryz.underlying48 Tryz.underlying9 hi hz0 hz1 hz2 _ _ _ rfl hrow l[0] rfl (by unfold maxLen; simp; omega) (by simp; omega) hB.size ?_; intro v'' w2 hown2 hgrow2 _; obtain ⟨a3, c3, rfl⟩ := owns_slice hown2)
        go_roundw
        case rel => exact JnRel.next hlt HQ.out.1 (by rw [HQ.out.2]; exact Nat.zero_add _) (by omega) (by simpa [bytesC, Lib.strCells] using hown2) (hB.grown hgrow2 hB.size fun j ej => (hrow.lt j ej).1)
        case measure => simp [intOf]; omega
    · obtain rfl : k = l.length := by omega
      rw [List.take_of_length_le (Nat.le_refl _)] at hq
      have HE : Hid (joinS l = ⟨q.toArray⟩) := Lib.hid (by rw [joinS_is, hq])
      by_cases h0 : 0 < q.length
      · obtain ⟨g, rfl, _⟩ := owns_addr hrow h0
        have hconv := run_convert_bytes_back (P := Tryz.prog) wr 48 9 5 ⟨g, 0, none⟩ c q Tryz.underlying48 Tryz.underlying5 Tryz.underlying9
          (fun j hj => by
            have := owns_cell hrow (j := j) (u := .int .u8 (q[j].toNat : Int)) (by simp [bytesC, hj])
            rw [Addr.add_lit, Nat.zero_add]
            exact this)
        clear hq hrow
        go_wp2
        go_ret
        exact ⟨by rw [HE.out]; rfl, hB⟩
      · have h1 : q = [] := List.eq_nil_of_length_eq_zero (by omega)
        subst h1
        have hconv : ∀ a, (convert 48 9 (.slice a 0 c)).run Tryz.prog wr = .ok (.string ⟨#[]⟩) wr := fun a => by
          rw [run_convert_bytes_string wr _ _ 5 a 0 c Tryz.underlying48 Tryz.underlying5 Tryz.underlying9]
          cases a <;> simp [Conv.bytesToString] <;> rfl
        have hconv1 := hconv a
        clear hq hrow hconv
        go_wp2
        go_ret
        exact ⟨by rw [HE.out]; rfl, hB⟩
end Go.Proofs.YtenokbceamcekaaGreatDoor.Ew
