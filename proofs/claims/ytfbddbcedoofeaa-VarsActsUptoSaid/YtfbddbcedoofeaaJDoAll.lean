/-
  flatironlaw11.do, whatever it is told.
-/
import Derived.Test.YtfbddbcedoofeaaJDo1
import Derived.Test.YtfbddbcedoofeaaJDo2
import Derived.Test.YtfbddbcedoofeaaJDo3
namespace Go.Proofs.Ytfbddbcedoofeaa.Jw
open Go.RowKit Go.Proofs.Ytfbddbcedoofeaa Go.Proofs.Ytfbddbcedoofeaa.Ww Go.Proofs.Ytfbddbcedoofeaa.Tw Go.Proofs.Ytfbddbcedoofeaa.Kw
set_option maxRecDepth 100000

/-- What an act makes of the table. -/
def actT (T : Jp.T) (k : Nat) (v : Jp.V) (L : List Bs) : Jp.T :=
  if k % 5 = 0 then (if Jp.rightA v = true then { T with l := (Jp.setA T v).l } else T)
  else if k % 5 = 1 then (if Jp.rightA v = true then { T with l := (Jp.moreA T v).l } else T)
  else if k % 5 = 2 then (if Jp.rightA v = true ∧ (Jp.getA T.l v.n).isSome = false then { T with l := (Jp.setA T v).l } else T)
  else if k % 5 = 3 then { Jp.exportA T true L with l := T.l } else { Jp.exportA T false L with l := T.l }
def actM (M : List (Bs × Int)) (k : Nat) (L : List Bs) : List (Bs × Int) := if k % 5 = 3 then exportM M true L else if k % 5 = 4 then exportM M false L else M
theorem do_any (w : World) {tb mb : Nat} {X : List Nat} {T : Jp.T} {M : List (Bs × Int)} {s : Sl} (k : Nat) (v : Jp.V) (nv : Value) (hT : Tab w tb X T.l M T.all) (hm : w.heap[mb]? = some (.cells (mC T s) TT (0, 0))) (hR : Rows3 w T s) (hF : Fit T v)
    (L : List Bs) (B N : Nat) (hN : Rd w B nv (nC L)) (hBX : ∀ i ∈ X, B ≤ i) (hBm : B ≤ mb) (hBw : B ≤ w.heap.size) (hMN : M.length ≤ N) (hyN : T.yes.length ≤ N) (hnN : T.no.length ≤ N) (hLN : N + L.length ≤ 1000000) (hLs : ∀ x ∈ L, x.length ≤ 1000000) :
    Calls Try.prog 8 #[.pointer (some ⟨tb, 0, none⟩), .pointer (some ⟨mb, 0, none⟩), .agg #[.int .u8 k, .string (str v.n), .string (str v.x), .bool v.s, .int .i64 v.f, nv]] w (DPost w tb mb X (actT T k v L) (actM M k L)) := by
  unfold actT actM
  have hk : k % 5 = 0 ∨ k % 5 = 1 ∨ k % 5 = 2 ∨ k % 5 = 3 ∨ k % 5 = 4 := by omega
  rcases hk with h | h | h | h | h
  · rw [if_pos h, if_neg (show ¬ k % 5 = 3 by omega), if_neg (show ¬ k % 5 = 4 by omega)]
    cases hr : Jp.rightA v with
    | true => rw [if_pos rfl]; exact do_set_yes w k v nv hT hm hR hF h hr _ rfl
    | false => rw [if_neg (by simp)]; exact do_set_no w k v nv hT hm hR hF h hr _ rfl
  · rw [if_neg (show ¬ k % 5 = 0 by omega), if_pos h, if_neg (show ¬ k % 5 = 3 by omega), if_neg (show ¬ k % 5 = 4 by omega)]
    cases hr : Jp.rightA v with
    | true => rw [if_pos rfl]; exact do_more_yes w k v nv hT hm hR hF h hr _ rfl
    | false => rw [if_neg (by simp)]; exact do_more_no w k v nv hT hm hR hF h hr _ rfl
  · rw [if_neg (show ¬ k % 5 = 0 by omega), if_neg (show ¬ k % 5 = 1 by omega), if_pos h, if_neg (show ¬ k % 5 = 3 by omega), if_neg (show ¬ k % 5 = 4 by omega)]
    cases hr : Jp.rightA v with
    | true =>
      cases hi : (Jp.getA T.l v.n).isSome with
      | true => rw [if_neg (by simp)]; exact do_may_right w k v nv hT hm hR hF h hr hi
      | false => rw [if_pos ⟨rfl, rfl⟩]; exact do_may_new w k v nv hT hm hR hF h hr hi
    | false =>
      rw [if_neg (by simp)]
      cases hi : (Jp.getA T.l v.n).isSome with
      | true => exact do_may_wrongis w k v nv hT hm hR hF h hr hi
      | false => exact do_may_wrong w k v nv hT hm hR hF h hr hi
  · rw [if_neg (show ¬ k % 5 = 0 by omega), if_neg (show ¬ k % 5 = 1 by omega), if_neg (show ¬ k % 5 = 2 by omega), if_pos h, if_pos h]
    cases hr : Jp.rightA v with
    | true => exact do_exp_t w k v nv hT hm hR hF h hr _ rfl L B N hN hBX hBm hBw hMN hyN hnN hLN hLs
    | false => exact do_exp_tw w k v nv hT hm hR hF h hr _ rfl L B N hN hBX hBm hBw hMN hyN hnN hLN hLs
  · rw [if_neg (show ¬ k % 5 = 0 by omega), if_neg (show ¬ k % 5 = 1 by omega), if_neg (show ¬ k % 5 = 2 by omega), if_neg (show ¬ k % 5 = 3 by omega), if_neg (show ¬ k % 5 = 3 by omega), if_pos h]
    cases hr : Jp.rightA v with
    | true => exact do_exp_f w k v nv hT hm hR hF h hr _ rfl L B N hN hBX hBm hBw hMN hyN hnN hLN hLs
    | false => exact do_exp_fw w k v nv hT hm hR hF h hr _ rfl L B N hN hBX hBm hBw hMN hyN hnN hLN hLs

/-! ### what stays so -/
/-- The sizes behind i acts. -/
structure Sz (T : Jp.T) (M : List (Bs × Int)) (i : Nat) : Prop where
  l : T.l.length ≤ i
  t : ∀ o ∈ T.l, o.x.length ≤ 5001 * i ∧ o.n.length ≤ 5000
  yes : T.yes.length ≤ 5000 * i
  no : T.no.length ≤ 5000 * i
  m : M.length ≤ 5000 * i
theorem Sz.new : Sz Jp.new [] 0 := ⟨Nat.le_refl _, fun o h => (by cases h), Nat.le_refl _, Nat.le_refl _, Nat.le_refl _⟩
theorem insA_mem {v o : Jp.V} : ∀ {l : List Jp.V} {d : Bool}, o ∈ Jp.insA v d l → o = v ∨ o ∈ l
  | [], d, h => by
    unfold Jp.insA at h
    split at h
    · cases h
    · exact .inl (List.mem_singleton.1 h)
  | x :: r, d, h => by
    rw [ins_step] at h
    rcases List.mem_append.1 h with h | h
    · rcases List.mem_append.1 h with h | h
      · split at h
        · exact .inl (List.mem_singleton.1 h)
        · cases h
      · split at h
        · cases h
        · rw [List.mem_singleton.1 h]; exact .inr (by simp)
    · rcases insA_mem h with h | h
      · exact .inl h
      · exact .inr (List.mem_cons_of_mem _ h)
theorem setA_mem {T : Jp.T} {v o : Jp.V} (h : o ∈ (Jp.setA T v).l) : o = v ∨ o ∈ T.l := by
  unfold Jp.setA at h
  split at h
  · split at h
    · exact .inr h
    · exact insA_mem h
  · exact insA_mem h
theorem setA_len (T : Jp.T) (v : Jp.V) : (Jp.setA T v).l.length ≤ T.l.length + 1 := by
  unfold Jp.setA
  split
  · split
    · omega
    · exact Jp.insA_len v T.l false
  · exact Jp.insA_len v T.l false
theorem fold_len (yes : Bool) : ∀ (L : List Bs) (T : Jp.T), (L.foldl (Jp.stepA yes) T).yes.length ≤ T.yes.length + L.length ∧ (L.foldl (Jp.stepA yes) T).no.length ≤ T.no.length + L.length
  | [], T => ⟨Nat.le_refl _, Nat.le_refl _⟩
  | k :: r, T => by
    obtain ⟨h1, h2⟩ := fold_len yes r (Jp.stepA yes T k)
    obtain ⟨h3, h4⟩ := step_len yes T k
    simp only [List.foldl_cons, List.length_cons]
    omega
theorem export_len (T : Jp.T) (yes : Bool) (L : List Bs) : (Jp.exportA T yes L).yes.length ≤ T.yes.length + L.length ∧ (Jp.exportA T yes L).no.length ≤ T.no.length + L.length := by
  unfold Jp.exportA
  have := fold_len yes L (if L = [] then { T with all := yes } else T)
  split at this <;> rename_i h
  · rw [if_pos h]; exact this
  · rw [if_neg h]; exact this
theorem exportM_len (yes : Bool) : ∀ (L : List Bs) (M : List (Bs × Int)), (exportM M yes L).length ≤ M.length + L.length
  | [], M => Nat.le_refl _
  | k :: r, M => by
    have h1 := exportM_len yes r (nameM yes M k)
    have h2 := Kp.len_ins_le M (k, chosen yes)
    show (exportM (nameM yes M k) yes r).length ≤ _
    unfold nameM at *
    simp only [List.length_cons]
    omega
theorem Sz.step {T : Jp.T} {M : List (Bs × Int)} {i : Nat} (h : Sz T M i) (k : Nat) {v : Jp.V} {L : List Bs} (hn : v.n.length ≤ 5000) (hx : v.x.length ≤ 5000) (hL : L.length ≤ 5000) : Sz (actT T k v L) (actM M k L) (i + 1) := by
  have h1 := setA_len T v
  have hl := h.l
  have hy := h.yes
  have hno := h.no
  have hm := h.m
  have same : Sz T M (i + 1) := ⟨by omega, fun o ho => by have := h.t o ho; omega, by omega, by omega, by omega⟩
  have set : Sz { T with l := (Jp.setA T v).l } M (i + 1) := ⟨by show (Jp.setA T v).l.length ≤ _; omega, fun o ho => by
    rcases setA_mem ho with rfl | ho
    · omega
    · have := h.t o ho; omega, by show T.yes.length ≤ _; omega, by show T.no.length ≤ _; omega, by omega⟩
  have more : Sz { T with l := (Jp.moreA T v).l } M (i + 1) := by
    unfold Jp.moreA
    cases hg : Jp.getA T.l v.n with
    | none => exact set
    | some o =>
      have ho := h.t o (Jp.getA_mem hg).1
      have h2 := setA_len T { v with x := o.x ++ 32 :: v.x, s := o.s }
      refine ⟨by show (Jp.setA T _).l.length ≤ _; omega, fun q hq => ?_, by show T.yes.length ≤ _; omega, by show T.no.length ≤ _; omega, by omega⟩
      rcases setA_mem hq with rfl | hq
      · simp; omega
      · have := h.t q hq; omega
  have exp : ∀ yes, Sz { Jp.exportA T yes L with l := T.l } (exportM M yes L) (i + 1) := fun yes => by
    obtain ⟨e1, e2⟩ := export_len T yes L
    have e3 := exportM_len yes L M
    exact ⟨by show T.l.length ≤ _; omega, fun o ho => by have := h.t o ho; omega, by show (Jp.exportA T yes L).yes.length ≤ _; omega, by show (Jp.exportA T yes L).no.length ≤ _; omega, by omega⟩
  unfold actT actM
  have hk : k % 5 = 0 ∨ k % 5 = 1 ∨ k % 5 = 2 ∨ k % 5 = 3 ∨ k % 5 = 4 := by omega
  rcases hk with e | e | e | e | e
  · rw [if_pos e, if_neg (show ¬ k % 5 = 3 by omega), if_neg (show ¬ k % 5 = 4 by omega)]; split; exact set; exact same
  · rw [if_neg (show ¬ k % 5 = 0 by omega), if_pos e, if_neg (show ¬ k % 5 = 3 by omega), if_neg (show ¬ k % 5 = 4 by omega)]; split; exact more; exact same
  · rw [if_neg (show ¬ k % 5 = 0 by omega), if_neg (show ¬ k % 5 = 1 by omega), if_pos e, if_neg (show ¬ k % 5 = 3 by omega), if_neg (show ¬ k % 5 = 4 by omega)]; split; exact set; exact same
  · rw [if_neg (show ¬ k % 5 = 0 by omega), if_neg (show ¬ k % 5 = 1 by omega), if_neg (show ¬ k % 5 = 2 by omega), if_pos e, if_pos e]; exact exp true
  · rw [if_neg (show ¬ k % 5 = 0 by omega), if_neg (show ¬ k % 5 = 1 by omega), if_neg (show ¬ k % 5 = 2 by omega), if_neg (show ¬ k % 5 = 3 by omega), if_neg (show ¬ k % 5 = 3 by omega), if_pos e]; exact exp false
theorem Agree.act {T : Jp.T} {M : List (Bs × Int)} (h : Agree T M) (k : Nat) (v : Jp.V) (L : List Bs) : Agree (actT T k v L) (actM M k L) := by
  have exp : ∀ yes, Agree { Jp.exportA T yes L with l := T.l } (exportM M yes L) := fun yes => (h.export_ yes L).of rfl rfl
  unfold actT actM
  have hk : k % 5 = 0 ∨ k % 5 = 1 ∨ k % 5 = 2 ∨ k % 5 = 3 ∨ k % 5 = 4 := by omega
  rcases hk with e | e | e | e | e
  · rw [if_pos e, if_neg (show ¬ k % 5 = 3 by omega), if_neg (show ¬ k % 5 = 4 by omega)]; split; exact h.of rfl rfl; exact h
  · rw [if_neg (show ¬ k % 5 = 0 by omega), if_pos e, if_neg (show ¬ k % 5 = 3 by omega), if_neg (show ¬ k % 5 = 4 by omega)]; split; exact h.of rfl rfl; exact h
  · rw [if_neg (show ¬ k % 5 = 0 by omega), if_neg (show ¬ k % 5 = 1 by omega), if_pos e, if_neg (show ¬ k % 5 = 3 by omega), if_neg (show ¬ k % 5 = 4 by omega)]; split; exact h.of rfl rfl; exact h
  · rw [if_neg (show ¬ k % 5 = 0 by omega), if_neg (show ¬ k % 5 = 1 by omega), if_neg (show ¬ k % 5 = 2 by omega), if_pos e, if_pos e]; exact exp true
  · rw [if_neg (show ¬ k % 5 = 0 by omega), if_neg (show ¬ k % 5 = 1 by omega), if_neg (show ¬ k % 5 = 2 by omega), if_neg (show ¬ k % 5 = 3 by omega), if_neg (show ¬ k % 5 = 3 by omega), if_pos e]; exact exp false
end Go.Proofs.Ytfbddbcedoofeaa.Jw
