/-
  (*Store).surround: the directories that a path is in.
-/
import Derived.Test.YtmmilnmlmgcobaaGreatDoorSBlock
import Derived.Test.YtmmilnmlmgcobaaGreatDoorSAdd
namespace Go.Proofs.YtmmilnmlmgcobaaGreatDoor.Sw
open Go.RowKit Go.Proofs.YtmmilnmlmgcobaaGreatDoor Go.Maps
set_option maxRecDepth 100000

def dirF (d : List UInt8) : F := ⟨d, [], 0, true⟩
def surrN : Nat → List F → List UInt8 → List F
  | 0, L, _ => L
  | n + 1, L, d => if 4096 < L.length then L else match getR L d with
    | some _ => L
    | none => surrN n (Sp.ins L (dirF d)) (dirL d)
def mu (d : List UInt8) : Nat := if d = [46] then 0 else d.length + 1
def surrA (L : List F) (d : List UInt8) : List F := surrN (mu d + 1) L d

theorem last_le (d : List UInt8) : Lib.Pa.lastIndexByte d 47 < d.length := by
  have h := Lib.Pa.lastIndexByte_bounds d 47
  exact h.2
theorem mu_dir {d : List UInt8} (h : d ≠ [46]) : mu (dirL d) < mu d := by
  unfold mu
  rw [if_neg h]
  unfold dirL
  split
  · rename_i h0
    have h1 := last_le d
    split
    · omega
    · rw [List.length_take]; omega
  · rw [if_pos rfl]; omega
theorem surrN_fuel : ∀ (n m : Nat) (L : List F) (d : List UInt8), mu d + 1 ≤ n → mu d + 1 ≤ m → surrN n L d = surrN m L d
  | 0, _, _, _, h, _ => by omega
  | _, 0, _, _, _, h => by omega
  | n + 1, m + 1, L, d, hn, hm => by
    unfold surrN
    split
    · rfl
    · cases hg : getR L d with
      | some f => rfl
      | none =>
        have hd : d ≠ [46] := fun e => by subst e; cases hg
        have := mu_dir hd
        exact surrN_fuel n m _ _ (by omega) (by omega)
theorem surr_full {L : List F} {d : List UInt8} (h : 4096 < L.length) : surrA L d = L := by unfold surrA surrN; rw [if_pos h]
theorem surr_there {L : List F} {d : List UInt8} {f : F} (h : getR L d = some f) : surrA L d = L := by
  unfold surrA surrN
  split
  · rfl
  · rw [h]
theorem surr_step {L : List F} {d : List UInt8} (h : ¬ 4096 < L.length) (hg : getR L d = none) : surrA L d = surrA (Sp.ins L (dirF d)) (dirL d) := by
  have hd : d ≠ [46] := fun e => by subst e; cases hg
  have h1 : surrA L d = surrN (mu d) (Sp.ins L (dirF d)) (dirL d) := by
    show surrN (mu d + 1) L d = _
    rw [surrN, if_neg h, hg]
  rw [h1]
  exact surrN_fuel _ _ _ _ (mu_dir hd) (Nat.le_refl _)

def muV : Value → Nat
  | .string s => mu (bs s)
  | _ => 0

def SuRel (w : World) (sb bm : Nat) (L : List F) (c : Int) (d0 : List UInt8) (v : Value) (wr : World) : Prop :=
  ∃ (d : ByteArray) (M : List F), v = .string d ∧ d.size ≤ 1000000 ∧ M.length ≤ 1000000 ∧ StoreAt wr sb bm M c ∧ Kept [sb, bm] w wr ∧ surrA M (bs d) = surrA L d0

set_option maxHeartbeats 2000000 in
theorem surround_any (w : World) {sb bm : Nat} {L : List F} {c : Int} (p : ByteArray) (hS : StoreAt w sb bm L c) (hp : p.size ≤ 999999) (hl : L.length ≤ 1000000) :
    Calls Tryz.prog 19 #[.pointer (some ⟨sb, 0, none⟩), .string p] w fun e w' => e = .returned (.tuple #[]) ∧ StoreAt w' sb bm (surrA L (dirL (bs p))) c ∧ Kept [sb, bm] w w' := by
  have hsz : ∀ (q : ByteArray), q.size ≤ 1000000 → ∃ d : ByteArray, dirL (bs q) = bs d ∧ d.size ≤ 1000000 := fun q hq => by
    refine ⟨str (dirL (bs q)), rfl, ?_⟩
    rw [← bs_len, bs_str]
    unfold dirL
    split
    · rw [List.length_take, bs_len]; omega
    · simp
  obtain ⟨d, hd, hds⟩ := hsz p (by omega)
  have HD := Lib.hid hd
  rw [hd]
  clear hd
  go_enter Tryz.func19, Tryz.ntmps19
  go_wp2_with (go_at_call 55; go_must (refine (dir_is _ p d (by omega) HD).mono ?_); rintro e w2 ⟨rfl, rfl⟩)
  go_loopw [4] (fun v wr => SuRel w sb bm L c (bs d) v wr) (fun v _ => muV v)
  case atStart => exact ⟨d, L, rfl, hds, hl, hS, .refl _ _, rfl⟩
  case round =>
    obtain ⟨d, M, rfl, hds, hMl, hSr, hK, hrun⟩ := hrel
    have c1 := hSr.c1
    have hM := hSr.map
    have hlt := hSr.lt
    have HR := Lib.hid hrun
    clear hrun
    by_cases h4 : 4096 < M.length
    · have i4 : ¬ (M.length : Int) ≤ 4096 := by omega
      have HE : Hid (surrA L (bs _) = M) := Lib.hid (HR.out.symm.trans (surr_full h4))
      go_wp2_with (at_len; refine wpList_size _ rfl _ rfl rfl hM ?_)
      go_end0
      exact ⟨rfl, by rw [HE.out]; exact hSr, hK⟩
    · have i4 : (M.length : Int) ≤ 4096 := by omega
      have hdm : d.size ≤ maxLen := by unfold maxLen; omega
      cases hg : getR M (bs d) with
      | some f =>
        have hG := Lib.hid hg
        have HE : Hid (surrA L (bs _) = M) := Lib.hid (HR.out.symm.trans (surr_there hg))
        clear hg
        go_wp2_with (first
          | (at_len; refine wpList_size _ rfl _ rfl rfl hM ?_)
          | (go_at_call 37; go_must (refine (Get_yes _ d hSr hdm hG).mono ?_); rintro e w1 ⟨rfl, B1⟩; unfold fV))
        refine bodyPost_ret (results_none rfl _ _ _) rfl ?_
        exact ⟨rfl, by rw [HE.out]; exact (hSr.below B1).alloc _, (hK.below B1).alloc _⟩
      | none =>
        have hG := Lib.hid hg
        have HE := Lib.hid ((surr_step (by omega) hg).symm.trans HR.out)
        have hdn : bs d ≠ [46] := fun e => by rw [e] at hg; cases hg
        have hmu := mu_dir hdn
        obtain ⟨d2, hd2, hds2⟩ := hsz d hds
        rw [hd2] at HE hmu
        have HD2 := Lib.hid hd2
        have HN := Lib.hid hdn
        have hbl : (bs d).length ≤ maxLen := by rw [bs_len]; exact hdm
        have hml : M.length < maxLen := by unfold maxLen; omega
        have hne := hSr.ne
        clear hg hd2 hdn
        go_wp2_with (first
          | (at_len; refine wpList_size _ rfl _ rfl rfl hM ?_)
          | (go_at_call 37; go_must (refine (Get_no _ d hSr hdm hG).mono ?_); rintro e w1 ⟨rfl, B1⟩; unfold fV; have hS1 := hSr.below B1; have c1' := hS1.c1; have hlt1 := hS1.lt)
          | (at_mapUpdate; refine wpList_put (f := dirF (bs d)) _ rfl _ _ _ rfl rfl rfl rfl (hS1.map.alloc _) hbl hml ?_; intro w3 hM3 htn)
          | (go_at_call 55; go_must (refine (dir_is _ d d2 hds HD2).mono ?_); rintro e w4 ⟨rfl, rfl⟩))
        go_roundw
        case rel =>
          have hS3 : StoreAt w3 sb bm (Sp.ins M (dirF (bs d))) c := ⟨(htn.grown.block sb (hS1.alloc _).lt (by simpa using fun e => hne e.symm)).trans (hS1.alloc _).cells, hM3⟩
          refine ⟨d2, Sp.ins M (dirF (bs d)), rfl, hds2, ?_, hS3, ((hK.below B1).alloc _).grown htn.grown (by simp), HE.out⟩
          rw [Sp.len_ins]; split <;> omega
        case measure => exact hmu
end Go.Proofs.YtmmilnmlmgcobaaGreatDoor.Sw
