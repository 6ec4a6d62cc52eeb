/-
  words.follow: the ends of the brackets that are open, behind one byte more.
-/
import Derived.Test.YtebagfadcjgllaaGreatDoorWBase
import Derived.Test.YtebagfadcjgllaaGreatDoorWOne
namespace Go.Proofs.YtebagfadcjgllaaGreatDoor.Ww
open Go.RowKit Go.Proofs.YtebagfadcjgllaaGreatDoor
set_option maxRecDepth 100000

abbrev U8 : TypeId := 5
theorem infoU : (Tryz.prog.info? U8).map (fun i => (i.zero, i.size, i.bytes)) = some (some (.int .u8 0), 1, 1) := by kernel_rfl
/-- The ends of brackets, as cells. -/
def endsC (op : Bs) : List Value := op.map fun x => Value.int .u8 ((Wp.close x).toNat : Int)
theorem endsC_len (op : Bs) : (endsC op).length = op.length := by simp [endsC]
theorem endsC_snoc (op : Bs) (c : UInt8) : endsC (op ++ [c]) = endsC op ++ [Value.int .u8 ((Wp.close c).toNat : Int)] := by simp [endsC]
theorem endsC_cut (op : Bs) : endsC op.dropLast = (endsC op).take (op.length - 1) := by
  rw [List.dropLast_eq_take]; simp [endsC, List.map_take]
theorem endsC_last {op : Bs} {d : UInt8} (h : op.getLast? = some d) : (endsC op)[op.length - 1]? = some (Value.int .u8 ((Wp.close d).toNat : Int)) := by
  rw [List.getLast?_eq_getElem?] at h
  simp [endsC, h]

def FollowPost (B : Nat) (op : Bs) (w : World) (e : Ending) (w' : World) : Prop :=
  ∃ a c, e = .returned (.slice a op.length c) ∧ w'.ownsRow B U8 1 (.slice a op.length c) op.length (endsC op) ∧ Below B w w'

theorem FollowPost.app {B : Nat} {op : Bs} {c : UInt8} {w w1 : World} {a2 : Option Addr} {c2 : Nat} {d : Int} (hc : c = 40 ∨ c = 123) (hd : ((Wp.close c).toNat : Int) = d)
    (h : w1.ownsRow B U8 1 (.slice a2 (op.length + 1) c2) (op.length + 1) (endsC op ++ [.int .u8 d])) (hB : Below B w w1) : FollowPost B (Wp.next op c) w (.returned (.slice a2 (op.length + 1) c2)) w1 := by
  rw [Wp.next_open hc]
  subst hd
  refine ⟨a2, c2, by rw [List.length_append]; rfl, ?_, hB⟩
  rw [endsC_snoc, List.length_append]
  exact h

set_option maxHeartbeats 4000000 in
theorem follow_any (w : World) (B : Nat) (op : Bs) (ho : Wp.Open op) (c : UInt8) (a : Option Addr) (cp : Nat) (hr : w.ownsRow B U8 1 (.slice a op.length cp) op.length (endsC op)) (hl : op.length ≤ 1000000) (hB : B ≤ w.heap.size) :
    Calls Tryz.prog 55 #[.slice a op.length cp, .int .u8 (c.toNat : Int)] w (FollowPost B (Wp.next op c) w) := by
  obtain ⟨i0, hi, hz0, hz1, hz2⟩ := info_parts infoU
  by_cases h40 : c = 40
  · have hb : ((c.toNat : Int) == 40) = true := by rw [h40]; rfl
    have HF := Lib.hid fun (w1 : World) (a2 : Option Addr) (c2 : Nat) => @FollowPost.app B op c w w1 a2 c2 41 (.inl h40) (by rw [h40]; rfl)
    clear h40
    go_enter Tryz.func55, Tryz.ntmps55
    go_wp2_with (at_builtin; refine wpList_append_own _ rfl _ _ 81 rfl B U8 i0 (.int .u8 0) 1 1 Tryz.underlying81 hi hz0 hz1 hz2 rfl (by decide) _ _ _ rfl (hr.alloc _) ⟨w.heap.size, 0, none⟩ 1 1 [.int .u8 41] rfl rfl (one_new _ _ _) (by simp [Value.oneCell']) (by unfold maxLen; omega) (by omega) (by simp; omega) ?_; intro v' w1 hown' hgrow _; obtain ⟨a2, c2, rfl⟩ := owns_slice hown')
    go_ret
    exact HF.out _ _ _ hown' (((Below.refl B w).alloc hB _).grown hgrow (by simp; omega) fun j ej => (hr.lt j ej).1)
  · have hb : ((c.toNat : Int) == 40) = false := eq_false (b := 40) h40
    by_cases h123 : c = 123
    · have hb2 : ((c.toNat : Int) == 123) = true := by rw [h123]; rfl
      have HF := Lib.hid fun (w1 : World) (a2 : Option Addr) (c2 : Nat) => @FollowPost.app B op c w w1 a2 c2 125 (.inr h123) (by rw [h123]; rfl)
      clear h40 h123
      go_enter Tryz.func55, Tryz.ntmps55
      go_wp2_with (at_builtin; refine wpList_append_own _ rfl _ _ 81 rfl B U8 i0 (.int .u8 0) 1 1 Tryz.underlying81 hi hz0 hz1 hz2 rfl (by decide) _ _ _ rfl (hr.alloc _) ⟨w.heap.size, 0, none⟩ 1 1 [.int .u8 125] rfl rfl (one_new _ _ _) (by simp [Value.oneCell']) (by unfold maxLen; omega) (by omega) (by simp; omega) ?_; intro v' w1 hown' hgrow _; obtain ⟨a2, c2, rfl⟩ := owns_slice hown')
      go_ret
      exact HF.out _ _ _ hown' (((Below.refl B w).alloc hB _).grown hgrow (by simp; omega) fun j ej => (hr.lt j ej).1)
    · have hb2 : ((c.toNat : Int) == 123) = false := eq_false (b := 123) h123
      cases hlast : op.getLast? with
      | none =>
        have h0 : op = [] := List.getLast?_eq_none_iff.1 hlast
        have HF : Hid (FollowPost B (Wp.next op c) w (.returned (.slice a op.length cp)) w) := Lib.hid ⟨a, cp, by rw [Wp.next_other h40 h123 (by rw [hlast]; intro d h; cases h)], by rw [Wp.next_other h40 h123 (by rw [hlast]; intro d h; cases h)]; exact hr, Below.refl _ _⟩
        subst h0
        clear hr hlast h40 h123
        go_enter Tryz.func55, Tryz.ntmps55
        go_wp2
        go_ret
        exact HF.out
      | some d =>
        have hne : 0 < op.length := by
          cases op with
          | nil => cases hlast
          | cons _ _ => simp
        obtain ⟨g, rfl, hcp⟩ := owns_addr hr hne
        have hcell := owns_cell hr (endsC_last hlast)
        by_cases hcd : c = Wp.close d
        · have hb3 : (((Wp.close d).toNat : Int) == (c.toNat : Int)) = true := eq_true hcd.symm
          have HF : Hid (FollowPost B (Wp.next op c) w (.returned (.slice (some ⟨g, 0, none⟩) (op.length - 1) cp)) w) := Lib.hid (by
            rw [Wp.next_close ho hlast hcd]
            refine ⟨_, _, by rw [List.length_dropLast], ?_, Below.refl _ _⟩
            rw [endsC_cut, List.length_dropLast]
            exact owns_take hr (by omega) (by simp))
          clear hr hlast h40 h123 hcd
          generalize hn : op.length = n at *
          obtain ⟨k, rfl⟩ : ∃ k, n = k + 1 := ⟨n - 1, by omega⟩
          clear hn
          have hk : k + 1 - 1 = k := rfl
          rw [hk] at hcell HF
          go_enter Tryz.func55, Tryz.ntmps55
          go_wp2
          go_ret
          exact HF.out
        · have hb3 : (((Wp.close d).toNat : Int) == (c.toNat : Int)) = false := eq_false (fun h => hcd h.symm)
          have HF : Hid (FollowPost B (Wp.next op c) w (.returned (.slice (some ⟨g, 0, none⟩) op.length cp)) w) := Lib.hid (by
            rw [Wp.next_other h40 h123 (by rw [hlast]; intro d' h; rw [← Option.some.inj h]; exact hcd)]
            exact ⟨_, _, rfl, hr, Below.refl _ _⟩)
          clear hr hlast h40 h123 hcd
          generalize hn : op.length = n at *
          obtain ⟨k, rfl⟩ : ∃ k, n = k + 1 := ⟨n - 1, by omega⟩
          clear hn
          have hk : k + 1 - 1 = k := rfl
          rw [hk] at hcell
          go_enter Tryz.func55, Tryz.ntmps55
          go_wp2
          go_ret
          exact HF.out
end Go.Proofs.YtebagfadcjgllaaGreatDoor.Ww
