/-
  The document's Join (flatironref01.Join), for every list of strings that fits into memory.
-/
import Derived.Test.YtmmilnmlmgcobaaGreatDoorRef
namespace Go.Proofs.YtmmilnmlmgcobaaGreatDoor
open Go.RowKit
set_option maxRecDepth 100000

theorem tot_cost (ss : List ByteArray) : tot ss = cost (ss.map bs) := by
  unfold tot cost
  rw [List.map_map]
  rfl
theorem cost_filter : ∀ (l : List (List UInt8)) (f : List UInt8 → Bool), cost (l.filter f) ≤ cost l
  | [], _ => Nat.le_refl _
  | x :: l, f => by
    have := cost_filter l f
    have h3 : cost (x :: l) = (x.length + 1) + cost l := by simp [cost]
    by_cases h : f x = true
    · rw [List.filter_cons_of_pos h]
      have h4 : cost (x :: l.filter f) = (x.length + 1) + cost (l.filter f) := by simp [cost]
      omega
    · rw [List.filter_cons_of_neg h]; omega
theorem tot_parts {ps : List ByteArray} {s : ByteArray} (h : ps.map bs = Pt.parts (bs s)) : tot ps ≤ s.size + 1 := by
  rw [tot_cost, h]
  have := cost_filter (Pt.pieces (bs s)) Pt.says
  rw [cost_pieces, bs_len] at this
  exact this
theorem tot_cons (x : ByteArray) (l : List ByteArray) : tot (x :: l) = x.size + 1 + tot l := by simp [tot]
theorem tot_snoc (l : List ByteArray) (x : ByteArray) : tot (l ++ [x]) = tot l + (x.size + 1) := by simp [tot]
theorem len_tot (l : List ByteArray) : l.length ≤ tot l := by
  have := len_cost (l.map bs)
  rw [← tot_cost, List.length_map] at this
  exact this
theorem tot_dropLast (l : List ByteArray) : tot l.dropLast ≤ tot l := by
  rcases List.eq_nil_or_concat l with rfl | ⟨m, x, rfl⟩
  · exact Nat.le_refl _
  · rw [List.concat_eq_append, List.dropLast_concat, tot_snoc]; omega

theorem walk_cons (o : List (List UInt8)) (p : List UInt8) (ps : List (List UInt8)) : Pt.walk o (p :: ps) = (Pt.step o p).bind fun o' => Pt.walk o' ps := by
  show (match Pt.step o p with
    | none => none
    | some o' => Pt.walk o' ps) = _
  cases Pt.step o p <;> rfl
theorem go_cons (o : List (List UInt8)) (s : List UInt8) (r : List (List UInt8)) : Pt.go o (s :: r) = (Pt.walk o (Pt.parts s)).bind fun o' => Pt.go o' r := by
  show (match Pt.walk o (Pt.parts s) with
    | none => none
    | some o' => Pt.go o' r) = _
  cases Pt.walk o (Pt.parts s) <;> rfl

def RJoinPost (w : World) (r : Option (List UInt8)) (e : Ending) (w' : World) : Prop :=
  Below w.heap.size w w' ∧ match r with
    | some q => e = .returned (.tuple #[.string (str q), .bool true])
    | none => e = .returned (.tuple #[.string (str []), .bool false])

theorem owns_popS {w : World} {base : Nat} {a : Option Addr} {c : Nat} {out : List ByteArray} {x : ByteArray} (h : w.ownsRow base 9 1 (.slice a (out ++ [x]).length c) (out ++ [x]).length (strC (out ++ [x]))) :
    w.ownsRow base 9 1 (.slice a out.length c) out.length (strC out) := by
  rw [List.length_append, List.length_singleton] at h
  obtain ⟨g, cap, e⟩ := ownsRow_succ h
  cases e
  exact ownsRow_pop (last := [.string x]) (by rw [strC_len, Nat.mul_one]) (by rw [show strC out ++ [.string x] = strC (out ++ [x]) by simp [strC]]; exact h)

theorem owns_below {w w' : World} {base e size n : Nat} {v : Value} {xs : List Value} (h : w.ownsRow base e size v n xs) (hB : Below w.heap.size w w') : w'.ownsRow base e size v n xs := by
  refine ⟨h.1, ?_⟩
  rcases h.2 with h0 | ⟨g, cap, cur, hv, hb, hg, r⟩
  · exact .inl h0
  · exact .inr ⟨g, cap, cur, hv, hb, (hB.block g (Array.getElem?_eq_some_iff.1 hg).1).trans hg, r⟩

/-- Two slices lie in two rows. -/
def Apart (v u : Value) : Prop := ∀ g, v.ownBlock = some g → u.ownBlock ≠ some g
theorem Apart.kept {v u : Value} (h : Apart v u) : v.ownBlock = none ∨ v.ownBlock ≠ u.ownBlock := by
  cases hv : v.ownBlock with
  | none => exact .inl rfl
  | some g => exact .inr (fun e => h g hv e.symm)

theorem step_add {o : List (List UInt8)} {p : List UInt8} (h : p ≠ [46, 46]) : Pt.step o p = some (o ++ [p]) := by unfold Pt.step; rw [if_neg h]
theorem step_up {o : List (List UInt8)} {p x : List UInt8} (h : p = [46, 46]) : Pt.step (o ++ [x]) p = some o := by
  unfold Pt.step; rw [if_pos h, if_neg (by simp), List.dropLast_concat]
theorem step_out {p : List UInt8} (h : p = [46, 46]) : Pt.step [] p = none := by unfold Pt.step; rw [if_pos h]; rfl

set_option maxHeartbeats 4000000 in
theorem RJoinB_any (w : World) (b o c : Nat) (ss : List ByteArray) (hlt : b < w.heap.size) (hc : ∀ j, j < ss.length → w.cell? ⟨b, o + j, none⟩ = some (.string (ss[j]?.getD ByteArray.empty))) (hs : tot ss ≤ 1000000) :
    Calls Tryz.prog 56 #[.slice (some ⟨b, o, none⟩) ss.length c] w (RJoinPost w (Pt.join (ss.map bs))) := by
  have HC := Lib.hid hc
  have hn := len_tot ss
  clear hc
  obtain ⟨i0, hi, hz0, hz1, hz2⟩ := info_parts infoS
  go_enter Tryz.func56, Tryz.ntmps56
  go_wp2
  go_loopw [4, 5] (fun v i wr => ∃ (k : Nat) (out : List ByteArray) (a : Option Addr) (cp : Nat), k ≤ ss.length ∧ i = .int .i64 k ∧ v = .slice a out.length cp ∧ wr.ownsRow w.heap.size 9 1 (.slice a out.length cp) out.length (strC out) ∧
      Pt.go (out.map bs) ((ss.drop k).map bs) = Pt.go [] (ss.map bs) ∧ tot out + tot (ss.drop k) ≤ tot ss ∧ Below w.heap.size w wr)
    (fun _ i _ => ss.length - (intOf i).toNat)
  case atStart => exact ⟨0, [], none, 0, Nat.zero_le _, rfl, rfl, World.ownsRow_nil _ _ _ _, rfl, by simp [tot], Below.refl _ _⟩
  case round =>
    obtain ⟨k, out, a, cp, hk, rfl, rfl, hr, hg, hq, hB⟩ := hrel
    have HG := Lib.hid hg
    clear hg
    by_cases hlk : k < ss.length
    · have hcell := (hB.cell (p := ⟨b, o + k, none⟩) hlt).trans (HC.out k hlk)
      rw [drop_cons hlk, tot_cons] at hq
      have hG2 := HG.out
      rw [drop_cons hlk] at hG2
      clear HG
      generalize ss[k]?.getD ByteArray.empty = x at *
      rw [List.map_cons, go_cons] at hG2
      have HG := Lib.hid hG2
      clear hG2
      obtain ⟨wo, rfl⟩ : ∃ wo : World, wo = wr := ⟨_, rfl⟩
      go_wp2_with (go_at_call 57; refine (Split_any _ x (by omega)).mono ?_; rintro e w' ⟨ps, ap, cps, rfl, hps, hpr, hB2⟩)
      have hap : Apart (.slice ap ps.length cps) (.slice a out.length cp) := fun g h1 h2 => by
        have := (hpr.lt g h1).1
        have := (hr.lt g h2).2
        omega
      have hr2 := owns_below hr hB2
      have htp := tot_parts hps
      have hpl : ps.length ≤ 1000001 := by have := len_tot ps; omega
      have HG2 : Hid ((Pt.walk (out.map bs) (ps.map bs)).bind (fun o' => Pt.go o' ((ss.drop (k + 1)).map bs)) = Pt.go [] (ss.map bs)) := Lib.hid (by rw [hps]; exact HG.out)
      have hB3 : Below w.heap.size w w' := hB.trans (hB2.mono hB.size)
      clear HG hps hcell hr
      go_loopw [4, 7] (fun v i wq => ∃ (j : Nat) (o2 : List ByteArray) (a2 : Option Addr) (c2 : Nat), j ≤ ps.length ∧ i = .int .i64 j ∧ v = .slice a2 o2.length c2 ∧ wq.ownsRow w.heap.size 9 1 (.slice a2 o2.length c2) o2.length (strC o2) ∧
          wq.ownsRow wo.heap.size 9 1 (.slice ap ps.length cps) ps.length (strC ps) ∧ Apart (.slice ap ps.length cps) (.slice a2 o2.length c2) ∧
          (Pt.walk (o2.map bs) ((ps.drop j).map bs)).bind (fun o' => Pt.go o' ((ss.drop (k + 1)).map bs)) = Pt.go [] (ss.map bs) ∧ tot o2 + tot (ps.drop j) + tot (ss.drop (k + 1)) ≤ tot ss ∧ Below w.heap.size w wq)
        (fun _ i _ => ps.length - (intOf i).toNat)
      case atStart => exact ⟨0, out, a, cp, Nat.zero_le _, rfl, rfl, hr2, hpr, hap, HG2.out, by rw [List.drop_zero]; omega, hB3⟩
      case round =>
        clear hr2 hpr hap HG2 hB3 htp hB2 hq hB
        obtain ⟨j, o2, a2, c2, hj, rfl, rfl, hr, hpr, hap, hg, hq, hB⟩ := hrel
        have hlo := len_tot o2
        by_cases hlj : j < ps.length
        · obtain ⟨g, cc, e, hcc, hcm⟩ := owns_some hpr (by omega)
          cases e
          have hcell : wr.cell? ⟨g, j, none⟩ = some (.string (ps[j]?.getD ByteArray.empty)) := by
            have := hpr.cells (g := g) rfl j (.string (ps[j]?.getD ByteArray.empty)) (by rw [strC, List.getElem?_map, List.getElem?_eq_getElem hlj]; rfl)
            rw [Addr.add_lit, Nat.zero_add] at this
            exact this
          rw [drop_cons hlj] at hg hq
          generalize ps[j]?.getD ByteArray.empty = y at *
          rw [List.map_cons, walk_cons] at hg
          rw [tot_cons] at hq
          by_cases h2 : (y.toList == [46, 46]) = true
          · rcases List.eq_nil_or_concat o2 with ho | ⟨o3, z, ho⟩
            · have hz : ((o2.length : Int) == 0) = true := by rw [ho]; rfl
              rw [ho] at hg
              have HN : Hid (Pt.join (ss.map bs) = none) := Lib.hid (by
                unfold Pt.join
                rw [← hg, show ([] : List ByteArray).map bs = [] from rfl, step_out (bs_is h2)]
                rfl)
              clear hg ho
              go_wp2
              go_ret2
              refine ⟨hB, ?_⟩
              rw [HN.out]
              rfl
            · rw [List.concat_eq_append] at ho
              subst ho
              have hz : (((o3 ++ [z]).length : Int) == 0) = false := by rw [beq_eq_false_iff_ne, List.length_append, List.length_singleton]; omega
              have hr3 := owns_popS hr
              obtain ⟨g2, c3, e2, hc3, hm3⟩ := owns_some hr (by simp)
              cases e2
              rw [List.map_append, List.map_singleton, step_up (bs_is h2), Option.bind_some] at hg
              have HG := Lib.hid hg
              have hlen : (o3 ++ [z]).length = o3.length + 1 := by simp
              rw [tot_snoc] at hq
              rw [hlen] at hc3 hlo
              rw [hlen]
              have hz2 : (((o3.length : Int) + 1) == 0) = false := by rw [beq_eq_false_iff_ne]; omega
              unfold maxLen at hm3
              clear hg hz hlen hr
              go_wp2
              go_roundw
              case rel => exact ⟨j + 1, o3, some ⟨g2, 0, none⟩, c2, hlj, by go_num, rfl, hr3, hpr, hap, HG.out, by omega, hB⟩
              case measure => simp [intOf] <;> omega
          · have h2' : (y.toList == [46, 46]) = false := by simpa using h2
            clear h2
            rw [step_add (bs_not h2'), Option.bind_some] at hg
            have HG := Lib.hid hg
            clear hg
            go_wp2_with (at_builtin; refine wpList_append_own_at _ rfl _ _ 79 rfl w.heap.size 9 i0 (.string ByteArray.empty) 1 16 Tryz.underlying79 hi hz0 hz1 hz2 rfl (by decide) _ _ _ rfl (hr.alloc _) ⟨wr.heap.size, 0, none⟩ 1 1 [.string y] rfl rfl (cell_one_new _ _ _) (by simp [Value.oneCell']) (by unfold maxLen; omega) (by omega) (by have := hB.size; simp; omega) ?_; intro v' w1 hown' hgrow _ hat; obtain ⟨a3, c3, rfl⟩ := owns_slice hown')
            have hap3 : Apart (.slice (some ⟨g, 0, none⟩) ps.length cps) (.slice a3 (o2.length + 1) c3) := fun g' h1 h2 => by
              rcases hat with e | e
              · rw [e] at h2; exact hap g' h1 h2
              · rw [e] at h2
                cases h2
                have := ((hpr.alloc (.cells #[.string y] 9)).lt _ h1).2
                omega
            go_roundw
            case rel => exact ⟨j + 1, o2 ++ [y], a3, c3, hlj, by go_num, by rw [List.length_append]; rfl, by rw [List.length_append, show strC (o2 ++ [y]) = strC o2 ++ [.string y] by simp [strC]]; exact hown', (hpr.alloc _).kept hgrow hap.kept, by rw [List.length_append]; exact hap3, by rw [List.map_append]; exact HG.out, by rw [tot_snoc]; omega,
              (hB.alloc hB.size _).grown hgrow (by have := hB.size; simp; omega) fun j ej => (hr.lt j ej).1⟩
            case measure => simp [intOf] <;> omega
        · obtain rfl : j = ps.length := by omega
          rw [List.drop_length] at hg hq
          have HG : Hid (Pt.go (o2.map bs) ((ss.drop (k + 1)).map bs) = Pt.go [] (ss.map bs)) := Lib.hid hg
          have hq2 : tot o2 + tot (ss.drop (k + 1)) ≤ tot ss := by simpa [tot] using hq
          clear hg hq
          go_wp2
          go_roundw
          case rel => exact ⟨k + 1, o2, a2, c2, hlk, by go_num, rfl, hr, HG.out, hq2, hB⟩
          case measure => simp [intOf] <;> omega
    · obtain rfl : k = ss.length := by omega
      have hG2 := HG.out
      rw [List.drop_length] at hG2
      have HE : Hid (Pt.join (ss.map bs) = some (Pt.text (out.map bs))) := Lib.hid (by unfold Pt.join; rw [← hG2]; rfl)
      have hlo := len_tot out
      clear HG hG2
      go_wp2_with (go_at_call 58; refine (Text_any _ _ out (strs_own hr) (by omega) (by omega)).mono ?_; rintro e w' ⟨rfl, rfl⟩)
      go_ret2
      refine ⟨hB, ?_⟩
      rw [HE.out]
      rfl
end Go.Proofs.YtmmilnmlmgcobaaGreatDoor
