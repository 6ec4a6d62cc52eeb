/-
  flatironlaw03.StoreActs.
-/
import Derived.Test.YtmmilnmlmgcobaaGreatDoorSActs
import Derived.Test.YtmmilnmlmgcobaaGreatDoorSLives
namespace Go.Proofs.YtmmilnmlmgcobaaGreatDoor.Sw
open Go.RowKit Go.Proofs.YtmmilnmlmgcobaaGreatDoor Go.Maps
set_option maxRecDepth 100000

def S1Rel (w : World) (l : List F) (v7 v35 : Value) (wr : World) : Prop :=
  ∃ k : Nat, v35 = .int .i64 k ∧ k ≤ l.length ∧ v7 = .int .i64 (totF (l.take k) : Nat) ∧ totF (l.take k) ≤ k * 281474976710656 ∧ Below w.heap.size w wr
def S2Rel (w : World) (n : Nat) (l : List Ac) (v7 v51 : Value) (wr : World) : Prop :=
  ∃ k : Nat, v51 = .int .i64 k ∧ k ≤ l.length ∧ v7 = .int .i64 (n + totA (l.take k) : Nat) ∧ totA (l.take k) ≤ k * 281474976710656 ∧ Below w.heap.size w wr

theorem ActsBig_any (w : World) (v u : Value) (look : ByteArray) (l : List F) (A : List Ac) (hF : Files w v l) (hA : Acts w u A) (hl : l.length ≤ 9223372036854775807) (ha : A.length ≤ 9223372036854775807) (hbig : 200 < l.length ∨ 60 < A.length) :
    Calls Tryz.prog 3 #[v, u, .string look] w fun e w' => e = .returned (.bool true) ∧ Below w.heap.size w w' := by
  obtain ⟨a, c, rfl⟩ : ∃ a c, v = .slice a l.length c := by
    rcases hF with ⟨rfl, a, c, rfl⟩ | ⟨b, o, c, rfl, _⟩ <;> exact ⟨_, _, rfl⟩
  obtain ⟨a', c', rfl⟩ : ∃ a c, u = .slice a A.length c := by
    rcases hA with ⟨rfl, a, c, rfl⟩ | ⟨b, o, c, rfl, _⟩ <;> exact ⟨_, _, rfl⟩
  by_cases h1 : 200 < l.length
  · have i1 : (200 : Int) < (l.length : Int) := by omega
    go_enter Tryz.func3, Tryz.ntmps3
    go_wp2_with fail
    refine (lives_any w).mono ?_
    rintro e w1 ⟨rfl, B1⟩
    go_wp2_with fail
    refine (lives_any w1).mono ?_
    rintro e w2 ⟨rfl, B2⟩
    go_wp2_with fail
    go_ret
    exact ⟨rfl, B1.trans (B2.mono B1.size)⟩
  · have i1 : ¬ (200 : Int) < (l.length : Int) := by omega
    have i1' : decide ((200 : Int) < (l.length : Int)) = false := decide_eq_false i1
    have i2 : (60 : Int) < (A.length : Int) := by omega
    go_enter Tryz.func3, Tryz.ntmps3
    go_wp2_with fail
    refine (lives_any w).mono ?_
    rintro e w1 ⟨rfl, B1⟩
    go_wp2_with fail
    refine (lives_any w1).mono ?_
    rintro e w2 ⟨rfl, B2⟩
    go_wp2_with fail
    go_ret
    exact ⟨rfl, B1.trans (B2.mono B1.size)⟩

set_option maxHeartbeats 8000000 in
theorem Acts_any (w : World) (v u : Value) (look : ByteArray) (l : List F) (A : List Ac) (hF : Files w v l) (hA : Acts w u A) (hl : l.length ≤ 200) (ha : A.length ≤ 60)
    (hs : ∀ f ∈ l, f.p.length ≤ 140737488355328 ∧ f.t.length ≤ 140737488355328) (hsa : ∀ f ∈ A, f.P.size ≤ 140737488355328 ∧ f.Q.size ≤ 140737488355328) (hlk : look.size ≤ 140737488355328) :
    Calls Tryz.prog 3 #[v, u, .string look] w fun e w' => e = .returned (.bool true) ∧ Below w.heap.size w w' := by
  obtain ⟨a, c, rfl⟩ : ∃ a c, v = .slice a l.length c := by
    rcases hF with ⟨rfl, a, c, rfl⟩ | ⟨b, o, c, rfl, _⟩ <;> exact ⟨_, _, rfl⟩
  obtain ⟨a', c', rfl⟩ : ∃ a c, u = .slice a A.length c := by
    rcases hA with ⟨rfl, a, c, rfl⟩ | ⟨b, o, c, rfl, _⟩ <;> exact ⟨_, _, rfl⟩
  have i1 : ¬ (200 : Int) < (l.length : Int) := by omega
  have i1' : decide ((200 : Int) < (l.length : Int)) = false := decide_eq_false i1
  have i2 : ¬ (60 : Int) < (A.length : Int) := by omega
  have i2' : decide ((60 : Int) < (A.length : Int)) = false := decide_eq_false i2
  have HF := Lib.hid hF
  have HA := Lib.hid hA
  have HS := Lib.hid hs
  have HSA := Lib.hid hsa
  clear hF hA hs hsa
  go_enter Tryz.func3, Tryz.ntmps3
  go_wp2_with fail
  refine (lives_any w).mono ?_
  rintro e w1 ⟨rfl, B1⟩
  go_wp2_with fail
  clear i1 i1' i2 i2'
  go_loopw [7, 35] (fun v7 v35 wr => S1Rel w l v7 v35 wr) (fun _ v _ => l.length - (intOf v).toNat)
  case atStart => exact ⟨0, rfl, Nat.zero_le _, by rw [List.take_zero]; rfl, by rw [List.take_zero]; exact Nat.zero_le _, B1⟩
  case round =>
    obtain ⟨k, rfl, hk, rfl, htot, hB⟩ := hrel
    by_cases hlt : k < l.length
    · rcases HF.out with ⟨rfl, _⟩ | ⟨b, o, c0, e, hb, hC⟩
      · exact absurd hlt (by simp)
      cases e
      obtain ⟨x0, x1, x2, x3⟩ := hC k hlt
      have a0 := (hB.cell (p := ⟨b, o + k * 4, none⟩) hb).trans x0
      have a1 := (hB.cell (p := ⟨b, o + k * 4 + 1, none⟩) hb).trans x1
      have a2 := (hB.cell (p := ⟨b, o + k * 4 + 2, none⟩) hb).trans x2
      have a3 := (hB.cell (p := ⟨b, o + k * 4 + 3, none⟩) hb).trans x3
      obtain ⟨s1, s2⟩ := HS.out _ (List.getElem_mem hlt)
      have ht := Lib.hid (totF_take hlt)
      clear hC x0 x1 x2 x3
      generalize l[k] = f at *
      have z1 : (str f.p).size = f.p.length := str_len f.p
      have z2 : (str f.t).size = f.t.length := str_len f.t
      generalize totF (l.take k) = n at *
      have HB := Lib.hid fun o => hB.alloc hB.size o
      go_wp2_with fail
      go_roundw
      case rel => exact ⟨k + 1, by go_num, hlt, by rw [ht.out]; go_num, by rw [ht.out]; omega, HB.out _⟩
      case measure => simp [intOf]; omega
    · obtain rfl : k = l.length := by omega
      rw [List.take_length] at htot
      rw [List.take_length]
      clear B1
      go_wp2_with fail
      go_loopw [7, 51] (fun v7 v51 wr => S2Rel w (totF l) A v7 v51 wr) (fun _ v _ => A.length - (intOf v).toNat)
      case atStart => exact ⟨0, rfl, Nat.zero_le _, by rw [List.take_zero]; rfl, by rw [List.take_zero]; exact Nat.zero_le _, hB⟩
      case round =>
        obtain ⟨k, rfl, hk, rfl, hta, hB⟩ := hrel
        by_cases hlt : k < A.length
        · rcases HA.out with ⟨rfl, _⟩ | ⟨b, o, c0, e, hb, hC⟩
          · exact absurd hlt (by simp)
          cases e
          obtain ⟨x0, x1, x2, x3⟩ := hC k hlt
          have a0 := (hB.cell (p := ⟨b, o + k * 4, none⟩) hb).trans x0
          have a1 := (hB.cell (p := ⟨b, o + k * 4 + 1, none⟩) hb).trans x1
          have a2 := (hB.cell (p := ⟨b, o + k * 4 + 2, none⟩) hb).trans x2
          have a3 := (hB.cell (p := ⟨b, o + k * 4 + 3, none⟩) hb).trans x3
          obtain ⟨s1, s2⟩ := HSA.out _ (List.getElem_mem hlt)
          have ht := Lib.hid (totA_take hlt)
          clear hC x0 x1 x2 x3
          generalize A[k] = f at *
          obtain ⟨fk, fP, fQ, fa⟩ := f
          simp only at s1 s2 a0 a1 a2 a3 ht
          generalize totA (A.take k) = n at *
          generalize totF l = n0 at *
          have HB := Lib.hid fun o => hB.alloc hB.size o
          go_wp2_with fail
          go_roundw
          case rel => exact ⟨k + 1, by go_num, hlt, by rw [ht.out]; go_num, by rw [ht.out]; omega, HB.out _⟩
          case measure => simp [intOf]; omega
        · obtain rfl : k = A.length := by omega
          rw [List.take_length] at hta
          rw [List.take_length]
          by_cases h20 : 20000 < totF l + totA A
          · have i20 : (20000 : Int) < ((totF l + totA A : Nat) : Int) := by omega
            generalize totF l + totA A = n at *
            go_wp2_with fail
            go_ret
            exact ⟨rfl, hB⟩
          · have i20 : ¬ (20000 : Int) < ((totF l + totA A : Nat) : Int) := by omega
            have i20' : decide ((20000 : Int) < ((totF l + totA A : Nat) : Int)) = false := decide_eq_false i20
            have hs' : Hid (∀ f ∈ l, f.p.length ≤ 50000 ∧ f.t.length ≤ 50000) := Lib.hid fun f hf => by have := totF_mem hf; omega
            have hsa' : Hid (∀ f ∈ A, f.P.size ≤ 50000 ∧ f.Q.size ≤ 50000) := Lib.hid fun f hf => by have := totA_mem hf; omega
            have hsp : sumP l ≤ 50000 := by have := sumP_tot l; omega
            generalize totF l + totA A = n at *
            by_cases hlo : 1000 < look.size
            · have i3 : (1000 : Int) < (look.size : Int) := by omega
              go_wp2_with fail
              go_ret
              exact ⟨rfl, hB⟩
            · have i3 : ¬ (1000 : Int) < (look.size : Int) := by omega
              have i3' : decide ((1000 : Int) < (look.size : Int)) = false := decide_eq_false i3
              have hN := New_files wr (.slice a l.length c) l (HF.out.below hB) hs'.out hl
              have hRN := Lib.hid fun (W : World) (hBW : Below w.heap.size w W) => RNew_any W (.slice a l.length c) l (HF.out.below hBW) hl (fun f hf => by have := hs'.out f hf; omega) hsp
              have hfine := Lib.hid (new_fine l hs'.out)
              have hclosed := Lib.hid (new_closed l)
              clear htot hta h20 HS HSA
              rw [new_eq] at hRN
              generalize newA l = r at *
              obtain ⟨r, n0⟩ := r
              go_wp2_with fail
              clear i20 i20' i3 i3'
              refine hN.mono ?_
              rintro e w2 hpost
              unfold NewPost at hpost
              by_cases h0 : n0 = 0
              · subst h0
                simp only [if_true] at hpost
                obtain ⟨sb, bm, rfl, hsb, hbm, hS2, B2⟩ := hpost
                have C2 := hB.trans (B2.mono hB.size)
                go_wp2_with fail
                refine (hRN.out _ C2).mono ?_
                rintro e w3 ⟨u0, rfl, hR3, hu3, B3⟩
                obtain ⟨a0, m0, cp0, rfl⟩ := hR3.shape
                have C3 := C2.trans (B3.mono C2.size)
                have hS3 := hS2.below B3
                have hsl := hS2.lt
                have hbl := hS2.map.lt
                have z3 := B3.size
                have hbox := heap_new w3 (.cells #[.slice a0 m0 cp0, .int .i64 r.c] TS) rfl
                have hbx : w3.heap.size < (w3.alloc (.cells #[.slice a0 m0 cp0, .int .i64 r.c] TS)).heap.size := by simp
                have hul := hR3.own_lt
                have C4 := C3.alloc C3.size (.cells #[.slice a0 m0 cp0, .int .i64 r.c] TS)
                have hS4 := hS3.alloc (.cells #[.slice a0 m0 cp0, .int .i64 r.c] TS)
                have hR4 := hR3.below ((Below.refl _ w3).alloc (Nat.le_refl _) (.cells #[.slice a0 m0 cp0, .int .i64 r.c] TS))
                have h0' : (0 : Int) = 0 := rfl
                go_wp2_with fail
                generalize w3.alloc (.cells #[.slice a0 m0 cp0, .int .i64 r.c] TS) = w4 at *
                generalize w3.heap.size = mb at *
                refine (Clone_any w4 hS4).mono ?_
                rintro e w5 ⟨sb2, bm2, rfl, hs2, hb2, hS5, B5⟩
                have C5 := C4.trans (B5.mono C4.size)
                have z5 := B5.size
                have hbox5 := (B5.block mb hbx).trans hbox
                have hm0 : w5.cell? ⟨mb, 0, none⟩ = some (.slice a0 m0 cp0) := cell_at hbox5 rfl
                have hm1 : w5.cell? ⟨mb, 1, none⟩ = some (.int .i64 r.c) := cell_at hbox5 rfl
                have hml : mb < w5.heap.size := Nat.lt_of_lt_of_le hbx z5
                have hs2l := hS5.lt
                have hb2l := hS5.map.lt
                have hfirst := heap_new w5 (.cells #[.slice a0 m0 cp0, .int .i64 r.c] TS) rfl
                have BX := (Below.refl w5.heap.size w5).alloc (Nat.le_refl _) (.cells #[.slice a0 m0 cp0, .int .i64 r.c] TS)
                have hwn := C2.size
                have hHeld : Held (w5.alloc (.cells #[.slice a0 m0 cp0, .int .i64 r.c] TS)) sb bm mb sb2 bm2 w5.heap.size (.slice a0 m0 cp0) (.slice a0 m0 cp0) r r :=
                  { both := ⟨(hS4.below B5).below BX, (BX.block mb hml).trans hbox5, (hR4.below B5).below BX, (by simpa using hfine.out), hclosed.out, by omega, by omega, fun b hb => by have h1 := hu3 b hb; have h2 := hul b hb; exact ⟨by omega, by omega, by omega⟩⟩
                    clone := hS5.below BX
                    first := hfirst
                    ref := (hR4.below B5).below BX
                    rfine := (by simpa using hfine.out)
                    n1 := by simp; omega
                    n2 := by simp; omega
                    n3 := by simp; omega
                    own := fun b hb => by have h1 := hu3 b hb; have h2 := hul b hb; simp; omega }
                have C6 := C5.alloc C5.size (.cells #[.slice a0 m0 cp0, .int .i64 r.c] TS)
                have hge : w.heap.size ≤ sb ∧ w.heap.size ≤ bm ∧ w.heap.size ≤ mb := by
                  have := hB.size; omega
                go_wp2_with fail
                generalize w5.alloc (.cells #[.slice a0 m0 cp0, .int .i64 r.c] TS) = w6 at *
                generalize w5.heap.size = fb at *
                clear hbox hbox5 hm0 hm1 hml hs2l hb2l hfirst BX hwn hS4 hS5 hR4 hR3 hS2 hS3 hul hu3 hsb hbm hsl hbl z3 z5 hbx hs2 hb2 B2 B3 B5 C2 C3 C4 C5 hRN hN hfine hclosed hsp
                go_loopw [99] (fun v99 wr => ∃ (k : Nat) (v : Value) (s : St), v99 = .int .i64 k ∧ k ≤ A.length ∧ Held wr sb bm mb sb2 bm2 fb v (.slice a0 m0 cp0) s r ∧ Below w.heap.size w wr) (fun v _ => A.length - (intOf v).toNat)
                case atStart => exact ⟨0, _, r, rfl, Nat.zero_le _, hHeld, C6⟩
                case round =>
                  obtain ⟨k, v, s, rfl, hk, hH, hB⟩ := hrel
                  clear hHeld C6
                  by_cases hlt : k < A.length
                  · obtain ⟨fP, fQ⟩ := hsa'.out _ (List.getElem_mem hlt)
                    rcases HA.out with ⟨rfl, _⟩ | ⟨b, o, c0, e, hb, hC⟩
                    · exact absurd hlt (by simp)
                    cases e
                    obtain ⟨x0, x1, x2, x3⟩ := hC k hlt
                    have a0' := (hB.cell (p := ⟨b, o + k * 4, none⟩) hb).trans x0
                    have a1' := (hB.cell (p := ⟨b, o + k * 4 + 1, none⟩) hb).trans x1
                    have a2' := (hB.cell (p := ⟨b, o + k * 4 + 2, none⟩) hb).trans x2
                    have a3' := (hB.cell (p := ⟨b, o + k * 4 + 3, none⟩) hb).trans x3
                    clear hC x0 x1 x2 x3
                    generalize A[k] = f at *
                    obtain ⟨fk, fP', fQ', fa⟩ := f
                    simp only at fP fQ a0' a1' a2' a3'
                    have ik : (k : Int) < A.length := by omega
                    have hHa := hH.below ((Below.refl wr.heap.size wr).alloc (Nat.le_refl _) (.cells #[.int .u8 fk, .string fP', .string fQ', .bool fa] TA))
                    have hab := heap_new wr (.cells #[.int .u8 fk, .string fP', .string fQ', .bool fa] TA) rfl
                    have hal : wr.heap.size < (wr.alloc (.cells #[.int .u8 fk, .string fP', .string fQ', .bool fa] TA)).heap.size := by simp
                    have hBa := hB.alloc hB.size (.cells #[.int .u8 fk, .string fP', .string fQ', .bool fa] TA)
                    have hact := do_any _ sb bm mb v s fk fP' fQ' fa hHa.both fP fQ
                    have hla := hHa.both.code.lt
                    go_wp2_with fail
                    generalize wr.alloc (.cells #[.int .u8 fk, .string fP', .string fQ', .bool fa] TA) = wa at *
                    have hsb' := hH.both.code.lt
                    have hbm' := hH.both.code.map.lt
                    have hmb' := (Array.getElem?_eq_some_iff.1 hH.both.box).1
                    generalize wr.heap.size = ab at *
                    refine hact.mono ?_
                    rintro e wb ⟨v', s', rfl, hb', hK⟩
                    have hHb := hHa.turned hb' hK
                    have hab2 := (hK.block ab hal (by simp; omega)).trans hab
                    have hBb := hBa.trans (hK.to_below hBa.size (by intro i hi; simp at hi; rcases hi with rfl | rfl | rfl <;> omega))
                    have hfl := (Array.getElem?_eq_some_iff.1 hHb.first).1
                    have hml2 := (Array.getElem?_eq_some_iff.1 hHb.both.box).1
                    have hal2 := (Array.getElem?_eq_some_iff.1 hab2).1
                    clear hact hHa hab hal hBa hla hH hB hb' hK a0' a1' a2' a3'
                    obtain ⟨a1, m1, cp1, rfl⟩ := hHb.both.ref.shape
                    have HM : Hid (∀ W, Below wb.heap.size wb W → ((W.cell? ⟨mb, 0, none⟩ = some (.slice a1 m1 cp1) ∧ W.cell? ⟨mb, 1, none⟩ = some (.int .i64 s'.c)) ∧ (W.cell? ⟨fb, 0, none⟩ = some (.slice a0 m0 cp0) ∧ W.cell? ⟨fb, 1, none⟩ = some (.int .i64 r.c)) ∧ W.cell? ⟨ab, 1, none⟩ = some (.string fP') ∧ (mb < W.heap.size ∧ fb < W.heap.size ∧ ab < W.heap.size))) := Lib.hid fun W hBW => by
                      have e1 := (hBW.block mb hml2).trans hHb.both.box
                      have e2 := (hBW.block fb hfl).trans hHb.first
                      have e3 := (hBW.block ab hal2).trans hab2
                      have e4 := hBW.size
                      exact ⟨⟨cell_at e1 rfl, cell_at e1 rfl⟩, ⟨cell_at e2 rfl, cell_at e2 rfl⟩, cell_at e3 rfl, by omega, by omega, by omega⟩
                    have HH := Lib.hid fun W (hBW : Below wb.heap.size wb W) => hHb.below hBW
                    have hsl' : s'.L.length ≤ 100000 := by have := hHb.both.fine.len; omega
                    clear hab2 hfl hml2 hal2 hHb
                    obtain ⟨⟨q0, q1⟩, ⟨q2, q3⟩, q4, q5, q6, q7⟩ := HM.out wb (Below.refl _ _)
                    have h1 := HH.out wb (Below.refl _ _)
                    have hIs := Is_any wb h1.both.code h1.both.ref hsl'
                    clear h1
                    go_wp2_with fail
                    refine hIs.mono ?_
                    rintro e wc ⟨rfl, D1⟩
                    obtain ⟨⟨q0, q1⟩, ⟨q2, q3⟩, q4, q5, q6, q7⟩ := HM.out wc D1
                    have h1 := HH.out wc D1
                    have hlk1 := looks_any wc fP' h1.both.code h1.both.ref h1.both.fine h1.both.closed fP
                    clear h1 hIs
                    go_wp2_with fail
                    refine hlk1.mono ?_
                    rintro e wd ⟨rfl, B2⟩
                    have D2 := D1.trans (B2.mono D1.size)
                    obtain ⟨⟨q0, q1⟩, ⟨q2, q3⟩, q4, q5, q6, q7⟩ := HM.out wd D2
                    have h1 := HH.out wd D2
                    have hlk2 := looks_any wd look h1.both.code h1.both.ref h1.both.fine h1.both.closed (by omega)
                    clear h1 hlk1
                    go_wp2_with fail
                    refine hlk2.mono ?_
                    rintro e we ⟨rfl, B3⟩
                    have D3 := D2.trans (B3.mono D2.size)
                    clear hlk2 D1 D2 B2 B3
                    have CE := hBb.trans (D3.mono hBb.size)
                    obtain ⟨⟨q0, q1⟩, ⟨q2, q3⟩, q4, q5, q6, q7⟩ := HM.out we D3
                    go_wp2_with fail
                    have HSm := Lib.hid fun W (hBW : Below wb.heap.size wb W) => Same_any W look (HH.out W hBW).both.code (HH.out W hBW).clone (by omega) (fun f hf => ⟨by have := (HH.out W hBW).both.fine.path f hf; omega, by have := (HH.out W hBW).both.fine.text f hf; omega⟩) (fun f hf => by have := (HH.out W hBW).rfine.text f hf; omega)
                    have HRS := Lib.hid fun W (hBW : Below wb.heap.size wb W) => RSame_any W (.slice a1 m1 cp1) (.slice a0 m0 cp0) s'.c r.c s'.L r.L look hsl' (by have := (HH.out W hBW).rfine.len; omega) (HH.out W hBW).both.ref (HH.out W hBW).ref (HH.out W hBW).both.fine.sorted (HH.out W hBW).rfine.sorted
                    generalize sameA s'.L r.L (bs look) = q at *
                    have HS4 : Hid (∀ W, Below wb.heap.size wb W → ((W.cell? ⟨mb, 0, none⟩ = some (.slice a1 m1 cp1) ∧ W.cell? ⟨mb, 1, none⟩ = some (.int .i64 s'.c)) ∧ (W.cell? ⟨fb, 0, none⟩ = some (.slice a0 m0 cp0) ∧ W.cell? ⟨fb, 1, none⟩ = some (.int .i64 r.c)))) := Lib.hid fun W hBW => ⟨(HM.out W hBW).1, (HM.out W hBW).2.1⟩
                    have D0 := D3.drew
                    go_region_held3 (fun w' => (w'.cell? ⟨mb, 0, none⟩ = some (.slice a1 m1 cp1) ∧ w'.cell? ⟨mb, 1, none⟩ = some (.int .i64 s'.c)) ∧ (w'.cell? ⟨fb, 0, none⟩ = some (.slice a0 m0 cp0) ∧ w'.cell? ⟨fb, 1, none⟩ = some (.int .i64 r.c)))
                      (first | go_keep | exact HS4.out _ D0 | exact HS4.out _ D4 | exact HS4.out _ D5)
                      (first
                        | (go_at_call 12; refine (HRS.out _ D4).mono ?_; rintro e wg ⟨rfl, Bg⟩; have D5 := D4.trans (Bg.mono D4.size))
                        | (go_at_call 11; refine (HSm.out _ D0).mono ?_; rintro e wf ⟨rfl, Bf⟩; have D4 := D0.trans (Bf.mono D0.size)))
                    all_goals (have hqq : (q != q) = false := by cases q <;> rfl)
                    all_goals go_wp2_with fail
                    go_roundw
                    case rel => exact ⟨k + 1, _, s', by go_num, hlt, HH.out _ D5, hBb.trans (D5.mono hBb.size)⟩
                    case measure => simp [intOf]; omega
                  · obtain rfl : k = A.length := by omega
                    have hfl := (Array.getElem?_eq_some_iff.1 hH.first).1
                    have hml2 := (Array.getElem?_eq_some_iff.1 hH.both.box).1
                    obtain ⟨a1, m1, cp1, rfl⟩ := hH.both.ref.shape
                    have HM : Hid (∀ W, Below wr.heap.size wr W → ((W.cell? ⟨mb, 0, none⟩ = some (.slice a1 m1 cp1) ∧ W.cell? ⟨mb, 1, none⟩ = some (.int .i64 s.c)) ∧ (W.cell? ⟨fb, 0, none⟩ = some (.slice a0 m0 cp0) ∧ W.cell? ⟨fb, 1, none⟩ = some (.int .i64 r.c)) ∧ (mb < W.heap.size ∧ fb < W.heap.size))) := Lib.hid fun W hBW => by
                      have e1 := (hBW.block mb hml2).trans hH.both.box
                      have e2 := (hBW.block fb hfl).trans hH.first
                      have e4 := hBW.size
                      exact ⟨⟨cell_at e1 rfl, cell_at e1 rfl⟩, ⟨cell_at e2 rfl, cell_at e2 rfl⟩, by omega, by omega⟩
                    have HH := Lib.hid fun W (hBW : Below wr.heap.size wr W) => hH.below hBW
                    have hsl' : s.L.length ≤ 100000 := by have := hH.both.fine.len; omega
                    have hrl' : r.L.length ≤ 100000 := by have := hH.rfine.len; omega
                    clear hfl hml2 hH
                    obtain ⟨⟨q0, q1⟩, ⟨q2, q3⟩, q5, q6⟩ := HM.out wr (Below.refl _ _)
                    have h1 := HH.out wr (Below.refl _ _)
                    have hIs := Is_any wr h1.both.code h1.both.ref hsl'
                    clear h1
                    go_wp2_with fail
                    refine hIs.mono ?_
                    rintro e wc ⟨rfl, D1⟩
                    obtain ⟨⟨q0, q1⟩, ⟨q2, q3⟩, q5, q6⟩ := HM.out wc D1
                    have h1 := HH.out wc D1
                    have hlk1 := looks_any wc look h1.both.code h1.both.ref h1.both.fine h1.both.closed (by omega)
                    clear h1 hIs
                    go_wp2_with fail
                    refine hlk1.mono ?_
                    rintro e wd ⟨rfl, B2⟩
                    have D2 := D1.trans (B2.mono D1.size)
                    obtain ⟨⟨q0, q1⟩, ⟨q2, q3⟩, q5, q6⟩ := HM.out wd D2
                    have h1 := HH.out wd D2
                    have hIs2 := Is_any wd h1.clone h1.ref hrl'
                    clear h1 hlk1
                    go_wp2_with fail
                    refine hIs2.mono ?_
                    rintro e we ⟨rfl, B3⟩
                    have D3 := D2.trans (B3.mono D2.size)
                    go_wp2_with fail
                    go_ret
                    exact ⟨rfl, hB.trans (D3.mono hB.size)⟩
              · have hn0 : (n0 == 0) = false := by rw [beq_eq_false_iff_ne]; exact h0
                rw [if_neg h0] at hpost
                obtain ⟨rfl, B2⟩ := hpost
                have C2 := hB.trans (B2.mono hB.size)
                go_wp2_with fail
                refine (hRN.out _ C2).mono ?_
                rintro e w3 ⟨u0, rfl, hR3, hu3, B3⟩
                obtain ⟨a0, m0, cp0, rfl⟩ := hR3.shape
                have C3 := C2.trans (B3.mono C2.size)
                go_wp2_with fail
                go_ret
                exact ⟨rfl, C3.alloc C3.size _⟩
end Go.Proofs.YtmmilnmlmgcobaaGreatDoor.Sw
