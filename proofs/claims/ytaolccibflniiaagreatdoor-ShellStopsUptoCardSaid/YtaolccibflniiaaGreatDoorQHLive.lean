/-
  The chapter's example; which names there are; no store.
-/
import Derived.Laws.StructEq
import Derived.Test.YtaolccibflniiaaGreatDoorQHShell
import Derived.Test.YtaolccibflniiaaGreatDoorQPLine
import Derived.Test.YtaolccibflniiaaGreatDoorQSNew
namespace Go.Proofs.YtaolccibflniiaaGreatDoor.Hx
open Go.RowKit Go.Proofs.YtaolccibflniiaaGreatDoor Go.Maps Go.Proofs.YtaolccibflniiaaGreatDoor.Sw
set_option maxRecDepth 100000

def liveS : ByteArray := ⟨#[101, 99, 104, 111, 32, 97, 32, 62, 120, 32, 38, 38, 32, 99, 97, 116, 32, 120]⟩
def liveL : List Pp.C := [⟨1, [[101, 99, 104, 111], [97]], [⟨4, [120]⟩]⟩, ⟨2, [[99, 97, 116], [120]], []⟩]
theorem live_line : Pp.lineA (Lx.by8 liveS) = some liveL := by kernel_rfl
theorem live_new : newA [] = (⟨[], 0⟩, 0) := by kernel_rfl
theorem live_run : (Hp.lineA ⟨[], 0⟩ [46] liveL (-1)).status = 0 ∧ (Hp.lineA ⟨[], 0⟩ [46] liveL (-1)).out = [97, 10] ∧ (Hp.lineA ⟨[], 0⟩ [46] liveL (-1)).ran = 2 ∧ (Hp.lineA ⟨[], 0⟩ [46] liveL (-1)).d = [46] ∧ (Hp.lineA ⟨[], 0⟩ [46] liveL (-1)).code = 0 := by
  refine ⟨?_, ?_, ?_, ?_, ?_⟩ <;> kernel_rfl
theorem live_run2 : ∃ r : Hp.R, Hp.lineA ⟨[], 0⟩ [46] liveL (-1) = r ∧ r.status = 0 ∧ r.out = [97, 10] ∧ r.ran = 2 ∧ r.d = [46] ∧ r.code = 0 := ⟨_, rfl, live_run⟩
theorem live_root : ((getR [] [46]).map (·.d)).getD false = true := by kernel_rfl
theorem live_right : Pp.rightA liveL = true := by kernel_rfl

/- Results, compared. -/
abbrev ER : TypeId := 30
theorem fieldsRes : Tryz.prog.underlying resT = some (.struct (Tryz.prog.fieldsOf resT)) := by kernel_rfl
theorem fieldsResL : (Tryz.prog.fieldsOf resT).toList.map (fun f => (f.name, f.type, f.offset)) = [("Status", 3, 0), ("Out", 9, 1), ("Ran", 3, 2), ("Cwd", 9, 3), ("Code", ER, 4)] := by kernel_rfl
theorem guardRes : Tryz.prog.eqGuardType Tryz.prog.depth resT = false := by kernel_rfl
theorem eq_res (w : World) (a a' c c' e e' : Int) (b b' d d' : ByteArray) :
    (Op.equalIn 10000 resT (.agg #[.int .i64 a, .string b, .int .i64 c, .string d, .int .i64 e]) (.agg #[.int .i64 a', .string b', .int .i64 c', .string d', .int .i64 e'])).run Tryz.prog w = .ok (a == a' && (b.toList == b'.toList && (c == c' && (d.toList == d'.toList && e == e')))) w := by
  have hp : Tryz.prog.stoodInHeld resT = false := by kernel_rfl
  rw [run_equalIn_struct _ _ _ _ _ fieldsRes hp]
  have hf := fieldsResL
  generalize (Tryz.prog.fieldsOf resT).toList = fs at hf
  obtain ⟨f1, l1, rfl, h1, hl1⟩ := List.map_eq_cons_iff.1 hf
  obtain ⟨f2, l2, rfl, h2, hl2⟩ := List.map_eq_cons_iff.1 hl1
  obtain ⟨f3, l3, rfl, h3, hl3⟩ := List.map_eq_cons_iff.1 hl2
  obtain ⟨f4, l4, rfl, h4, hl4⟩ := List.map_eq_cons_iff.1 hl3
  obtain ⟨f5, l5, rfl, h5, hl5⟩ := List.map_eq_cons_iff.1 hl4
  obtain rfl := List.map_eq_nil_iff.1 hl5
  simp only [Prod.mk.injEq] at h1 h2 h3 h4 h5
  obtain ⟨n1, t1, o1⟩ := h1
  obtain ⟨n2, t2, o2⟩ := h2
  obtain ⟨n3, t3, o3⟩ := h3
  obtain ⟨n4, t4, o4⟩ := h4
  obtain ⟨n5, t5, o5⟩ := h5
  unfold Op.eqFields Op.eqFields Op.eqFields Op.eqFields Op.eqFields Op.eqFields
  rw [n1, n2, n3, n4, n5, t1, t2, t3, t4, t5, o1, o2, o3, o4, o5]
  simp [go_sem, part]
  by_cases h1 : a = a' <;> by_cases h2 : b.toList = b'.toList <;> by_cases h3 : c = c' <;> by_cases h4 : d.toList = d'.toList <;> by_cases h5 : e = e' <;> simp [h1, h2, h3, h4, h5]
theorem eql_res (w : World) (a c e : Int) (b d : ByteArray) : (binOp .eql resT (.agg #[.int .i64 a, .string b, .int .i64 c, .string d, .int .i64 e]) (.agg #[.int .i64 a, .string b, .int .i64 c, .string d, .int .i64 e])).run Tryz.prog w = .ok (.bool true) w := by
  rw [run_eql_struct, eq_res]; simp [Result.andThen]

/-- What isn't a store's lies beside it. -/
theorem store_cell {w : World} {sb bm : Nat} {L : List F} {c : Int} (hS : StoreAt w sb bm L c) {b o : Nat} {v : Value} (hb : b = sb ∨ b = bm) (h : w.cell? ⟨b, o, none⟩ = some v) : (o = 0 ∧ v = .int .i64 c) ∨ (o = 1 ∧ v = .map (some bm)) := by
  rcases hb with rfl | rfl
  · rw [World.cell?, hS.cells] at h
    match o, h with
    | 0, h => left; exact ⟨rfl, (Option.some.inj h).symm⟩
    | 1, h => right; exact ⟨rfl, (Option.some.inj h).symm⟩
    | n + 2, h => simp at h
  · obtain ⟨es, clock, hh, _⟩ := hS.map.own
    rw [World.cell?, hh] at h
    simp at h
theorem rg_apart {w : World} {sb bm : Nat} {L : List F} {c : Int} (hS : StoreAt w sb bm L c) {P : Nat → Prop} {v : Value} {n : Nat} {xs : List Value} (h : Px.Rg w P v n xs)
    (hx : n ≠ 0 → (∃ s, xs[0]? = some (.string s)) ∨ (∃ k u, xs[0]? = some (.int .i64 k) ∧ xs[1]? = some u ∧ u ≠ .map (some bm))) : Px.Rg w (fun b => P b ∧ b ≠ sb ∧ b ≠ bm) v n xs := by
  obtain ⟨a, cp, hv, hc, h⟩ := h
  refine ⟨a, cp, hv, hc, ?_⟩
  by_cases hn : n = 0
  · exact .inl hn
  · obtain ⟨b, o, ha, hb, hcell⟩ := h.resolve_left hn
    refine .inr ⟨b, o, ha, ⟨hb, ?_⟩, hcell⟩
    have : ¬ (b = sb ∨ b = bm) := fun e => by
      rcases hx hn with ⟨s, h0⟩ | ⟨k, u, h0, h1, hu⟩
      · rcases store_cell hS e (hcell 0 _ h0) with ⟨_, h⟩ | ⟨_, h⟩ <;> cases h
      · rcases store_cell hS e (hcell 0 _ h0) with ⟨ho, h⟩ | ⟨_, h⟩
        · rcases store_cell hS e (hcell 1 _ h1) with ⟨ho', h'⟩ | ⟨_, h'⟩
          · omega
          · exact hu h'
        · cases h
    exact ⟨fun e => this (.inl e), fun e => this (.inr e)⟩
theorem cs_apart {w : World} {sb bm : Nat} {L : List F} {c : Int} (hS : StoreAt w sb bm L c) {P : Nat → Prop} {v : Value} {X : List Px.CV} (h : Px.Cs w P v X) : Px.Cs w (fun b => P b ∧ b ≠ sb ∧ b ≠ bm) v X := by
  refine ⟨rg_apart hS h.1 fun hn => ?_, fun x hx => ⟨rg_apart hS (h.2 x hx).1 fun hn => ?_, rg_apart hS (h.2 x hx).2 fun hn => ?_⟩⟩
  · cases X with
    | nil => exact absurd rfl hn
    | cons x r =>
      obtain ⟨a, cp, hv, _⟩ := (h.2 x (by simp)).1.shape
      exact .inr ⟨x.c.on, x.vw, rfl, rfl, by rw [hv]; exact fun e => by cases e⟩
  · cases hw : x.c.ws with
    | nil => rw [hw] at hn; exact absurd rfl hn
    | cons y r => exact .inl ⟨_, rfl⟩
  · cases ht : x.c.to with
    | nil => rw [ht] at hn; exact absurd rfl hn
    | cons y r => exact .inr ⟨y.k, .string (str y.p), rfl, rfl, fun e => by cases e⟩

theorem live_few : ∀ c ∈ liveL, c.ws.length ≤ 9223372036854775807 ∧ c.to.length ≤ 9223372036854775807 := by
  intro c hc
  unfold liveL at hc
  rcases List.mem_cons.1 hc with rfl | hc
  · exact ⟨Nat.le_trans (show 2 ≤ 1000 by omega) (by omega), Nat.le_trans (show 1 ≤ 1000 by omega) (by omega)⟩
  · obtain rfl := List.mem_singleton.1 hc
    exact ⟨Nat.le_trans (show 2 ≤ 1000 by omega) (by omega), Nat.le_trans (show 0 ≤ 1000 by omega) (by omega)⟩
theorem fine_nil : Fine ⟨[], 0⟩ := ⟨by simp [Sp.Sorted], by decide, by decide, by decide, fun f h => by simp at h, fun f h => by simp at h⟩
theorem few_live : 2 * (1 + Hp.wL liveL) + 3 ≤ 100000 := by decide

set_option maxHeartbeats 2000000 in
theorem lives_any (w : World) (hG : Lx.Glob w) : Calls Tryz.prog 6 #[] w fun e w' => e = .returned (.bool true) ∧ Below w.heap.size w w' := by
  have HN : Hid (∀ W : World, Calls Tryz.prog 8 #[.slice none 0 0] W fun e w' => ∃ sb bm, e = .returned (.tuple #[.pointer (some ⟨sb, 0, none⟩), .int .i64 0]) ∧ W.heap.size ≤ sb ∧ W.heap.size ≤ bm ∧ StoreAt w' sb bm [] 0 ∧ Below W.heap.size W w') := Lib.hid fun W => (New_none W none 0).mono fun e w' h => by
    rw [live_new] at h; exact h
  have HL := Lib.hid fun (W : World) (h : Lx.Glob W) => (Px.Line_any W liveS (by decide) h)
  rw [live_line] at HL
  have HG := Lib.hid hG
  have hq := fun W => eql_res W 0 2 0 ⟨#[97, 10]⟩ ⟨#[46]⟩
  have hgd := guardRes
  clear hG
  go_enter Tryz.func6, Tryz.ntmps6
  go_wp2_with fail
  refine (HN.out _).mono ?_
  rintro e w1 ⟨sb, bm, rfl, hsb, hbm, hS, B1⟩
  have HS := Lib.hid hS
  clear hS
  go_wp2_with fail
  refine (HL.out _ (HG.out.below B1)).mono ?_
  rintro e w2 ⟨⟨v, X, hX, rfl, hC⟩, B2⟩
  obtain ⟨a, cp, rfl, _⟩ := hC.1.shape
  have hS2 := HS.out.below B2
  have HC : Hid (Px.Cs w2 (fun b => b < w2.heap.size ∧ b ≠ sb ∧ b ≠ bm) (.slice a X.length cp) X) := Lib.hid (cs_apart hS2 hC)
  have hl : X.length = 2 := by have := congrArg List.length hX; simpa [liveL] using this
  have hfew : Px.Few X := ⟨by omega, fun x hx => by
    have : x.c ∈ liveL := by rw [← hX]; exact List.mem_map_of_mem hx
    exact live_few _ this⟩
  obtain ⟨r, hr, r1, r2, r3, r4, r5⟩ := live_run2
  have hXc : X.map (·.c) = liveL := hX
  have hb : bs ⟨#[46]⟩ = [46] := rfl
  have hRun := Run_any w2 ⟨[], 0⟩ ⟨#[46]⟩ 1 a cp X (-1) hS2 fine_nil Closed.nil (by decide) (by decide) HC.out hfew (by rw [hXc]; exact few_live) live_root (by rw [hXc]; exact live_right) r (by rw [hXc, hb]; exact hr)
  rw [r1, r2, r3, r4, r5] at hRun
  have HRun := Lib.hid hRun
  have hlt := hS2.lt
  have hltm := hS2.map.lt
  clear hRun hr r1 r2 r3 r4 r5 hb hXc hfew hC hX hS2 hl
  go_wp2_with fail
  refine HRun.out.mono ?_
  rintro e w3 ⟨rfl, _, hK⟩
  have B3 : Below w.heap.size w w3 := (B1.trans (B2.mono B1.size)).trans (hK.to_below (Nat.le_trans B1.size B2.size) (fun i hi => by simp at hi; omega))
  clear hK B1 B2
  have e1 : str [97, 10] = ⟨#[97, 10]⟩ := rfl
  have e2 : str [46] = ⟨#[46]⟩ := rfl
  rw [e1, e2]
  clear e1 e2
  go_wp2_with fail
  go_ret
  exact ⟨rfl, B3.alloc B3.size _⟩
end Go.Proofs.YtaolccibflniiaaGreatDoor.Hx
