/-
  commands and Known: which names there are.
-/
import Derived.Test.YtaolccibflniiaaGreatDoorQHWorld
namespace Go.Proofs.YtaolccibflniiaaGreatDoor.Hx
open Go.RowKit Go.Proofs.YtaolccibflniiaaGreatDoor Go.Maps Go.Proofs.YtaolccibflniiaaGreatDoor.Sw
set_option maxRecDepth 100000

/-- A name's function. -/
def fnOf : Hp.Name → Nat
  | .true_ => 75
  | .false_ => 76
  | .echo => 77
  | .cat => 78
  | .cp => 79
  | .mv => 80
  | .rm => 81
  | .touch => 83
  | .mkdir => 82
  | .test => 84
  | .cd => 85
/-- What the map has at a name. -/
def valOf (p : Bs) : Value := match Hp.nameA p with
  | some n => .func (.func (fnOf n)) #[] #[]
  | none => .nilFunc
def cElem : Value → Option (DataW Unit × List MemPlace)
  | .func (.func f) a b => if a.toList = [] ∧ b.toList = [] then some (.lit (.int .i64 f), []) else none
  | .nilFunc => some (.lit (.bool false), [])
  | _ => none
theorem cElem_fn (f : Nat) : cElem (.func (.func f) #[] #[]) = some (.lit (.int .i64 f), []) := by simp [cElem]
theorem cElem_inv_fn {v : Value} {f : Nat} {ps : List MemPlace} (h : cElem v = some (.lit (.int .i64 f), ps)) : v = .func (.func f) #[] #[] := by
  unfold cElem at h
  split at h
  · split at h
    · rename_i f' a b hab
      simp at h
      obtain ⟨h1, _⟩ := h
      rw [Array.toList_eq_nil_iff.1 hab.1, Array.toList_eq_nil_iff.1 hab.2]
      have h2 : f' = f := Int.ofNat.inj h1
      rw [h2]
    · cases h
  · cases h
  · cases h
theorem cElem_inv_nil {v : Value} {ps : List MemPlace} (h : cElem v = some (.lit (.bool false), ps)) : v = .nilFunc := by
  unfold cElem at h
  split at h
  · split at h <;> cases h
  · rfl
  · cases h
def ent (p : Bs) (n : Hp.Name) : Lit × DataW Unit := (.string p, .lit (.int .i64 (fnOf n)))
def namesD : DataW Unit := .map [ent [99, 97, 116] .cat, ent [99, 100] .cd, ent [99, 112] .cp, ent [101, 99, 104, 111] .echo, ent [102, 97, 108, 115, 101] .false_, ent [109, 107, 100, 105, 114] .mkdir, ent [109, 118] .mv, ent [114, 109] .rm, ent [116, 101, 115, 116] .test, ent [116, 111, 117, 99, 104] .touch, ent [116, 114, 117, 101] .true_]
theorem names_at (p : Bs) (z : DataW Unit) : namesD.atKey (.string p) z = (match Hp.nameA p with | some n => .lit (.int .i64 (fnOf n)) | none => z) ∧ Maps.has namesD (.string p) = (Hp.nameA p).isSome := by
  by_cases h1 : p = [116, 114, 117, 101]
  · subst h1; exact ⟨rfl, rfl⟩
  by_cases h2 : p = [102, 97, 108, 115, 101]
  · subst h2; exact ⟨rfl, rfl⟩
  by_cases h3 : p = [101, 99, 104, 111]
  · subst h3; exact ⟨rfl, rfl⟩
  by_cases h4 : p = [99, 97, 116]
  · subst h4; exact ⟨rfl, rfl⟩
  by_cases h5 : p = [99, 112]
  · subst h5; exact ⟨rfl, rfl⟩
  by_cases h6 : p = [109, 118]
  · subst h6; exact ⟨rfl, rfl⟩
  by_cases h7 : p = [114, 109]
  · subst h7; exact ⟨rfl, rfl⟩
  by_cases h8 : p = [116, 111, 117, 99, 104]
  · subst h8; exact ⟨rfl, rfl⟩
  by_cases h9 : p = [109, 107, 100, 105, 114]
  · subst h9; exact ⟨rfl, rfl⟩
  by_cases h10 : p = [116, 101, 115, 116]
  · subst h10; exact ⟨rfl, rfl⟩
  by_cases h11 : p = [99, 100]
  · subst h11; exact ⟨rfl, rfl⟩
  have hn : Hp.nameA p = none := by unfold Hp.nameA; simp [h1, h2, h3, h4, h5, h6, h7, h8, h9, h10, h11]
  rw [hn]
  unfold namesD DataW.atKey Maps.has ent
  simp [Lit.sameKey, Ne.symm h1, Ne.symm h2, Ne.symm h3, Ne.symm h4, Ne.symm h5, Ne.symm h6, Ne.symm h7, Ne.symm h8, Ne.symm h9, Ne.symm h10, Ne.symm h11]
abbrev MT : TypeId := 114
abbrev FT : TypeId := 112
def NamesAt (w : World) (b : Nat) : Prop := w.ownsMap Tryz.prog 9 cElem b 11 namesD
theorem NamesAt.below {w w' : World} {b : Nat} (h : NamesAt w b) (hB : Below w.heap.size w w') : NamesAt w' b := by
  have hl := h.lt
  obtain ⟨es, clock, hh, r⟩ := h
  exact ⟨es, clock, (hB.block b hl).trans hh, r⟩
theorem NamesAt.block {w w' : World} {b : Nat} (h : NamesAt w b) (hb : w'.heap[b]? = w.heap[b]?) : NamesAt w' b := by
  obtain ⟨es, clock, hh, r⟩ := h
  exact ⟨es, clock, hb.trans hh, r⟩
theorem zeroFn (w : World) : (zeroValue FT).run Tryz.prog w = .ok .nilFunc w := by kernel_rfl
section
variable (w : World) {ops : Array Oper} {rest : List Oper} {o : Oper} {a : Act} {Q : Exit → Act → World → Prop}
theorem wpList_insert_in {R : Value → Option (DataW Unit × List MemPlace)} (hg : o.guard = none) (m x v : Operand) (t : TypeId) (hop : o.op = Op.insert t m x v)
    (k e : TypeId) (K : Keyed Tryz.prog k) (ht : Tryz.prog.underlying t = some (.map k e)) (b n : Nat) (D : DataW Unit)
    (hm : a.eval m = .map (some b)) (hown : w.ownsMap Tryz.prog k R b n D) (hn : n < maxLen) (key val : Value) (kl : Lit) (hx : a.eval x = key) (hv : a.eval v = val) (hkey : keyOf Tryz.prog k key = some kl)
    (d : DataW Unit) (ps : List MemPlace) (hval : R val = some (d, ps))
    (hK : ∀ w', w'.ownsMap Tryz.prog k R b (n + 1) (D.put kl d) → w.mapTurned w' b → wpList Tryz.prog ops Q rest (a.put o.dst undef) w') :
    wpList Tryz.prog ops Q (o :: rest) a w := by
  refine wpList_plain hg fun K' hK' => ?_
  obtain ⟨w', hrun, r1, r2⟩ := hown.store K ht hn hkey hval
  unfold Oper.wp
  simp [execOp, hop, hm, hx, hv, hrun, Result.andThen]
  exact hK' _ _ (hK w' r1 r2)
theorem wpList_name (hg : o.guard = none) (m x : Operand) (hop : o.op = Op.lookup MT m x false) {b : Nat} {p : ByteArray} (hm : a.eval m = .map (some b)) (hx : a.eval x = .string p)
    (hM : NamesAt w b) (hp : p.size ≤ maxLen) (hK : wpList Tryz.prog ops Q rest (a.put o.dst (valOf (bs p))) w) : wpList Tryz.prog ops Q (o :: rest) a w := by
  refine wpList_plain hg fun K' hK' => ?_
  obtain ⟨v, ps, hrun, hv⟩ := hM.lookup key Tryz.underlying114 (zeroFn w) (zd := .lit (.bool false)) (zp := []) rfl (key_of hp)
  rw [(names_at (bs p) (.lit (.bool false))).1] at hv
  have e : v = valOf (bs p) := by
    unfold valOf
    cases hn : Hp.nameA (bs p) with
    | none => rw [hn] at hv; exact cElem_inv_nil hv
    | some n => rw [hn] at hv; exact cElem_inv_fn hv
  subst e
  unfold Oper.wp
  simp [execOp, hop, hm, hx, hrun, Result.andThen]
  exact hK' _ _ hK
theorem wpList_known (hg : o.guard = none) (m x : Operand) (hop : o.op = Op.lookup MT m x true) {b : Nat} {p : ByteArray} (hm : a.eval m = .map (some b)) (hx : a.eval x = .string p)
    (hM : NamesAt w b) (hp : p.size ≤ maxLen) (hK : ∀ v, wpList Tryz.prog ops Q rest (a.put o.dst (.tuple #[v, .bool (Hp.nameA (bs p)).isSome])) w) : wpList Tryz.prog ops Q (o :: rest) a w := by
  refine wpList_lookup_own_ok w hg m x _ hop 9 FT key Tryz.underlying114 cElem (zeroFn w) (.lit (.bool false)) [] rfl b _ _ hm hM _ _ hx (key_of hp) ?_
  intro v ps _
  rw [(names_at (bs p) (.lit (.bool false))).2]
  exact hK v
end
set_option maxHeartbeats 2000000 in
theorem commands_any (w : World) : Calls Tryz.prog 45 #[] w fun e w' => ∃ b, e = .returned (.map (some b)) ∧ w.heap.size ≤ b ∧ NamesAt w' b ∧ Below w.heap.size w w' := by
  have hmm := @run_makeMap Tryz.prog
  have hB := (Below.refl w.heap.size w).alloc (Nat.le_refl _) (.map #[] 0)
  have hown := World.ownsMap_made (H := Unit) w Tryz.prog 9 cElem
  go_enter Tryz.func45, Tryz.ntmps45
  go_wp2_with (refine wpList_insert_in _ rfl _ _ _ _ rfl _ _ key Tryz.underlying114 w.heap.size _ _ rfl hown (by decide) _ _ _ rfl rfl (key_of (by decide)) _ _ (cElem_fn _) ?_; clear hown; intro w2 hown ht; replace hB := hB.grown ht.grown hB.size (fun k e => by cases e; exact Nat.le_refl _); clear ht)
  go_ret
  exact ⟨_, rfl, Nat.le_refl _, hown, hB⟩
theorem Known_any (w : World) (p : ByteArray) (hp : p.size ≤ maxLen) : Calls Tryz.prog 19 #[.string p] w fun e w' => e = .returned (.bool (Hp.nameA (bs p)).isSome) ∧ Below w.heap.size w w' := by
  obtain ⟨g, hg⟩ : ∃ g, (Hp.nameA (bs p)).isSome = g := ⟨_, rfl⟩
  have HG := Lib.hid hg
  rw [hg]
  clear hg
  go_enter Tryz.func19, Tryz.ntmps19
  go_wp2_with (first
    | (go_at_call 45; refine (commands_any _).mono ?_; rintro e w1 ⟨b, rfl, hb, hN, B1⟩)
    | (at_lookup; refine wpList_known _ rfl _ _ rfl rfl rfl hN hp ?_; rw [HG.out]; intro v))
  go_ret
  exact ⟨rfl, B1⟩
end Go.Proofs.YtaolccibflniiaaGreatDoor.Hx
