/-
  commands and Known: which names there are.
  (*run).command: one command.
-/
import Derived.Test.YteommneijlelkaaGreatDoorQHWorld
import Derived.Test.YteommneijlelkaaGreatDoorQHCat
import Derived.Test.YteommneijlelkaaGreatDoorQHTest
namespace Go.Proofs.YteommneijlelkaaGreatDoor.Hx
open Go.RowKit Go.Proofs.YteommneijlelkaaGreatDoor Go.Maps Go.Proofs.YteommneijlelkaaGreatDoor.Sw
set_option maxRecDepth 100000

/-- A name's function. -/
def fnOf : Hp.Name → Nat
  | .true_ => 76
  | .false_ => 77
  | .echo => 78
  | .cat => 79
  | .cp => 80
  | .mv => 81
  | .rm => 82
  | .touch => 84
  | .mkdir => 83
  | .test => 85
  | .cd => 86
/-- What the map has at a name. -/
def valOf (p : Bs) : Value := match Hp.nameA p with
  | some n => .func (.func (fnOf n)) #[] #[]
  | none => .nilFunc
def cElem : Value → Option (DataW Unit × List MemPlace)
  | .func (.func f) a b => if a.toList = [] ∧ b.toList = [] then some (.lit (.int .i64 f), []) else none
  | .nilFunc => some (.lit (.bool false), [])
  | _ => none
theorem cElem_fn (f : Nat) : cElem (.func (.func f) #[] #[]) = some (.lit (.int .i64 f), []) := by simp [cElem]
theorem cElem_inv_fn {v : Value} {f : Nat} {ps : List MemPlace} (h : cElem v = some (.lit (.int .i64 f), ps)) : v = .func (.func f) #[] #[] := by
  unfold cElem at h
  split at h
  · split at h
    · rename_i f' a b hab
      simp at h
      obtain ⟨h1, _⟩ := h
      rw [Array.toList_eq_nil_iff.1 hab.1, Array.toList_eq_nil_iff.1 hab.2]
      have h2 : f' = f := Int.ofNat.inj h1
      rw [h2]
    · cases h
  · cases h
  · cases h
theorem cElem_inv_nil {v : Value} {ps : List MemPlace} (h : cElem v = some (.lit (.bool false), ps)) : v = .nilFunc := by
  unfold cElem at h
  split at h
  · split at h <;> cases h
  · rfl
  · cases h
def ent (p : Bs) (n : Hp.Name) : Lit × DataW Unit := (.string p, .lit (.int .i64 (fnOf n)))
def namesD : DataW Unit := .map [ent [99, 97, 116] .cat, ent [99, 100] .cd, ent [99, 112] .cp, ent [101, 99, 104, 111] .echo, ent [102, 97, 108, 115, 101] .false_, ent [109, 107, 100, 105, 114] .mkdir, ent [109, 118] .mv, ent [114, 109] .rm, ent [116, 101, 115, 116] .test, ent [116, 111, 117, 99, 104] .touch, ent [116, 114, 117, 101] .true_]
theorem names_at (p : Bs) (z : DataW Unit) : namesD.atKey (.string p) z = (match Hp.nameA p with | some n => .lit (.int .i64 (fnOf n)) | none => z) ∧ Maps.has namesD (.string p) = (Hp.nameA p).isSome := by
  by_cases h1 : p = [116, 114, 117, 101]
  · subst h1; exact ⟨rfl, rfl⟩
  by_cases h2 : p = [102, 97, 108, 115, 101]
  · subst h2; exact ⟨rfl, rfl⟩
  by_cases h3 : p = [101, 99, 104, 111]
  · subst h3; exact ⟨rfl, rfl⟩
  by_cases h4 : p = [99, 97, 116]
  · subst h4; exact ⟨rfl, rfl⟩
  by_cases h5 : p = [99, 112]
  · subst h5; exact ⟨rfl, rfl⟩
  by_cases h6 : p = [109, 118]
  · subst h6; exact ⟨rfl, rfl⟩
  by_cases h7 : p = [114, 109]
  · subst h7; exact ⟨rfl, rfl⟩
  by_cases h8 : p = [116, 111, 117, 99, 104]
  · subst h8; exact ⟨rfl, rfl⟩
  by_cases h9 : p = [109, 107, 100, 105, 114]
  · subst h9; exact ⟨rfl, rfl⟩
  by_cases h10 : p = [116, 101, 115, 116]
  · subst h10; exact ⟨rfl, rfl⟩
  by_cases h11 : p = [99, 100]
  · subst h11; exact ⟨rfl, rfl⟩
  have hn : Hp.nameA p = none := by unfold Hp.nameA; simp [h1, h2, h3, h4, h5, h6, h7, h8, h9, h10, h11]
  rw [hn]
  unfold namesD DataW.atKey Maps.has ent
  simp [Lit.sameKey, Ne.symm h1, Ne.symm h2, Ne.symm h3, Ne.symm h4, Ne.symm h5, Ne.symm h6, Ne.symm h7, Ne.symm h8, Ne.symm h9, Ne.symm h10, Ne.symm h11]
abbrev MT : TypeId := 123
abbrev FT : TypeId := 126
def NamesAt (w : World) (b : Nat) : Prop := w.ownsMap Tryz.prog 9 cElem b 11 namesD
theorem NamesAt.below {w w' : World} {b : Nat} (h : NamesAt w b) (hB : Below w.heap.size w w') : NamesAt w' b := by
  have hl := h.lt
  obtain ⟨es, clock, hh, r⟩ := h
  exact ⟨es, clock, (hB.block b hl).trans hh, r⟩
theorem NamesAt.block {w w' : World} {b : Nat} (h : NamesAt w b) (hb : w'.heap[b]? = w.heap[b]?) : NamesAt w' b := by
  obtain ⟨es, clock, hh, r⟩ := h
  exact ⟨es, clock, hb.trans hh, r⟩
theorem zeroFn (w : World) : (zeroValue FT).run Tryz.prog w = .ok .nilFunc w := by kernel_rfl
section
variable (w : World) {ops : Array Oper} {rest : List Oper} {o : Oper} {a : Act} {Q : Exit → Act → World → Prop}
theorem wpList_insert_in {R : Value → Option (DataW Unit × List MemPlace)} (hg : o.guard = none) (m x v : Operand) (t : TypeId) (hop : o.op = Op.insert t m x v)
    (k e : TypeId) (K : Keyed Tryz.prog k) (ht : Tryz.prog.underlying t = some (.map k e)) (b n : Nat) (D : DataW Unit)
    (hm : a.eval m = .map (some b)) (hown : w.ownsMap Tryz.prog k R b n D) (hn : n < maxLen) (key val : Value) (kl : Lit) (hx : a.eval x = key) (hv : a.eval v = val) (hkey : keyOf Tryz.prog k key = some kl)
    (d : DataW Unit) (ps : List MemPlace) (hval : R val = some (d, ps))
    (hK : ∀ w', w'.ownsMap Tryz.prog k R b (n + 1) (D.put kl d) → w.mapTurned w' b → wpList Tryz.prog ops Q rest (a.put o.dst undef) w') :
    wpList Tryz.prog ops Q (o :: rest) a w := by
  refine wpList_plain hg fun K' hK' => ?_
  obtain ⟨w', hrun, r1, r2⟩ := hown.store K ht hn hkey hval
  unfold Oper.wp
  simp [execOp, hop, hm, hx, hv, hrun, Result.andThen]
  exact hK' _ _ (hK w' r1 r2)
end
set_option maxHeartbeats 2000000 in
theorem commands_any (w : World) : Calls Tryz.prog 50 #[] w fun e w' => ∃ b, e = .returned (.map (some b)) ∧ w.heap.size ≤ b ∧ NamesAt w' b ∧ Below w.heap.size w w' := by
  have hmm := @run_makeMap Tryz.prog
  have hB := (Below.refl w.heap.size w).alloc (Nat.le_refl _) (.map #[] 0)
  have hown := World.ownsMap_made (H := Unit) w Tryz.prog 9 cElem
  go_enter Tryz.func50, Tryz.ntmps50
  go_wp2_with (refine wpList_insert_in _ rfl _ _ _ _ rfl _ _ key Tryz.underlying123 w.heap.size _ _ rfl hown (by decide) _ _ _ rfl rfl (key_of (by decide)) _ _ (cElem_fn _) ?_; clear hown; intro w2 hown ht; replace hB := hB.grown ht.grown hB.size (fun k e => by cases e; exact Nat.le_refl _); clear ht)
  go_ret
  exact ⟨_, rfl, Nat.le_refl _, hown, hB⟩
end Go.Proofs.YteommneijlelkaaGreatDoor.Hx
namespace Go.Proofs.YteommneijlelkaaGreatDoor.Hx
open Go.RowKit Go.Proofs.YteommneijlelkaaGreatDoor Go.Maps Go.Proofs.YteommneijlelkaaGreatDoor.Sw
set_option maxRecDepth 100000

theorem enters_do (n : Hp.Name) : ∀ args w, (callFunc (fnOf n) args).run Tryz.prog w = .ok (.enter (fnOf n) args) w := by
  cases n
  · exact enters_of Tryz.func76 (by kernel_rfl) rfl
  · exact enters_of Tryz.func77 (by kernel_rfl) rfl
  · exact enters_of Tryz.func78 (by kernel_rfl) rfl
  · exact enters_of Tryz.func79 (by kernel_rfl) rfl
  · exact enters_of Tryz.func80 (by kernel_rfl) rfl
  · exact enters_of Tryz.func81 (by kernel_rfl) rfl
  · exact enters_of Tryz.func82 (by kernel_rfl) rfl
  · exact enters_of Tryz.func84 (by kernel_rfl) rfl
  · exact enters_of Tryz.func83 (by kernel_rfl) rfl
  · exact enters_of Tryz.func85 (by kernel_rfl) rfl
  · exact enters_of Tryz.func86 (by kernel_rfl) rfl
theorem len_wtL (l : List Bs) : l.length ≤ Hp.wtL l := by
  induction l with
  | nil => simp
  | cons x r ih => have e : Hp.wtL (x :: r) = (x.length + 2) + Hp.wtL r := rfl; rw [List.length_cons]; omega
section
variable {rb sb bm B : Nat} {st ran : Int} {pv bv : Value}
theorem do_any (w : World) (k : Hp.K) (m : Nat) (v : Value) (x : Bs) (l : List Bs) (n : Hp.Name) (hn : Hp.nameA x = some n) (hO : Hp.Ok k m) (h0 : k.code = 0) (h9 : k.outp = []) (hR : RunAt w rb sb bm k st ran pv bv) (hv : Ws w rb sb bm v l) (hl : 2 * m + Hp.wtL l + 3 ≤ 100000) :
    Calls Tryz.prog (fnOf n) #[.pointer (some ⟨rb, 0, none⟩), v] w (DoPost w rb sb bm st ran pv bv (Hp.doA k x l)) := by
  have hd := hO.dir
  have hF := hO.fine
  have hrd := Hp.read_len hO
  have hll := len_wtL l
  have hx : ∀ y ∈ l, k.d.length + y.length + 2 ≤ 100000 := fun y hy => by have := Hp.wtL_mem hy; omega
  unfold Hp.doA
  rw [hn]
  cases n
  · exact succeed_any w k v h0 hR
  · exact fail_any w k v h0 hR
  · exact echo_any w k v l h0 hR hv (by omega)
  · exact cat_any w k v l h0 h9 hrd hR hv hx (by omega)
  · exact cp_any w k v l h0 hF hrd hR hv (by omega)
  · exact mv_any w k v l h0 hF hR hv (by omega)
  · exact rm_any w k v l h0 hF hR hv hx (by omega)
  · exact touch_any w k v l h0 hF hR hv hx (by omega)
  · exact mkdir_any w k v l h0 hF hR hv hx (by omega)
  · exact test_any w k v l h0 hR (by omega) hv (by omega) (by omega)
  · exact cd_any w k v l h0 hR (by omega) hv (by omega)

/-! ### the plain side: telling is delivering -/
theorem tell_is {k : Hp.K} {n : Nat} {out dst : Bs} (h0 : k.code = 0) (ho : out.length ≤ 1048576) : Hp.tellA k n out dst = ((delA k out dst).1, (delA k out dst).2.1, max n (delA k out dst).2.2) := by
  unfold Hp.tellA delA
  rw [if_neg (by simp [h0])]
  by_cases h1 : k.outp = []
  · rw [if_pos h1, h1]
    by_cases h2 : dst = []
    · rw [if_pos h2, List.append_nil, if_neg (by omega)]
      obtain ⟨s, d, c, i, o⟩ := k
      dsimp only at h1
      subst h1
      simp
    · rw [if_neg h2, if_pos rfl]
      simp
  · by_cases h2 : dst = []
    · simp [h1, h2]
    · simp only [if_neg h1, if_neg h2]
      have hk : (k.took (Sw.writeA k.s dst k.outp true)).2 = 0 ∨ (k.took (Sw.writeA k.s dst k.outp true)).2 = 1 := by
        unfold Hp.K.took; simp only; split <;> simp
      rcases hk with e | e
      · rw [e]; simp
      · rw [e]
        by_cases hn : n = 0
        · subst hn; simp
        · simp [hn]; omega

def CmdP (w : World) (rb sb bm B : Nat) (st ran : Int) (r : Hp.K × Bs × Nat) (e : Ending) (w' : World) : Prop :=
  (if r.1.code = 0 then e = .returned (.int .i64 r.2.2) else e = endE r.1.code) ∧ (∃ i o pv bv, Told w' rb sb bm B ⟨r.1.s, r.1.d, r.1.code, i, o⟩ st ran r.2.1 pv bv) ∧ KeptB B [rb, sb, bm] w w'

theorem eq_nilF (w : World) (v : Value) (hv : v = .nilFunc ∨ ∃ f, v = .func (.func f) #[] #[]) (g : Bool) (hg : g = true ↔ v = .nilFunc) : (binOp .eql FT v .nilFunc).run Tryz.prog w = .ok (.bool g) w := by
  rcases hv with rfl | ⟨f, rfl⟩
  · obtain rfl : g = true := hg.2 rfl
    rfl
  · obtain rfl : g = false := by cases g with | false => rfl | true => exact absurd (hg.1 rfl) (by simp)
    rfl
theorem open_code : ∀ (l : List Pp.G) (k : Hp.K) (d : Bs), k.code = 0 → ∀ t, (Hp.openA k l d).2 = some t → (Hp.openA k l d).1.code = 0
  | [], k, d, h, _, _ => h
  | g :: r, k, d, h, t, ht => by
    cases hj : Hp.joinP k.d g.p with
    | none => rw [open_cons_no hj] at ht; cases ht
    | some p =>
      by_cases h6 : g.k = 6
      · rw [open_cons_in hj h6] at ht ⊢
        split
        · rename_i hc; rw [if_pos hc] at ht
          exact open_code r _ d h t ht
        · rename_i hc; rw [if_neg hc] at ht; cases ht
      · rw [open_cons_out hj h6] at ht ⊢
        split
        · rename_i hc; rw [if_pos hc] at ht
          refine open_code r _ p ?_ t ht
          generalize Sw.writeA k.s p [] (decide (g.k = 5)) = q at *
          obtain ⟨s2, cd⟩ := q
          have : cd = 0 := by
            apply Classical.byContradiction
            intro e
            have : (k.took (s2, cd)).2 = 1 := if_neg e
            rw [this] at hc; cases hc
          subst this
          exact h
        · rename_i hc; rw [if_neg hc] at ht; cases ht
set_option maxHeartbeats 2000000 in
theorem command_any (w : World) (s : St) (d : Bs) (i0 o0 out : Bs) (m : Nat) (vw vt : Value) (c : Pp.C) (x : Bs) (ws : List Bs) (hc : c.ws = x :: ws) (hT : Told w rb sb bm B ⟨s, d, 0, i0, o0⟩ st ran out pv bv) (hF : Fine s) (hCl : Closed s.L) (hd : d.length ≤ m) (hI : Px.In w (Old rb sb bm) ⟨c, vw, vt⟩) (ho : out.length ≤ 1048576) (hm : 2 * m + Hp.wC c + 3 ≤ 100000) :
    Calls Tryz.prog 52 #[.pointer (some ⟨rb, 0, none⟩), .agg #[.int .i64 c.on, vw, vt], valOf x] w (CmdP w rb sb bm B st ran (Hp.wholeA s d 0 out c)) := by
  obtain ⟨h1, h2⟩ := hI
  dsimp only at h1 h2
  have hll := len_wtL c.ws
  have hgt : c.to.length ≤ Hp.gtL c.to := by
    have : ∀ l : List Pp.G, l.length ≤ Hp.gtL l := fun l => by
      induction l with
      | nil => simp
      | cons y r ih => have e : Hp.gtL (y :: r) = (y.p.length + 2) + Hp.gtL r := rfl; rw [List.length_cons]; omega
    exact this _
  have hwC : Hp.wC c = Hp.wtL c.ws + Hp.gtL c.to := rfl
  have hlt := hT.run.lt
  have hroom := hT.room
  have hlr := hT.lr
  have hls := hT.ls
  have hlm := hT.lm
  have f8 := hT.run.frozen 8
  have f9 := hT.run.frozen 9
  obtain ⟨c0, c1, c3, c4, c8, c9⟩ := hT.run.cells
  obtain ⟨aw, cw, rfl, hcw⟩ := h1.shape
  obtain ⟨at_, ct, rfl, hct⟩ := h2.shape
  have hR1 : RunAt (((w.setCell ⟨rb, 8, none⟩ (.string ⟨#[]⟩)).setCell ⟨rb, 9, none⟩ (.string ⟨#[]⟩)).alloc (.cells #[.int .i64 c.on, .slice aw (ws.length + 1) cw, .slice at_ c.to.length ct] Px.C1)) rb sb bm ⟨s, d, 0, [], []⟩ st ran pv bv := ((hT.run.set8 []).set9 []).alloc _
  have hK1 : Kept [rb, sb, bm] w (((w.setCell ⟨rb, 8, none⟩ (.string ⟨#[]⟩)).setCell ⟨rb, 9, none⟩ (.string ⟨#[]⟩)).alloc (.cells #[.int .i64 c.on, .slice aw (ws.length + 1) cw, .slice at_ c.to.length ct] Px.C1)) := (kept_set (kept_set (.refl _ _) (by simp) _) (by simp) _).alloc _
  have hz1 := heap_new ((w.setCell ⟨rb, 8, none⟩ (.string ⟨#[]⟩)).setCell ⟨rb, 9, none⟩ (.string ⟨#[]⟩)) (.cells #[.int .i64 c.on, .slice aw (ws.length + 1) cw, .slice at_ c.to.length ct] Px.C1) (n := w.heap.size) (by simp [World.setCell])
  have hn1 : w.heap.size < (((w.setCell ⟨rb, 8, none⟩ (.string ⟨#[]⟩)).setCell ⟨rb, 9, none⟩ (.string ⟨#[]⟩)).alloc (.cells #[.int .i64 c.on, .slice aw (ws.length + 1) cw, .slice at_ c.to.length ct] Px.C1)).heap.size := (Array.getElem?_eq_some_iff.1 hz1).1
  have hT1 := hT.ran_ hR1 hK1
  have hv1 := h1.keep (kept_old hK1 (by simp [hT.run.n1]) hlt)
  have ht1 := h2.keep (kept_old hK1 (by simp [hT.run.n1]) hlt)
  rw [hc] at hv1
  have hO1 : Hp.Ok ⟨s, d, 0, [], []⟩ m := ⟨hF, hCl, hd, by simp, by simp⟩
  have hred := redirect_any _ ⟨s, d, 0, [], []⟩ m _ c.to hR1 hO1 rfl ht1 (fun g hg => by have := Hp.gtL_mem hg; omega) (by omega)
  obtain ⟨⟨k2, o2⟩, hop⟩ : ∃ q, Hp.openA ⟨s, d, 0, [], []⟩ c.to [] = q := ⟨_, rfl⟩
  obtain ⟨q1, q2, q3, q4⟩ := Hp.open_ok c.to ⟨s, d, 0, [], []⟩ m [] hO1 (fun g hg => by have := Hp.gtL_mem hg; omega)
  have q5 := open_code c.to ⟨s, d, 0, [], []⟩ [] rfl
  rw [hop] at q1 q2 q3 q4 q5
  dsimp only at q1 q2 q3 q4 q5
  have hnb : w.heap.size ∉ [rb, sb, bm] := by
    have h3 := hT.run.store.lt
    have h4 := hT.run.store.map.lt
    simp; omega
  have hrr : ∀ i ∈ [rb, sb, bm], i ∈ [rb, sb, bm] ∨ B ≤ i := fun i hi => .inl hi
  have HOP := Lib.hid hop
  have HRed := Lib.hid hred
  have HC := Lib.hid hc
  have HWC := Lib.hid hwC
  clear hred hop h1 h2 ht1 hT hwC
  cases o2 with
  | none =>
    have HW : Hid (Hp.wholeA s d 0 out c = (k2, out, 1)) := Lib.hid (by unfold Hp.wholeA; rw [HOP.out])
    by_cases h20 : k2.code = 0
    · go_enter Tryz.func52, Tryz.ntmps52
      go_wp2_with fail
      generalize ((w.setCell ⟨rb, 8, none⟩ (.string ⟨#[]⟩)).setCell ⟨rb, 9, none⟩ (.string ⟨#[]⟩)).alloc (.cells #[.int .i64 c.on, .slice aw (ws.length + 1) cw, .slice at_ c.to.length ct] Px.C1) = w1 at *
      refine HRed.out.mono ?_
      unfold RedPost
      rw [HOP.out]
      dsimp only
      rintro e w2 ⟨⟨he, i2, hR2⟩, hK2⟩
      rw [if_pos h20] at he
      subst he
      go_wp2_with fail
      go_ret
      rw [HW.out]
      exact ⟨by rw [if_pos h20]; rfl, ⟨_, _, _, _, hT1.ran_ hR2 hK2⟩, (KeptB.of_kept hK1 hroom hrr).trans (.of_kept hK2 (Nat.le_trans hroom hK1.size) hrr)⟩
    · go_enter Tryz.func52, Tryz.ntmps52
      go_wp2_with fail
      generalize ((w.setCell ⟨rb, 8, none⟩ (.string ⟨#[]⟩)).setCell ⟨rb, 9, none⟩ (.string ⟨#[]⟩)).alloc (.cells #[.int .i64 c.on, .slice aw (ws.length + 1) cw, .slice at_ c.to.length ct] Px.C1) = w1 at *
      refine HRed.out.mono ?_
      unfold RedPost
      rw [HOP.out]
      dsimp only
      rintro e w2 ⟨⟨he, i2, hR2⟩, hK2⟩
      rw [if_neg h20] at he
      subst he
      unfold endE
      refine ⟨rfl, ?_⟩
      rw [HW.out]
      exact ⟨by rw [if_neg h20]; rfl, ⟨_, _, _, _, hT1.ran_ hR2 hK2⟩, (KeptB.of_kept hK1 hroom hrr).trans (.of_kept hK2 (Nat.le_trans hroom hK1.size) hrr)⟩
  | some dst =>
    have h20 : k2.code = 0 := q5 dst rfl
    have hdst : dst.length ≤ 100000 := by
      rcases q4 dst rfl with e | e
      · rw [e]; simp
      · exact e
    cases hna : Hp.nameA x with
    | none =>
      have hval : valOf x = .nilFunc := by unfold valOf; rw [hna]
      have hW : Hp.wholeA s d 0 out c = (Hp.tellA k2 127 out dst) := by
        unfold Hp.wholeA
        rw [HOP.out, HC.out]
        simp only [List.headD_cons, List.tail_cons]
        unfold Hp.doA
        rw [hna]
      rw [tell_is h20 ho] at hW
      have hdel : delA k2 out dst = (k2, out, 0) := by unfold delA; rw [if_pos q3]
      rw [hdel] at hW
      have HW := Lib.hid hW
      have hq := eq_nilF
      rw [hval]
      clear hW hdel hval hna
      go_enter Tryz.func52, Tryz.ntmps52
      go_wp2_with fail
      generalize ((w.setCell ⟨rb, 8, none⟩ (.string ⟨#[]⟩)).setCell ⟨rb, 9, none⟩ (.string ⟨#[]⟩)).alloc (.cells #[.int .i64 c.on, .slice aw (ws.length + 1) cw, .slice at_ c.to.length ct] Px.C1) = w1 at *
      refine HRed.out.mono ?_
      unfold RedPost
      rw [HOP.out]
      dsimp only
      rintro e w2 ⟨⟨rfl, hR2⟩, hK2⟩
      have hqn := fun w => eq_nilF w .nilFunc (.inl rfl) true (by simp)
      go_wp2_with fail
      go_ret
      rw [HW.out]
      exact ⟨by rw [if_pos h20]; rfl, ⟨_, _, _, _, hT1.ran_ hR2 hK2⟩, (KeptB.of_kept hK1 hroom hrr).trans (.of_kept hK2 (Nat.le_trans hroom hK1.size) hrr)⟩
    | some n =>
      have hval : valOf x = .func (.func (fnOf n)) #[] #[] := by unfold valOf; rw [hna]
      have eg := enters_do n
      have hW : Hp.wholeA s d 0 out c = Hp.tellA (Hp.doA k2 x ws).1 (Hp.doA k2 x ws).2 out dst := by
        unfold Hp.wholeA
        rw [HOP.out, HC.out]
        rfl
      have hwt : Hp.wtL (x :: ws) = (x.length + 2) + Hp.wtL ws := rfl
      have hwc := HWC.out
      rw [hc, hwt] at hwc
      have hdo := Hp.do_ok q1 x ws (by omega) q3
      have hcells := fun (W : World) (hK : Kept [rb, sb, bm] (((w.setCell ⟨rb, 8, none⟩ (.string ⟨#[]⟩)).setCell ⟨rb, 9, none⟩ (.string ⟨#[]⟩)).alloc (.cells #[.int .i64 c.on, .slice aw (ws.length + 1) cw, .slice at_ c.to.length ct] Px.C1)) W) => cell_at (i := 1) ((hK.block w.heap.size hn1 hnb).trans hz1) rfl
      have hvK := fun (W : World) (hK : Kept [rb, sb, bm] (((w.setCell ⟨rb, 8, none⟩ (.string ⟨#[]⟩)).setCell ⟨rb, 9, none⟩ (.string ⟨#[]⟩)).alloc (.cells #[.int .i64 c.on, .slice aw (ws.length + 1) cw, .slice at_ c.to.length ct] Px.C1)) W) => Ws.kept hv1 hK (by simp [hT1.run.n1]) hR1.lt
      obtain ⟨b, o, rfl, hcw2, _, _⟩ := Ws.cell (l := x :: ws) hv1 (by simp)
      have hcw3 : ws.length + 1 ≤ cw := hcw2
      have HV := Lib.hid hvK
      have HCl := Lib.hid hcells
      have hsz1 := hK1.size
      have HDo := Lib.hid fun (W : World) (hR : RunAt W rb sb bm k2 st ran pv bv) (a : Option Addr) (cp : Nat) (hcp : cp = cw - 1) (hv : Ws W rb sb bm (.slice (some ⟨b, o, none⟩) (ws.length + 1) cw) (x :: ws)) (ha : cw = 1 ∨ a = some ⟨b, o + 1, none⟩) => do_any W k2 m (.slice a ws.length cp) x ws n hna q1 h20 q3 hR (hcp ▸ Ws.tail hv a ha) (by omega)
      rw [hval]
      obtain ⟨⟨k3, n3⟩, hdq⟩ : ∃ q, Hp.doA k2 x ws = q := ⟨_, rfl⟩
      rw [hdq] at hW hdo HDo
      dsimp only at hW hdo
      clear hcells hvK hval hna hdq hv1
      by_cases h30 : k3.code = 0
      · rw [tell_is h30 ho] at hW
        have hdl := fun (W : World) (h : Told W rb sb bm B k3 st ran out pv bv) => deliver_any W k3 dst h hdo.fine h30 hdst (by have := hdo.outp; omega) (by omega)
        generalize hdq : delA k3 out dst = r at *
        obtain ⟨k4, out4, n4⟩ := r
        have HDl := Lib.hid hdl
        have HW := Lib.hid hW
        clear hdl hW hdq
        go_enter Tryz.func52, Tryz.ntmps52
        go_wp2_with fail
        generalize ((w.setCell ⟨rb, 8, none⟩ (.string ⟨#[]⟩)).setCell ⟨rb, 9, none⟩ (.string ⟨#[]⟩)).alloc (.cells #[.int .i64 c.on, .slice (some ⟨b, o, none⟩) (ws.length + 1) cw, .slice at_ c.to.length ct] Px.C1) = w1 at *
        refine HRed.out.mono ?_
        unfold RedPost
        rw [HOP.out]
        dsimp only
        rintro e w2 ⟨⟨rfl, hR2⟩, hK2⟩
        have hT2 := hT1.ran_ hR2 hK2
        have z1 := HCl.out w2 hK2
        have hn2 : w.heap.size < w2.heap.size := Nat.lt_of_lt_of_le hn1 hK2.size
        have hv2 := HV.out w2 hK2
        have hqn := fun w => eq_nilF w (.func (.func (fnOf n)) #[] #[]) (.inr ⟨_, rfl⟩) false (by simp)
        go_wp2_with fail
        all_goals refine Calls.mono (HDo.out w2 hR2 _ _ ?_ hv2 ?_) ?_
        any_goals first | omega | exact .inr rfl | (left; omega)
        all_goals rintro e w3 ⟨he, hK3⟩
        all_goals rw [if_pos h30] at he
        all_goals obtain ⟨rfl, hR3⟩ := he
        all_goals have hT3 := hT2.ran_ hR3 hK3
        all_goals have hKB := ((KeptB.of_kept hK1 hroom hrr).trans (.of_kept hK2 (Nat.le_trans hroom hK1.size) hrr)).trans (.of_kept hK3 (Nat.le_trans (Nat.le_trans hroom hK1.size) hK2.size) hrr)
        all_goals dsimp only
        all_goals go_wp2_with fail
        all_goals refine (HDl.out w3 hT3).mono ?_
        all_goals rintro e w4 ⟨he, ⟨pv4, bv4, hT4⟩, hK4⟩
        all_goals dsimp only at he hT4
        all_goals by_cases h40 : k4.code = 0
        all_goals first
          | (rw [if_pos h40] at he
             subst he
             go_wp2_with fail
             go_ret
             rw [HW.out]
             exact ⟨by rw [if_pos h40]; exact congrArg (fun z => Ending.returned (.int .i64 z)) (by dsimp only; omega), ⟨k4.inp, k4.outp, _, _, hT4⟩, hKB.trans hK4⟩)
          | (rw [if_neg h40] at he
             subst he
             unfold endE
             refine ⟨rfl, ?_⟩
             rw [HW.out]
             exact ⟨by rw [if_neg h40]; rfl, ⟨k4.inp, k4.outp, _, _, hT4⟩, hKB.trans hK4⟩)
      · have ht : Hp.tellA k3 n3 out dst = (k3, out, 1) := by unfold Hp.tellA; rw [if_pos h30]
        rw [ht] at hW
        have HW := Lib.hid hW
        clear hW ht
        go_enter Tryz.func52, Tryz.ntmps52
        go_wp2_with fail
        generalize ((w.setCell ⟨rb, 8, none⟩ (.string ⟨#[]⟩)).setCell ⟨rb, 9, none⟩ (.string ⟨#[]⟩)).alloc (.cells #[.int .i64 c.on, .slice (some ⟨b, o, none⟩) (ws.length + 1) cw, .slice at_ c.to.length ct] Px.C1) = w1 at *
        refine HRed.out.mono ?_
        unfold RedPost
        rw [HOP.out]
        dsimp only
        rintro e w2 ⟨⟨rfl, hR2⟩, hK2⟩
        have hT2 := hT1.ran_ hR2 hK2
        have z1 := HCl.out w2 hK2
        have hn2 : w.heap.size < w2.heap.size := Nat.lt_of_lt_of_le hn1 hK2.size
        have hv2 := HV.out w2 hK2
        have hqn := fun w => eq_nilF w (.func (.func (fnOf n)) #[] #[]) (.inr ⟨_, rfl⟩) false (by simp)
        go_wp2_with fail
        all_goals refine Calls.mono (HDo.out w2 hR2 _ _ ?_ hv2 ?_) ?_
        any_goals first | omega | exact .inr rfl | (left; omega)
        all_goals rintro e w3 ⟨he, hK3⟩
        all_goals rw [if_neg h30] at he
        all_goals obtain ⟨rfl, i3, o3, hR3⟩ := he
        all_goals have hT3 := hT2.ran_ hR3 hK3
        all_goals have hKB := ((KeptB.of_kept hK1 hroom hrr).trans (.of_kept hK2 (Nat.le_trans hroom hK1.size) hrr)).trans (.of_kept hK3 (Nat.le_trans (Nat.le_trans hroom hK1.size) hK2.size) hrr)
        all_goals unfold endE
        all_goals refine ⟨rfl, ?_⟩
        all_goals rw [HW.out]
        all_goals exact ⟨by rw [if_neg h30]; rfl, ⟨i3, o3, _, _, hT3⟩, hKB⟩
end
end Go.Proofs.YteommneijlelkaaGreatDoor.Hx
