/-
  package auto: Of.
-/
import Derived.Deep.RegionHeld3
import Derived.Shelf.SlMaps.Clone
import Derived.Test.YtenokbceamcekaaGreatDoorQAMap
import Derived.Test.YtenokbceamcekaaGreatDoorQAOf
import Derived.Test.YtenokbceamcekaaGreatDoorQAPDirs
import Derived.Test.YtenokbceamcekaaGreatDoorQEPUniq
namespace Go.Proofs.YtenokbceamcekaaGreatDoor.Aw
open Go.RowKit Go.Proofs.YtenokbceamcekaaGreatDoor Go.Proofs.YtenokbceamcekaaGreatDoor.Ew Go.Maps Go.Shelf
open Go.Proofs.YtenokbceamcekaaGreatDoor.Ww hiding wordsS ST
open Go.Proofs.YtenokbceamcekaaGreatDoor.Tw hiding ST
set_option maxRecDepth 100000

abbrev MT : TypeId := 24
theorem run_mkA (w : World) : (Instr.makeMap MT none).run Tryz.prog w = .ok (.map (some w.heap.size)) (w.alloc (.map #[] 0)) := run_makeMap _ _
theorem mapClone_any (w : World) {b : Nat} {L : List En} (hM : Kw.MapAt AK w b L) :
    Calls Tryz.prog 10 #[.map (some b)] w fun e w' => e = .returned (.map (some w.heap.size)) ∧ Kw.MapAt AK w' w.heap.size L ∧ Below w.heap.size w w' := by
  refine (AnyW.maps_Clone_owns Tryz.laysClone Kw.SK AK.elem b _ _ w hM.own).mono ?_
  rintro e w' ⟨he, h1, _, h3⟩
  exact ⟨he, ⟨h1, hM.sorted⟩, h3⟩
section
variable {ops : Array Oper} {rest : List Oper} {o : Oper} {a : Act} {Q : Exit → Act → World → Prop} {w : World}
theorem wpList_ins (hg : o.guard = none) (m x v : Operand) (hop : o.op = Op.insert MT m x v) {bm : Nat} {L : List En} {p c : ByteArray} (hm : a.eval m = .map (some bm)) (hx : a.eval x = .string p) (hv : a.eval v = .string c)
    (hM : Kw.MapAt AK w bm L) (hp : p.size ≤ 1000) {k : Nat} (hn : L.length ≤ k) (hk : k ≤ 100) (hK : ∀ w', Kw.MapAt AK w' bm (Kp.ins L (by8 p, c)) → w.mapTurned w' bm → (Kp.ins L (by8 p, c)).length ≤ k + 1 → wpList Tryz.prog ops Q rest (a.put o.dst undef) w') : wpList Tryz.prog ops Q (o :: rest) a w := by
  refine wpList_plain hg fun K' hK' => ?_
  obtain ⟨w', hrun, r1, r2⟩ := hM.own.store (val := .string c) (d := AK.enc c) (ps := []) Kw.key AK.und (by unfold maxLen; omega) (Kw.key_of (p := p) (by unfold maxLen; omega)) (AK.elem_mk c)
  rw [Kp.put_mapOf AK.enc (f := (by8 p, c)) hM.sorted] at r1
  replace hrun : Sem.run Tryz.prog (Instr.mapUpdate MT (Value.map (some bm)) (Value.string p) (Value.string c)) w = _ := hrun
  unfold Oper.wp
  simp [execOp, hop, hm, hx, hv, hrun, Result.andThen]
  exact hK' _ _ (hK w' (Kw.MapAt.of_own r1 (Kp.sorted_ins hM.sorted)) r2 (Nat.le_trans (Kp.len_ins_le _ _) (by omega)))
theorem wpList_putA (hg : o.guard = none) (m x v : Operand) (hop : o.op = Op.mapUpdate MT m x v) {bm : Nat} {L : List En} {p c : ByteArray} (hm : a.eval m = .map (some bm)) (hx : a.eval x = .string p) (hv : a.eval v = .string c)
    (hM : Kw.MapAt AK w bm L) (hp : p.size ≤ 1000) (hn : L.length < 1000) (hK : ∀ w', Kw.MapAt AK w' bm (Kp.ins L (by8 p, c)) → w.mapTurned w' bm → wpList Tryz.prog ops Q rest (a.put o.dst undef) w') : wpList Tryz.prog ops Q (o :: rest) a w :=
  Kw.wpList_put w hg m x v hop hm (p := by8 p) (by rw [str_by8]; exact hx) hv hM (by unfold maxLen; rw [by8_len]; omega) (by unfold maxLen; omega) hK
end
theorem turned_below {B : Nat} {w0 w w' : World} {bm : Nat} (h : w.mapTurned w' bm) (hB : Below B w0 w) (hs : B ≤ w.heap.size) (hb : B ≤ bm) : Below B w0 w' := hB.grown h.grown hs fun k e => by cases e; exact hb
theorem below_grown {w w' : World} (h : Below w.heap.size w w') : w.grownBy w' none := ⟨h.os, h.tape, h.output, h.size, fun i hi _ => h.block i hi⟩
/-- The literal's entries, behind each other. -/
def litE (t f u j s : ByteArray) : List En := Kp.ins (Kp.ins (Kp.ins (Kp.ins (Kp.ins [] ([64], t)) ([60], f)) ([94], u)) ([43], j)) ([42], s)
theorem lit_mem (t s : ByteArray) (l : List ByteArray) (g : En) : g ∈ litE t (l.headD ⟨#[]⟩) (joinS (Wp.uniq l)) (joinS l) s ↔ g ∈ (plainT t s l).map entA := by
  have hu : Uni ((plainT t s l).map entA) := uni_of (by
    have : ((plainT t s l).map entA).map (·.1) = [[64], [60], [94], [43], [42]] := by rfl
    rw [this]; decide)
  have e : (plainT t s l).map entA = [([64], t), ([60], l.headD ⟨#[]⟩), ([94], joinS (Wp.uniq l)), ([43], joinS l), ([42], s)] := rfl
  rw [e] at hu ⊢
  unfold litE
  have s0 : Kp.Sorted ([] : List En) := List.Pairwise.nil
  have k1 := ins_keeps hu s0 (fun g h => by cases h) (f := ([64], t)) (by simp)
  have s1 := Kp.sorted_ins (f := (([64], t) : En)) s0
  generalize Kp.ins [] (([64], t) : En) = E1 at *
  have k2 := ins_keeps hu s1 (fun g h => by rcases (k1 g).1 h with rfl | h <;> simp_all) (f := ([60], l.headD ⟨#[]⟩)) (by simp)
  have s2 := Kp.sorted_ins (f := (([60], l.headD ⟨#[]⟩) : En)) s1
  generalize Kp.ins E1 (([60], l.headD ⟨#[]⟩) : En) = E2 at *
  have k3 := ins_keeps hu s2 (fun g h => by rw [k2 g, k1 g] at h; rcases h with rfl | rfl | h <;> simp_all) (f := ([94], joinS (Wp.uniq l))) (by simp)
  have s3 := Kp.sorted_ins (f := (([94], joinS (Wp.uniq l)) : En)) s2
  generalize Kp.ins E2 (([94], joinS (Wp.uniq l)) : En) = E3 at *
  have k4 := ins_keeps hu s3 (fun g h => by rw [k3 g, k2 g, k1 g] at h; rcases h with rfl | rfl | rfl | h <;> simp_all) (f := ([43], joinS l)) (by simp)
  have s4 := Kp.sorted_ins (f := (([43], joinS l) : En)) s3
  generalize Kp.ins E3 (([43], joinS l) : En) = E4 at *
  have k5 := ins_keeps hu s4 (fun g h => by rw [k4 g, k3 g, k2 g, k1 g] at h; rcases h with rfl | rfl | rfl | rfl | h <;> simp_all) (f := ([42], s)) (by simp)
  rw [k5 g, k4 g, k3 g, k2 g, k1 g]
  simp only [List.mem_cons, List.not_mem_nil, or_false]
  constructor
  · rintro (h | h | h | h | h) <;> simp [h]
  · rintro (h | h | h | h | h) <;> simp [h]
theorem lit_len (t f u j s : ByteArray) : (litE t f u j s).length = 5 := by rfl
/-- What the loop's head knows. -/
def ORel (w : World) (M E : List En) (ba bt r : Nat) (wr : World) : Prop :=
  ∃ (left : Lit → Bool) (cnt : Nat) (E2 : List En), wr.ranges Tryz.prog Kw.SK AK.elem bt r E.length (Kp.mapOf AK.enc E) left cnt ∧ Kw.MapAt AK wr ba E2 ∧ Done M E left E2 ∧ Below w.heap.size w wr
theorem elemA (v : Value) (y : DataW Unit × List MemPlace) (h : AK.elem v = some y) : ∃ c : ByteArray, v = Value.string c := by
  obtain ⟨e, rfl, _⟩ := AK.elem_inv _ _ h
  exact ⟨e, rfl⟩
theorem foundA {E : List En} {c : ByteArray} {x : Bs} {yd : DataW Unit} {yp : List MemPlace} (hv : AK.elem (Value.string c) = some (yd, yp)) (hat : ∀ zd, (Kp.mapOf AK.enc E).atKey (.string x) zd = yd) : Kp.get E x = some (x, c) := by
  obtain ⟨a, ha, h⟩ := AK.elem_inv _ _ hv
  obtain rfl : c = a := by cases ha; rfl
  have hy : yd = AK.enc c := congrArg Prod.fst h
  cases hq : Kp.get E x with
  | none =>
    have h1 := hat .nil
    rw [Kp.at_mapOf_none AK.enc hq] at h1
    rw [hy] at h1
    cases h1
  | some f =>
    have h1 := hat .nil
    rw [Kp.at_mapOf_some AK.enc hq, hy] at h1
    have h2 := AK.enc_inj _ _ h1
    have h3 : f.1 = x := by have := List.find?_some hq; simpa using this
    obtain ⟨f1, f2⟩ := f
    dsimp only at h2 h3
    rw [h2, h3]
theorem iter_obj {w : World} {P : Program} {k : TypeId} {R : Value → Option (DataW Unit × List MemPlace)} {b r n cnt : Nat} {D : DataW Unit} {left : Lit → Bool} (h : w.ranges P k R b r n D left cnt) : ∃ a b c d, w.heap[r]? = some (.mapIter a b c d) := by
  obtain ⟨es, clock, since, seen, c0, _, _, _, _, hr, _⟩ := h
  exact ⟨_, _, _, _, hr⟩
theorem map_obj {w : World} {b : Nat} {L : List En} (h : Kw.MapAt AK w b L) : ∃ es ck, w.heap[b]? = some (.map es ck) := by
  obtain ⟨⟨es, clock, hh, _⟩, _⟩ := h
  exact ⟨_, _, hh⟩
set_option maxHeartbeats 8000000 in
theorem AutoC_any : AutoC := by
  intro w target stem v needs hG hr hl hs ht hst
  have hmm := run_mkA
  have HR := Lib.hid hr
  have HF1 := Lib.hid fun W (hW : Below w.heap.size w W) => Pfirst_one W v needs ((hr.below hW).more hW.size) hl
  have HU1 := Lib.hid fun W (hW : Below w.heap.size w W) => Wu.Unique_any W v needs ((hr.below hW).more hW.size) (by omega) (fun x hx => by have := hs x hx; omega)
  have hus : ∀ p ∈ Wp.uniq needs, p.size ≤ 100 := fun p hp => hs p (Wp.mem_uniq.1 hp)
  have hul := Wp.uniq_len needs
  have HJ1 := Lib.hid fun W u (h : Rd W W.heap.size u (strsC (Wp.uniq needs))) => PJoin_any W u (Wp.uniq needs) h (by omega) (fun p hp => by have := hus p hp; omega)
  have HJ2 := Lib.hid fun W (hW : Below w.heap.size w W) => PJoin_any W v needs ((hr.below hW).more hW.size) (by omega) (fun p hp => by have := hs p hp; omega)
  have HGM := Lib.hid hG
  have HMem := Lib.hid (lit_mem target stem needs)
  have HUni := Lib.hid (uni_all target stem needs)
  have HM15 := Lib.hid (len_all target stem needs)
  have HSz : Hid (∀ f ∈ (plainT target stem needs).map entA, f.1.length = 1 ∧ f.2.size ≤ 9000) := Lib.hid (by
    have hj1 := join_few (l := Wp.uniq needs) (by omega) hus
    have hj2 := join_few hl hs
    have hh : (needs.headD ⟨#[]⟩).size ≤ 100 := by
      cases needs with
      | nil => exact Nat.zero_le _
      | cons x r => exact hs x (by simp)
    intro f hf
    rw [show (plainT target stem needs).map entA = [([64], target), ([60], needs.headD ⟨#[]⟩), ([94], joinS (Wp.uniq needs)), ([43], joinS needs), ([42], stem)] from rfl] at hf
    simp only [List.mem_cons, List.not_mem_nil, or_false] at hf
    rcases hf with rfl | rfl | rfl | rfl | rfl
    · exact ⟨rfl, by show target.size ≤ _; omega⟩
    · exact ⟨rfl, by show (needs.headD _).size ≤ _; omega⟩
    · exact ⟨rfl, by show (joinS _).size ≤ _; omega⟩
    · exact ⟨rfl, by show (joinS _).size ≤ _; omega⟩
    · exact ⟨rfl, by show stem.size ≤ _; omega⟩)
  have HHas : Hid (∀ (E2 : List En) (left : Lit → Bool) (W : World) (b : Nat), Done (allE (plainT target stem needs)) (litE target (needs.headD ⟨#[]⟩) (joinS (Wp.uniq needs)) (joinS needs) stem) left E2 → (∀ kl, left kl = false) → Kw.MapAt AK W b E2 → Has W b E2 (allT (plainT target stem needs))) := Lib.hid fun E2 left W b hD hl hM => hD.has HUni.out (fun f hf => (HMem.out f).2 hf) hl hM
  have HAll : Hid (∀ f ∈ (plainT target stem needs).map entA, f ∈ allE (plainT target stem needs) ∧ dE f ∈ allE (plainT target stem needs) ∧ fE f ∈ allE (plainT target stem needs)) := Lib.hid fun f hf => ⟨mem_allE.2 ⟨f, hf, .inl rfl⟩, mem_allE.2 ⟨f, hf, .inr (.inl rfl)⟩, mem_allE.2 ⟨f, hf, .inr (.inr rfl)⟩⟩
  obtain ⟨a0, c0, rfl, hc0⟩ := hr.shape
  simp only [strsC_len] at *
  generalize needs.headD ⟨#[]⟩ = first at *
  generalize joinS (Wp.uniq needs) = ju at *
  generalize joinS needs = jn at *
  generalize allE (plainT target stem needs) = M at *
  generalize (plainT target stem needs).map entA = P5 at *
  generalize allT (plainT target stem needs) = AT at *
  clear hG hr hs hus hul ht hst hc0 HR
  generalize Wp.uniq needs = us at *
  generalize needs.length = n at *
  clear hl
  go_enter Tryz.func5, Tryz.ntmps5
  have HM0 := Lib.hid (Kw.MapAt.new (K := AK) w)
  have HB0 := Lib.hid ((Below.refl w.heap.size w).alloc (Nat.le_refl _) (.map #[] 0))
  go_wp2_with (refine wpList_ins (by rfl) _ _ _ (by rfl) (by rfl) (by rfl) (by rfl) HM0.out (by decide) (k := 0) (by decide) (by decide) ?_; intro v1 m1 t1 n1; have HN1 := Lib.hid n1; have HM1 := Lib.hid m1; have HB1 := Lib.hid (turned_below t1 HB0.out HB0.out.size (Nat.le_refl _)); clear m1 t1 n1)
  refine (HF1.out _ HB1.out).mono ?_
  rintro e u1 ⟨rfl, rfl⟩
  go_wp2_with (refine wpList_ins (by rfl) _ _ _ (by rfl) (by rfl) (by rfl) (by rfl) HM1.out (by decide) HN1.out (by decide) ?_; intro v2 m2 t2 n2; have HN2 := Lib.hid n2; have HM2 := Lib.hid m2; have HB2 := Lib.hid (turned_below t2 HB1.out HB1.out.size (Nat.le_refl _)); clear m2 t2 n2 HM1)
  refine (HU1.out _ HB2.out).mono ?_
  rintro e u2 ⟨a2, c2, rfl, ho2, B2⟩
  have HJ3 := Lib.hid (HJ1.out u2 _ (Rd.of_own ho2))
  have HM3 := Lib.hid (HM2.out.below B2)
  have HB3 := Lib.hid (HB2.out.trans (B2.mono HB2.out.size))
  clear ho2 B2 HM2
  go_wp2_with fail
  refine HJ3.out.mono ?_
  rintro e u3 ⟨rfl, B3⟩
  have HM4 := Lib.hid (HM3.out.below B3)
  have HB4 := Lib.hid (HB3.out.trans (B3.mono HB3.out.size))
  clear B3 HM3 HJ3
  go_wp2_with (refine wpList_ins (by rfl) _ _ _ (by rfl) (by rfl) (by rfl) (by rfl) HM4.out (by decide) HN2.out (by decide) ?_; intro v5 m5 t5 n5; have HN5 := Lib.hid n5; have HM5 := Lib.hid m5; have HB5 := Lib.hid (turned_below t5 HB4.out HB4.out.size (Nat.le_refl _)); clear m5 t5 n5 HM4)
  refine (HJ2.out _ HB5.out).mono ?_
  rintro e u5 ⟨rfl, B5⟩
  have HM6 := Lib.hid (HM5.out.below B5)
  have HB6 := Lib.hid (HB5.out.trans (B5.mono HB5.out.size))
  clear B5 HM5
  go_wp2_with (first
    | (refine wpList_ins (by rfl) _ _ _ (by rfl) (by rfl) (by rfl) (by rfl) HM6.out (by decide) HN5.out (by decide) ?_; intro v7 m7 t7 n7; have HN7 := Lib.hid n7; have HM7 := Lib.hid m7; have HB7 := Lib.hid (turned_below t7 HB6.out HB6.out.size (Nat.le_refl _)); clear m7 t7 n7 HM6)
    | (refine wpList_ins (by rfl) _ _ _ (by rfl) (by rfl) (by rfl) (by rfl) HM7.out (by decide) HN7.out (by decide) ?_; intro v8 m8 t8 n8; have HM8 := Lib.hid m8; have HB8 := Lib.hid (turned_below t8 HB7.out HB7.out.size (Nat.le_refl _)); clear m8 t8 n8 HM7))
  have HE5 : Hid ((litE target first ju jn stem).length = 5) := Lib.hid (lit_len _ _ _ _ _)
  have HME : Hid (Kw.MapAt AK v8 w.heap.size (litE target first ju jn stem)) := Lib.hid HM8.out
  clear HM8 HM0 HN1 HN2 HN5 HN7 HF1 HU1 HJ1 HJ2 HB0 HB1 HB2 HB3 HB4 HB5 HB6 HB7
  generalize litE target first ju jn stem = E at *
  refine (mapClone_any v8 HME.out).mono ?_
  rintro e w9 ⟨rfl, hA9, B9⟩
  have hT9 := HME.out.below B9
  have HT9 := Lib.hid hT9
  have HA9 := Lib.hid hA9
  have hbt : w.heap.size < v8.heap.size := HME.out.lt
  have HB9 := Lib.hid (HB8.out.trans (B9.mono HB8.out.size))
  clear HME HB8 B9 hA9
  generalize v8.heap.size = ba at *
  generalize hbw : w.heap.size = bt at *
  have HBw := Lib.hid hbw
  clear hbw
  go_wp2_with (at_range; refine wpList_range_own _ rfl _ MT rfl Kw.SK Kw.SK Kw.key Tryz.underlying24 _ bt _ _ rfl hT9.own ?_; intro w0 hrg0 hg0 hs0)
  go_frame
  generalize hrr : w9.heap.size = r at *
  have hbr : bt < r := by rw [← hrr]; exact HT9.out.lt
  have har : ba < r := by rw [← hrr]; exact HA9.out.lt
  have HStart : Hid (ORel w M E ba bt r w0) := Lib.hid ⟨_, _, E, hrg0, HA9.out.block (hg0.block ba (by rw [hrr]; exact har) (by simp)), Done.start fun g hg => (HAll.out g ((HMem.out g).1 hg)).1, (HB9.out.grown hg0 (by have := HBw.out; omega) (fun k e => (by cases e))).mono (by have := HBw.out; omega)⟩
  have HSE := Lib.hid HT9.out.sorted
  clear hrg0 hg0 hs0 hT9 HT9 HA9 HB9 hmm hrr
  go_loopw [9] (fun _ wr => ORel w M E ba bt r wr) (fun _ wr => wr.rangeLeft bt r)
  case atStart => exact HStart.out
  case round =>
    obtain ⟨left, cnt, E2, hrg, hA2, hD, hB⟩ := hrel
    clear HStart
    go_wp2_with (at_next; refine wpList_next_ranges _ rfl _ rfl Kw.SK Kw.key AK.elem (fun x : Bs => Value.string (str x)) (fun c : ByteArray => Value.string c) Kw.keyS elemA bt r _ _ _ _ rfl hrg ?_ ?_)
    · intro hc0 hl0
      have HH := Lib.hid (HHas.out _ _ _ _ hD hl0 hA2)
      go_wp2_with fail
      go_ret
      exact ⟨ba, E2, rfl, HH, hB⟩
    · intro x c kl yd yp w2 cnt2 hkey hlk hv hat hrg2 hlt2 hg2 hs2 hen
      obtain rfl := Kw.keyS_inv hkey
      have hfE := ((Kp.get_some HSE.out).1 (foundA hv hat)).1
      have hfP := (HMem.out _).1 hfE
      obtain ⟨hx1, hc9⟩ := HSz.out _ hfP
      obtain ⟨_, hdM, hnM⟩ := HAll.out _ hfP
      have hD2 := hD.step HUni.out HSE.out hA2.sorted hfE hdM hnM
      dsimp only at hx1 hc9
      have hle := Lib.hid hrg.left_eq
      have HL2 : Hid (E2.length ≤ 15) := Lib.hid (by have := len_sub (sorted_uniE hA2.sorted) hD.sub; have := HM15.out; omega)
      have hne : ba ≠ r := by omega
      have hws := HBw.out
      have hA3 := hA2.block (hg2.block ba hA2.lt (fun e => hne (Option.some.inj e)))
      have hB2 := hB.grown hg2 hB.size (fun k e => by rw [← Option.some.inj e]; omega)
      have HDr := Lib.hid fun W g => Pdirectories_any W c g hc9
      have HNr := Lib.hid fun W g => Pcall_notdir W c g hc9
      have hsx : (str x).size = 1 := by rw [str_size]; exact hx1
      have HG2 := Lib.hid (HGM.out.below hB2)
      have HD2 := Lib.hid hD2
      have HA3 := Lib.hid hA3
      have HRg := Lib.hid hrg2
      have HB2 := Lib.hid hB2
      have HKd : Hid (by8 (str x ++ ⟨#[68]⟩) = x ++ [68]) := Lib.hid (by rw [by8_add, by8_str]; rfl)
      have HKf : Hid (by8 (str x ++ ⟨#[70]⟩) = x ++ [70]) := Lib.hid (by rw [by8_add, by8_str]; rfl)
      have HLt := Lib.hid hlt2
      have hcat : ¬ 9223372036854775807 < (str x).size + 1 := by omega
      clear hrg hD2 hA2 hA3 hrg2 hg2 hs2 hkey hlk hv hat hfP hdM hnM hB hB2 hlt2 hD hfE
      go_wp2_with fail
      refine (HDr.out _ HG2.out).mono ?_
      rintro e w3 ⟨rfl, B3⟩
      have hA4 := HA3.out.below B3
      have HRg3 := Lib.hid (HRg.out.kept (below_grown B3) (by simp) (by simp))
      have HB3 := Lib.hid (HB2.out.trans (B3.mono HB2.out.size))
      clear B3 HA3 HRg
      go_wp2_with (at_mapUpdate; refine wpList_putA rfl _ _ _ rfl rfl rfl rfl hA4 (by rw [ByteArray.size_append, hsx]; decide) (by have := HL2.out; omega) ?_; intro w4 hA5 t4; go_frame)
      have HRg4 := Lib.hid (HRg3.out.kept t4.grown (fun e => by have := Option.some.inj e; omega) (fun e => hne (Option.some.inj e).symm))
      have HB4 := Lib.hid (turned_below t4 HB3.out HB3.out.size (by omega))
      have HG4 := Lib.hid (HGM.out.below HB4.out)
      rw [HKd.out] at hA5
      have HA5 := Lib.hid hA5
      clear hA5 hA4 t4 HRg3 HB3
      go_wp2_with fail
      refine (HNr.out _ HG4.out).mono ?_
      rintro e w5 ⟨rfl, B5⟩
      have hA6 := HA5.out.below B5
      have HRg5 := Lib.hid (HRg4.out.kept (below_grown B5) (by simp) (by simp))
      have HB5 := Lib.hid (HB4.out.trans (B5.mono HB4.out.size))
      clear B5 HA5 HRg4
      go_wp2_with (at_mapUpdate; refine wpList_putA rfl _ _ _ rfl rfl rfl rfl hA6 (by rw [ByteArray.size_append, hsx]; decide) (by have := HL2.out; have := Kp.len_ins_le E2 ((x ++ [68], dirsT c) : En); omega) ?_; intro w6 hA7 t6; go_frame)
      have hrg6 := HRg5.out.kept t6.grown (fun e => by have := Option.some.inj e; omega) (fun e => hne (Option.some.inj e).symm)
      have hB6 := turned_below t6 HB5.out HB5.out.size (by omega)
      rw [HKf.out] at hA7
      go_roundw
      case rel => exact ⟨_, cnt2, _, hrg6, hA7, HD2.out, hB6⟩
      case measure => rw [hrg6.left_eq, hle.out]; exact HLt.out
end Go.Proofs.YtenokbceamcekaaGreatDoor.Aw
