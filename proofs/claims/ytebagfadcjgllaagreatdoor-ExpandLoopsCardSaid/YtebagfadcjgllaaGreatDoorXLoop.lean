/-
  flatironlaw14.ExpandLoops' first loop: the ring, in a row.
-/
import Derived.Deep.RegionHeld3
import Derived.Deep.DeepCutAuto
import Derived.StillTailTactics
import Derived.Test.YtebagfadcjgllaaGreatDoorXLives
import Derived.Test.YtebagfadcjgllaaGreatDoorXRing
namespace Go.Proofs.YtebagfadcjgllaaGreatDoor.Xw
open Go.RowKit Go.Proofs.YtebagfadcjgllaaGreatDoor Go.Proofs.YtebagfadcjgllaaGreatDoor.Ww Go.Proofs.YtebagfadcjgllaaGreatDoor.Tw Go.Proofs.YtebagfadcjgllaaGreatDoor.Kw Go.Proofs.YtebagfadcjgllaaGreatDoor.Jw Go.Proofs.YtebagfadcjgllaaGreatDoor.Xb
set_option maxRecDepth 100000

abbrev IntT : TypeId := 3
theorem infoPV : (Tryz.prog.info? PV).map (fun i => (i.zero, i.size, i.bytes)) = some (some (.agg #[.string ByteArray.empty, .string ByteArray.empty, .bool false, .int .i64 0]), 4, 48) := by kernel_rfl
theorem four_new (wr : World) (x y z t : Value) (T : TypeId) : ∀ (j : Nat) (u : Value), [x, y, z, t][j]? = some u → (wr.alloc (.cells #[x, y, z, t] T)).cell? ((⟨wr.heap.size, 0, none⟩ : Addr).add j) = some u := by
  intro j u hj
  rw [Addr.add_lit, World.cell?_alloc_at _ _ _ _ (by simp)]
  match j, hj with
  | 0, hj => simpa using hj
  | 1, hj => simpa using hj
  | 2, hj => simpa using hj
  | 3, hj => simpa using hj
/-- An append as one step of a statement whose order is open. -/
theorem step_append_own {P : Program} {ops : Array Oper} {o : Oper} {a : Act} {w : World} {K : Act → World → Prop} {Q : Exit → Act → World → Prop} {E : Prop} (hgd : o.guard = none) (s x : Operand) (t : TypeId)
    (ho : o.op = .call { callee := .builtin .append, args := #[s, x], argTypes := #[t, t] })
    (base : Nat) (e : TypeId) (i : TypeInfo) (z : Value) (size bytes : Nat) (ht : P.underlying t = some (.slice e)) (hi : P.info? e = some i) (hz : i.zero = some z)
    (hsize : i.size = size) (hby : i.bytes = bytes) (hzs : z.cells.size = size) (hsz : 0 < size)
    (v : Value) (n : Nat) (xs : List Value) (hs : a.eval s = v) (hown : w.ownsRow base e size v n xs) (ad : Addr) (m c : Nat) (news : List Value) (hx : a.eval x = .slice (some ad) m c) (hl : news.length = m * size)
    (hnews : ∀ j u, news[j]? = some u → w.cell? (ad.add j) = some u) (h1 : ∀ u ∈ news, u.oneCell' = true)
    (h63 : n + m ≤ maxLen) (hbytes : (n + m) * bytes ≤ 140737488355328) (hbase : base ≤ w.heap.size)
    (h : ∀ v' w', w'.ownsRow base e size v' (n + m) (xs ++ news) → w.grownBy w' v.ownBlock → (v'.ownBlock = v.ownBlock ∨ v'.ownBlock = some w.heap.size) → K (a.put o.dst v') w') :
    if Region.wanted o (yielded ops a.tmps) = true then Oper.wp P o a w K Q else E := by
  rw [if_pos (by simp [Region.wanted, hgd])]
  obtain ⟨v', w', run, own, grew, _, hat⟩ := run_append_own_at (P := P) (w := w) base t o.type e i z size bytes ht hi hz hsize hby hzs hsz v n xs hown ad m c news hl hnews h1 h63 hbytes hbase
  unfold Oper.wp
  simp [execOp, ho, resolve, invoke, builtin, hs, hx, run, Result.andThen]
  exact h v' w' own grew hat

/-- A name, by a number. -/
def nmI (k : Nat) (j : Int) : ByteArray := str (nameA k j.toNat)
theorem nmI_size (k : Nat) (j : Int) : (nmI k j).size = 2 := by unfold nmI; rw [str_size]; rfl
theorem nmI_any (w : World) (kb k : Nat) (j : Int) (hk : w.cell? ⟨kb, 0, none⟩ = some (.int .i64 k)) (h1 : 1 ≤ k) (h2 : k ≤ 20) (h0 : 0 ≤ j) (h3 : j ≤ 1000) :
    Calls Tryz.prog 5 #[.int .i64 j, .pointer (some ⟨kb, 0, none⟩)] w fun e w' => e = .returned (.string (nmI k j)) ∧ w = w' := by
  have := name_any w kb j.toNat k hk h1 h2 (by omega)
  rwa [show ((j.toNat : Nat) : Int) = j by omega] at this
/-- $( ahead of a name, ) behind it. -/
theorem text_is (k i : Nat) : (⟨#[120, 36, 40]⟩ : ByteArray) ++ nmI k ((i : Int) + 1) ++ ⟨#[41]⟩ = str (ringX k i) := by
  apply by8_ext
  unfold nmI ringX
  rw [show ((i : Int) + 1).toNat = i + 1 by omega]
  rfl
theorem own_alloc {w : World} {B : Nat} {t : TypeId} {z : Nat} {v : Value} {n : Nat} {xs : List Value} (h : w.ownsRow B t z v n xs) (o : Obj) : (w.drew.alloc o).ownsRow B t z v n xs :=
  Jw.owns_below h (((Below.refl w.heap.size w).drew).alloc (Nat.le_refl _) o)
def LRel (w0 : World) (kb k : Nat) (vi : Value) (W : World) : Prop :=
  ∃ (i : Nat) (a : Option Addr) (c : Nat), vi = .int .i64 i ∧ i ≤ k ∧ W.heap[kb]? = some (.cells #[.int .i64 k] IntT (0, 0)) ∧ W.heap[kb + 1]? = some (.cells #[.slice a i c, .slice none 0 0, .slice none 0 0] GT (0, 0)) ∧
    W.ownsRow (kb + 2) PV 4 (.slice a i c) i (vsC ((ringL k).take i)) ∧ Below w0.heap.size w0 W
/-- A round's end. -/
theorem LRel.next {w0 w8 : World} {kb k i : Nat} {a4 : Option Addr} {c4 : Nat} {a : Option Addr} {c : Nat} (hlt : i < k) (h : w8.heap[kb + 1]? = some (.cells #[.slice a i c, .slice none 0 0, .slice none 0 0] GT (0, 0)) ∧ w8.heap[kb]? = some (.cells #[.int .i64 k] IntT (0, 0)) ∧ Below w0.heap.size w0 w8) (hw : w0.heap.size ≤ kb)
    (ho : w8.ownsRow (kb + 2) PV 4 (.slice a4 (i + 1) c4) (i + 1) (vsC ((ringL k).take i) ++ [.string (nmI k i), .string ((⟨#[120, 36, 40]⟩ : ByteArray) ++ nmI k ((i : Int) + 1) ++ ⟨#[41]⟩), .bool false, .int .i64 2])) :
    LRel w0 kb k (.int .i64 ((i : Int) + 1)) (w8.setCell ⟨kb + 1, 0, none⟩ (.slice a4 (i + 1) c4)) := by
  refine ⟨i + 1, a4, c4, by go_num, hlt, heap_ne (g := kb + 1) (i := 0) h.2.1 (by omega) _, heap_set (i := 0) h.1 _, ?_, h.2.2.setCell (p := ⟨kb + 1, 0, none⟩) (by show w0.heap.size ≤ kb + 1; omega) _⟩
  have hl : i < (ringL k).length := by rw [ringL_len]; exact hlt
  have hg : w8.grownBy (w8.setCell ⟨kb + 1, 0, none⟩ (.slice a4 (i + 1) c4)) (some (kb + 1)) := ⟨rfl, rfl, rfl, by simp [World.setCell], fun j _ hj => Below.heap_setCell _ _ _ _ (fun e => hj (by simp [e]))⟩
  have h2 := ho.kept hg (Or.inr (fun e => by have := (ho.lt _ e).1; omega))
  rw [List.take_succ_eq_append_getElem hl, ringL_get, vsC_snoc]
  rw [text_is] at h2
  exact h2
theorem ask_is (k f : Nat) : (⟨#[36, 40]⟩ : ByteArray) ++ nmI k (f : Int) ++ ⟨#[41]⟩ = str (askX k f) := by
  apply by8_ext
  unfold nmI askX
  rw [show ((f : Int)).toNat = f by omega]
  rfl
theorem ask_loop (W : World) (tb mb : Nat) (g : Value) (X : List Nat) (k f : Nat) (h1 : 1 ≤ k) (h2 : k ≤ 20) (hT : Tab W tb X (ringT k).l [] false) (ha : MapAt AK W mb []) (hX : ∀ x ∈ X, x < W.heap.size) :
    Calls Tryz.prog 7 #[.agg #[.pointer (some ⟨tb, 0, none⟩), .map (some mb), g], .string ((⟨#[36, 40]⟩ : ByteArray) ++ nmI k (f : Int) ++ ⟨#[41]⟩)] W fun e w' => e = .returned (.tuple #[.string ⟨#[]⟩, .int .i64 7]) ∧ Below W.heap.size W w' := by
  rw [ask_is]
  exact Text_any W tb mb g X (ringT k).l (askX k f) none hT ha hX (fun _ _ _ _ => ask_loops k f h1 h2)
/-- What the ring comes to, once it is cut. -/
def wantS (k : Nat) : ByteArray := str (xs (k - 1) ++ [101, 110, 100])
theorem ask_end (W : World) (tb mb : Nat) (g : Value) (X : List Nat) (k f : Nat) (h1 : 1 ≤ k) (h2 : k ≤ 20) (hT : Tab W tb X (endT k f).l [] false) (ha : MapAt AK W mb []) (hX : ∀ x ∈ X, x < W.heap.size) :
    Calls Tryz.prog 7 #[.agg #[.pointer (some ⟨tb, 0, none⟩), .map (some mb), g], .string ((⟨#[36, 40]⟩ : ByteArray) ++ nmI k (f : Int) ++ ⟨#[41]⟩)] W fun e w' => e = .returned (.tuple #[.string (wantS k), .int .i64 0]) ∧ Below W.heap.size W w' := by
  rw [ask_is]
  exact Text_any W tb mb g X (endT k f).l (askX k f) (some (xs (k - 1) ++ [101, 110, 100])) hT ha hX (fun _ _ _ _ => ask_ends k f h1 h2)
theorem set_end (W : World) (tb : Nat) (X : List Nat) (k f : Nat) (h1 : 1 ≤ k) (h2 : k ≤ 20) (hT : Tab W tb X (ringT k).l [] false) :
    Calls Tryz.prog 8 #[.pointer (some ⟨tb, 0, none⟩), .agg #[.string (nmI k ((f : Int) + k - 1)), .string ⟨#[101, 110, 100]⟩, .bool false, .int .i64 2]] W fun e w' => e = .returned (.int .i64 0) ∧ ∃ X', Tab w' tb X' (endT k f).l [] false ∧ Kept X W w' ∧ ∀ x ∈ X', x ∈ X ∨ W.heap.size ≤ x := by
  have hlen : (ringT k).l.length ≤ 1000000 := by have := setsA_len (ringL k); rw [ringL_len] at this; unfold ringT; omega
  have h := PSet_any W hT (endV k f) (ringT k) rfl (by show (nameA k _).length ≤ _; rw [nameA_len]; omega) hlen
  rw [show Jp.rightA (endV k f) = true from rfl, if_pos rfl, if_pos rfl] at h
  have e1 : vA (endV k f) = #[.string (nmI k ((f : Int) + k - 1)), .string ⟨#[101, 110, 100]⟩, .bool false, .int .i64 2] := by
    unfold vA endV nmI
    rw [show ((f : Int) + k - 1).toNat = f + k - 1 by omega]
    rfl
  rw [e1] at h
  exact h
theorem xs_next (j : Nat) : str (xs j) ++ ⟨#[120]⟩ = str (xs (j + 1)) := by
  apply by8_ext
  show xs j ++ [120] = xs (j + 1)
  unfold xs
  rw [List.replicate_succ']
theorem want_is (k : Nat) : str (xs (k - 1)) ++ ⟨#[101, 110, 100]⟩ = wantS k := by8_ext rfl
theorem xs_size (j : Nat) : (str (xs j)).size = j := by rw [str_size]; simp [xs]
end Go.Proofs.YtebagfadcjgllaaGreatDoor.Xw
