/-
  flatironref13: at, inside, name, end.
  flatironref13: list, of, some.
  The functions' names; what a function makes of a word.
  flatironref13: each, kept.
-/
import Derived.Lib.Index
import Derived.Test.YtgednccpjegbmaaGreatDoorQETrim
import Derived.Test.YtgednccpjegbmaaGreatDoorQTRef
import Derived.Deep.RegionHeld3
namespace Go.Proofs.YtgednccpjegbmaaGreatDoor.Ew
open Go.RowKit Go.Proofs.YtgednccpjegbmaaGreatDoor Go.Proofs.YtgednccpjegbmaaGreatDoor.Ww Go.Proofs.YtgednccpjegbmaaGreatDoor.Tw
set_option maxRecDepth 100000

























































































end Go.Proofs.YtgednccpjegbmaaGreatDoor.Ew
namespace Go.Proofs.YtgednccpjegbmaaGreatDoor.Ew
open Go.RowKit Go.Proofs.YtgednccpjegbmaaGreatDoor Go.Proofs.YtgednccpjegbmaaGreatDoor.Ww Go.Proofs.YtgednccpjegbmaaGreatDoor.Tw
set_option maxRecDepth 100000
















/-- Is a word of one of some patterns? -/
def ofS (l : List ByteArray) (x : ByteArray) : Bool := l.any fun p => (Tp.matchA (by8 p) (by8 x)).isSome
theorem owns_below {wr w3 : World} {base : Nat} {e : TypeId} {z : Nat} {v : Value} {n : Nat} {xs : List Value} (h : wr.ownsRow base e z v n xs) (B : Below wr.heap.size wr w3) : w3.ownsRow base e z v n xs := by
  refine ⟨h.1, ?_⟩
  rcases h.2 with h | ⟨g, cap, cur, h1, h2, h3, h4⟩
  · exact .inl h
  · exact .inr ⟨g, cap, cur, h1, h2, (B.block g (Array.getElem?_eq_some_iff.1 h3).1).trans h3, h4⟩
/-- A fresh row of strings reads. -/
theorem rd_lit (w : World) (l : List ByteArray) (cs : Array Value) (h : cs.toList = strsC l) (c : Nat) (hc : l.length ≤ c) : Rd (w.alloc (.cells cs ST)) (w.alloc (.cells cs ST)).heap.size (.slice (some ⟨w.heap.size, 0, none⟩) l.length c) (strsC l) := by
  refine ⟨_, c, by rw [strsC_len], by rw [strsC_len]; exact hc, fun _ => ⟨w.heap.size, 0, rfl, by simp, fun j u hj => ?_⟩⟩
  rw [World.cell?_alloc_at _ _ _ _ (by simp)]
  rw [← h, Array.getElem?_toList] at hj
  simpa using hj

/-- Words from one to another one. -/
def someS (l : List ByteArray) (a b : Nat) : List ByteArray := (l.take b).drop (a - 1)
theorem someS_len (l : List ByteArray) (a b : Nat) : (someS l a b).length ≤ l.length := by unfold someS; rw [List.length_drop, List.length_take]; omega



























































end Go.Proofs.YtgednccpjegbmaaGreatDoor.Ew
namespace Go.Proofs.YtgednccpjegbmaaGreatDoor.Ew
open Go.RowKit Go.Proofs.YtgednccpjegbmaaGreatDoor Go.Proofs.YtgednccpjegbmaaGreatDoor.Ww Go.Proofs.YtgednccpjegbmaaGreatDoor.Tw
set_option maxRecDepth 100000

/-- The functions' names. -/
def nm : Nat → ByteArray
  | 0 => ⟨#[115, 117, 98, 115, 116]⟩
  | 1 => ⟨#[112, 97, 116, 115, 117, 98, 115, 116]⟩
  | 2 => ⟨#[115, 116, 114, 105, 112]⟩
  | 3 => ⟨#[102, 105, 110, 100, 115, 116, 114, 105, 110, 103]⟩
  | 4 => ⟨#[102, 105, 108, 116, 101, 114]⟩
  | 5 => ⟨#[102, 105, 108, 116, 101, 114, 45, 111, 117, 116]⟩
  | 6 => ⟨#[115, 111, 114, 116]⟩
  | 7 => ⟨#[119, 111, 114, 100]⟩
  | 8 => ⟨#[119, 111, 114, 100, 115]⟩
  | 9 => ⟨#[119, 111, 114, 100, 108, 105, 115, 116]⟩
  | 10 => ⟨#[102, 105, 114, 115, 116, 119, 111, 114, 100]⟩
  | 11 => ⟨#[108, 97, 115, 116, 119, 111, 114, 100]⟩
  | 12 => ⟨#[100, 105, 114]⟩
  | 13 => ⟨#[110, 111, 116, 100, 105, 114]⟩
  | 14 => ⟨#[115, 117, 102, 102, 105, 120]⟩
  | 15 => ⟨#[98, 97, 115, 101, 110, 97, 109, 101]⟩
  | 16 => ⟨#[97, 100, 100, 112, 114, 101, 102, 105, 120]⟩
  | 17 => ⟨#[97, 100, 100, 115, 117, 102, 102, 105, 120]⟩
  | _ => ⟨#[106, 111, 105, 110]⟩
/-- What a function makes of a word. -/
def oneS (k : Nat) (A : List ByteArray) (x : ByteArray) : ByteArray :=
  if k = 1 then chS (trimT (A.getD 0 ⟨#[]⟩)) (trimT (A.getD 1 ⟨#[]⟩)) x
  else if k = 12 then (if Ep.nameA (by8 x) = 0 then ⟨#[46, 47]⟩ else x.extract 0 (Ep.nameA (by8 x)))
  else if k = 13 then x.extract (Ep.nameA (by8 x)) x.size
  else if k = 14 then x.extract (Ep.endA (by8 x)) x.size
  else if k = 15 then x.extract 0 (Ep.endA (by8 x))
  else if k = 16 then A.getD 0 ⟨#[]⟩ ++ x
  else x ++ A.getD 0 ⟨#[]⟩
theorem trim_len (s : ByteArray) : (trimT s).size ≤ s.size := by
  have : (by8 (trimT s)).length ≤ (by8 s).length := by
    show (Lib.trimS (by8 s) [32, 9, 10]).length ≤ _
    unfold Lib.trimS Lib.trimLeftS Lib.trimRightS
    refine Nat.le_trans (List.dropWhile_sublist _).length_le ?_
    rw [List.length_reverse]
    refine Nat.le_trans (List.dropWhile_sublist _).length_le ?_
    rw [List.length_reverse]
    exact Nat.le_refl _
  rwa [by8_len, by8_len] at this
theorem getD_size {A : List ByteArray} {n : Nat} (h : ∀ p ∈ A, p.size ≤ n) (k : Nat) : (A.getD k ⟨#[]⟩).size ≤ n := by
  rw [List.getD]
  cases e : A[k]? with
  | none => exact Nat.zero_le _
  | some p => exact h p (List.mem_of_getElem? e)
theorem rd_cell {w : World} {B : Nat} {a : Option Addr} {n c : Nat} {A : List ByteArray} (h : Rd w B (.slice a n c) (strsC A)) (k : Nat) (hk : k < A.length) : ∃ g o, a = some ⟨g, o, none⟩ ∧ n = A.length ∧ n ≤ c ∧ g < B ∧ ∀ j, j < A.length → w.cell? ⟨g, o + j, none⟩ = some (.string (A.getD j ⟨#[]⟩)) := by
  obtain ⟨g, o, c', hv, hc', hg, hx⟩ := h.open_ (by rw [strsC_len]; omega)
  rw [strsC_len] at hv hc'
  obtain ⟨rfl, rfl, rfl⟩ := (Value.slice.injEq ..).mp hv
  exact ⟨g, o, rfl, rfl, hc', hg, fun j hj => by rw [hx j _ (strsC_get A hj), List.getD, List.getElem?_eq_getElem hj]; rfl⟩























































































































end Go.Proofs.YtgednccpjegbmaaGreatDoor.Ew
namespace Go.Proofs.YtgednccpjegbmaaGreatDoor.Ew
open Go.RowKit Go.Proofs.YtgednccpjegbmaaGreatDoor Go.Proofs.YtgednccpjegbmaaGreatDoor.Ww Go.Proofs.YtgednccpjegbmaaGreatDoor.Tw
set_option maxRecDepth 100000

theorem words_size {s p : ByteArray} (h : p ∈ wordsS s) : p.size ≤ s.size := by
  unfold wordsS at h
  obtain ⟨x, hx, rfl⟩ := List.mem_map.1 h
  have := Wp.items_in hx
  rw [by8_len] at this
  unfold part
  rw [ByteArray.size_extract]; omega
theorem words_few (s : ByteArray) : (wordsS s).length ≤ s.size := by rw [wordsS_len]; exact items_size s








/-- What a function makes of each word, without what is empty. -/
def eachS (g : ByteArray → ByteArray) (l : List ByteArray) : List ByteArray := (l.map g).filter fun p => decide (by8 p ≠ [])
theorem each_len (g : ByteArray → ByteArray) (l : List ByteArray) : (eachS g l).length ≤ l.length := by
  unfold eachS
  exact Nat.le_trans (List.length_filter_le _ _) (by rw [List.length_map]; exact Nat.le_refl _)
theorem each_mem {g : ByteArray → ByteArray} {l : List ByteArray} {p : ByteArray} (h : p ∈ eachS g l) : ∃ x ∈ l, p = g x := by
  unfold eachS at h
  obtain ⟨x, hx, rfl⟩ := List.mem_map.1 (List.mem_filter.1 h).1
  exact ⟨x, hx, rfl⟩
/-- Words that are of patterns, or not. -/
def keptS (P : List ByteArray) (q : Bool) (l : List ByteArray) : List ByteArray := l.filter fun x => ofS P x == q
theorem kept_len (P : List ByteArray) (q : Bool) (l : List ByteArray) : (keptS P q l).length ≤ l.length := by unfold keptS; exact List.length_filter_le _ _
end Go.Proofs.YtgednccpjegbmaaGreatDoor.Ew
