/-
  flatironref13.Call: what a function makes.
  flatironref13.Call: subst, findstring, word, wordlist; no function; too many or too few texts.
  Words, put together; what TextWords asks, in plain words.
  A recipe's variables, in plain words.
-/
import Derived.Deep.RegionHeld3
import Derived.Test.YtgednccpjegbmaaGreatDoorQEJoined
import Derived.Test.YtgednccpjegbmaaGreatDoorQEEach
import Derived.Test.YtgednccpjegbmaaGreatDoorQESorted
namespace Go.Proofs.YtgednccpjegbmaaGreatDoor.Ew
open Go.RowKit Go.Proofs.YtgednccpjegbmaaGreatDoor Go.Proofs.YtgednccpjegbmaaGreatDoor.Ww Go.Proofs.YtgednccpjegbmaaGreatDoor.Tw
set_option maxRecDepth 100000

/-- Words by numbers. -/
def pickS (a b : Option Nat) (L : List ByteArray) : ByteArray × Int := if numI a < 1 ∨ numI b < 0 then (⟨#[]⟩, 1) else (joinS (someS L (a.getD 0) (b.getD 0)), 0)
def numS (p : ByteArray) : Option Nat := Ep.numA (by8 (trimT p))
/-- What a function makes of as many texts as it takes. -/
def resS (k : Nat) (A : List ByteArray) : ByteArray × Int :=
  let L := wordsS (A.getD (takesN k - 1) ⟨#[]⟩)
  match k with
  | 0 => (str (Ep.substA (by8 (A.getD 0 ⟨#[]⟩)) (by8 (A.getD 1 ⟨#[]⟩)) (by8 (A.getD 2 ⟨#[]⟩))), 0)
  | 2 => (joinS L, 0)
  | 3 => (if Ep.insideA (by8 (A.getD 0 ⟨#[]⟩)) (by8 (A.getD 1 ⟨#[]⟩)) = true then A.getD 0 ⟨#[]⟩ else ⟨#[]⟩, 0)
  | 4 => (joinS (keptS (wordsS (A.getD 0 ⟨#[]⟩)) true (wordsS (A.getD 1 ⟨#[]⟩))), 0)
  | 5 => (joinS (keptS (wordsS (A.getD 0 ⟨#[]⟩)) false (wordsS (A.getD 1 ⟨#[]⟩))), 0)
  | 6 => (joinS (Wp.sortS L), 0)
  | 7 => pickS (numS (A.getD 0 ⟨#[]⟩)) (numS (A.getD 0 ⟨#[]⟩)) L
  | 8 => (str (Ep.digitsA L.length), 0)
  | 9 => pickS (numS (A.getD 0 ⟨#[]⟩)) (numS (A.getD 1 ⟨#[]⟩)) L
  | 10 => (joinS (someS L 1 1), 0)
  | 11 => (joinS (someS L (max L.length 1) L.length), 0)
  | 18 => (joinS (pairsS (wordsS (A.getD 0 ⟨#[]⟩)) L), 0)
  | k => (joinS (eachS (oneS k A) L), 0)
/-- An answer of Call. -/
def ansE (r : ByteArray × Int) : Ending := .returned (.tuple #[.string r.1, .int .i64 r.2])
theorem one_size (k : Nat) (A : List ByteArray) (x : ByteArray) (hs : ∀ p ∈ A, p.size ≤ 10000) (hx : x.size ≤ 10000) : (oneS k A x).size ≤ 100000 := by
  have h0 := getD_size hs 0
  have h1 := getD_size hs 1
  unfold oneS
  split
  · have := ch_len (trimT (A.getD 0 ⟨#[]⟩)) (trimT (A.getD 1 ⟨#[]⟩)) x
    have := trim_len (A.getD 0 ⟨#[]⟩)
    have := trim_len (A.getD 1 ⟨#[]⟩)
    omega
  · split
    · split
      · show 2 ≤ 100000; omega
      · rw [ByteArray.size_extract]; omega
    · split
      · rw [ByteArray.size_extract]; omega
      · split
        · rw [ByteArray.size_extract]; omega
        · split
          · rw [ByteArray.size_extract]; omega
          · split
            · rw [ByteArray.size_append]; omega
            · rw [ByteArray.size_append]; omega
theorem word_lim {p q : ByteArray} (hp : p.size ≤ 9000) (h : q ∈ wordsS p) : q.size ≤ 9000 := Nat.le_trans (words_size h) hp

































































































































































































































































































































































































































































































































































































end Go.Proofs.YtgednccpjegbmaaGreatDoor.Ew
namespace Go.Proofs.YtgednccpjegbmaaGreatDoor.Ew
open Go.RowKit Go.Proofs.YtgednccpjegbmaaGreatDoor Go.Proofs.YtgednccpjegbmaaGreatDoor.Ww Go.Proofs.YtgednccpjegbmaaGreatDoor.Tw
set_option maxRecDepth 100000

theorem numS_le {p : ByteArray} {m : Nat} (h : numS p = some m) : m ≤ 1073741824 := Ep.numA_le h
theorem numI_some (m : Nat) : numI (some m) = (m : Int) := rfl
theorem pick_bad1 {a b : Option Nat} {L : List ByteArray} (h : numI a < 1) : pickS a b L = (⟨#[]⟩, 1) := if_pos (.inl h)
theorem pick_bad2 {a b : Option Nat} {L : List ByteArray} (h : numI b < 0) : pickS a b L = (⟨#[]⟩, 1) := if_pos (.inr h)
theorem pick_good {a b : Nat} {L : List ByteArray} (h : 1 ≤ a) : pickS (some a) (some b) L = (joinS (someS L a b), 0) := if_neg (by
  rw [numI_some, numI_some]; omega)













































































































































































































































































































































end Go.Proofs.YtgednccpjegbmaaGreatDoor.Ew
namespace Go.Proofs.YtgednccpjegbmaaGreatDoor.Ew
open Go.RowKit Go.Proofs.YtgednccpjegbmaaGreatDoor Go.Proofs.YtgednccpjegbmaaGreatDoor.Ww Go.Proofs.YtgednccpjegbmaaGreatDoor.Tw
set_option maxRecDepth 100000

abbrev bs (l : List ByteArray) : List (List UInt8) := l.map (·.data.toList)
theorem bs_inj : ∀ {a b : List ByteArray}, bs a = bs b → a = b
  | [], [], _ => rfl
  | x :: a, y :: b, h => by
    have h := List.cons.inj h
    rw [Wp.bytes_ext h.1, bs_inj h.2]
theorem words_bs (u : ByteArray) : bs (wordsS u) = Wp.wl [] (by8 u) := by
  rw [← Wp.items_wl]
  unfold wordsS
  rw [bs, List.map_map]
  refine List.map_congr_left fun x hx => ?_
  show (u.extract x.1 x.2).data.toList = _
  rw [ByteArray.data_extract, Array.toList_extract, List.extract_eq_take_drop]
  rfl
def GoodS (p : ByteArray) : Prop := Wp.Good (by8 p)
theorem words_good {u p : ByteArray} (h : p ∈ wordsS u) : GoodS p := by
  have h1 : by8 p ∈ bs (wordsS u) := List.mem_map.2 ⟨p, h, rfl⟩
  rw [words_bs] at h1
  exact Wp.wl_good _ _ (fun _ h => (List.not_mem_nil h).elim) _ h1
theorem words_join {l : List ByteArray} (h : ∀ p ∈ l, GoodS p) : wordsS (joinS l) = l := by
  refine bs_inj ?_
  rw [words_bs]
  show Wp.wl [] (Lib.join (bs l) [32]) = _
  exact Wp.wl_join _ fun x hx => by
    obtain ⟨p, hp, rfl⟩ := List.mem_map.1 hx
    exact h p hp
theorem join_one (p : ByteArray) : joinS [p] = p := by8_ext (by
  show Lib.join [p.data.toList] [32] = _
  rw [Lib.join_one]; rfl)
theorem join_len {l : List ByteArray} {n : Nat} (h : ∀ p ∈ l, p.size ≤ n) : (joinS l).size ≤ (l.map (·.size)).sum + l.length := by
  have key : ∀ l : List ByteArray, (Lib.joinTail [32] (bs l)).length = (l.map (·.size)).sum + l.length := by
    intro l
    induction l with
    | nil => rfl
    | cons x r ih =>
      have e : Lib.joinTail [32] (bs (x :: r)) = 32 :: (x.data.toList ++ Lib.joinTail [32] (bs r)) := by simp [Lib.joinTail, bs]
      rw [e, List.length_cons, List.length_append, ih, List.map_cons, List.sum_cons, List.length_cons, ← Lib.size_eq]; omega
  cases l with
  | nil => exact Nat.zero_le _
  | cons x r =>
    have e : (joinS (x :: r)).size = (x.data.toList ++ Lib.joinTail [32] (bs r)).length := by
      rw [← by8_len]
      show (Lib.join (bs (x :: r)) [32]).length = _
      rw [show bs (x :: r) = x.data.toList :: bs r from rfl, Lib.join_cons]
    rw [e, List.length_append, key r, List.map_cons, List.sum_cons, List.length_cons, ← Lib.size_eq]; omega

/-- A text's words are no longer than it. -/
theorem wl_sum : ∀ (u acc : List UInt8), ((Wp.wl acc u).map List.length).sum + (Wp.wl acc u).length ≤ acc.length + u.length + 1
  | [], acc => by
    unfold Wp.wl
    split
    · simp
    · simp
  | c :: u, acc => by
    unfold Wp.wl
    split
    · have ih := wl_sum u []
      split
      · rw [List.length_cons]; rw [List.length_nil] at ih; omega
      · rw [List.map_cons, List.sum_cons, List.length_cons, List.length_cons]; rw [List.length_nil] at ih; omega
    · have ih := wl_sum u (acc ++ [c])
      rw [List.length_append, List.length_singleton] at ih
      rw [List.length_cons]; omega
theorem words_sum (u : ByteArray) : ((wordsS u).map (·.size)).sum + (wordsS u).length ≤ u.size + 1 := by
  have h := wl_sum (by8 u) []
  rw [← words_bs, by8_len, List.length_nil] at h
  have e : ((bs (wordsS u)).map List.length).sum = ((wordsS u).map (·.size)).sum := by
    rw [bs, List.map_map]
    congr 1
  rw [e, show (bs (wordsS u)).length = (wordsS u).length from List.length_map ..] at h
  omega
/- Figures. -/
/- What the calls of TextWords come to. -/
abbrev szs (l : List ByteArray) : Nat := (l.map (·.size)).sum
theorem szs_cons (x : ByteArray) (l : List ByteArray) : szs (x :: l) = x.size + szs l := by simp [szs]
end Go.Proofs.YtgednccpjegbmaaGreatDoor.Ew
namespace Go.Proofs.YtgednccpjegbmaaGreatDoor.Aw
open Go.RowKit Go.Proofs.YtgednccpjegbmaaGreatDoor Go.Proofs.YtgednccpjegbmaaGreatDoor.Ww Go.Proofs.YtgednccpjegbmaaGreatDoor.Tw Go.Proofs.YtgednccpjegbmaaGreatDoor.Ew
set_option maxRecDepth 100000

/-- A word without its last byte, if it has more than one. -/
def sh (x : ByteArray) : ByteArray := if 1 < x.size then x.extract 0 (x.size - 1) else x
/-- dir, and notdir, of a text's words. -/
def dirT (s : ByteArray) : ByteArray := joinS (eachS (oneS 12 []) (wordsS s))
def nameT (s : ByteArray) : ByteArray := joinS (eachS (oneS 13 []) (wordsS s))
/-- What a text's words are in. -/
def dirsT (s : ByteArray) : ByteArray := joinS ((wordsS (dirT s)).map sh)
theorem sh_size (x : ByteArray) : (sh x).size ≤ x.size := by
  unfold sh
  split
  · rw [ByteArray.size_extract]; omega
  · omega
/-- A variable and its two others. -/
def threeT (n t : ByteArray) : List (ByteArray × ByteArray) := [(n, t), (n ++ ⟨#[68]⟩, dirsT t), (n ++ ⟨#[70]⟩, nameT t)]
/-- The five that there are. -/
def plainT (target stem : ByteArray) (needs : List ByteArray) : List (ByteArray × ByteArray) :=
  [(⟨#[64]⟩, target), (⟨#[60]⟩, needs.headD ⟨#[]⟩), (⟨#[94]⟩, joinS (Wp.uniq needs)), (⟨#[43]⟩, joinS needs), (⟨#[42]⟩, stem)]
def allT (l : List (ByteArray × ByteArray)) : List (ByteArray × ByteArray) := l.flatMap fun p => threeT p.1 p.2
end Go.Proofs.YtgednccpjegbmaaGreatDoor.Aw
