/-
  A recipe's variables, in plain words.
-/
import Derived.Test.YtenokbceamcekaaGreatDoorQEFacts
namespace Go.Proofs.YtenokbceamcekaaGreatDoor.Aw
open Go.RowKit Go.Proofs.YtenokbceamcekaaGreatDoor Go.Proofs.YtenokbceamcekaaGreatDoor.Ww Go.Proofs.YtenokbceamcekaaGreatDoor.Tw Go.Proofs.YtenokbceamcekaaGreatDoor.Ew
set_option maxRecDepth 100000

/-- A word without its last byte, if it has more than one. -/
def sh (x : ByteArray) : ByteArray := if 1 < x.size then x.extract 0 (x.size - 1) else x
/-- dir, and notdir, of a text's words. -/
def dirT (s : ByteArray) : ByteArray := joinS (eachS (oneS 12 []) (wordsS s))
def nameT (s : ByteArray) : ByteArray := joinS (eachS (oneS 13 []) (wordsS s))
/-- What a text's words are in. -/
def dirsT (s : ByteArray) : ByteArray := joinS ((wordsS (dirT s)).map sh)
theorem sh_size (x : ByteArray) : (sh x).size ≤ x.size := by
  unfold sh
  split
  · rw [ByteArray.size_extract]; omega
  · omega
/-- A variable and its two others. -/
def threeT (n t : ByteArray) : List (ByteArray × ByteArray) := [(n, t), (n ++ ⟨#[68]⟩, dirsT t), (n ++ ⟨#[70]⟩, nameT t)]
/-- The five that there are. -/
def plainT (target stem : ByteArray) (needs : List ByteArray) : List (ByteArray × ByteArray) :=
  [(⟨#[64]⟩, target), (⟨#[60]⟩, needs.headD ⟨#[]⟩), (⟨#[94]⟩, joinS (Wp.uniq needs)), (⟨#[43]⟩, joinS needs), (⟨#[42]⟩, stem)]
def allT (l : List (ByteArray × ByteArray)) : List (ByteArray × ByteArray) := l.flatMap fun p => threeT p.1 p.2
theorem allT_take {l : List (ByteArray × ByteArray)} {k : Nat} (h : k < l.length) : allT (l.take (k + 1)) = allT (l.take k) ++ threeT l[k].1 l[k].2 := by
  unfold allT
  rw [List.take_succ_eq_append_getElem h, List.flatMap_append]
  simp
/-- Pairs of texts, as cells. -/
def pairsC (l : List (ByteArray × ByteArray)) : List Value := l.flatMap fun p => [.string p.1, .string p.2]
theorem pairsC_len (l : List (ByteArray × ByteArray)) : (pairsC l).length = l.length * 2 := by
  induction l with
  | nil => rfl
  | cons x l ih => rw [List.length_cons, show pairsC (x :: l) = [Value.string x.1, .string x.2] ++ pairsC l from rfl, List.length_append, ih]; show 2 + _ = _; omega
theorem pairsC_app (a b : List (ByteArray × ByteArray)) : pairsC (a ++ b) = pairsC a ++ pairsC b := by simp [pairsC]
theorem pairsC_get : ∀ (l : List (ByteArray × ByteArray)) (k : Nat) (h : k < l.length), (pairsC l)[k * 2]? = some (.string l[k].1) ∧ (pairsC l)[k * 2 + 1]? = some (.string l[k].2)
  | x :: l, 0, _ => ⟨rfl, rfl⟩
  | x :: l, k + 1, h => by
    have ih := pairsC_get l k (by simpa using h)
    have e : pairsC (x :: l) = Value.string x.1 :: .string x.2 :: pairsC l := rfl
    rw [e, show (k + 1) * 2 = k * 2 + 1 + 1 by omega, show k * 2 + 1 + 1 + 1 = (k * 2 + 1) + 1 + 1 by omega]
    simpa using ih
end Go.Proofs.YtenokbceamcekaaGreatDoor.Aw
