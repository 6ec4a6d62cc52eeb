/-
  lex.Tokens: the tokens of a line.
-/
import Derived.Test.YtlkcpegjkmfngaaDoorLCells
import Derived.Test.YtlkcpegjkmfngaaDoorLFirst
namespace Go.Proofs.YtlkcpegjkmfngaaDoor.Lx
open Go.RowKit Go.Proofs.YtlkcpegjkmfngaaDoor
set_option maxRecDepth 100000

def szOf : Value → Nat
  | .string s => s.size
  | _ => 0
/-- What Tokens returns. -/
def TokPost (w : World) (o : Option (List Lp.T)) (e : Ending) (w' : World) : Prop :=
  (match o with
   | none => e = .returned (.tuple #[.slice none 0 0, .int .i64 6])
   | some l => ∃ a c, e = .returned (.tuple #[.slice a l.length c, .int .i64 0]) ∧ w'.ownsRow w.heap.size TT 2 (.slice a l.length c) l.length (tsC l)) ∧ Below w.heap.size w w'

def TokRel (w : World) (s : ByteArray) (v l : Value) (wr : World) : Prop :=
  ∃ (r : Bs) (out : List Lp.T) (a : Option Addr) (c : Nat), v = .string (str r) ∧ l = .slice a out.length c ∧ wr.ownsRow w.heap.size TT 2 (.slice a out.length c) out.length (tsC out) ∧ Below w.heap.size w wr ∧
    Lp.skipA r = r ∧ Lp.tokA (by8 s) = (Lp.tokA r).map (out ++ ·) ∧ out.length + r.length ≤ s.size

theorem TokRel.next {w w1 : World} {s : ByteArray} {r r' : Bs} {out : List Lp.T} {t : Lp.T} {a : Option Addr} {c : Nat} (hcut : Lp.tokA (by8 s) = (Lp.tokA r).map (out ++ ·)) (hsk : Lp.skipA r = r) (hne : r ≠ []) (hlen : out.length + r.length ≤ s.size) (hf : Lp.firstA r = some (t, r'))
    (ho : w1.ownsRow w.heap.size TT 2 (.slice a (out.length + 1) c) (out.length + 1) (tsC out ++ [.int .i64 t.k, .string (str t.t)])) (hB : Below w.heap.size w w1) :
    TokRel w s (.string (str (Lp.skipA r'))) (.slice a (out.length + 1) c) w1 := by
  refine ⟨Lp.skipA r', out ++ [t], a, c, rfl, by simp, by rw [List.length_append, tsC_snoc]; exact ho, hB, Lp.skip_skip _, ?_, ?_⟩
  · rw [hcut, Lp.tok_skip, Lp.tok_good (s := r) (t := t) (r := r') (by rw [hsk]; exact hne) (by rw [hsk]; exact hf)]
    cases Lp.tokA r' with
    | none => rfl
    | some m => simp
  · have h1 := Lp.first_len hf
    have h2 := Lp.skip_len r'
    simp only at h1
    rw [List.length_append, List.length_singleton]; omega

set_option maxHeartbeats 4000000 in
theorem Tokens_any (w : World) (s : ByteArray) (hs : s.size ≤ 100000) (hG : Glob w) : Calls Tryd.prog 14 #[.string s] w (TokPost w (Lp.tokA (by8 s))) := by
  obtain ⟨i0, hi, hz0, hz1, hz2⟩ := info_parts infoT
  have HG := Lib.hid hG
  clear hG
  have hsk0 := Lp.skip_len (by8 s)
  rw [by8_len] at hsk0
  go_enter Tryd.func14, Tryd.ntmps14
  go_wp2_with fail
  refine (skip_any w s).mono ?_
  rintro e w1 ⟨rfl, hB1⟩
  go_wp2_with fail
  go_loopw [0, 4] (fun v l wr => TokRel w s v l wr) (fun v _ _ => szOf v)
  case atStart => exact ⟨Lp.skipA (by8 s), [], none, 0, rfl, rfl, World.ownsRow_nil _ _ _ _, hB1, Lp.skip_skip _, by rw [Lp.tok_skip]; simp, by simpa using hsk0⟩
  case round =>
    obtain ⟨r, out, a, c, rfl, rfl, hr, hB, hsk, hcut, hlen⟩ := hrel
    by_cases hne : r = []
    · have HE : Hid (Lp.tokA (by8 s) = some out) := Lib.hid (by rw [hcut, hne]; simp [Lp.tokA, Lp.tokF])
      have hst : (str r).toList.isEmpty = true := by
        rw [Lib.toList_data]
        show (by8 (str r)).isEmpty = true
        rw [by8_str, hne]; rfl
      clear hcut hne hsk
      go_wp2_with fail
      exact bodyPost_ret (v := .tuple #[.slice a out.length c, .int .i64 0]) (by simp [results, Tryd.results14, go_sem]) rfl ⟨by rw [HE.out]; exact ⟨a, c, rfl, hr⟩, hB⟩
    · have hsr : (str r).size = r.length := str_size r
      have hpos : 0 < r.length := List.length_pos_iff.2 hne
      have hst : (str r).toList.isEmpty = false := by
        rw [Lib.toList_data]
        show (by8 (str r)).isEmpty = false
        rw [by8_str]
        simpa using hne
      have hF := first_any wr (str r) (by omega) (by omega) (HG.out.below hB)
      rw [by8_str] at hF
      cases hf : Lp.firstA r with
      | none =>
        have HE : Hid (Lp.tokA (by8 s) = none) := Lib.hid (by rw [hcut, Lp.tok_bad (by rw [hsk]; exact hne) (by rw [hsk]; exact hf)]; rfl)
        rw [hf] at hF
        clear hcut hne hsk hf
        go_wp2_with fail
        refine hF.mono ?_
        rintro e w2 ⟨rfl, hB2⟩
        unfold firstV
        go_wp2_with fail
        exact bodyPost_ret (v := .tuple #[.slice none 0 0, .int .i64 6]) (by simp [results, Tryd.results14, go_sem]) rfl ⟨by rw [HE.out], (hB.trans (hB2.mono hB.size)).alloc (by have := hB.size; have := hB2.size; omega) _⟩
      | some p =>
        obtain ⟨t, r'⟩ := p
        rw [hf] at hF
        have HN := Lib.hid fun (w1 : World) (a : Option Addr) (c : Nat) => @TokRel.next w w1 s r r' out t a c hcut hsk hne hlen hf
        clear hcut hne hsk
        go_wp2_with fail
        refine hF.mono ?_
        rintro e w2 ⟨rfl, hB2⟩
        unfold firstV
        have hr2 := owns_below hr hB2
        have hB3 := hB.trans (hB2.mono hB.size)
        have hB4 := fun o => hB3.alloc hB3.size o
        have hsk2 := skip_any
        have htr : r'.length < r.length := Lp.first_len hf
        go_wp2_with (first
          | (at_builtin; refine wpList_append_own _ rfl _ _ 45 rfl w.heap.size TT i0 (.agg #[.int .i64 0, .string ByteArray.empty]) 2 24 Tryd.underlying45 hi hz0 hz1 hz2 rfl (by decide) _ _ _ rfl ((hr2.alloc _).alloc _) ⟨w2.heap.size + 1, 0, none⟩ 1 1 [.int .i64 t.k, .string (str t.t)] rfl rfl (two_at _ (by simp) _ _ _) (by simp [Value.oneCell']) (by unfold maxLen; omega) (by omega) (by have := hB3.size; simp; omega) ?_; intro v' w3 hown' hgrow _; obtain ⟨a2, c2, rfl⟩ := owns_slice hown'; have hB5 := (((hB4 _).alloc (hB4 _).size _).grown hgrow ((hB4 _).alloc (hB4 _).size _).size fun j ej => (hr2.lt j ej).1))
          | (go_at_call 26; refine (hsk2 _ _).mono ?_; rintro e w4 ⟨rfl, hB6⟩; have hB7 := hB5.trans (hB6.mono hB5.size)))
        go_roundw
        case rel => rw [by8_str]; exact HN.out _ _ _ (owns_below hown' hB6) hB7
        case measure =>
          rw [by8_str]
          have h1 := Lp.skip_len r'
          simp only [szOf, str_size]
          omega
end Go.Proofs.YtlkcpegjkmfngaaDoor.Lx
