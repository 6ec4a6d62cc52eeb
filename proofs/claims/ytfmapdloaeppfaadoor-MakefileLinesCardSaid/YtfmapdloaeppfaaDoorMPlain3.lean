/-
  The lines of a text that is a name, a mark and a value.
-/
import Derived.Test.YtfmapdloaeppfaaDoorMPlain2
namespace Go.Proofs.YtfmapdloaeppfaaDoor.Mp
set_option maxRecDepth 100000

section
variable {n o v : Bs} (ho : o ∈ marks) (hn0 : n ≠ []) (hn : ∀ c ∈ n, Letter c) (hv : ∀ c ∈ v, Val c)
include ho hn0 hn hv
omit hn0 hn in
/-- The lines of such a text are its own one, in ASCII. -/
theorem law_lines (q : Bs) (hq0 : q ≠ []) (hq : ∀ c ∈ q, Letter c ∨ c = 32 ∨ c = 9) (hh : ∀ c, q.head? = some c → Letter c) : ∀ x ∈ Ip.linesA (q ++ 32 :: o ++ 32 :: v), x.q = false ∧ ∀ c ∈ x.t, c.toNat < 128 := by
  obtain ⟨h1, _⟩ := line_ok ho hv q hq0 hq hh
  rw [h1]
  intro x hx
  obtain rfl := List.mem_singleton.1 hx
  refine ⟨rfl, fun c hc => ?_⟩
  have hc := Ip.trim_sub hc
  have hL : ∀ c : UInt8, Letter c → c.toNat < 128 := fun c h => by unfold Letter at h; omega
  rcases List.mem_append.1 hc with hc | hc
  · rcases List.mem_append.1 hc with hc | hc
    · rcases hq c hc with h | rfl | rfl
      · exact hL c h
      · decide
      · decide
    · rcases List.mem_cons.1 hc with rfl | hc
      · decide
      · rcases mark_ways ho with rfl | rfl | rfl | rfl <;> simp at hc <;> rcases hc with rfl | rfl <;> decide
  · rcases List.mem_cons.1 hc with rfl | hc
    · decide
    · rcases hv c hc with h | rfl | rfl | rfl | rfl
      · exact hL c h
      · decide
      · decide
      · decide
      · decide
theorem lines_plain : ∀ x ∈ Ip.linesA (n ++ 32 :: o ++ 32 :: v), x.q = false ∧ ∀ c ∈ x.t, c.toNat < 128 := law_lines ho hv n hn0 (fun c hc => .inl (hn c hc)) (head_of hn)
omit ho hn0 hn hv in
theorem over_letters : ∀ c ∈ oOver, Letter c := by
  intro c hc
  simp [oOver] at hc
  rcases hc with rfl | rfl | rfl | rfl | rfl | rfl | rfl <;> exact .inl (by decide)
omit ho hn0 hn hv in
theorem out_letters : ∀ c ∈ oExport, Letter c := by
  intro c hc
  simp [oExport] at hc
  rcases hc with rfl | rfl | rfl | rfl | rfl | rfl <;> exact .inl (by decide)
omit hn0 in
theorem lines_over : ∀ x ∈ Ip.linesA (oOver ++ 32 :: n ++ 32 :: o ++ 32 :: v), x.q = false ∧ ∀ c ∈ x.t, c.toNat < 128 := law_lines ho hv (oOver ++ 32 :: n) (by simp) (fun c hc => by
    rcases List.mem_append.1 hc with hc | hc
    · exact .inl (over_letters c hc)
    · rcases List.mem_cons.1 hc with rfl | hc
      · exact .inr (.inl rfl)
      · exact .inl (hn c hc)) (fun c hc => by
        obtain rfl : 111 = c := by simpa [oOver] using hc
        exact .inl (by decide))
omit hn0 in
theorem lines_out : ∀ x ∈ Ip.linesA (oExport ++ 9 :: n ++ 32 :: o ++ 32 :: v), x.q = false ∧ ∀ c ∈ x.t, c.toNat < 128 := law_lines ho hv (oExport ++ 9 :: n) (by simp) (fun c hc => by
    rcases List.mem_append.1 hc with hc | hc
    · exact .inl (out_letters c hc)
    · rcases List.mem_cons.1 hc with rfl | hc
      · exact .inr (.inr rfl)
      · exact .inl (hn c hc)) (fun c hc => by
        obtain rfl : 101 = c := by simpa [oExport] using hc
        exact .inl (by decide))
end
end Go.Proofs.YtfmapdloaeppfaaDoor.Mp
