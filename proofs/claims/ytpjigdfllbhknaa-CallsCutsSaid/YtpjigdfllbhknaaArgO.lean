/-
  Layer 14: what came in, opened.
-/
import Derived.Test.YtpjigdfllbhknaaCalQ
import Derived.Test.YtpjigdfllbhknaaIsArgs
namespace Go.Proofs.Ytpjigdfllbhknaa
open Go Go.RowKit
set_option linter.unusedVariables false
set_option linter.unusedSimpArgs false
theorem len_max0 {z : ByteArray} (h : z.size ≤ maxLen) : z.data.toList.length ≤ 9223372036854775807 := by
  have e : z.data.toList.length = z.size := Array.length_toList
  rw [e]
  exact Nat.le_trans h (by unfold maxLen; omega)
theorem args_open0 {w : World} {v : Value} (h : Is_args w v) : ∃ (a : AR) (l : List UInt8), v = .agg a.cs ∧ a.rng ∧ Sees w a.dA a.dn a.dk (bs l) := by
  obtain ⟨cs, rfl, z0, z1, z2, z3, z4, z5, z6, z7, z8, z9, z10, A, n, c, l, rfl, h0, h1, h2, h3, h4, h5, h6, h7, h8, h9, h10, hs⟩ := h
  refine ⟨⟨z0, z1, z2, z3, z4, z5, z6, z7, z8, z9.data.toList, z10.data.toList, A, n, c⟩, l, by simp [AR.cs], ?_, hs⟩
  exact ⟨bounds_i64 h0, bounds_i64 h1, bounds_i64 h2, bounds_i64 h3, bounds_i64 h4, bounds_i64 h5, bounds_i64 h6, bounds_i64 h7, bounds_i64 h8, len_max0 h9, len_max0 h10⟩
end Go.Proofs.Ytpjigdfllbhknaa
