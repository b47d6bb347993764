/-
  The document's Short: a text's beginning.
-/
import Derived.Test.YtihiclnbbpablaaCom00
namespace Go.Proofs.Ytihiclnbbpablaa
open Go Go.RowKit
set_option linter.unusedVariables false
set_option linter.unusedSimpArgs false
theorem short_any (l : List UInt8) (k : Nat) (K : Int) (hK : K = (k : Int)) (w : World) (hl : l.length ≤ 9223372036854775807) :
    Calls Try.prog 26 #[.string ⟨l.toArray⟩, .int .i64 K] w fun e w' => e = .returned (.string ⟨(l.take k).toArray⟩) ∧ w = w' := by
  subst hK
  by_cases h : k < l.length
  · have h2 : (k : Int) < (l.length : Int) := by omega
    have hx : (ByteArray.mk l.toArray).extract 0 k = ⟨(l.take k).toArray⟩ := by
      apply ByteArray.ext
      simp
    have h3 : k ≤ l.length := by omega
    go_enter Try.func26, Try.ntmps26
    go_wp2
    go_ret
    exact ⟨rfl, rfl⟩
  · have h2 : ¬ (k : Int) < (l.length : Int) := by omega
    have hx : l.take k = l := List.take_of_length_le (by omega)
    rw [hx]
    clear hx
    go_enter Try.func26, Try.ntmps26
    go_wp2
    go_ret
    exact ⟨rfl, rfl⟩
end Go.Proofs.Ytihiclnbbpablaa
