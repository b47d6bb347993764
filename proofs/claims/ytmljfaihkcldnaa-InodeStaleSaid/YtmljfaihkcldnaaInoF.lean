/-
  Layer 10: a table of ints that is being filled.
-/
import Derived.Test.YtmljfaihkcldnaaInoI
import Derived.Test.YtmljfaihkcldnaaInoL
namespace Go.Proofs.Ytmljfaihkcldnaa
open Go Go.RowKit
set_option linter.unusedVariables false
set_option linter.unusedSimpArgs false
/-- The first j places have something, from c on. -/
def Filled (c : Int) (j : Nat) (TH : Nat → Value) (FU : Nat → Bool) (GE : Nat → Int) : Prop :=
  (∀ x : Nat, x < j → TH x = .int .i64 (c + x) ∧ FU x = true ∧ GE x = 1) ∧ ∀ x : Nat, j ≤ x → FU x = false ∧ GE x = 0
theorem Filled.start (c : Int) : Filled c 0 (fun _ => .int .i64 0) (fun _ => false) (fun _ => 0) := ⟨fun x h => absurd h (by omega), fun x _ => ⟨rfl, rfl⟩⟩
theorem Filled.next {c : Int} {j : Nat} {TH : Nat → Value} {FU : Nat → Bool} {GE : Nat → Int} (h : Filled c j TH FU GE) : Filled c (j + 1) (upd TH j (.int .i64 (c + j))) (upd FU j true) (upd GE j (GE j + 1)) := by
  refine ⟨fun x hx => ?_, fun x hx => ?_⟩
  · unfold upd
    by_cases hxj : x = j
    · subst hxj
      simp [(h.2 x (Nat.le_refl _)).2]
    · have := h.1 x (by omega)
      simp [hxj, this]
  · unfold upd
    have := h.2 x (by omega)
    simp [show ¬ x = j by omega, this]
end Go.Proofs.Ytmljfaihkcldnaa
