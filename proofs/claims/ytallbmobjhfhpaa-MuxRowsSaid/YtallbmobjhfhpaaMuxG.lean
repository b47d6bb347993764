/-
  Layer 7: two rows of numbers, compared.
-/
import Derived.Test.YtallbmobjhfhpaaMuxF
namespace Go.Proofs.Ytallbmobjhfhpaa
open Go Go.RowKit
set_option linter.unusedVariables false
set_option linter.unusedSimpArgs false
set_option maxRecDepth 20000 in
set_option maxHeartbeats 1000000 in
theorem msame_any (g1 g2 n c1 c2 : Nat) (h1 : n ≤ c1) (h2 : n ≤ c2) (hn : n ≤ 1000) (X : Nat → Int) (w : World) (r1 : RowU w g1 n X) (r2 : RowU w g2 n X) :
    Calls Try.prog 19 #[.slice (some ⟨g1, 0, none⟩) n c1, .slice (some ⟨g2, 0, none⟩) n c2] w fun e w' => e = .returned (.bool true) ∧ Ext w w' := by
  have R1 := Lib.hid r1
  have R2 := Lib.hid r2
  clear r1 r2
  go_enter Try.func19, Try.ntmps19
  go_wp2_with fail
  go_loopw [5] (fun i wr => ∃ q : Nat, q ≤ n ∧ i = .int .i64 (q : Int) ∧ Ext w wr) (fun i _ => n - (intOf i).toNat)
  case atStart => exact ⟨0, by omega, rfl, Ext.refl _⟩
  case round =>
    obtain ⟨q, hq, rfl, ext⟩ := hrel
    have EX := Lib.hid ext
    clear ext
    by_cases hqn : q < n
    · have x1 := (R1.out.ext EX.out).cell q hqn
      have x2 := (R2.out.ext EX.out).cell q hqn
      go_wp2
      try go_quiet (fail)
      go_wp2
      go_roundw
      case rel => exact ⟨q + 1, by omega, by go_num, by first | exact EX.out | exact EX.out.drewN _⟩
      case measure => simp [intOf]; omega
    · obtain rfl : q = n := by omega
      go_wp2
      go_ret
      exact ⟨rfl, EX.out⟩
end Go.Proofs.Ytallbmobjhfhpaa
