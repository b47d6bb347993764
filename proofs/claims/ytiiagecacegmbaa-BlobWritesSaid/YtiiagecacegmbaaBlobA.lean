/-
  What the functions of layer 12 return: plain contracts.
-/
import Derived.Test.YtiiagecacegmbaaCopy
namespace Go.Proofs.Ytiiagecacegmbaa
open Go Go.RowKit
set_option linter.unusedVariables false
set_option linter.unusedSimpArgs false

/-- A number from 0 on, made of any. -/
def fromZ (n : Int) : Int := if n < 0 then -(n + 1) else n
theorem fromZ_bound (n : Int) (h0 : -9223372036854775808 ≤ n) (h1 : n ≤ 9223372036854775807) : 0 ≤ fromZ n ∧ fromZ n ≤ 9223372036854775807 := by
  unfold fromZ
  split <;> omega
theorem from_any (n : Int) (w : World) (h0 : -9223372036854775808 ≤ n) (h1 : n ≤ 9223372036854775807) :
    Calls Try.prog 38 #[.int .i64 n] w fun e w' => e = .returned (.int .i64 (fromZ n)) ∧ w = w' := by
  by_cases hn : n < 0
  · have e1 : fromZ n = -(n + 1) := by unfold fromZ; rw [if_pos hn]
    rw [e1]
    clear e1
    go_enter Try.func38, Try.ntmps38
    go_wp2
    go_ret
    exact ⟨rfl, rfl⟩
  · have e1 : fromZ n = n := by unfold fromZ; rw [if_neg hn]
    rw [e1]
    clear e1
    go_enter Try.func38, Try.ntmps38
    go_wp2
    go_ret
    exact ⟨rfl, rfl⟩

/-- Would the last of n bytes from off on not stand below 2048? -/
def big (off n : Int) : Bool := decide (0 < n ∧ 2048 < off + n)
theorem big_no {off n : Int} (h : n ≤ 0 ∨ off + n ≤ 2048) : big off n = false := by
  unfold big
  simp
  omega
theorem big_yes {off n : Int} (h0 : 0 < n) (h : 2048 < off + n) : big off n = true := by
  unfold big
  simp
  omega
theorem tooBig_no (off n : Int) (w : World) (h0 : 0 ≤ off) (h1 : off ≤ 9223372036854775807) (h2 : 0 ≤ n) (h3 : n ≤ 9223372036854775807) (h : n = 0 ∨ off + n ≤ 2048) :
    Calls Try.prog 61 #[.int .i64 off, .int .i64 n] w fun e w' => e = .returned (.bool false) ∧ w = w' := by
  by_cases hn : 0 < n
  · have h4 : off + n ≤ 2048 := by omega
    have h5 : ¬ (2048 - n < off) := by omega
    clear h
    go_enter Try.func61, Try.ntmps61
    go_wp2
    go_ret
    exact ⟨by simp, rfl⟩
  · have h4 : n = 0 := by omega
    subst h4
    go_enter Try.func61, Try.ntmps61
    go_wp2
    go_ret
    exact ⟨rfl, rfl⟩
theorem tooBig_yes (off n : Int) (w : World) (h0 : 0 ≤ off) (h1 : off ≤ 9223372036854775807) (h2 : 0 < n) (h3 : n ≤ 9223372036854775807) (h : 2048 < off + n) :
    Calls Try.prog 61 #[.int .i64 off, .int .i64 n] w fun e w' => e = .returned (.bool true) ∧ w = w' := by
  have h5 : 2048 - n < off := by omega
  go_enter Try.func61, Try.ntmps61
  go_wp2
  go_ret
  exact ⟨by simp, rfl⟩
theorem refBig_no (off n : Int) (w : World) (h0 : 0 ≤ off) (h1 : off ≤ 9223372036854775807) (h2 : 0 ≤ n) (h3 : n ≤ 9223372036854775807) (h : n = 0 ∨ off + n ≤ 2048) :
    Calls Try.prog 63 #[.int .i64 off, .int .i64 n] w fun e w' => e = .returned (.bool false) ∧ w = w' := by
  by_cases hn : 0 < n
  · have h4 : off + n ≤ 2048 := by omega
    have h5 : (n == 0) = false := by simp; omega
    have h6 : ¬ (2047 < off) := by omega
    have h7 : ¬ (2048 < n) := by omega
    have h8 : ¬ (2048 < off + n) := by omega
    clear h
    go_enter Try.func63, Try.ntmps63
    go_wp2
    go_ret
    exact ⟨by simp, rfl⟩
  · have h4 : n = 0 := by omega
    subst h4
    go_enter Try.func63, Try.ntmps63
    go_wp2
    go_ret
    exact ⟨rfl, rfl⟩
theorem refBig_yes (off n : Int) (w : World) (h0 : 0 ≤ off) (h1 : off ≤ 9223372036854775807) (h2 : 0 < n) (h3 : n ≤ 9223372036854775807) (h : 2048 < off + n) :
    Calls Try.prog 63 #[.int .i64 off, .int .i64 n] w fun e w' => e = .returned (.bool true) ∧ w = w' := by
  have h5 : (n == 0) = false := by simp; omega
  by_cases h6 : 2047 < off
  · go_enter Try.func63, Try.ntmps63
    go_wp2
    go_ret
    exact ⟨rfl, rfl⟩
  · by_cases h7 : 2048 < n
    · go_enter Try.func63, Try.ntmps63
      go_wp2
      go_ret
      exact ⟨rfl, rfl⟩
    · go_enter Try.func63, Try.ntmps63
      go_wp2
      go_ret
      exact ⟨by simp, rfl⟩
end Go.Proofs.Ytiiagecacegmbaa
