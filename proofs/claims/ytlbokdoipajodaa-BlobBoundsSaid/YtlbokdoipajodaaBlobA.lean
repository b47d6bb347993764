/-
  What the functions of layer 12 return: plain contracts.
-/
import Derived.Test.YtlbokdoipajodaaCopy
namespace Go.Proofs.Ytlbokdoipajodaa
open Go Go.RowKit
set_option linter.unusedVariables false
set_option linter.unusedSimpArgs false

/-- A number from 0 on, made of any. -/
def fromZ (n : Int) : Int := if n < 0 then -(n + 1) else n
theorem fromZ_bound (n : Int) (h0 : -9223372036854775808 ≤ n) (h1 : n ≤ 9223372036854775807) : 0 ≤ fromZ n ∧ fromZ n ≤ 9223372036854775807 := by
  unfold fromZ
  split <;> omega
theorem from_any (n : Int) (w : World) (h0 : -9223372036854775808 ≤ n) (h1 : n ≤ 9223372036854775807) :
    Calls Try.prog 45 #[.int .i64 n] w fun e w' => e = .returned (.int .i64 (fromZ n)) ∧ w = w' := by
  by_cases hn : n < 0
  · have e1 : fromZ n = -(n + 1) := by unfold fromZ; rw [if_pos hn]
    rw [e1]
    clear e1
    go_enter Try.func45, Try.ntmps45
    go_wp2
    go_ret
    exact ⟨rfl, rfl⟩
  · have e1 : fromZ n = n := by unfold fromZ; rw [if_neg hn]
    rw [e1]
    clear e1
    go_enter Try.func45, Try.ntmps45
    go_wp2
    go_ret
    exact ⟨rfl, rfl⟩

/-- Would the last of n bytes from off on not stand below 2048? -/
def big (off n : Int) : Bool := decide (0 < n ∧ 2048 < off + n)
theorem big_no {off n : Int} (h : n ≤ 0 ∨ off + n ≤ 2048) : big off n = false := by
  unfold big
  simp
  omega
theorem big_yes {off n : Int} (h0 : 0 < n) (h : 2048 < off + n) : big off n = true := by
  unfold big
  simp
  omega
theorem tooBig_no (off n : Int) (w : World) (h0 : 0 ≤ off) (h1 : off ≤ 9223372036854775807) (h2 : 0 ≤ n) (h3 : n ≤ 9223372036854775807) (h : n = 0 ∨ off + n ≤ 2048) :
    Calls Try.prog 68 #[.int .i64 off, .int .i64 n] w fun e w' => e = .returned (.bool false) ∧ w = w' := by
  by_cases hn : 0 < n
  · have h4 : off + n ≤ 2048 := by omega
    have h5 : ¬ (2048 - n < off) := by omega
    clear h
    go_enter Try.func68, Try.ntmps68
    go_wp2
    go_ret
    exact ⟨by simp, rfl⟩
  · have h4 : n = 0 := by omega
    subst h4
    go_enter Try.func68, Try.ntmps68
    go_wp2
    go_ret
    exact ⟨rfl, rfl⟩
theorem tooBig_yes (off n : Int) (w : World) (h0 : 0 ≤ off) (h1 : off ≤ 9223372036854775807) (h2 : 0 < n) (h3 : n ≤ 9223372036854775807) (h : 2048 < off + n) :
    Calls Try.prog 68 #[.int .i64 off, .int .i64 n] w fun e w' => e = .returned (.bool true) ∧ w = w' := by
  have h5 : 2048 - n < off := by omega
  go_enter Try.func68, Try.ntmps68
  go_wp2
  go_ret
  exact ⟨by simp, rfl⟩
theorem refBig_no (off n : Int) (w : World) (h0 : 0 ≤ off) (h1 : off ≤ 9223372036854775807) (h2 : 0 ≤ n) (h3 : n ≤ 9223372036854775807) (h : n = 0 ∨ off + n ≤ 2048) :
    Calls Try.prog 70 #[.int .i64 off, .int .i64 n] w fun e w' => e = .returned (.bool false) ∧ w = w' := by
  by_cases hn : 0 < n
  · have h4 : off + n ≤ 2048 := by omega
    have h5 : (n == 0) = false := by simp; omega
    have h6 : ¬ (2047 < off) := by omega
    have h7 : ¬ (2048 < n) := by omega
    have h8 : ¬ (2048 < off + n) := by omega
    clear h
    go_enter Try.func70, Try.ntmps70
    go_wp2
    go_ret
    exact ⟨by simp, rfl⟩
  · have h4 : n = 0 := by omega
    subst h4
    go_enter Try.func70, Try.ntmps70
    go_wp2
    go_ret
    exact ⟨rfl, rfl⟩
theorem refBig_yes (off n : Int) (w : World) (h0 : 0 ≤ off) (h1 : off ≤ 9223372036854775807) (h2 : 0 < n) (h3 : n ≤ 9223372036854775807) (h : 2048 < off + n) :
    Calls Try.prog 70 #[.int .i64 off, .int .i64 n] w fun e w' => e = .returned (.bool true) ∧ w = w' := by
  have h5 : (n == 0) = false := by simp; omega
  by_cases h6 : 2047 < off
  · go_enter Try.func70, Try.ntmps70
    go_wp2
    go_ret
    exact ⟨rfl, rfl⟩
  · by_cases h7 : 2048 < n
    · go_enter Try.func70, Try.ntmps70
      go_wp2
      go_ret
      exact ⟨rfl, rfl⟩
    · go_enter Try.func70, Try.ntmps70
      go_wp2
      go_ret
      exact ⟨by simp, rfl⟩

/-- Fits: 0, or an error's number. -/
def fitsZ (size off n room : Int) : Int := if 0 < n ∧ 2048 < off + n then 15 else if 0 < n ∧ room < off + n - size then 14 else 0
theorem fits_any (size off n room : Int) (w : World) (hs0 : 0 ≤ size) (hs1 : size ≤ 1000000) (h0 : 0 ≤ off) (h1 : off ≤ 9223372036854775807) (h2 : 0 ≤ n) (h3 : n ≤ 9223372036854775807) (hr0 : 0 ≤ room) (hr1 : room ≤ 9223372036854775807) :
    Calls Try.prog 51 #[.int .i64 size, .int .i64 off, .int .i64 n, .int .i64 room] w fun e w' => e = .returned (.int .i64 (fitsZ size off n room)) ∧ w = w' := by
  by_cases ha : 0 < n ∧ 2048 < off + n
  · have e1 : fitsZ size off n room = 15 := by unfold fitsZ; rw [if_pos ha]
    rw [e1]
    clear e1
    go_enter Try.func51, Try.ntmps51
    go_wp2_with fail
    refine (tooBig_yes _ _ _ h0 h1 ha.1 h3 ha.2).mono ?_
    rintro e w' ⟨rfl, rfl⟩
    go_wp2
    go_ret
    exact ⟨rfl, rfl⟩
  · by_cases hn : 0 < n
    · have hb : off + n ≤ 2048 := by omega
      by_cases hr : room < off + n - size
      · have e1 : fitsZ size off n room = 14 := by unfold fitsZ; rw [if_neg ha, if_pos ⟨hn, hr⟩]
        rw [e1]
        have hr2 : size < off + n := by omega
        clear e1 ha
        go_enter Try.func51, Try.ntmps51
        go_wp2_with fail
        refine (tooBig_no _ _ _ h0 h1 h2 h3 (by omega)).mono ?_
        rintro e w' ⟨rfl, rfl⟩
        go_wp2
        go_ret
        exact ⟨rfl, rfl⟩
      · have e1 : fitsZ size off n room = 0 := by unfold fitsZ; rw [if_neg ha, if_neg (by omega)]
        rw [e1]
        clear e1 ha
        by_cases hsz : size < off + n
        all_goals
          go_enter Try.func51, Try.ntmps51
          go_wp2_with fail
          refine (tooBig_no _ _ _ h0 h1 h2 h3 (by omega)).mono ?_
          rintro e w' ⟨rfl, rfl⟩
          go_wp2
          go_ret
          exact ⟨rfl, rfl⟩
    · have e1 : fitsZ size off n room = 0 := by unfold fitsZ; rw [if_neg ha, if_neg (by omega)]
      rw [e1]
      obtain rfl : n = 0 := by omega
      clear e1 ha
      go_enter Try.func51, Try.ntmps51
      go_wp2_with fail
      refine (tooBig_no _ _ _ h0 h1 h2 h3 (by omega)).mono ?_
      rintro e w' ⟨rfl, rfl⟩
      go_wp2
      go_ret
      exact ⟨rfl, rfl⟩
theorem refFits_any (size off n room : Int) (w : World) (hs0 : 0 ≤ size) (hs1 : size ≤ 1000000) (h0 : 0 ≤ off) (h1 : off ≤ 9223372036854775807) (h2 : 0 ≤ n) (h3 : n ≤ 9223372036854775807) (hr0 : 0 ≤ room) (hr1 : room ≤ 9223372036854775807) :
    Calls Try.prog 54 #[.int .i64 size, .int .i64 off, .int .i64 n, .int .i64 room] w fun e w' => e = .returned (.int .i64 (fitsZ size off n room)) ∧ w = w' := by
  by_cases ha : 0 < n ∧ 2048 < off + n
  · have e1 : fitsZ size off n room = 15 := by unfold fitsZ; rw [if_pos ha]
    rw [e1]
    clear e1
    go_enter Try.func54, Try.ntmps54
    go_wp2_with fail
    refine (refBig_yes _ _ _ h0 h1 ha.1 h3 ha.2).mono ?_
    rintro e w' ⟨rfl, rfl⟩
    go_wp2
    go_ret
    exact ⟨rfl, rfl⟩
  · by_cases hn : 0 < n
    · have hb : off + n ≤ 2048 := by omega
      by_cases hr : room < off + n - size
      · have e1 : fitsZ size off n room = 14 := by unfold fitsZ; rw [if_neg ha, if_pos ⟨hn, hr⟩]
        rw [e1]
        have hr2 : size < off + n := by omega
        clear e1 ha
        go_enter Try.func54, Try.ntmps54
        go_wp2_with fail
        refine (refBig_no _ _ _ h0 h1 h2 h3 (by omega)).mono ?_
        rintro e w' ⟨rfl, rfl⟩
        go_wp2
        go_ret
        exact ⟨rfl, rfl⟩
      · have e1 : fitsZ size off n room = 0 := by unfold fitsZ; rw [if_neg ha, if_neg (by omega)]
        rw [e1]
        clear e1 ha
        by_cases hsz : size < off + n
        all_goals
          go_enter Try.func54, Try.ntmps54
          go_wp2_with fail
          refine (refBig_no _ _ _ h0 h1 h2 h3 (by omega)).mono ?_
          rintro e w' ⟨rfl, rfl⟩
          go_wp2
          go_ret
          exact ⟨rfl, rfl⟩
    · have e1 : fitsZ size off n room = 0 := by unfold fitsZ; rw [if_neg ha, if_neg (by omega)]
      rw [e1]
      obtain rfl : n = 0 := by omega
      clear e1 ha
      go_enter Try.func54, Try.ntmps54
      go_wp2_with fail
      refine (refBig_no _ _ _ h0 h1 h2 h3 (by omega)).mono ?_
      rintro e w' ⟨rfl, rfl⟩
      go_wp2
      go_ret
      exact ⟨rfl, rfl⟩
