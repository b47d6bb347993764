/-
  Layer 19: which modes are of opening, on both sides; plain contracts.
-/
import Derived.Test.YtfajnfaipgajdaaStatA
namespace Go.Proofs.Ytfajnfaipgajdaa
open Go Go.RowKit
set_option linter.unusedVariables false
set_option linter.unusedSimpArgs false

/-- The mode without the bit that cuts. -/
def wayZ (m : Int) : Int := bits .andNot .i64 m 16
theorem and16 (m : Nat) : m &&& 16 = 0 ∨ m &&& 16 = 16 := by
  have h : m &&& 16 = m % 32 &&& 16 := by
    rw [show m % 32 = m &&& 31 from (Nat.and_two_pow_sub_one_eq_mod m 5).symm, Nat.and_assoc]
    rfl
  have hd : ∀ r, r < 32 → r &&& 16 = 0 ∨ r &&& 16 = 16 := by decide
  rw [h]
  exact hd _ (Nat.mod_lt _ (by decide))
theorem wayZ_back (m : Int) (h0 : -9223372036854775808 ≤ m) (h1 : m ≤ 9223372036854775807) (hw0 : 0 ≤ wayZ m) (hw1 : wayZ m ≤ 2) : m = 0 ∨ m = 1 ∨ m = 2 ∨ m = 16 ∨ m = 17 ∨ m = 18 := by
  have hbv : ∃ x : Nat, x < 18446744073709551616 ∧ (BitVec.ofInt 64 m).toNat = x ∧ m % 18446744073709551616 = x := by
    refine ⟨(BitVec.ofInt 64 m).toNat, (BitVec.ofInt 64 m).isLt, rfl, ?_⟩
    rw [BitVec.toNat_ofInt]
    omega
  obtain ⟨x, hx, hxb, hxm⟩ := hbv
  have hc : (~~~BitVec.ofInt 64 16).toNat = 18446744073709551599 := by decide
  have hW : wayZ m = IntKind.i64.wrap ((x &&& 18446744073709551599 : Nat) : Int) := by
    show IntKind.i64.wrap ((BitVec.ofInt 64 m &&& ~~~BitVec.ofInt 64 16).toNat : Nat) = _
    rw [BitVec.toNat_and, hc, hxb]
  have hy : x &&& 18446744073709551599 < 2 ^ 64 := Nat.and_lt_two_pow _ (by decide)
  have hor : x = (x &&& 18446744073709551599) ||| (x &&& 16) := by
    rw [← Nat.and_or_distrib_left]
    have : (18446744073709551599 ||| 16 : Nat) = 2 ^ 64 - 1 := by decide
    rw [this, Nat.and_two_pow_sub_one_eq_mod]
    omega
  generalize hyy : x &&& 18446744073709551599 = y at *
  rw [hW, IntKind.wrap_i64] at hw0 hw1
  have hy2 : y = 0 ∨ y = 1 ∨ y = 2 := by omega
  rcases and16 x with h16 | h16 <;> rw [h16] at hor <;> rcases hy2 with e | e | e <;> rw [e] at hor <;> simp at hor <;> omega

def okM (m : Int) : Bool := m == 0 || m == 1 || m == 2 || m == 16 || m == 17 || m == 18
def rdM (m : Int) : Bool := m == 0 || m == 2 || m == 16 || m == 18
def wrM (m : Int) : Bool := m == 1 || m == 2 || m == 17 || m == 18
def ctM (m : Int) : Bool := m == 16 || m == 17 || m == 18
theorem notM {m : Int} (h : okM m = false) : ¬ m = 0 ∧ ¬ m = 1 ∧ ¬ m = 2 ∧ ¬ m = 16 ∧ ¬ m = 17 ∧ ¬ m = 18 := by
  simp [okM] at h
  omega
theorem isM {m : Int} (h : okM m = true) : m = 0 ∨ m = 1 ∨ m = 2 ∨ m = 16 ∨ m = 17 ∨ m = 18 := by
  simp [okM] at h
  omega
theorem way_0 (w : World) : Calls Try.prog 36 #[.int .i64 0] w fun e w' => e = .returned (.tuple #[.int .i64 0, .bool true]) ∧ w = w' := by
  have ha : bits .andNot .i64 0 16 = 0 := by decide
  go_enter Try.func36, Try.ntmps36
  go_wp2
  go_ret2
  exact ⟨rfl, rfl⟩
theorem way_1 (w : World) : Calls Try.prog 36 #[.int .i64 1] w fun e w' => e = .returned (.tuple #[.int .i64 1, .bool true]) ∧ w = w' := by
  have ha : bits .andNot .i64 1 16 = 1 := by decide
  go_enter Try.func36, Try.ntmps36
  go_wp2
  go_ret2
  exact ⟨rfl, rfl⟩
theorem way_2 (w : World) : Calls Try.prog 36 #[.int .i64 2] w fun e w' => e = .returned (.tuple #[.int .i64 2, .bool true]) ∧ w = w' := by
  have ha : bits .andNot .i64 2 16 = 2 := by decide
  go_enter Try.func36, Try.ntmps36
  go_wp2
  go_ret2
  exact ⟨rfl, rfl⟩
theorem way_16 (w : World) : Calls Try.prog 36 #[.int .i64 16] w fun e w' => e = .returned (.tuple #[.int .i64 0, .bool true]) ∧ w = w' := by
  have ha : bits .andNot .i64 16 16 = 0 := by decide
  go_enter Try.func36, Try.ntmps36
  go_wp2
  go_ret2
  exact ⟨rfl, rfl⟩
theorem way_17 (w : World) : Calls Try.prog 36 #[.int .i64 17] w fun e w' => e = .returned (.tuple #[.int .i64 1, .bool true]) ∧ w = w' := by
  have ha : bits .andNot .i64 17 16 = 1 := by decide
  go_enter Try.func36, Try.ntmps36
  go_wp2
  go_ret2
  exact ⟨rfl, rfl⟩
theorem way_18 (w : World) : Calls Try.prog 36 #[.int .i64 18] w fun e w' => e = .returned (.tuple #[.int .i64 2, .bool true]) ∧ w = w' := by
  have ha : bits .andNot .i64 18 16 = 2 := by decide
  go_enter Try.func36, Try.ntmps36
  go_wp2
  go_ret2
  exact ⟨rfl, rfl⟩

theorem way_no (m : Int) (w : World) (h0 : -9223372036854775808 ≤ m) (h1 : m ≤ 9223372036854775807) (h : okM m = false) :
    Calls Try.prog 36 #[.int .i64 m] w fun e w' => e = .returned (.tuple #[.int .i64 (wayZ m), .bool false]) ∧ w = w' := by
  have hn := notM h
  have hb := wayZ_back m h0 h1
  have hww : bits .andNot .i64 m 16 = wayZ m := rfl
  have HQ := Lib.hid hb
  have HN := Lib.hid hn
  clear hb hn h
  by_cases hw : 0 ≤ wayZ m
  · have hw2 : ¬ wayZ m ≤ 2 := fun h => by
      have := HQ.out hw h
      have := HN.out
      omega
    generalize wayZ m = v at *
    go_enter Try.func36, Try.ntmps36
    go_wp2
    go_ret2
    exact ⟨rfl, rfl⟩
  · generalize wayZ m = v at *
    go_enter Try.func36, Try.ntmps36
    go_wp2
    go_ret2
    exact ⟨rfl, rfl⟩
theorem reads_any (m : Int) (w : World) (h0 : -9223372036854775808 ≤ m) (h1 : m ≤ 9223372036854775807) :
    Calls Try.prog 11 #[.int .i64 m] w fun e w' => e = .returned (.bool (rdM m)) ∧ w = w' := by
  cases hk : okM m with
  | true =>
    rcases isM hk with rfl | rfl | rfl | rfl | rfl | rfl
    · go_enter Try.func11, Try.ntmps11
      go_wp2_with fail
      refine (way_0 w).mono ?_
      rintro e w1 ⟨rfl, rfl⟩
      go_wp2
      go_ret
      exact ⟨rfl, rfl⟩
    · go_enter Try.func11, Try.ntmps11
      go_wp2_with fail
      refine (way_1 w).mono ?_
      rintro e w1 ⟨rfl, rfl⟩
      go_wp2
      go_ret
      exact ⟨rfl, rfl⟩
    · go_enter Try.func11, Try.ntmps11
      go_wp2_with fail
      refine (way_2 w).mono ?_
      rintro e w1 ⟨rfl, rfl⟩
      go_wp2
      go_ret
      exact ⟨rfl, rfl⟩
    · go_enter Try.func11, Try.ntmps11
      go_wp2_with fail
      refine (way_16 w).mono ?_
      rintro e w1 ⟨rfl, rfl⟩
      go_wp2
      go_ret
      exact ⟨rfl, rfl⟩
    · go_enter Try.func11, Try.ntmps11
      go_wp2_with fail
      refine (way_17 w).mono ?_
      rintro e w1 ⟨rfl, rfl⟩
      go_wp2
      go_ret
      exact ⟨rfl, rfl⟩
    · go_enter Try.func11, Try.ntmps11
      go_wp2_with fail
      refine (way_18 w).mono ?_
      rintro e w1 ⟨rfl, rfl⟩
      go_wp2
      go_ret
      exact ⟨rfl, rfl⟩
  | false =>
    have hs : rdM m = false := by
      have := notM hk
      unfold rdM
      simp
      omega
    rw [hs]
    have H := Lib.hid (fun w => way_no m w h0 h1 hk)
    clear hk hs
    go_enter Try.func11, Try.ntmps11
    go_wp2_with fail
    refine (Calls.mono (H.out _) ?_)
    rintro e w1 ⟨rfl, rfl⟩
    go_wp2
    go_ret
    exact ⟨rfl, rfl⟩
theorem rreads_any (m : Int) (w : World) (h0 : -9223372036854775808 ≤ m) (h1 : m ≤ 9223372036854775807) :
    Calls Try.prog 12 #[.int .i64 m] w fun e w' => e = .returned (.bool (rdM m)) ∧ w = w' := by
  cases hk : okM m with
  | true =>
    rcases isM hk with rfl | rfl | rfl | rfl | rfl | rfl
    all_goals
      go_enter Try.func12, Try.ntmps12
      go_wp2
      go_ret
      exact ⟨rfl, rfl⟩
  | false =>
    have hs : rdM m = false := by
      have := notM hk
      unfold rdM
      simp
      omega
    rw [hs]
    obtain ⟨q0, q1, q2, q3, q4, q5⟩ := notM hk
    have e0 : (m == 0) = false := by simpa using q0
    have e1 : (m == 1) = false := by simpa using q1
    have e2 : (m == 2) = false := by simpa using q2
    have e3 : (m == 16) = false := by simpa using q3
    have e4 : (m == 17) = false := by simpa using q4
    have e5 : (m == 18) = false := by simpa using q5
    clear hk hs q0 q1 q2 q3 q4 q5
    go_enter Try.func12, Try.ntmps12
    go_wp2
    go_ret
    exact ⟨rfl, rfl⟩
theorem writes_any (m : Int) (w : World) (h0 : -9223372036854775808 ≤ m) (h1 : m ≤ 9223372036854775807) :
    Calls Try.prog 13 #[.int .i64 m] w fun e w' => e = .returned (.bool (wrM m)) ∧ w = w' := by
  cases hk : okM m with
  | true =>
    rcases isM hk with rfl | rfl | rfl | rfl | rfl | rfl
    · go_enter Try.func13, Try.ntmps13
      go_wp2_with fail
      refine (way_0 w).mono ?_
      rintro e w1 ⟨rfl, rfl⟩
      go_wp2
      go_ret
      exact ⟨rfl, rfl⟩
    · go_enter Try.func13, Try.ntmps13
      go_wp2_with fail
      refine (way_1 w).mono ?_
      rintro e w1 ⟨rfl, rfl⟩
      go_wp2
      go_ret
      exact ⟨rfl, rfl⟩
    · go_enter Try.func13, Try.ntmps13
      go_wp2_with fail
      refine (way_2 w).mono ?_
      rintro e w1 ⟨rfl, rfl⟩
      go_wp2
      go_ret
      exact ⟨rfl, rfl⟩
    · go_enter Try.func13, Try.ntmps13
      go_wp2_with fail
      refine (way_16 w).mono ?_
      rintro e w1 ⟨rfl, rfl⟩
      go_wp2
      go_ret
      exact ⟨rfl, rfl⟩
    · go_enter Try.func13, Try.ntmps13
      go_wp2_with fail
      refine (way_17 w).mono ?_
      rintro e w1 ⟨rfl, rfl⟩
      go_wp2
      go_ret
      exact ⟨rfl, rfl⟩
    · go_enter Try.func13, Try.ntmps13
      go_wp2_with fail
      refine (way_18 w).mono ?_
      rintro e w1 ⟨rfl, rfl⟩
      go_wp2
      go_ret
      exact ⟨rfl, rfl⟩
  | false =>
    have hs : wrM m = false := by
      have := notM hk
      unfold wrM
      simp
      omega
    rw [hs]
    have H := Lib.hid (fun w => way_no m w h0 h1 hk)
    clear hk hs
    go_enter Try.func13, Try.ntmps13
    go_wp2_with fail
    refine (Calls.mono (H.out _) ?_)
    rintro e w1 ⟨rfl, rfl⟩
    go_wp2
    go_ret
    exact ⟨rfl, rfl⟩
theorem rwrites_any (m : Int) (w : World) (h0 : -9223372036854775808 ≤ m) (h1 : m ≤ 9223372036854775807) :
    Calls Try.prog 14 #[.int .i64 m] w fun e w' => e = .returned (.bool (wrM m)) ∧ w = w' := by
  cases hk : okM m with
  | true =>
    rcases isM hk with rfl | rfl | rfl | rfl | rfl | rfl
    all_goals
      go_enter Try.func14, Try.ntmps14
      go_wp2
      go_ret
      exact ⟨rfl, rfl⟩
  | false =>
    have hs : wrM m = false := by
      have := notM hk
      unfold wrM
      simp
      omega
    rw [hs]
    obtain ⟨q0, q1, q2, q3, q4, q5⟩ := notM hk
    have e0 : (m == 0) = false := by simpa using q0
    have e1 : (m == 1) = false := by simpa using q1
    have e2 : (m == 2) = false := by simpa using q2
    have e3 : (m == 16) = false := by simpa using q3
    have e4 : (m == 17) = false := by simpa using q4
    have e5 : (m == 18) = false := by simpa using q5
    clear hk hs q0 q1 q2 q3 q4 q5
    go_enter Try.func14, Try.ntmps14
    go_wp2
    go_ret
    exact ⟨rfl, rfl⟩
theorem cuts_any (m : Int) (w : World) (h0 : -9223372036854775808 ≤ m) (h1 : m ≤ 9223372036854775807) :
    Calls Try.prog 15 #[.int .i64 m] w fun e w' => e = .returned (.bool (ctM m)) ∧ w = w' := by
  cases hk : okM m with
  | true =>
    rcases isM hk with rfl | rfl | rfl | rfl | rfl | rfl
    · go_enter Try.func15, Try.ntmps15
      go_wp2_with fail
      refine (way_0 w).mono ?_
      rintro e w1 ⟨rfl, rfl⟩
      go_wp2
      go_ret
      exact ⟨rfl, rfl⟩
    · go_enter Try.func15, Try.ntmps15
      go_wp2_with fail
      refine (way_1 w).mono ?_
      rintro e w1 ⟨rfl, rfl⟩
      go_wp2
      go_ret
      exact ⟨rfl, rfl⟩
    · go_enter Try.func15, Try.ntmps15
      go_wp2_with fail
      refine (way_2 w).mono ?_
      rintro e w1 ⟨rfl, rfl⟩
      go_wp2
      go_ret
      exact ⟨rfl, rfl⟩
    · go_enter Try.func15, Try.ntmps15
      go_wp2_with fail
      refine (way_16 w).mono ?_
      rintro e w1 ⟨rfl, rfl⟩
      go_wp2
      go_ret
      exact ⟨rfl, rfl⟩
    · go_enter Try.func15, Try.ntmps15
      go_wp2_with fail
      refine (way_17 w).mono ?_
      rintro e w1 ⟨rfl, rfl⟩
      go_wp2
      go_ret
      exact ⟨rfl, rfl⟩
    · go_enter Try.func15, Try.ntmps15
      go_wp2_with fail
      refine (way_18 w).mono ?_
      rintro e w1 ⟨rfl, rfl⟩
      go_wp2
      go_ret
      exact ⟨rfl, rfl⟩
  | false =>
    have hs : ctM m = false := by
      have := notM hk
      unfold ctM
      simp
      omega
    rw [hs]
    have H := Lib.hid (fun w => way_no m w h0 h1 hk)
    clear hk hs
    go_enter Try.func15, Try.ntmps15
    go_wp2_with fail
    refine (Calls.mono (H.out _) ?_)
    rintro e w1 ⟨rfl, rfl⟩
    go_wp2
    go_ret
    exact ⟨rfl, rfl⟩
theorem rcuts_any (m : Int) (w : World) (h0 : -9223372036854775808 ≤ m) (h1 : m ≤ 9223372036854775807) :
    Calls Try.prog 16 #[.int .i64 m] w fun e w' => e = .returned (.bool (ctM m)) ∧ w = w' := by
  cases hk : okM m with
  | true =>
    rcases isM hk with rfl | rfl | rfl | rfl | rfl | rfl
    all_goals
      go_enter Try.func16, Try.ntmps16
      go_wp2
      go_ret
      exact ⟨rfl, rfl⟩
  | false =>
    have hs : ctM m = false := by
      have := notM hk
      unfold ctM
      simp
      omega
    rw [hs]
    obtain ⟨q0, q1, q2, q3, q4, q5⟩ := notM hk
    have e0 : (m == 0) = false := by simpa using q0
    have e1 : (m == 1) = false := by simpa using q1
    have e2 : (m == 2) = false := by simpa using q2
    have e3 : (m == 16) = false := by simpa using q3
    have e4 : (m == 17) = false := by simpa using q4
    have e5 : (m == 18) = false := by simpa using q5
    clear hk hs q0 q1 q2 q3 q4 q5
    go_enter Try.func16, Try.ntmps16
    go_wp2
    go_ret
    exact ⟨rfl, rfl⟩
theorem rmode_any (m : Int) (w : World) (h0 : -9223372036854775808 ≤ m) (h1 : m ≤ 9223372036854775807) :
    Calls Try.prog 35 #[.int .i64 m] w fun e w' => e = .returned (.bool (okM m)) ∧ w = w' := by
  cases hk : okM m with
  | true =>
    rcases isM hk with rfl | rfl | rfl | rfl | rfl | rfl
    all_goals
      go_enter Try.func35, Try.ntmps35
      go_wp2
      go_ret
      exact ⟨rfl, rfl⟩
  | false =>
    have hs : okM m = false := hk
    obtain ⟨q0, q1, q2, q3, q4, q5⟩ := notM hk
    have e0 : (m == 0) = false := by simpa using q0
    have e1 : (m == 1) = false := by simpa using q1
    have e2 : (m == 2) = false := by simpa using q2
    have e3 : (m == 16) = false := by simpa using q3
    have e4 : (m == 17) = false := by simpa using q4
    have e5 : (m == 18) = false := by simpa using q5
    clear hk hs q0 q1 q2 q3 q4 q5
    go_enter Try.func35, Try.ntmps35
    go_wp2
    go_ret
    exact ⟨rfl, rfl⟩

end Go.Proofs.Ytfajnfaipgajdaa
