/-
  Layer 19: modes and permissions; plain contracts; the example is met.
-/
import Derived.Test.YtfajnfaipgajdaaLitS
import Derived.Test.YtfajnfaipgajdaaOrd
import Derived.Laws.Bits128
namespace Go.Proofs.Ytfajnfaipgajdaa
open Go Go.RowKit
set_option linter.unusedVariables false
set_option linter.unusedSimpArgs false

theorem i64_and511 (n : Int) : bits .and .i64 n 511 = n % 512 := by
  have h511 : (BitVec.ofInt 64 511).toNat = 2 ^ 9 - 1 := by decide
  have key : (BitVec.ofInt 64 n &&& BitVec.ofInt 64 511).toNat = (n % ((2 ^ 64 : Nat) : Int)).toNat % 2 ^ 9 := by
    rw [BitVec.toNat_and, BitVec.toNat_ofInt, h511, Nat.and_two_pow_sub_one_eq_mod]
  show IntKind.i64.wrap ((BitVec.ofInt 64 n &&& BitVec.ofInt 64 511).toNat : Nat) = n % 512
  rw [key, IntKind.wrap_i64]
  omega

theorem perm_1 (p : Int) (w : World) (h0 : 0 ≤ p) (h1 : p < 512) : Calls Try.prog 18 #[.int .i64 p] w fun e w' => e = .returned (.tuple #[.int .i64 p, .bool false, .int .i64 0]) ∧ w = w' := by
  have ha : bits .and .i64 p 511 = p := by rw [i64_and511]; omega
  have hs : (p - p == 0) = true := by simp
  go_enter Try.func18, Try.ntmps18
  go_wp2
  go_ret3
  exact ⟨rfl, rfl⟩
theorem perm_2 (q : Int) (w : World) (h0 : 0 ≤ q) (h1 : q < 512) : Calls Try.prog 18 #[.int .i64 (2147483648 + q)] w fun e w' => e = .returned (.tuple #[.int .i64 q, .bool true, .int .i64 0]) ∧ w = w' := by
  have ha : bits .and .i64 (2147483648 + q) 511 = q := by rw [i64_and511]; omega
  have hd : (2147483648 + q - q) = 2147483648 := by omega
  go_enter Try.func18, Try.ntmps18
  go_wp2
  go_ret3
  exact ⟨rfl, rfl⟩
theorem perm_3 (p : Int) (w : World) (h0 : -9223372036854775808 ≤ p) (h1 : p ≤ 9223372036854775807) (hn : ¬ (0 ≤ p ∧ p < 512)) (hm : ¬ (2147483648 ≤ p ∧ p < 2147484160)) :
    Calls Try.prog 18 #[.int .i64 p] w fun e w' => e = .returned (.tuple #[.int .i64 0, .bool false, .int .i64 19]) ∧ w = w' := by
  have ha : bits .and .i64 p 511 = p % 512 := i64_and511 p
  have hr0 : 0 ≤ p % 512 := by omega
  have hr1 : p % 512 < 512 := by omega
  have hs0 : (p - p % 512 == 0) = false := by
    have : ¬ p - p % 512 = 0 := by omega
    simpa using this
  have hs1 : (p - p % 512 == 2147483648) = false := by
    have : ¬ p - p % 512 = 2147483648 := by omega
    simpa using this
  have hl0 : -9223372036854775808 ≤ p - p % 512 := by omega
  have hl1 : p - p % 512 ≤ 9223372036854775807 := by omega
  clear hn hm
  generalize p % 512 = r at *
  go_enter Try.func18, Try.ntmps18
  go_wp2
  go_ret3
  exact ⟨rfl, rfl⟩
theorem rperm_1 (p : Int) (w : World) (h0 : 0 ≤ p) (h1 : p < 512) : Calls Try.prog 19 #[.int .i64 p] w fun e w' => e = .returned (.tuple #[.int .i64 p, .bool false, .bool true]) ∧ w = w' := by
  go_enter Try.func19, Try.ntmps19
  go_wp2
  go_ret3
  exact ⟨rfl, rfl⟩
theorem rperm_2 (q : Int) (w : World) (h0 : 0 ≤ q) (h1 : q < 512) : Calls Try.prog 19 #[.int .i64 (2147483648 + q)] w fun e w' => e = .returned (.tuple #[.int .i64 q, .bool true, .bool true]) ∧ w = w' := by
  have hd : (2147483648 + q - 2147483648) = q := by omega
  go_enter Try.func19, Try.ntmps19
  go_wp2
  go_ret3
  exact ⟨rfl, rfl⟩
theorem rperm_3 (p : Int) (w : World) (h0 : -9223372036854775808 ≤ p) (h1 : p ≤ 9223372036854775807) (hn : ¬ (0 ≤ p ∧ p < 512)) (hm : ¬ (2147483648 ≤ p ∧ p < 2147484160)) :
    Calls Try.prog 19 #[.int .i64 p] w fun e w' => e = .returned (.tuple #[.int .i64 0, .bool false, .bool false]) ∧ w = w' := by
  by_cases h2 : 0 ≤ p
  · have h3 : ¬ p < 512 := by omega
    by_cases h4 : 2147483648 ≤ p
    · have h5 : ¬ p < 2147484160 := by omega
      clear hn hm
      go_enter Try.func19, Try.ntmps19
      go_wp2
      go_ret3
      exact ⟨rfl, rfl⟩
    · clear hn hm
      go_enter Try.func19, Try.ntmps19
      go_wp2
      go_ret3
      exact ⟨rfl, rfl⟩
  · have h4 : ¬ 2147483648 ≤ p := by omega
    clear hn hm
    go_enter Try.func19, Try.ntmps19
    go_wp2
    go_ret3
    exact ⟨rfl, rfl⟩

/-- The entry of the example. -/
theorem entry_ex (w : World) : Calls Try.prog 37 #[.agg #[.string ⟨#[97]⟩, .int .i64 1, .int .i64 2]] w fun e w' => ∃ v, e = .returned v ∧ w'.ownsRow w.heap.size 5 1 v 11 (bs [1, 0, 97, 1, 0, 0, 0, 2, 0, 0, 0]) ∧ Ext w w' := by
  have eA : Ext w (w.alloc (.cells #[.string ⟨#[97]⟩, .int .i64 1, .int .i64 2] 61)) := (Ext.refl _).alloc _
  have c1 : ∀ w', Ext (w.alloc (.cells #[.string ⟨#[97]⟩, .int .i64 1, .int .i64 2] 61)).drew w' → w'.cell? ⟨w.heap.size, 1, none⟩ = some (.int .i64 1) := fun w' h => h.cell (by simp)
  have c2 : ∀ w', Ext (w.alloc (.cells #[.string ⟨#[97]⟩, .int .i64 1, .int .i64 2] 61)).drew w' → w'.cell? ⟨w.heap.size, 2, none⟩ = some (.int .i64 2) := fun w' h => h.cell (by simp)
  have c0 : ∀ w', Ext (w.alloc (.cells #[.string ⟨#[97]⟩, .int .i64 1, .int .i64 2] 61)).drew w' → w'.cell? ⟨w.heap.size, 0, none⟩ = some (.string ⟨#[97]⟩) := fun w' h => h.cell (by simp)
  go_enter Try.func37, Try.ntmps37
  go_wp2_with fail
  generalize w.alloc (.cells #[.string ⟨#[97]⟩, .int .i64 1, .int .i64 2] 61) = w1 at *
  generalize w.heap.size = g at *
  refine wp_region_ord [0, 1, 3, 4, 5, 6, 2, 7, 8] [6, 7] (by kernel_rfl) (by kernel_rfl) rfl (by kernel_rfl) ?_
  repeat (refine lex_val (v := ?_) rfl rfl (fun w' hw' => ?_) ?_; rotate_left; (· go_simp; try with_reducible rfl); simp only [Act.put, List.setIfInBounds_toArray, List.set_cons_zero, List.set_cons_succ])
  refine lex_call 44 #[.slice none 0 0, .string ⟨#[97]⟩] rfl rfl (by go_simp) ?_
  refine (ltext_any none 0 0 [] [97] _ (Sees.nil _) (by omega) (by simp)).mono ?_
  rintro e w2 ⟨v2, rfl, own2, e2⟩
  obtain ⟨A2, k2, rfl, see2⟩ := Sees.of_own own2
  refine ⟨_, rfl, e2, ?_⟩
  simp only [Act.put, List.setIfInBounds_toArray, List.set_cons_zero, List.set_cons_succ]
  refine lex_call 43 #[.slice A2 3 k2, .int .u32 1] rfl rfl (by go_simp; try rfl) ?_
  refine (lu_u32 A2 3 k2 1 _ _ see2 (by omega) (by omega)).mono ?_
  rintro e w3 ⟨v3, rfl, own3, e3⟩
  obtain ⟨A3, k3, rfl, see3⟩ := Sees.of_own own3
  refine ⟨_, rfl, e3, ?_⟩
  simp only [Act.put, List.setIfInBounds_toArray, List.set_cons_zero, List.set_cons_succ]
  repeat (refine lex_val (v := ?_) rfl rfl (fun w' hw' => ?_) ?_; rotate_left; (· go_simp; try with_reducible rfl); simp only [Act.put, List.setIfInBounds_toArray, List.set_cons_zero, List.set_cons_succ])
  refine lex_done ?_
  have ext3 := eA.drew.trans (e2.trans e3)
  have c2' := c2 w3 (e2.trans e3)
  have HS3 := Lib.hid see3
  clear own2 own3 see2 see3 c0 c1 c2 e2 e3 eA
  go_wp2_with fail
  refine (lu_u32 A3 7 k3 2 _ _ HS3.out (by omega) (by omega)).mono ?_
  rintro e w4 ⟨v4, rfl, own4, e4⟩
  go_wp2
  go_ret
  exact ⟨_, rfl, own_mono own4 ext3.size, ext3.trans e4⟩
theorem andNot3 : bits .andNot .i64 3 16 = 3 := by decide
theorem way_3 (w : World) : Calls Try.prog 36 #[.int .i64 3] w fun e w' => e = .returned (.tuple #[.int .i64 3, .bool false]) ∧ w = w' := by
  have ha := andNot3
  go_enter Try.func36, Try.ntmps36
  go_wp2
  go_ret2
  exact ⟨rfl, rfl⟩
theorem reads_3 (w : World) : Calls Try.prog 11 #[.int .i64 3] w fun e w' => e = .returned (.bool false) ∧ w = w' := by
  go_enter Try.func11, Try.ntmps11
  go_wp2_with fail
  refine (way_3 w).mono ?_
  rintro e w1 ⟨rfl, rfl⟩
  go_wp2
  go_ret
  exact ⟨rfl, rfl⟩
theorem writes_3 (w : World) : Calls Try.prog 13 #[.int .i64 3] w fun e w' => e = .returned (.bool false) ∧ w = w' := by
  go_enter Try.func13, Try.ntmps13
  go_wp2_with fail
  refine (way_3 w).mono ?_
  rintro e w1 ⟨rfl, rfl⟩
  go_wp2
  go_ret
  exact ⟨rfl, rfl⟩
theorem opens_3 (a : Array Value) (w : World) : Calls Try.prog 9 #[.int .i64 3, .agg a] w fun e w' => e = .returned (.int .i64 19) ∧ Ext w w' := by
  have ea : Ext w (w.alloc (.cells a 27)) := (Ext.refl _).alloc _
  go_enter Try.func9, Try.ntmps9
  go_wp2_with fail
  refine (reads_3 _).mono ?_
  rintro e w1 ⟨rfl, rfl⟩
  go_wp2_with fail
  refine (writes_3 _).mono ?_
  rintro e w1 ⟨rfl, rfl⟩
  go_wp2
  go_ret
  exact ⟨rfl, ea⟩
theorem statLives_any (w : World) : Calls Try.prog 17 #[] w fun e w' => e = .returned (.bool true) ∧ Ext w w' := by
  go_enter Try.func17, Try.ntmps17
  go_wp2_with fail
  refine (entry_ex w).mono ?_
  rintro e w1 ⟨v1, rfl, own1, e1⟩
  obtain ⟨A1, k1, rfl, see1⟩ := Sees.of_own own1
  have hst := str_of see1
  clear own1 see1
  go_wp2_with fail
  refine (opens_3 _ _).mono ?_
  rintro e w2 ⟨rfl, e2⟩
  go_wp2
  go_ret
  exact ⟨by simp, e1.trans e2⟩
end Go.Proofs.Ytfajnfaipgajdaa
