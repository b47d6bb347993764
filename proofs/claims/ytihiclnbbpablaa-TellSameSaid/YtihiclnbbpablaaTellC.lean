/-
  Layer 18: what is laid of a kind; whether two replies are the same.
-/
import Derived.Test.YtihiclnbbpablaaTellB
namespace Go.Proofs.Ytihiclnbbpablaa
open Go Go.RowKit
set_option linter.unusedVariables false
set_option linter.unusedSimpArgs false
def fl (k : Int) : List Nat :=
  if k = 101 then [0, 1] else if k = 105 then [2] else if k = 107 then [3] else if k = 109 then [] else if k = 111 then [4] else if k = 113 then [2, 5] else if k = 115 then [2, 5] else if k = 117 then [6] else if k = 119 then [7] else if k = 121 then [] else if k = 123 then [] else if k = 125 then [8] else if k = 127 then [] else []
def fok (k : Int) : Bool := k == 101 || k == 105 || k == 107 || k == 109 || k == 111 || k == 113 || k == 115 || k == 117 || k == 119 || k == 121 || k == 123 || k == 125 || k == 127
def fv (l : List Nat) : List Value := l.map fun (f : Nat) => Value.int .i64 ((f : Nat) : Int)
theorem fields_101 (w : World) : Calls Try.prog 36 #[.int .i64 101] w fun e w' => ∃ A, e = .returned (.tuple #[.slice A 2 2, .bool true]) ∧ Sees w' A 2 2 (fv [0, 1]) ∧ Ext w w' := by
  go_enter Try.func36, Try.ntmps36
  go_wp2
  go_ret2
  exact ⟨_, rfl, sees_new w 60 #[.int .i64 0, .int .i64 1] (by unfold maxLen; simp), (Ext.refl w).alloc _⟩
theorem fields_105 (w : World) : Calls Try.prog 36 #[.int .i64 105] w fun e w' => ∃ A, e = .returned (.tuple #[.slice A 1 1, .bool true]) ∧ Sees w' A 1 1 (fv [2]) ∧ Ext w w' := by
  go_enter Try.func36, Try.ntmps36
  go_wp2
  go_ret2
  exact ⟨_, rfl, sees_new w 60 #[.int .i64 2] (by unfold maxLen; simp), (Ext.refl w).alloc _⟩
theorem fields_107 (w : World) : Calls Try.prog 36 #[.int .i64 107] w fun e w' => ∃ A, e = .returned (.tuple #[.slice A 1 1, .bool true]) ∧ Sees w' A 1 1 (fv [3]) ∧ Ext w w' := by
  go_enter Try.func36, Try.ntmps36
  go_wp2
  go_ret2
  exact ⟨_, rfl, sees_new w 60 #[.int .i64 3] (by unfold maxLen; simp), (Ext.refl w).alloc _⟩
theorem fields_109 (w : World) : Calls Try.prog 36 #[.int .i64 109] w fun e w' => ∃ A, e = .returned (.tuple #[.slice A 0 0, .bool true]) ∧ Sees w' A 0 0 (fv []) ∧ Ext w w' := by
  go_enter Try.func36, Try.ntmps36
  go_wp2
  go_ret2
  exact ⟨none, rfl, Sees.nil w, Ext.refl w⟩
theorem fields_111 (w : World) : Calls Try.prog 36 #[.int .i64 111] w fun e w' => ∃ A, e = .returned (.tuple #[.slice A 1 1, .bool true]) ∧ Sees w' A 1 1 (fv [4]) ∧ Ext w w' := by
  go_enter Try.func36, Try.ntmps36
  go_wp2
  go_ret2
  exact ⟨_, rfl, sees_new w 60 #[.int .i64 4] (by unfold maxLen; simp), (Ext.refl w).alloc _⟩
theorem fields_113 (w : World) : Calls Try.prog 36 #[.int .i64 113] w fun e w' => ∃ A, e = .returned (.tuple #[.slice A 2 2, .bool true]) ∧ Sees w' A 2 2 (fv [2, 5]) ∧ Ext w w' := by
  go_enter Try.func36, Try.ntmps36
  go_wp2
  go_ret2
  exact ⟨_, rfl, sees_new w 60 #[.int .i64 2, .int .i64 5] (by unfold maxLen; simp), (Ext.refl w).alloc _⟩
theorem fields_115 (w : World) : Calls Try.prog 36 #[.int .i64 115] w fun e w' => ∃ A, e = .returned (.tuple #[.slice A 2 2, .bool true]) ∧ Sees w' A 2 2 (fv [2, 5]) ∧ Ext w w' := by
  go_enter Try.func36, Try.ntmps36
  go_wp2
  go_ret2
  exact ⟨_, rfl, sees_new w 60 #[.int .i64 2, .int .i64 5] (by unfold maxLen; simp), (Ext.refl w).alloc _⟩
theorem fields_117 (w : World) : Calls Try.prog 36 #[.int .i64 117] w fun e w' => ∃ A, e = .returned (.tuple #[.slice A 1 1, .bool true]) ∧ Sees w' A 1 1 (fv [6]) ∧ Ext w w' := by
  go_enter Try.func36, Try.ntmps36
  go_wp2
  go_ret2
  exact ⟨_, rfl, sees_new w 60 #[.int .i64 6] (by unfold maxLen; simp), (Ext.refl w).alloc _⟩
theorem fields_119 (w : World) : Calls Try.prog 36 #[.int .i64 119] w fun e w' => ∃ A, e = .returned (.tuple #[.slice A 1 1, .bool true]) ∧ Sees w' A 1 1 (fv [7]) ∧ Ext w w' := by
  go_enter Try.func36, Try.ntmps36
  go_wp2
  go_ret2
  exact ⟨_, rfl, sees_new w 60 #[.int .i64 7] (by unfold maxLen; simp), (Ext.refl w).alloc _⟩
theorem fields_121 (w : World) : Calls Try.prog 36 #[.int .i64 121] w fun e w' => ∃ A, e = .returned (.tuple #[.slice A 0 0, .bool true]) ∧ Sees w' A 0 0 (fv []) ∧ Ext w w' := by
  go_enter Try.func36, Try.ntmps36
  go_wp2
  go_ret2
  exact ⟨none, rfl, Sees.nil w, Ext.refl w⟩
theorem fields_123 (w : World) : Calls Try.prog 36 #[.int .i64 123] w fun e w' => ∃ A, e = .returned (.tuple #[.slice A 0 0, .bool true]) ∧ Sees w' A 0 0 (fv []) ∧ Ext w w' := by
  go_enter Try.func36, Try.ntmps36
  go_wp2
  go_ret2
  exact ⟨none, rfl, Sees.nil w, Ext.refl w⟩
theorem fields_125 (w : World) : Calls Try.prog 36 #[.int .i64 125] w fun e w' => ∃ A, e = .returned (.tuple #[.slice A 1 1, .bool true]) ∧ Sees w' A 1 1 (fv [8]) ∧ Ext w w' := by
  go_enter Try.func36, Try.ntmps36
  go_wp2
  go_ret2
  exact ⟨_, rfl, sees_new w 60 #[.int .i64 8] (by unfold maxLen; simp), (Ext.refl w).alloc _⟩
theorem fields_127 (w : World) : Calls Try.prog 36 #[.int .i64 127] w fun e w' => ∃ A, e = .returned (.tuple #[.slice A 0 0, .bool true]) ∧ Sees w' A 0 0 (fv []) ∧ Ext w w' := by
  go_enter Try.func36, Try.ntmps36
  go_wp2
  go_ret2
  exact ⟨none, rfl, Sees.nil w, Ext.refl w⟩
theorem fields_no (k : Int) (w : World) (h : fok k = false) : Calls Try.prog 36 #[.int .i64 k] w fun e w' => e = .returned (.tuple #[.slice none 0 0, .bool false]) ∧ w = w' := by
  simp only [fok, Bool.or_eq_false_iff] at h
  obtain ⟨⟨⟨⟨⟨⟨⟨⟨⟨⟨⟨⟨h0, h1⟩, h2⟩, h3⟩, h4⟩, h5⟩, h6⟩, h7⟩, h8⟩, h9⟩, h10⟩, h11⟩, h12⟩ := h
  have n0 : ¬ k = 101 := by simpa using h0
  have n1 : ¬ k = 105 := by simpa using h1
  have n2 : ¬ k = 107 := by simpa using h2
  have n3 : ¬ k = 109 := by simpa using h3
  have n4 : ¬ k = 111 := by simpa using h4
  have n5 : ¬ k = 113 := by simpa using h5
  have n6 : ¬ k = 115 := by simpa using h6
  have n7 : ¬ k = 117 := by simpa using h7
  have n8 : ¬ k = 119 := by simpa using h8
  have n9 : ¬ k = 121 := by simpa using h9
  have n10 : ¬ k = 123 := by simpa using h10
  have n11 : ¬ k = 125 := by simpa using h11
  have n12 : ¬ k = 127 := by simpa using h12
  go_enter Try.func36, Try.ntmps36
  go_wp2
  go_ret2
  exact ⟨rfl, rfl⟩
theorem fields_any (k : Int) (w : World) : Calls Try.prog 36 #[.int .i64 k] w fun e w' => ∃ A, e = .returned (.tuple #[.slice A (fl k).length (fl k).length, .bool (fok k)]) ∧ Sees w' A (fl k).length (fl k).length (fv (fl k)) ∧ Ext w w' := by
  by_cases h101 : k = 101
  · subst h101; exact fields_101 w
  by_cases h105 : k = 105
  · subst h105; exact fields_105 w
  by_cases h107 : k = 107
  · subst h107; exact fields_107 w
  by_cases h109 : k = 109
  · subst h109; exact fields_109 w
  by_cases h111 : k = 111
  · subst h111; exact fields_111 w
  by_cases h113 : k = 113
  · subst h113; exact fields_113 w
  by_cases h115 : k = 115
  · subst h115; exact fields_115 w
  by_cases h117 : k = 117
  · subst h117; exact fields_117 w
  by_cases h119 : k = 119
  · subst h119; exact fields_119 w
  by_cases h121 : k = 121
  · subst h121; exact fields_121 w
  by_cases h123 : k = 123
  · subst h123; exact fields_123 w
  by_cases h125 : k = 125
  · subst h125; exact fields_125 w
  by_cases h127 : k = 127
  · subst h127; exact fields_127 w
  have e1 : fl k = [] := by simp only [fl, h101, h105, h107, h109, h111, h113, h115, h117, h119, h121, h123, h125, h127, if_false]
  have e2 : fok k = false := by simp [fok, h101, h105, h107, h109, h111, h113, h115, h117, h119, h121, h123, h125, h127]
  rw [e1, e2]
  refine (fields_no k w e2).mono ?_
  rintro e w1 ⟨rfl, rfl⟩
  exact ⟨none, rfl, Sees.nil w, Ext.refl w⟩
theorem fl_le (k : Int) : (fl k).length ≤ 2 ∧ ∀ f ∈ fl k, f ≤ 8 := by
  by_cases h101 : k = 101
  · subst h101; exact ⟨by decide, by decide⟩
  by_cases h105 : k = 105
  · subst h105; exact ⟨by decide, by decide⟩
  by_cases h107 : k = 107
  · subst h107; exact ⟨by decide, by decide⟩
  by_cases h109 : k = 109
  · subst h109; exact ⟨by decide, by decide⟩
  by_cases h111 : k = 111
  · subst h111; exact ⟨by decide, by decide⟩
  by_cases h113 : k = 113
  · subst h113; exact ⟨by decide, by decide⟩
  by_cases h115 : k = 115
  · subst h115; exact ⟨by decide, by decide⟩
  by_cases h117 : k = 117
  · subst h117; exact ⟨by decide, by decide⟩
  by_cases h119 : k = 119
  · subst h119; exact ⟨by decide, by decide⟩
  by_cases h121 : k = 121
  · subst h121; exact ⟨by decide, by decide⟩
  by_cases h123 : k = 123
  · subst h123; exact ⟨by decide, by decide⟩
  by_cases h125 : k = 125
  · subst h125; exact ⟨by decide, by decide⟩
  by_cases h127 : k = 127
  · subst h127; exact ⟨by decide, by decide⟩
  have e1 : fl k = [] := by simp only [fl, h101, h105, h107, h109, h111, h113, h115, h117, h119, h121, h123, h125, h127, if_false]
  rw [e1]
  exact ⟨by decide, by decide⟩
end Go.Proofs.Ytihiclnbbpablaa
