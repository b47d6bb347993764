/-
  Layer 2: what is split of a beginning and of the rest.
-/
import Derived.Test.YtipbkhjlbnjbeaaLitP
namespace Go.Proofs.Ytipbkhjlbnjbeaa
open Go Go.RowKit
set_option linter.unusedVariables false
set_option linter.unusedSimpArgs false
theorem sp_more (m : Int) (f : Nat) : ∀ (g : Nat) (l : List UInt8), l.length ≤ f → l.length ≤ g → spL f m l = spL g m l ∧ spR f m l = spR g m l ∧ spE f m l = spE g m l := by
  induction f with
  | zero =>
    intro g l h1 h2
    obtain rfl : l = [] := List.eq_nil_of_length_eq_zero (by omega)
    cases g with
    | zero => exact ⟨rfl, rfl, rfl⟩
    | succ g => simp [spL, spR, spE]
  | succ f ih =>
    intro g l h1 h2
    cases g with
    | zero =>
      obtain rfl : l = [] := List.eq_nil_of_length_eq_zero (by omega)
      simp [spL, spR, spE]
    | succ g =>
      by_cases h4 : l.length < 4
      · simp [spL, spR, spE, h4]
      · by_cases h7 : leV (l.take 4) < 7
        · simp only [spL, spR, spE, if_neg h4, if_pos h7, and_self]
        · by_cases hm : m < (leV (l.take 4) : Int)
          · simp only [spL, spR, spE, if_neg h4, if_neg h7, if_pos hm, and_self]
          · by_cases hs : l.length < leV (l.take 4)
            · simp only [spL, spR, spE, if_neg h4, if_neg h7, if_neg hm, if_pos hs, and_self]
            · simp only [spL, spR, spE, if_neg h4, if_neg h7, if_neg hm, if_neg hs]
              obtain ⟨a, b, c⟩ := ih g (l.drop (leV (l.take 4))) (by rw [List.length_drop]; omega) (by rw [List.length_drop]; omega)
              exact ⟨by rw [a], b, c⟩
def sL (m : Int) (l : List UInt8) : List (List UInt8) := spL l.length m l
def sR (m : Int) (l : List UInt8) : List UInt8 := spR l.length m l
def sE (m : Int) (l : List UInt8) : Int := spE l.length m l
theorem s_small {m : Int} {l : List UInt8} (h : l.length < 4) : sL m l = [] ∧ sR m l = l ∧ sE m l = 0 := by
  unfold sL sR sE
  cases hl : l.length with
  | zero => exact ⟨rfl, rfl, rfl⟩
  | succ f => simp [spL, spR, spE, h]
theorem s_form {m : Int} {l : List UInt8} (h : 4 ≤ l.length) (h7 : leV (l.take 4) < 7) : sL m l = [] ∧ sR m l = [] ∧ sE m l = 2 := by
  unfold sL sR sE
  obtain ⟨f, hf⟩ : ∃ f, l.length = f + 1 := ⟨l.length - 1, by omega⟩
  rw [hf]
  simp only [spL, spR, spE, if_neg (show ¬ l.length < 4 by omega), if_pos h7, and_self]
theorem s_range {m : Int} {l : List UInt8} (h : 4 ≤ l.length) (h7 : ¬ leV (l.take 4) < 7) (hm : m < (leV (l.take 4) : Int)) : sL m l = [] ∧ sR m l = [] ∧ sE m l = 4 := by
  unfold sL sR sE
  obtain ⟨f, hf⟩ : ∃ f, l.length = f + 1 := ⟨l.length - 1, by omega⟩
  rw [hf]
  simp only [spL, spR, spE, if_neg (show ¬ l.length < 4 by omega), if_neg h7, if_pos hm, and_self]
theorem s_short {m : Int} {l : List UInt8} (h : 4 ≤ l.length) (h7 : ¬ leV (l.take 4) < 7) (hm : ¬ m < (leV (l.take 4) : Int)) (hs : l.length < leV (l.take 4)) : sL m l = [] ∧ sR m l = l ∧ sE m l = 0 := by
  unfold sL sR sE
  obtain ⟨f, hf⟩ : ∃ f, l.length = f + 1 := ⟨l.length - 1, by omega⟩
  rw [hf]
  simp only [spL, spR, spE, if_neg (show ¬ l.length < 4 by omega), if_neg h7, if_neg hm, if_pos hs, and_self]
theorem s_step {m : Int} {l : List UInt8} (h : 4 ≤ l.length) (h7 : ¬ leV (l.take 4) < 7) (hm : ¬ m < (leV (l.take 4) : Int)) (hs : ¬ l.length < leV (l.take 4)) :
    sL m l = l.take (leV (l.take 4)) :: sL m (l.drop (leV (l.take 4))) ∧ sR m l = sR m (l.drop (leV (l.take 4))) ∧ sE m l = sE m (l.drop (leV (l.take 4))) := by
  obtain ⟨f, hf⟩ : ∃ f, l.length = f + 1 := ⟨l.length - 1, by omega⟩
  have hd : (l.drop (leV (l.take 4))).length ≤ f := by rw [List.length_drop]; omega
  obtain ⟨a, b, c⟩ := sp_more m f _ (l.drop (leV (l.take 4))) hd (Nat.le_refl _)
  unfold sL sR sE
  rw [hf]
  simp only [spL, spR, spE, if_neg (show ¬ l.length < 4 by omega), if_neg h7, if_neg hm, if_neg hs]
  exact ⟨by rw [a], b, c⟩
theorem s_rest (m : Nat) : ∀ (n : Nat) (l : List UInt8), l.length ≤ n → sE m l = 0 → (sR m l).length < 4 + m := by
  intro n
  induction n with
  | zero =>
    intro l hl _
    rw [(s_small (m := m) (show l.length < 4 by omega)).2.1]
    omega
  | succ n ih =>
    intro l hl he
    by_cases h4 : l.length < 4
    · rw [(s_small (m := m) h4).2.1]; omega
    · by_cases h7 : leV (l.take 4) < 7
      · rw [(s_form (m := m) (by omega) h7).2.2] at he; omega
      · by_cases hm : (m : Int) < (leV (l.take 4) : Int)
        · rw [(s_range (by omega) h7 hm).2.2] at he; omega
        · by_cases hs : l.length < leV (l.take 4)
          · rw [(s_short (by omega) h7 hm hs).2.1]; omega
          · obtain ⟨a, b, c⟩ := s_step (m := m) (by omega) h7 hm hs
            rw [b]
            exact ih _ (by rw [List.length_drop]; omega) (by rw [← c]; exact he)
/-- A beginning without an error: what follows is split behind what is left of it. -/
theorem s_app (m : Int) (Q : List UInt8) : ∀ (n : Nat) (P : List UInt8), P.length ≤ n → sE m P = 0 → sL m (P ++ Q) = sL m P ++ sL m (sR m P ++ Q) ∧ sR m (P ++ Q) = sR m (sR m P ++ Q) ∧ sE m (P ++ Q) = sE m (sR m P ++ Q) := by
  intro n
  induction n with
  | zero =>
    intro P hP _
    obtain ⟨a, b, c⟩ := s_small (m := m) (show P.length < 4 by omega)
    rw [a, b]
    exact ⟨rfl, rfl, rfl⟩
  | succ n ih =>
    intro P hP he
    by_cases h4 : P.length < 4
    · obtain ⟨a, b, c⟩ := s_small (m := m) h4
      rw [a, b]
      exact ⟨rfl, rfl, rfl⟩
    · have ht : (P ++ Q).take 4 = P.take 4 := List.take_append_of_le_length (by omega)
      by_cases h7 : leV (P.take 4) < 7
      · rw [(s_form (m := m) (by omega) h7).2.2] at he; omega
      · by_cases hm : (m : Int) < (leV (P.take 4) : Int)
        · rw [(s_range (by omega) h7 hm).2.2] at he; omega
        · by_cases hs : P.length < leV (P.take 4)
          · obtain ⟨a, b, c⟩ := s_short (m := m) (by omega) h7 hm hs
            rw [a, b]
            exact ⟨rfl, rfl, rfl⟩
          · obtain ⟨a, b, c⟩ := s_step (m := m) (by omega) h7 hm hs
            obtain ⟨a', b', c'⟩ := s_step (m := m) (l := P ++ Q) (by simp; omega) (by rw [ht]; exact h7) (by rw [ht]; exact hm) (by rw [ht]; simp; omega)
            rw [ht, List.take_append_of_le_length (by omega), List.drop_append_of_le_length (by omega)] at a'
            rw [ht, List.drop_append_of_le_length (by omega)] at b' c'
            obtain ⟨a2, b2, c2⟩ := ih (P.drop (leV (P.take 4))) (by rw [List.length_drop]; omega) (by rw [← c]; exact he)
            rw [a', b', c', a, b, a2, b2, c2]
            exact ⟨by simp, rfl, rfl⟩
/-- Behind an error nothing is added. -/
theorem s_err (m : Int) (Q : List UInt8) : ∀ (n : Nat) (P : List UInt8), P.length ≤ n → sE m P ≠ 0 → sL m (P ++ Q) = sL m P ∧ sE m (P ++ Q) = sE m P ∧ sR m P = [] := by
  intro n
  induction n with
  | zero =>
    intro P hP he
    exact absurd (s_small (m := m) (show P.length < 4 by omega)).2.2 he
  | succ n ih =>
    intro P hP he
    by_cases h4 : P.length < 4
    · exact absurd (s_small (m := m) h4).2.2 he
    · have ht : (P ++ Q).take 4 = P.take 4 := List.take_append_of_le_length (by omega)
      by_cases h7 : leV (P.take 4) < 7
      · obtain ⟨a, b, c⟩ := s_form (m := m) (by omega) h7
        obtain ⟨a', b', c'⟩ := s_form (m := m) (l := P ++ Q) (by simp; omega) (by rw [ht]; exact h7)
        rw [a, c, a', c']
        exact ⟨rfl, rfl, b⟩
      · by_cases hm : (m : Int) < (leV (P.take 4) : Int)
        · obtain ⟨a, b, c⟩ := s_range (m := m) (by omega) h7 hm
          obtain ⟨a', b', c'⟩ := s_range (m := m) (l := P ++ Q) (by simp; omega) (by rw [ht]; exact h7) (by rw [ht]; exact hm)
          rw [a, c, a', c']
          exact ⟨rfl, rfl, b⟩
        · by_cases hs : P.length < leV (P.take 4)
          · exact absurd (s_short (m := m) (by omega) h7 hm hs).2.2 he
          · obtain ⟨a, b, c⟩ := s_step (m := m) (by omega) h7 hm hs
            obtain ⟨a', b', c'⟩ := s_step (m := m) (l := P ++ Q) (by simp; omega) (by rw [ht]; exact h7) (by rw [ht]; exact hm) (by rw [ht]; simp; omega)
            rw [ht, List.take_append_of_le_length (by omega), List.drop_append_of_le_length (by omega)] at a'
            rw [ht, List.drop_append_of_le_length (by omega)] at b' c'
            obtain ⟨a2, b2, c2⟩ := ih (P.drop (leV (P.take 4))) (by rw [List.length_drop]; omega) (by rw [← c]; exact he)
            rw [a', c', a, b, c, a2, b2]
            exact ⟨rfl, rfl, c2⟩
end Go.Proofs.Ytipbkhjlbnjbeaa
