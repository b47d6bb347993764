/-
  Layer 1: what is read of what was laid; of a beginning of it.
-/
import Derived.Test.YtpjigdfllbhknaaXdrT
namespace Go.Proofs.Ytpjigdfllbhknaa
open Go Go.RowKit
set_option linter.unusedVariables false
set_option linter.unusedSimpArgs false
theorem num4_be4 (x : Int) (t : List UInt8) (h0 : 0 ≤ x) (h1 : x < 4294967296) : num4 (be4 x ++ t) = x := by
  have e := fun k h0 h1 => u8_of k h0 h1
  simp only [num4, be4, List.cons_append, List.getD_cons_zero, List.getD_cons_succ]
  rw [e _ (by omega) (by omega), e _ (by omega) (by omega), e _ (by omega) (by omega), e _ (by omega) (by omega)]
  omega
theorem cut_text (s : List UInt8) (J : Nat) (hN : s.length < 4294967296) (hJ : J < 4 + s.length + pad s.length) (h4 : 4 ≤ J) :
    4 ≤ ((txt s).take J).length ∧ num4 ((txt s).take J) = (s.length : Int) ∧ ((txt s).take J).length - 4 < s.length + pad s.length := by
  have hl : (txt s).length = 4 + s.length + pad s.length := by unfold txt; simp only [List.length_append, be4_length, zeros_length]
  have e : (txt s).take J = be4 s.length ++ (s ++ zeros (pad s.length)).take (J - 4) := by
    unfold txt
    rw [List.append_assoc, List.take_append, be4_length, List.take_of_length_le (by rw [be4_length]; omega)]
  exact ⟨by rw [List.length_take]; omega, by rw [e]; exact num4_be4 _ _ (by omega) (by omega), by rw [List.length_take]; omega⟩
theorem num8_be8 (m : Int) (t : List UInt8) (h0 : 0 ≤ m) (h1 : m < 18446744073709551616) : num8 (be8 m ++ t) = m := by
  unfold num8 be8
  rw [List.append_assoc, num4_be4 _ _ (by omega) (by omega)]
  have : (be4 (m / 4294967296) ++ (be4 (m % 4294967296) ++ t)).drop 4 = be4 (m % 4294967296) ++ t := rfl
  rw [this, num4_be4 _ _ (by omega) (by omega)]
  omega
theorem txt_read (s R : List UInt8) (hN : s.length < 4294967296) :
    4 ≤ (txt s ++ R).length ∧ num4 (txt s ++ R) = (s.length : Int) ∧ s.length + pad s.length ≤ (txt s ++ R).length - 4 ∧ (∀ k, k < pad s.length → ((txt s ++ R).drop 4).getD (s.length + k) 0 = 0) ∧
    ((txt s ++ R).drop 4).take s.length = s ∧ (txt s ++ R).drop (4 + (s.length + pad s.length)) = R := by
  have hl : (txt s).length = 4 + s.length + pad s.length := by unfold txt; simp only [List.length_append, be4_length, zeros_length]
  have e : txt s ++ R = be4 s.length ++ (s ++ (zeros (pad s.length) ++ R)) := by unfold txt; simp only [List.append_assoc]
  have ed : (txt s ++ R).drop 4 = s ++ (zeros (pad s.length) ++ R) := by rw [e]; rfl
  refine ⟨by rw [List.length_append]; omega, by rw [e]; exact num4_be4 _ _ (by omega) (by omega), by rw [List.length_append]; omega, fun k hk => ?_, ?_, ?_⟩
  · rw [ed, List.getD_eq_getElem?_getD, List.getElem?_append_right (by omega), List.getElem?_append_left (by rw [zeros_length]; omega)]
    simp [zeros, List.getElem?_replicate]
    rw [if_pos (by omega)]
    rfl
  · rw [ed, List.take_append_of_le_length (Nat.le_refl _), List.take_length]
  · rw [show 4 + (s.length + pad s.length) = (txt s).length from by omega]
    exact List.drop_left
theorem txt_modR (s : List UInt8) : (txt s).length % 4 = 0 := by
  unfold txt pad
  simp only [List.length_append, be4_length, zeros_length]
  omega
end Go.Proofs.Ytpjigdfllbhknaa
