/-
  Layer 9: a print tells its text.
-/
import Derived.Test.YtiiagecacegmbaaNamS
namespace Go.Proofs.Ytiiagecacegmbaa
open Go Go.RowKit
set_option linter.unusedVariables false
set_option linter.unusedSimpArgs false
/-- The place of a byte among the digits. -/
def hexI (b : UInt8) : Nat := (hexD.findIdx? fun d => d == b).getD 0
/-- The text of a print's bytes. -/
def unB : List UInt8 → List UInt8
  | [] => []
  | [c] => [c]
  | [c, d] => [c, d]
  | c :: a :: b :: r => if c = 37 then UInt8.ofNat (hexI a * 16 + hexI b) :: unB r else c :: unB (a :: b :: r)
theorem plain_ne (c : UInt8) (h : plainB c = true) : c ≠ 37 := by
  rintro rfl
  revert h
  decide
theorem esc_back (c : UInt8) : UInt8.ofNat (hexI (hexD.getD (c.toNat / 16) 0) * 16 + hexI (hexD.getD (c.toNat % 16) 0)) = c := by
  have h : ∀ k : Fin 256, UInt8.ofNat (hexI (hexD.getD (k.val / 16) 0) * 16 + hexI (hexD.getD (k.val % 16) 0)) = UInt8.ofNat k.val := by decide +kernel
  have h1 := h ⟨c.toNat, c.toNat_lt⟩
  simpa using h1
theorem un_byte (c : UInt8) (r : List UInt8) : unB (byteB c ++ r) = c :: unB r := by
  unfold byteB
  split
  · rename_i h
    have := plain_ne c h
    show unB (c :: r) = _
    match r with
    | [] => rfl
    | [d] => rfl
    | a :: b :: r2 => simp only [unB, if_neg this]
  · show unB (37 :: hexD.getD (c.toNat / 16) 0 :: hexD.getD (c.toNat % 16) 0 :: r) = _
    simp only [unB]
    rw [if_pos trivial, esc_back]
theorem un_flat : ∀ t : List UInt8, unB (t.flatMap byteB) = t
  | [] => rfl
  | c :: r => by
    rw [List.flatMap_cons, un_byte, un_flat r]
def unP (l : List UInt8) : List UInt8 := if l = [45] then [] else if l = [37, 50, 100] then [45] else unB l
theorem un_print (t : List UInt8) : unP (printB t) = t := by
  unfold printB
  by_cases h0 : t = []
  · rw [if_pos h0, h0]; rfl
  · rw [if_neg h0]
    by_cases h1 : t = [45]
    · rw [if_pos h1, h1]; decide
    · rw [if_neg h1]
      have h := un_flat t
      have n1 : t.flatMap byteB ≠ [45] := fun e => by
        rw [e] at h
        exact h1 (h.symm.trans (by decide))
      have n2 : t.flatMap byteB ≠ [37, 50, 100] := fun e => by
        rw [e] at h
        exact h1 (h.symm.trans (by decide))
      unfold unP
      rw [if_neg n1, if_neg n2]
      exact h
theorem print_inj {s t : List UInt8} (h : printB s = printB t) : s = t := by
  rw [← un_print s, h, un_print]
theorem byteB_pos (c : UInt8) : 0 < (byteB c).length := by
  unfold byteB
  split
  · simp
  · simp [escB]
theorem print_pos (t : List UInt8) : 0 < (printB t).length := by
  unfold printB
  split
  · simp
  · split
    · simp
    · rename_i h0 _
      cases t with
      | nil => exact absurd rfl h0
      | cons c r =>
        rw [List.flatMap_cons, List.length_append]
        have := byteB_pos c
        omega
theorem print_le (t : List UInt8) : (printB t).length ≤ 3 * t.length + 3 := by
  unfold printB
  split
  · simp
  · split
    · simp
    · have := upto_le t t.length
      rw [upto_all] at this
      omega
end Go.Proofs.Ytiiagecacegmbaa
