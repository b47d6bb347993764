/-
  Layer 9: the first bytes of a text; the document's example.
-/
import Derived.Test.YtiiagecacegmbaaNamB
namespace Go.Proofs.Ytiiagecacegmbaa
open Go Go.RowKit
set_option linter.unusedVariables false
set_option linter.unusedSimpArgs false
theorem short_any (t : List UInt8) (most : Nat) (w : World) (ht : t.length ≤ maxLen) (hm : most ≤ 1000) :
    Calls Try.prog 32 #[.string ⟨t.toArray⟩, .int .i64 (most : Int)] w fun e w' => e = .returned (.string ⟨(t.take most).toArray⟩) ∧ w = w' := by
  have hsz : (ByteArray.mk t.toArray).size = t.length := by simp [ByteArray.size]
  unfold maxLen at ht
  go_enter Try.func32, Try.ntmps32
  by_cases h : most < t.length
  · have hx : (ByteArray.mk t.toArray).extract 0 most = ⟨(t.take most).toArray⟩ := by
      apply ByteArray.ext
      simp
    go_wp2
    go_ret
    exact ⟨by rw [← hx]; rfl, rfl⟩
  · have hx : t.take most = t := List.take_of_length_le (by omega)
    rw [hx]
    go_wp2
    go_ret
    exact ⟨rfl, rfl⟩
theorem lives9 (w : World) : Calls Try.prog 36 #[] w fun e w' => e = .returned (.bool true) ∧ Ext w w' := by
  have h1 := Lib.hid (fun w => print_any [97, 32, 98] w (by simp))
  have hp : printB [97, 32, 98] = [97, 37, 50, 48, 98] := by decide
  rw [hp] at h1
  have h2 := Lib.hid (fun w => name_any [97, 32, 98] w (by simp))
  have h3 := Lib.hid (fun w => name_any [46, 46] w (by simp))
  have hn2 : nmB [97, 32, 98] = true := by decide
  have hn3 : nmB [46, 46] = false := by decide
  rw [hn2] at h2
  rw [hn3] at h3
  go_enter Try.func36, Try.ntmps36
  go_wp2_with (go_at_call 33; refine (h1.out _).mono ?_)
  rintro e w1 ⟨rfl, e1⟩
  go_wp2_with (go_at_call 60; refine (h2.out _).mono ?_)
  rintro e w2 ⟨rfl, rfl⟩
  go_wp2_with (go_at_call 60; refine (h3.out _).mono ?_)
  rintro e w2 ⟨rfl, rfl⟩
  go_wp2
  go_ret
  exact ⟨rfl, e1⟩
end Go.Proofs.Ytiiagecacegmbaa
