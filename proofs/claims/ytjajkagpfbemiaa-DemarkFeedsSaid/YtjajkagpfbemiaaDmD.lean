/-
  Layer 4: a deframer in memory: a byte of a fragment's first four.
-/
import Derived.Test.YtjajkagpfbemiaaDmC
namespace Go.Proofs.Ytjajkagpfbemiaa
open Go Go.RowKit
set_option linter.unusedVariables false
set_option linter.unusedSimpArgs false
theorem andnot_last (k : Nat) (hk : k < 4294967296) : bits .andNot .u32 (k : Int) 2147483648 = ((k % 2147483648 : Nat) : Int) := by
  have := u32_andNot_nat k 2147483648 (by omega) (by omega)
  rw [show ((2147483648 : Nat) : Int) = 2147483648 from rfl] at this
  rw [this, show 4294967295 - 2147483648 = 2 ^ 31 - 1 from rfl, Nat.and_two_pow_sub_one_eq_mod]
theorem and_last (k : Nat) (hk : k < 4294967296) : ∃ B : Int, bits .and .u32 (k : Int) 2147483648 = B ∧ (B == 0) = !decide (2147483648 ≤ k) ∧ (B != 0) = decide (2147483648 ≤ k) := by
  have := u32_and_nat k 2147483648 (by omega) (by omega)
  rw [show ((2147483648 : Nat) : Int) = 2147483648 from rfl] at this
  refine ⟨_, this, ?_⟩
  have hb : (k &&& 2 ^ 31).testBit 31 = k.testBit 31 := by
    rw [Nat.testBit_and, Nat.testBit_two_pow]
    simp
  rw [show k &&& 2147483648 = k &&& 2 ^ 31 from rfl]
  by_cases h : 2147483648 ≤ k
  · have ht : k.testBit 31 = true := by
      rw [Nat.testBit_eq_decide_div_mod_eq]
      have : k / 2 ^ 31 % 2 = 1 := by omega
      simp only [this, decide_true]
    have hz : ¬ (k &&& 2 ^ 31) = 0 := fun e => by
      rw [e, ht] at hb
      simp at hb
    generalize hq : k &&& 2 ^ 31 = q at *
    rw [decide_eq_true h]
    simp
    omega
  · have hz : (k &&& 2 ^ 31) = 0 := Nat.eq_of_testBit_eq fun i => by
      rw [Nat.testBit_and, Nat.testBit_two_pow]
      by_cases hi : 31 = i
      · subst hi
        rw [Nat.testBit_lt_two_pow (by omega)]
        simp
      · simp [hi]
    rw [hz, decide_eq_false h]
    exact ⟨rfl, rfl⟩
theorem num4_nb (l : List UInt8) : num4 l = (nb l : Int) := by
  unfold num4 nb
  omega
/-- Behind the four bytes. -/
theorem dput_go {w5 : World} {X : Nat → Prop} {tb m f : Nat} {s : DS} {hs : List UInt8} {hv rv tv : Value} {H : List UInt8} (hx : ¬ X tb) (ho : DOwn w5 X tb hv rv tv H s.R s.T) (w7 : World) (he : Ext w5 w7)
    (hb : w7.heap[tb]? = some (.cells (#[.int .i64 (m : Int), .int .i64 (f : Int), .int .i64 s.E, stp s.md tb, hv, .int .i64 (s.bg : Int), .int .i64 (s.lf : Int), .bool s.en, rv, tv]) 52 (0, 0))) :
    Dfm ((((w7.setCell ⟨tb, 4, none⟩ (.slice none 0 0)).setCell ⟨tb, 5, none⟩ (.int .i64 ((s.bg : Int) + 1))).setCell ⟨tb, 6, none⟩ (.int .i64 ((nb hs % 2147483648 : Nat) : Int))).setCell ⟨tb, 7, none⟩ (.bool (decide (2147483648 ≤ nb hs)))) X tb m f (s.put hs) ∧
    Kp X w5 ((((w7.setCell ⟨tb, 4, none⟩ (.slice none 0 0)).setCell ⟨tb, 5, none⟩ (.int .i64 ((s.bg : Int) + 1))).setCell ⟨tb, 6, none⟩ (.int .i64 ((nb hs % 2147483648 : Nat) : Int))).setCell ⟨tb, 7, none⟩ (.bool (decide (2147483648 ≤ nb hs)))) := by
  have h1 := set_blk (set_blk (set_blk (set_blk hb 4 (.slice none 0 0)) 5 (.int .i64 ((s.bg : Int) + 1))) 6 (.int .i64 ((nb hs % 2147483648 : Nat) : Int))) 7 (.bool (decide (2147483648 ≤ nb hs)))
  refine ⟨⟨.slice none 0 0, rv, tv, ?_, ?_⟩, ?_⟩
  · unfold DRow DS.put
    simpa using h1
  · exact (ho.dropH.keep (Kp.of_ext he)).keep (((((Kp.refl _ w7).set tb 4 _ (fun q => q (.inr rfl))).set tb 5 _ (fun q => q (.inr rfl))).set tb 6 _ (fun q => q (.inr rfl))).set tb 7 _ (fun q => q (.inr rfl)))
  · exact (((((Kp.of_ext he).set tb 4 _ hx).set tb 5 _ hx).set tb 6 _ hx).set tb 7 _ hx)
end Go.Proofs.Ytjajkagpfbemiaa
