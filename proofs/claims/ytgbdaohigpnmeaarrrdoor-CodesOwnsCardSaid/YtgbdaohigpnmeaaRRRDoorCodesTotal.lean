/-
  The statement CodesTotal: its walk.
-/
import Derived.Test.YtgbdaohigpnmeaaRRRDoorCodD
namespace Go.Proofs.YtgbdaohigpnmeaaRRRDoor
open Go Go.RowKit
set_option linter.unusedVariables false
set_option linter.unusedSimpArgs false

theorem ixS_sts (i : Nat) (h : i < 19) : ixS (sts.getD i 0) = i := by
  have h : i = 0 ∨ i = 1 ∨ i = 2 ∨ i = 3 ∨ i = 4 ∨ i = 5 ∨ i = 6 ∨ i = 7 ∨ i = 8 ∨ i = 9 ∨ i = 10 ∨ i = 11 ∨ i = 12 ∨ i = 13 ∨ i = 14 ∨ i = 15 ∨ i = 16 ∨ i = 17 ∨ i = 18 := by omega
  rcases h with rfl | rfl | rfl | rfl | rfl | rfl | rfl | rfl | rfl | rfl | rfl | rfl | rfl | rfl | rfl | rfl | rfl | rfl | rfl
  all_goals decide
theorem ixE_errs (i : Nat) (h : i < 19) : ixE (errs.getD i 0) = i := by
  have h : i = 0 ∨ i = 1 ∨ i = 2 ∨ i = 3 ∨ i = 4 ∨ i = 5 ∨ i = 6 ∨ i = 7 ∨ i = 8 ∨ i = 9 ∨ i = 10 ∨ i = 11 ∨ i = 12 ∨ i = 13 ∨ i = 14 ∨ i = 15 ∨ i = 16 ∨ i = 17 ∨ i = 18 := by omega
  rcases h with rfl | rfl | rfl | rfl | rfl | rfl | rfl | rfl | rfl | rfl | rfl | rfl | rfl | rfl | rfl | rfl | rfl | rfl | rfl
  all_goals decide
set_option maxHeartbeats 1000000 in
theorem codesTotal_walk (n : Int) (w : World) (ht : Tab w) :
    Calls Tryd.prog 6 #[.int .i64 n] w fun x w' => x = .returned (.bool true) ∧ Ext w w' := by
  have hi : ixE n < 19 := fstC_lt _
  have h1 := fun w ht => status_any n w ht
  have h2 := fun w ht => fromst_any (sts.getD (ixE n) 0) w ht
  have h3 := fun w ht => code_any (errs.getD (ixE n) 0) w ht
  have h4 := fun w ht => fromco_any (ixE n : Int) w ht
  have h5 := fun w ht => code_any n w ht
  rw [ixS_sts _ hi] at h2
  rw [ixE_errs _ hi] at h3
  rw [ixC_in _ hi] at h4
  have HT := Lib.hid ht
  have H1 := Lib.hid h1
  have H2 := Lib.hid h2
  have H3 := Lib.hid h3
  have H4 := Lib.hid h4
  have H5 := Lib.hid h5
  clear h1 h2 h3 h4 h5 ht
  generalize sts.getD (ixE n) 0 = a at *
  generalize errs.getD (ixE n) 0 = b at *
  generalize ixE n = i at *
  go_enter Tryd.func6, Tryd.ntmps6
  go_wp2_with fail
  refine (Calls.mono (H1.out _ HT.out) ?_)
  rintro x w1 ⟨rfl, e1⟩
  go_wp2_with fail
  refine (Calls.mono (H2.out _ (HT.out.ext e1)) ?_)
  rintro x w2 ⟨rfl, e2⟩
  have ext2 := e1.trans e2
  go_wp2_with fail
  refine (Calls.mono (H3.out _ (HT.out.ext ext2)) ?_)
  rintro x w3 ⟨rfl, e3⟩
  have ext3 := ext2.trans e3
  go_wp2_with fail
  refine (Calls.mono (H4.out _ (HT.out.ext ext3)) ?_)
  rintro x w4 ⟨rfl, e4⟩
  have ext4 := ext3.trans e4
  go_wp2_with fail
  refine (Calls.mono (H5.out _ (HT.out.ext ext4)) ?_)
  rintro x w5 ⟨rfl, e5⟩
  have ext5 := ext4.trans e5
  go_wp2_with fail
  refine (livesC_any _ (HT.out.ext ext5)).mono ?_
  rintro e w6 ⟨rfl, e6⟩
  go_wp2
  go_ret
  exact ⟨rfl, ext5.trans e6⟩
end Go.Proofs.YtgbdaohigpnmeaaRRRDoor
