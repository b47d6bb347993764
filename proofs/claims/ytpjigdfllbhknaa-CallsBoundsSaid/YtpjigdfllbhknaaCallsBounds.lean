/-
  Layer 14: the statement CallsBounds: its walk.
-/
import Derived.Test.YtpjigdfllbhknaaCalI
import Derived.Test.YtpjigdfllbhknaaCopy
namespace Go.Proofs.Ytpjigdfllbhknaa
open Go Go.RowKit
set_option linter.unusedVariables false
set_option linter.unusedSimpArgs false
theorem sees_madeC (w : World) (K : Nat) (hK : K ≤ 4194304) : Sees (w.alloc (.cells (madeCells #[.int .u8 0] K) 5)) (some ⟨w.heap.size, 0, none⟩) K K (bs (zeros K)) := by
  obtain ⟨A, c, h1, h2⟩ := Sees.of_own (own_made w 0 K K (Nat.zero_le _) (Nat.le_refl _) hK)
  injection h1 with q1 q2 q3
  subst q1 q3
  exact h2
theorem may_n (nm : List UInt8) : mayA (⟨3, 0, 0, 0, 0, 0, 0, 0, 0, nm, [], none, 0, 0⟩ : AR) [] = decide ((nm.length : Int) ≤ 64) := by
  simp [mayA, psM, psA, stA, woA, bnA, fl, kn, cEq, AR.zero, dlA, bi]
theorem may_2 (nm : List UInt8) : mayA (⟨14, 0, 0, 0, 0, 0, 0, 0, 0, [], nm, none, 0, 0⟩ : AR) [] = decide ((nm.length : Int) ≤ 64) := by
  simp [mayA, psM, psA, stA, woA, bnA, fl, kn, cEq, AR.zero, dlA, bi]
theorem may_w (A : Option Addr) (n c : Nat) (l : List UInt8) : mayA (⟨7, 0, 0, 0, 0, 0, 0, 0, 0, [], [], A, n, c⟩ : AR) l = decide ((n : Int) ≤ 2048) := by
  simp [mayA, psM, psA, stA, woA, bnA, fl, kn, cEq, AR.zero, dlA, bi]
set_option maxRecDepth 20000 in
set_option maxHeartbeats 2000000 in
theorem cb_walk (n m : Int) (w : World) (hn0 : -9223372036854775808 ≤ n) (hn1 : n ≤ 9223372036854775807) (hm0 : -9223372036854775808 ≤ m) (hm1 : m ≤ 9223372036854775807) :
    Calls Try.prog 4 #[.int .i64 n, .int .i64 m] w fun e w' => e = .returned (.bool true) ∧ Ext w w' := by
  go_enter Try.func4, Try.ntmps4
  go_wp2_with fail
  refine (around_any n 11 _ hn0 hn1 (by omega) (by omega)).mono ?_
  rintro e w1 ⟨rfl, rfl⟩
  have hr := aroundZ_bound n 11 (by omega)
  generalize aroundZ n 11 = n' at *
  obtain ⟨R, rfl⟩ := Int.eq_ofNat_of_zero_le hr.1
  have hR : R < 11 := by omega
  clear hr
  go_wp2_with fail
  refine (around_any m 12 _ hm0 hm1 (by omega) (by omega)).mono ?_
  rintro e w1 ⟨rfl, rfl⟩
  have hr := aroundZ_bound m 12 (by omega)
  generalize aroundZ m 12 = m' at *
  obtain ⟨D, rfl⟩ := Int.eq_ofNat_of_zero_le hr.1
  have hD : D < 12 := by omega
  clear hr
  have hmk := fun w => make_bytes (60 + R) (60 + R) (Nat.le_refl _) (by omega) w
  have hzz : ((60 + R : Nat) : Int) = 60 + (R : Int) := by omega
  rw [hzz] at hmk
  have st := str_of (sees_madeC w (60 + R) (by omega))
  have E0 : Hid (Ext w (w.alloc (.cells (madeCells #[.int .u8 0] (60 + R)) 5))) := Lib.hid ((Ext.refl _).alloc _)
  clear hzz
  have HL : Hid ((zeros (60 + R)).length = 60 + R) := Lib.hid (by simp [zeros])
  go_wp2_with fail
  clear hmk st
  generalize zeros (60 + R) = nm at *
  generalize w.alloc (.cells (madeCells #[.int .u8 0] (60 + R)) 5) = w0 at *
  refine (cmay_any (⟨3, 0, 0, 0, 0, 0, 0, 0, 0, nm, [], none, 0, 0⟩ : AR) [] w0 (Sees.nil _)).mono ?_
  rintro e w1 ⟨rfl, e1⟩
  rw [may_n, HL.out, show ((60 + R : Nat) : Int) = 60 + (R : Int) from by omega]
  have E1 := Lib.hid (E0.out.trans e1)
  clear e1 E0
  go_wp2_with fail
  refine (cmay_any (⟨14, 0, 0, 0, 0, 0, 0, 0, 0, [], nm, none, 0, 0⟩ : AR) [] w1 (Sees.nil _)).mono ?_
  rintro e w2 ⟨rfl, e2⟩
  rw [may_2, HL.out, show ((60 + R : Nat) : Int) = 60 + (R : Int) from by omega]
  have E2 := Lib.hid (E1.out.trans e2)
  clear e2 E1
  have hmk := fun w => make_bytes (2040 + D) (2040 + D) (Nat.le_refl _) (by omega) w
  have hzz : ((2040 + D : Nat) : Int) = 2040 + (D : Int) := by omega
  rw [hzz] at hmk
  have SD := Lib.hid (sees_madeC w2 (2040 + D) (by omega))
  have E3 := Lib.hid (E2.out.alloc (.cells (madeCells #[.int .u8 0] (2040 + D)) 5))
  clear E2
  go_wp2_with fail
  clear hmk hzz
  refine (cmay_any (⟨7, 0, 0, 0, 0, 0, 0, 0, 0, [], [], some ⟨w2.heap.size, 0, none⟩, 2040 + D, 2040 + D⟩ : AR) (zeros (2040 + D)) _ SD.out).mono ?_
  rintro e w4 ⟨rfl, e4⟩
  rw [may_w, show ((2040 + D : Nat) : Int) = 2040 + (D : Int) from by omega]
  have E4 := Lib.hid (E3.out.trans e4)
  clear e4 E3 SD
  go_wp2_with fail
  refine (lives14 _).mono ?_
  rintro e w7 ⟨rfl, e7⟩
  have E7 := Lib.hid (E4.out.trans e7)
  clear e7 E4
  go_wp2_with fail
  go_ret
  exact ⟨rfl, E7.out⟩
end Go.Proofs.Ytpjigdfllbhknaa
