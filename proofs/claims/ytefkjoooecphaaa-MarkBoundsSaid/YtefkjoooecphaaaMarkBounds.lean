/-
  The statement MarkBounds: its walk.
-/
import Derived.Test.YtefkjoooecphaaaMarkC
import Derived.Test.YtefkjoooecphaaaCopy
namespace Go.Proofs.Ytefkjoooecphaaa
open Go Go.RowKit
set_option linter.unusedVariables false
set_option linter.unusedSimpArgs false

theorem sees_madeM (w : World) (K : Nat) (hK : K ≤ 4194304) : Sees (w.alloc (.cells (madeCells #[.int .u8 0] K) 5)) (some ⟨w.heap.size, 0, none⟩) K K (bs (zeros K)) := by
  obtain ⟨A, c, h1, h2⟩ := Sees.of_own (own_made w 0 K K (Nat.zero_le _) (Nat.le_refl _) hK)
  injection h1 with q1 q2 q3
  subst q1 q3
  exact h2
theorem mkE_max {K : Nat} (h : K ≤ 4096) : mkE K 4096 = 0 := by
  unfold mkE
  rw [if_neg (by omega), if_neg (by omega)]
  have h1 : (4096 : Int).toNat = 4096 := rfl
  rw [h1, cnt_small (by omega) h, if_neg (by omega)]
theorem mkE_over {K : Nat} (h : 4096 < K) : mkE K 4096 = 4 := by
  unfold mkE
  rw [if_neg (by omega), if_pos h]

set_option maxHeartbeats 1000000 in
theorem mbounds_walk (n s : Int) (w : World) (hn0 : -9223372036854775808 ≤ n) (hn1 : n ≤ 9223372036854775807) (hs0 : -9223372036854775808 ≤ s) (hs1 : s ≤ 9223372036854775807) :
    Calls Try.prog 11 #[.int .i64 n, .int .i64 s] w fun e w' => e = .returned (.bool true) ∧ Ext w w' := by
  go_enter Try.func11, Try.ntmps11
  go_wp2_with fail
  refine (around_any n 12 _ hn0 hn1 (by omega) (by omega)).mono ?_
  rintro e w1 ⟨rfl, rfl⟩
  have hr := aroundZ_bound n 12 (by omega)
  generalize aroundZ n 12 = n' at *
  obtain ⟨R, rfl⟩ := Int.eq_ofNat_of_zero_le hr.1
  have hR : R < 12 := by omega
  clear hr
  go_wp2_with fail
  refine (around_any s 11 _ hs0 hs1 (by omega) (by omega)).mono ?_
  rintro e w1 ⟨rfl, rfl⟩
  have hr := aroundZ_bound s 11 (by omega)
  generalize aroundZ s 11 = s' at *
  have hmk := fun w => make_bytes (4090 + R) (4090 + R) (Nat.le_refl _) (by omega) w
  have hzz : ((4090 + R : Nat) : Int) = 4090 + (R : Int) := by omega
  rw [hzz] at hmk
  have see0 := sees_madeM w (4090 + R) (by omega)
  have ext0 : Ext w (w.alloc (.cells (madeCells #[.int .u8 0] (4090 + R)) 5)) := (Ext.refl _).alloc _
  clear hzz
  go_wp2_with fail
  clear hmk
  generalize w.alloc (.cells (madeCells #[.int .u8 0] (4090 + R)) 5) = w0 at *
  generalize w.heap.size = z0 at *
  refine (mark_all _ _ _ _ _ _ see0 (by omega) (by omega) (by omega)).mono ?_
  rintro e w2 ⟨v2, rfl, own2, e2⟩
  obtain ⟨A2, c2, rfl, see2⟩ := Sees.of_own own2
  have see0b := see0.ext e2
  have ext2 := ext0.trans e2
  clear own2 see0 ext0 e2
  go_wp2_with fail
  refine (rmark_all _ _ _ _ _ _ see0b (by omega) (by omega) (by omega)).mono ?_
  rintro e w3 ⟨v3, rfl, own3, e3⟩
  obtain ⟨A3, c3, rfl, see3⟩ := Sees.of_own own3
  have see0c := see0b.ext e3
  have see2c := see2.ext e3
  have ext3 := ext2.trans e3
  clear own3 see0b ext2 e3 see2
  go_wp2_with fail
  refine (mark_all _ _ _ _ _ _ see0c (by omega) (by omega) (by omega)).mono ?_
  rintro e w4 ⟨v4, rfl, own4, e4⟩
  obtain ⟨A4, c4, rfl, see4⟩ := Sees.of_own own4
  have h2 := str_of (see2c.ext e4)
  have h3 := str_of (see3.ext e4)
  have ext4 := ext3.trans e4
  clear own4 see0c ext3 e4 see2c see3 see4
  generalize mkE (4090 + R) (60 + s') = ev at *
  generalize (mkL (4090 + R) 4096 (zeros (4090 + R))).length = len4 at *
  by_cases hK : 4090 + R ≤ 4096
  · have hE := mkE_max hK
    rw [hE]
    clear hE
    have hKi : 4090 + (R : Int) ≤ 4096 := by omega
    go_wp2_with fail
    refine (markLives_any _).mono ?_
    rintro e w6 ⟨rfl, e6⟩
    go_wp2
    go_ret
    exact ⟨rfl, ext4.trans e6⟩
  · have hE := mkE_over (show 4096 < 4090 + R by omega)
    rw [hE]
    clear hE
    have hKi : ¬ 4090 + (R : Int) ≤ 4096 := by omega
    go_wp2_with fail
    refine (markLives_any _).mono ?_
    rintro e w6 ⟨rfl, e6⟩
    go_wp2
    go_ret
    refine ⟨?_, ext4.trans e6⟩
    show Ending.returned (Value.bool (!decide (4090 + (R : Int) ≤ 4096))) = _
    simp
    omega
end Go.Proofs.Ytefkjoooecphaaa
