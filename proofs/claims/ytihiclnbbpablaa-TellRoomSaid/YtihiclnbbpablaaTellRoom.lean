/-
  Layer 18: the statement TellRoom: its walk.
-/
import Derived.Test.YtihiclnbbpablaaTellBounds
import Derived.Test.YtihiclnbbpablaaTellR
namespace Go.Proofs.Ytihiclnbbpablaa
open Go Go.RowKit
set_option linter.unusedVariables false
set_option linter.unusedSimpArgs false
def roomZ (m : Int) : Int := if m < 24 then 0 else m - 24
theorem room_any (m : Int) (w : World) (h0 : -9223372036854775808 ≤ m) (h1 : m ≤ 9223372036854775807) : Calls Try.prog 24 #[.int .i64 m] w fun e w' => e = .returned (.int .i64 (roomZ m)) ∧ w = w' := by
  by_cases h : m < 24
  · go_enter Try.func24, Try.ntmps24
    go_wp2
    go_ret
    exact ⟨by simp [roomZ, h], rfl⟩
  · go_enter Try.func24, Try.ntmps24
    go_wp2
    go_ret
    exact ⟨by rw [show roomZ m = m - 24 from by unfold roomZ; rw [if_neg (by omega)]]; rfl, rfl⟩
set_option maxRecDepth 400000 in
set_option maxHeartbeats 2000000 in
theorem tr_walk1 (s tag code : Int) (w : World) (hs0 : -9223372036854775808 ≤ s) (hs1 : s ≤ 9223372036854775807) (hbig : 24 < s) :
    Calls Try.prog 6 #[.int .i64 s, .int .i64 tag, .int .i64 code] w fun e w' => e = .returned (.bool true) ∧ Ext w w' := by
  have HRS := Lib.hid (fun w => room_any s w hs0 hs1)
  have hw1 : roomZ s = s - 24 := by unfold roomZ; split <;> omega
  have HW1 := Lib.hid hw1
  clear hw1
  go_enter Try.func6, Try.ntmps6
  go_wp2_with fail
  refine (around_any s 1025 _ hs0 hs1 (by omega) (by omega)).mono ?_
  rintro e w1 ⟨rfl, rfl⟩
  have hr := aroundZ_bound s 1025 (by omega)
  generalize aroundZ s 1025 = n' at *
  obtain ⟨R, rfl⟩ := Int.eq_ofNat_of_zero_le hr.1
  have hR : R < 1025 := by omega
  clear hr
  go_wp2_with fail
  refine (room_any (24 + (R : Int)) _ (by omega) (by omega)).mono ?_
  rintro e w1 ⟨rfl, rfl⟩
  rw [show roomZ (24 + (R : Int)) = (R : Int) from by unfold roomZ; split <;> omega]
  have hmk := fun w => make_bytes R R (Nat.le_refl _) (by omega) w
  have SD := Lib.hid (sees_madeT w R (by omega))
  have E3 := Lib.hid ((Ext.refl w).alloc (.cells (madeCells #[.int .u8 0] R) 5))
  go_wp2_with fail
  clear hmk
  have hm : mayT (⟨117, 0, 0, 0, 0, 0, [], (false, 0, 0), none, 0, 0, [], some ⟨w.heap.size, 0, none⟩, R, R, zeros R, (false, 0, 0), 0, 0, []⟩ : TL) = true := by rw [may_d, decide_eq_true_eq]; omega
  have HLT : Hid ((tw (⟨117, 0, 0, 0, 0, 0, [], (false, 0, 0), none, 0, 0, [], some ⟨w.heap.size, 0, none⟩, R, R, zeros R, (false, 0, 0), 0, 0, []⟩ : TL)).length = 11 + R) := Lib.hid (by simp [tw, fl, bd, ly, lpk, le_length, zeros]; omega)
  refine (twrite_ok (⟨117, 0, 0, 0, 0, 0, [], (false, 0, 0), none, 0, 0, [], some ⟨w.heap.size, 0, none⟩, R, R, zeros R, (false, 0, 0), 0, 0, []⟩ : TL) _ ⟨SeesQ.nil _, SD.out⟩ hm).mono ?_
  rintro e w4 ⟨v4, rfl, own4, e4⟩
  obtain ⟨N, hN⟩ : ∃ N, 11 + R = N := ⟨_, rfl⟩
  obtain ⟨A4, c4, rfl, see4⟩ := own_sees own4 (HLT.out.trans hN)
  have hNle : (N : Int) ≤ 24 + (R : Int) := by omega
  clear hN
  have E4 := Lib.hid (E3.out.trans e4)
  clear e4 E3 SD see4 own4 hm
  go_wp2_with fail
  refine (HRS.out _).mono ?_
  rintro e w5 ⟨rfl, rfl⟩
  rw [HW1.out]
  have hrr : ((R : Int) == 24 + (R : Int) - 24) = true := by rw [beq_iff_eq]; omega
  go_wp2_with fail
  refine (terror_any tag code _).mono ?_
  rintro e w6 ⟨rfl, e6⟩
  have E6 := Lib.hid (E4.out.trans e6)
  clear e6 E4
  go_wp2_with fail
  refine (rsame_any (TL.err tag code) (TL.err tag code) _ (TL.err_ok _ _ _) (TL.err_ok _ _ _) (by show 0 ≤ _; omega)).mono ?_
  rintro e w7 ⟨rfl, e7⟩
  rw [show rEq (TL.err tag code) (TL.err tag code) = true from by simp [rEq, fEq]]
  have E7 := Lib.hid (E6.out.trans e7)
  clear e7 E6
  go_wp2_with fail
  refine (tlives_any _).mono ?_
  rintro e w8 ⟨rfl, e8⟩
  have E8 := Lib.hid (E7.out.trans e8)
  go_wp2_with fail
  go_ret
  exact ⟨rfl, E8.out⟩
set_option maxRecDepth 400000 in
set_option maxHeartbeats 2000000 in
theorem tr_walk0 (s tag code : Int) (w : World) (hs0 : -9223372036854775808 ≤ s) (hs1 : s ≤ 9223372036854775807) (hbig : ¬ 24 < s) :
    Calls Try.prog 6 #[.int .i64 s, .int .i64 tag, .int .i64 code] w fun e w' => e = .returned (.bool true) ∧ Ext w w' := by
  have HRS := Lib.hid (fun w => room_any s w hs0 hs1)
  have hw1 : roomZ s = 0 := by unfold roomZ; split <;> omega
  have HW1 := Lib.hid hw1
  clear hw1
  go_enter Try.func6, Try.ntmps6
  go_wp2_with fail
  refine (around_any s 1025 _ hs0 hs1 (by omega) (by omega)).mono ?_
  rintro e w1 ⟨rfl, rfl⟩
  have hr := aroundZ_bound s 1025 (by omega)
  generalize aroundZ s 1025 = n' at *
  obtain ⟨R, rfl⟩ := Int.eq_ofNat_of_zero_le hr.1
  have hR : R < 1025 := by omega
  clear hr
  go_wp2_with fail
  refine (room_any (24 + (R : Int)) _ (by omega) (by omega)).mono ?_
  rintro e w1 ⟨rfl, rfl⟩
  rw [show roomZ (24 + (R : Int)) = (R : Int) from by unfold roomZ; split <;> omega]
  have hmk := fun w => make_bytes R R (Nat.le_refl _) (by omega) w
  have SD := Lib.hid (sees_madeT w R (by omega))
  have E3 := Lib.hid ((Ext.refl w).alloc (.cells (madeCells #[.int .u8 0] R) 5))
  go_wp2_with fail
  clear hmk
  have hm : mayT (⟨117, 0, 0, 0, 0, 0, [], (false, 0, 0), none, 0, 0, [], some ⟨w.heap.size, 0, none⟩, R, R, zeros R, (false, 0, 0), 0, 0, []⟩ : TL) = true := by rw [may_d, decide_eq_true_eq]; omega
  have HLT : Hid ((tw (⟨117, 0, 0, 0, 0, 0, [], (false, 0, 0), none, 0, 0, [], some ⟨w.heap.size, 0, none⟩, R, R, zeros R, (false, 0, 0), 0, 0, []⟩ : TL)).length = 11 + R) := Lib.hid (by simp [tw, fl, bd, ly, lpk, le_length, zeros]; omega)
  refine (twrite_ok (⟨117, 0, 0, 0, 0, 0, [], (false, 0, 0), none, 0, 0, [], some ⟨w.heap.size, 0, none⟩, R, R, zeros R, (false, 0, 0), 0, 0, []⟩ : TL) _ ⟨SeesQ.nil _, SD.out⟩ hm).mono ?_
  rintro e w4 ⟨v4, rfl, own4, e4⟩
  obtain ⟨N, hN⟩ : ∃ N, 11 + R = N := ⟨_, rfl⟩
  obtain ⟨A4, c4, rfl, see4⟩ := own_sees own4 (HLT.out.trans hN)
  have hNle : (N : Int) ≤ 24 + (R : Int) := by omega
  clear hN
  have E4 := Lib.hid (E3.out.trans e4)
  clear e4 E3 SD see4 own4 hm
  go_wp2_with fail
  refine (HRS.out _).mono ?_
  rintro e w5 ⟨rfl, rfl⟩
  rw [HW1.out]
  have hrr : ((R : Int) == 24 + (R : Int) - 24) = true := by rw [beq_iff_eq]; omega
  go_wp2_with fail
  refine (terror_any tag code _).mono ?_
  rintro e w6 ⟨rfl, e6⟩
  have E6 := Lib.hid (E4.out.trans e6)
  clear e6 E4
  go_wp2_with fail
  refine (rsame_any (TL.err tag code) (TL.err tag code) _ (TL.err_ok _ _ _) (TL.err_ok _ _ _) (by show 0 ≤ _; omega)).mono ?_
  rintro e w7 ⟨rfl, e7⟩
  rw [show rEq (TL.err tag code) (TL.err tag code) = true from by simp [rEq, fEq]]
  have E7 := Lib.hid (E6.out.trans e7)
  clear e7 E6
  go_wp2_with fail
  refine (tlives_any _).mono ?_
  rintro e w8 ⟨rfl, e8⟩
  have E8 := Lib.hid (E7.out.trans e8)
  go_wp2_with fail
  go_ret
  exact ⟨rfl, E8.out⟩
end Go.Proofs.Ytihiclnbbpablaa
