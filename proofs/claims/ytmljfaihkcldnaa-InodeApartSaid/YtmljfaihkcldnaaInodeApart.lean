/-
  The statement InodeApart: its walk.
-/
import Derived.Test.YtmljfaihkcldnaaInoF
namespace Go.Proofs.Ytmljfaihkcldnaa
open Go Go.RowKit
set_option linter.unusedVariables false
set_option linter.unusedSimpArgs false
set_option maxRecDepth 20000 in
set_option maxHeartbeats 2000000 in
theorem ia_walk (many a b x : Int) (w : World) (hm0 : -9223372036854775808 ≤ many) (hm1 : many ≤ 9223372036854775807) (ha0 : -9223372036854775808 ≤ a) (ha1 : a ≤ 9223372036854775807) (hb0 : -9223372036854775808 ≤ b) (hb1 : b ≤ 9223372036854775807) (hx0 : -9223372036854775808 ≤ x) (hx1 : x ≤ 9223372036854775807) :
    Calls Try.prog 6 #[.int .i64 many, .int .i64 a, .int .i64 b, .int .i64 x] w fun e w' => e = .returned (.bool true) ∧ Ext w w' := by
  have HA := Lib.hid (fun w => around_any many 8 w hm0 hm1 (by omega) (by omega))
  obtain ⟨r0, r1⟩ := aroundZ_bound many 8 (by omega)
  obtain ⟨R, hR⟩ := Int.eq_ofNat_of_zero_le r0
  rw [hR] at r0 r1 HA
  clear hR
  have HP := Lib.hid (fun w => around_any a (1 + (R : Int)) w ha0 ha1 (by omega) (by omega))
  obtain ⟨p0, p1⟩ := aroundZ_bound a (1 + (R : Int)) (by omega)
  obtain ⟨P, hP⟩ := Int.eq_ofNat_of_zero_le p0
  rw [hP] at p0 p1 HP
  clear hP
  have HQ := Lib.hid (fun w => around_any b (1 + (R : Int)) w hb0 hb1 (by omega) (by omega))
  obtain ⟨q0, q1⟩ := aroundZ_bound b (1 + (R : Int)) (by omega)
  obtain ⟨Q, hQ⟩ := Int.eq_ofNat_of_zero_le q0
  rw [hQ] at q0 q1 HQ
  clear hQ
  have HN := Lib.hid (fun w => new_int 8 8 w rfl (by omega) (by omega))
  go_enter Try.func6, Try.ntmps6
  go_wp2_with fail
  refine (HA.out _).mono ?_
  rintro e w1 ⟨rfl, rfl⟩
  go_wp2_with fail
  refine (HN.out _).mono ?_
  rintro e w1 ⟨tb, pb, bx, rfl, T1, l1, l2, l3, e1⟩
  have HT1 := Lib.hid T1
  have E1 := Lib.hid e1
  clear T1 e1
  go_wp2_with fail
  go_loopw [12] (fun i wr => ∃ (j : Nat) (TH : Nat → Value) (FU : Nat → Bool) (GE : Nat → Int), j ≤ 1 + R ∧ i = .int .i64 j ∧ Tab_int wr tb pb bx 8 j TH FU GE ∧ Filled 10 j TH FU GE ∧ Ext w wr) (fun i _ => 1 + R - (intOf i).toNat)
  case atStart => exact ⟨0, _, _, _, by omega, rfl, HT1.out, Filled.start 10, E1.out⟩
  case round =>
    obtain ⟨j, TH, FU, GE, hj, rfl, tab, fil, ext⟩ := hrel
    have HT := Lib.hid tab
    have HF := Lib.hid fil
    have EX := Lib.hid ext
    clear tab fil ext
    by_cases hlt : j < 1 + R
    · have HAd := Lib.hid (add_int_ok wr tb pb bx 8 (j : Int) TH FU GE j (10 + (j : Int)) HT.out (by omega) (HF.out.2 j (Nat.le_refl _)).1 (fun y hy => (HF.out.1 y hy).2.1) (by rw [(HF.out.2 j (Nat.le_refl _)).2]; decide) (by rw [(HF.out.2 j (Nat.le_refl _)).2]; decide) (by omega) (by omega))
      go_wp2_with fail
      refine (HAd.out).mono ?_
      rintro e w2 ⟨rfl, T2, b2, f2⟩
      have HT2 := Lib.hid T2
      have E2 := Lib.hid (show Ext w w2 from Below.trans EX.out (b2 _ l1 l2 EX.out.size))
      clear T2 b2 f2
      go_wp2
      go_roundw
      case rel => exact ⟨j + 1, _, _, _, by omega, by go_num, by rw [show ((j + 1 : Nat) : Int) = (j : Int) + 1 by omega]; exact HT2.out, HF.out.next, E2.out⟩
      case measure => simp [intOf]; omega
    · obtain rfl : j = 1 + R := by omega
      have hPl : P < 1 + R := by omega
      have hQl : Q < 1 + R := by omega
      have HS := Lib.hid (set_int_ok wr tb pb bx 8 ((1 + R : Nat) : Int) 1 P TH FU GE x HT.out (by omega) (HF.out.1 P hPl).2.1 (HF.out.1 P hPl).2.2)
      have hrr : ((1 + R : Nat) : Int) = 1 + (R : Int) := by omega
      rw [hrr] at HS
      have HLT := Lib.hid hPl
      clear hrr hPl
      by_cases hPQ : P = Q
      · subst hPQ
        go_wp2_with fail
        refine (HP.out _).mono ?_
        rintro e w2 ⟨rfl, rfl⟩
        go_wp2_with fail
        refine (HQ.out _).mono ?_
        rintro e w2 ⟨rfl, rfl⟩
        go_wp2_with fail
        refine (HS.out).mono ?_
        rintro e w3 ⟨rfl, T3, b3, f3⟩
        have E3 := Lib.hid (show Ext w w3 from Below.trans EX.out (b3 _ l1 l2 EX.out.size))
        have G := get_int_ok w3 tb pb bx 8 (1 + (R : Int)) 1 P _ _ _ T3 (by omega) (HF.out.1 P hQl).2.1 (HF.out.1 P hQl).2.2
        rw [upd_same] at G
        have HG := Lib.hid G
        have HL := Lib.hid (fun w4 h => len_int w4 tb pb bx 8 (1 + (R : Int)) _ _ _ (TabI.ext (w' := w4) T3 h))
        clear G T3 b3 f3
        go_wp2_with fail
        refine (HG.out).mono ?_
        rintro e w4 ⟨rfl, e4⟩
        have hLn := HL.out w4 e4
        have E4 := Lib.hid (E3.out.trans e4)
        have HLn := Lib.hid hLn
        clear e4 hLn
        go_wp2_with fail
        refine (HLn.out).mono ?_
        rintro e w5 ⟨rfl, rfl⟩
        go_wp2_with fail
        refine (lives10 _).mono ?_
        rintro e w5 ⟨rfl, e5⟩
        go_wp2
        go_ret
        exact ⟨rfl, E4.out.trans e5⟩
      · have hne1 : ((P : Int) == (Q : Int)) = false := by rw [beq_eq_false_iff_ne]; omega
        go_wp2_with fail
        refine (HP.out _).mono ?_
        rintro e w2 ⟨rfl, rfl⟩
        go_wp2_with fail
        refine (HQ.out _).mono ?_
        rintro e w2 ⟨rfl, rfl⟩
        go_wp2_with fail
        refine (HS.out).mono ?_
        rintro e w3 ⟨rfl, T3, b3, f3⟩
        have E3 := Lib.hid (show Ext w w3 from Below.trans EX.out (b3 _ l1 l2 EX.out.size))
        have G := get_int_ok w3 tb pb bx 8 (1 + (R : Int)) 1 Q _ _ _ T3 (by omega) (HF.out.1 Q hQl).2.1 (HF.out.1 Q hQl).2.2
        rw [upd_ne _ _ _ _ (fun e => hPQ e.symm), (HF.out.1 Q hQl).1] at G
        have HG := Lib.hid G
        have HL := Lib.hid (fun w4 h => len_int w4 tb pb bx 8 (1 + (R : Int)) _ _ _ (TabI.ext (w' := w4) T3 h))
        clear G T3 b3 f3
        go_wp2_with fail
        refine (HG.out).mono ?_
        rintro e w4 ⟨rfl, e4⟩
        have hLn := HL.out w4 e4
        have E4 := Lib.hid (E3.out.trans e4)
        have HLn := Lib.hid hLn
        clear e4 hLn
        go_wp2_with fail
        refine (HLn.out).mono ?_
        rintro e w5 ⟨rfl, rfl⟩
        go_wp2_with fail
        refine (lives10 _).mono ?_
        rintro e w5 ⟨rfl, e5⟩
        go_wp2
        go_ret
        exact ⟨rfl, E4.out.trans e5⟩
end Go.Proofs.Ytmljfaihkcldnaa
