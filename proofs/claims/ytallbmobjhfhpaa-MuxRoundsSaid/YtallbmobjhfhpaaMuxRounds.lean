/-
  The statement MuxRounds: its walk.
-/
import Derived.Test.YtallbmobjhfhpaaMuxD
namespace Go.Proofs.Ytallbmobjhfhpaa
open Go Go.RowKit
set_option linter.unusedVariables false
set_option linter.unusedSimpArgs false
theorem MuxI.onm {w w' : World} {tb mb tb2 mb2 most : Nat} {next : Int} {L : List (Int × Value)} (h : MuxI w tb mb most next L) (ho : Onm tb2 mb2 w w') (h1 : tb < tb2) (h2 : tb < mb2) (h3 : mb < tb2) (h4 : mb < mb2) : MuxI w' tb mb most next L :=
  ⟨ho.heap h.1 (by omega) (by omega), h.2.1.keep (ho.block mb h.lt.2 (by omega) (by omega)), h.2.2⟩
theorem nxt_0 (j : Nat) (h : j < 4294967296) : nxt 0 j = (j : Int) := by
  unfold nxt
  omega
theorem nxt_up (x j : Nat) (h : j ≤ x) (h2 : x ≤ 1000) : nxt (4294967295 - (x : Int)) j = 4294967295 - (x : Int) + (j : Int) := by
  unfold nxt
  omega
theorem nxt_over (x : Nat) (h2 : x ≤ 1000) : nxt (4294967295 - (x : Int)) (x + 1) = 0 := by
  unfold nxt
  omega
set_option maxRecDepth 20000 in
set_option maxHeartbeats 4000000 in
theorem mr_walk (a b : Int) (w : World) (hm0 : -9223372036854775808 ≤ a) (hm1 : a ≤ 9223372036854775807) (hb0 : -9223372036854775808 ≤ b) (hb1 : b ≤ 9223372036854775807) :
    Calls Try.prog 8 #[.int .i64 a, .int .i64 b] w fun e w' => e = .returned (.bool true) ∧ Ext w w' := by
  go_enter Try.func8, Try.ntmps8
  go_wp2_with fail
  refine (around_any a 5 w hm0 hm1 (by omega) (by omega)).mono ?_
  rintro e w2 ⟨rfl, rfl⟩
  have hr := aroundZ_bound a 5 (by omega)
  obtain ⟨r, hrr⟩ : ∃ r, aroundZ a 5 = r := ⟨_, rfl⟩
  rw [hrr] at hr ⊢
  obtain ⟨r0, r1⟩ := hr
  obtain ⟨x, rfl⟩ := Int.eq_ofNat_of_zero_le r0
  clear hrr r0
  go_wp2_with fail
  refine (around_any b 5 w hb0 hb1 (by omega) (by omega)).mono ?_
  rintro e w2 ⟨rfl, rfl⟩
  have hr := aroundZ_bound b 5 (by omega)
  obtain ⟨r, hrr⟩ : ∃ r, aroundZ b 5 = r := ⟨_, rfl⟩
  rw [hrr] at hr ⊢
  obtain ⟨r0, r2⟩ := hr
  obtain ⟨y, rfl⟩ := Int.eq_ofNat_of_zero_le r0
  clear hrr r0
  go_wp2_with fail
  refine (mnewI_ok 0 16 16 rfl w (by omega) (by omega) (by omega) (by omega)).mono ?_
  rintro e w1 ⟨tb, mb, rfl, hm, ht, hb, e1⟩
  have HM := Lib.hid hm
  have E1 := Lib.hid e1
  clear hm e1
  go_wp2_with fail
  go_loopw [9] (fun i wr => ∃ j : Nat, j ≤ y ∧ i = .int .i64 (j : Int) ∧ MuxI wr tb mb 16 (j : Int) (Lq 0 1 j) ∧ Ext w wr) (fun i _ => y - (intOf i).toNat)
  case atStart => exact ⟨0, by omega, rfl, HM.out, E1.out⟩
  case round =>
    obtain ⟨j, hj, rfl, hm, ext⟩ := hrel
    have HMr := Lib.hid hm
    have EX := Lib.hid ext
    clear hm ext
    by_cases hlt : j < y
    · have hno : hasL (Lq 0 1 j) (j : Int) = false := by
        have := Lq_free 0 1 j (by omega)
        rwa [nxt_0 j (by omega)] at this
      have HNO := Lib.hid hno
      clear hno
      go_wp2_with fail
      refine (mcallI_at tb mb 16 (j : Int) (Lq 0 1 j) 1 (by omega) (by omega) (j : Int) 0 (j : Int) ((j + 1 : Nat) : Int) (free_zero (by omega) (by omega) HNO.out) (by omega) (nxt_zero (by omega) (by omega)) (by unfold nxt; omega) wr HMr.out (by rw [Lq_len _ _ _ (by omega)]; omega)).mono ?_
      rintro e w3 ⟨rfl, hm3, o3⟩
      have HM3 : Hid (MuxI w3 tb mb 16 ((j + 1 : Nat) : Int) (Lq 0 1 (j + 1))) := Lib.hid (by
        show MuxI w3 tb mb 16 ((j + 1 : Nat) : Int) (putL (Lq 0 1 j) (nxt 0 j) (.agg #[.int .u32 1, .int .i64 (j : Int)]))
        rw [nxt_0 j (by omega)]
        exact hm3)
      have E3 := Lib.hid (o3.ext EX.out ht hb)
      clear hm3 o3
      go_wp2
      go_roundw
      case rel => exact ⟨j + 1, by omega, by go_num, HM3.out, E3.out⟩
      case measure => simp [intOf]; omega
    · obtain rfl : y = j := by omega
      go_wp2_with fail
      refine (mnewI_ok (4294967295 - (x : Int)) 16 16 rfl wr (by omega) (by omega) (by omega) (by omega)).mono ?_
      rintro e w4 ⟨tb2, mb2, rfl, hm4, ht2, hb2, e4⟩
      have hl := HMr.out.lt
      have HK := Lib.hid hm4
      have HMM := Lib.hid (HMr.out.ext e4)
      have HLT := Lib.hid (show tb < tb2 ∧ tb < mb2 ∧ mb < tb2 ∧ mb < mb2 by omega)
      have hw2 := Lib.hid (show w.heap.size ≤ tb2 ∧ w.heap.size ≤ mb2 by have := EX.out.size; omega)
      have E4 := Lib.hid (EX.out.trans e4)
      clear hm4 e4 hl ht2 hb2
      go_wp2_with fail
      go_loopw [14] (fun i wr => ∃ j : Nat, j ≤ x + 1 ∧ i = .int .i64 (j : Int) ∧ MuxI wr tb2 mb2 16 (nxt (4294967295 - (x : Int)) j) (Lq (4294967295 - (x : Int)) 1 j) ∧ MuxI wr tb mb 16 (y : Int) (Lq 0 1 y) ∧ Ext w wr) (fun i _ => x + 1 - (intOf i).toNat)
      case atStart => exact ⟨0, by omega, rfl, by rw [nxt_zero (by omega) (by omega)]; exact HK.out, HMM.out, E4.out⟩
      case round =>
        obtain ⟨j, hj, rfl, hk, hm, ext⟩ := hrel
        have HKr := Lib.hid hk
        have HMr2 := Lib.hid hm
        have EX2 := Lib.hid ext
        clear hk hm ext
        by_cases hlt2 : j < x + 1
        · have hup := nxt_up x j (by omega) (by omega)
          have HUP := Lib.hid hup
          clear hup
          go_wp2_with fail
          refine (mcallI_at tb2 mb2 16 (nxt (4294967295 - (x : Int)) j) (Lq (4294967295 - (x : Int)) 1 j) 1 (by omega) (by omega) (j : Int) 0 (4294967295 - (x : Int) + (j : Int)) (nxt (4294967295 - (x : Int)) (j + 1)) (free_zero (nxt_bound _ _).1 (nxt_bound _ _).2 (Lq_free _ _ _ (by omega))) (by omega) (by rw [nxt_zero (nxt_bound _ _).1 (nxt_bound _ _).2]; exact HUP.out) (by rw [nxt_add]) wr HKr.out (by rw [Lq_len _ _ _ (by omega)]; omega)).mono ?_
          rintro e w3 ⟨rfl, hm3, o3⟩
          have HM3 : Hid (MuxI w3 tb2 mb2 16 (nxt (4294967295 - (x : Int)) (j + 1)) (Lq (4294967295 - (x : Int)) 1 (j + 1))) := Lib.hid (by
            show MuxI w3 tb2 mb2 16 (nxt (4294967295 - (x : Int)) (j + 1)) (putL (Lq (4294967295 - (x : Int)) 1 j) (nxt (4294967295 - (x : Int)) j) (.agg #[.int .u32 1, .int .i64 (j : Int)]))
            rw [HUP.out]
            exact hm3)
          have HMM3 := Lib.hid (HMr2.out.onm o3 HLT.out.1 HLT.out.2.1 HLT.out.2.2.1 HLT.out.2.2.2)
          have E3 := Lib.hid (o3.ext EX2.out hw2.out.1 hw2.out.2)
          clear hm3 o3
          go_wp2
          go_roundw
          case rel => exact ⟨j + 1, by omega, by go_num, HM3.out, HMM3.out, E3.out⟩
          case measure => simp [intOf]; omega
        · obtain rfl : j = x + 1 := by omega
          have ho := nxt_over x (by omega)
          have hfree := Lq_free (4294967295 - (x : Int)) 1 (x + 1) (by omega)
          rw [ho] at hfree HKr
          have HFR := Lib.hid hfree
          clear ho hfree
          have ht3 : ¬ ((x : Int) + 1 ≤ (x : Int)) := by omega
          go_wp2_with fail
          refine (mcallI_at tb2 mb2 16 0 _ 1 (by omega) (by omega) 9 0 0 1 (free_zero (by omega) (by omega) HFR.out) (by omega) (by decide) (by decide) wr HKr.out (by rw [Lq_len _ _ _ (by omega)]; omega)).mono ?_
          rintro e w5 ⟨rfl, hm5, o5⟩
          have hl5 := len_put_new (.agg #[.int .u32 1, .int .i64 9]) HFR.out
          rw [Lq_len _ _ _ (by omega)] at hl5
          have HL5 := Lib.hid hl5
          have HM5 := Lib.hid hm5
          have HMM5 := Lib.hid (HMr2.out.onm o5 HLT.out.1 HLT.out.2.1 HLT.out.2.2.1 HLT.out.2.2.2)
          have E5 := Lib.hid (o5.ext EX2.out hw2.out.1 hw2.out.2)
          clear hm5 o5 hl5
          go_wp2_with fail
          refine (mlenI_any tb mb 16 _ _ w5 HMM5.out).mono ?_
          rintro e w7 ⟨rfl, rfl⟩
          rw [Lq_len _ _ _ (by omega)]
          go_wp2_with fail
          refine (mlenI_any tb2 mb2 16 _ _ w5 HM5.out).mono ?_
          rintro e w7 ⟨rfl, rfl⟩
          rw [HL5.out, show ((x + 1 + 1 : Nat) : Int) = (x : Int) + 2 by omega]
          go_wp2_with fail
          refine (mlives_any _).mono ?_
          rintro e w8 ⟨rfl, e8⟩
          go_wp2
          go_ret
          exact ⟨rfl, E5.out.trans e8⟩
end Go.Proofs.Ytallbmobjhfhpaa
