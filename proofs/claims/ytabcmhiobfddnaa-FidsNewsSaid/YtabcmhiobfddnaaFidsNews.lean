/-
  The statement FidsNews: its walk.
-/
import Derived.Test.YtabcmhiobfddnaaFidB
namespace Go.Proofs.Ytabcmhiobfddnaa
open Go Go.RowKit
set_option linter.unusedVariables false
set_option linter.unusedSimpArgs false
def Lf : Nat → List (Int × Value)
  | 0 => []
  | i + 1 => putL (Lf i) (i : Int) (.agg #[.int .i64 0, .int .i64 0, .int .i64 0, .int .i64 0, .string ⟨#[]⟩, .bool false, .bool false, .int .i64 0, .int .i64 (i : Int), .int .i64 0])
theorem Lf_no : ∀ (i j : Nat), i ≤ j → hasL (Lf i) (j : Int) = false
  | 0, _, _ => rfl
  | i + 1, j, h => by
    unfold Lf
    rw [has_put_other _ _ _ _ (by omega)]
    exact Lf_no i j (by omega)
theorem Lf_len : ∀ i, (Lf i).length = i
  | 0 => rfl
  | i + 1 => by
    unfold Lf
    rw [len_put_new _ (Lf_no i i (by omega)), Lf_len i]
set_option maxRecDepth 20000 in
set_option maxHeartbeats 4000000 in
theorem fn_walk (most : Int) (w : World) (hm0 : -9223372036854775808 ≤ most) (hm1 : most ≤ 9223372036854775807) :
    Calls Try.prog 4 #[.int .i64 most] w fun e w' => e = .returned (.bool true) ∧ Ext w w' := by
  go_enter Try.func4, Try.ntmps4
  go_wp2_with fail
  refine (around_any most 19 w hm0 hm1 (by omega) (by omega)).mono ?_
  rintro e w1 ⟨rfl, rfl⟩
  have hr := aroundZ_bound most 19 (by omega)
  obtain ⟨r, hrr⟩ : ∃ r, aroundZ most 19 = r := ⟨_, rfl⟩
  rw [hrr] at hr ⊢
  clear hrr
  have hblk := heap_alloc_new w (.cells #[.int .i64 most, .int .i64 r] 3)
  have ea : Ext w (w.alloc (.cells #[.int .i64 most, .int .i64 r] 3)) := (Ext.refl _).alloc _
  have hks : ∀ k, k < 2 → ∃ K : Int, -9223372036854775808 ≤ K ∧ K ≤ 9223372036854775807 ∧ (w.alloc (.cells #[.int .i64 most, .int .i64 r] 3)).cell? ⟨w.heap.size, k, none⟩ = some (.int .i64 K) := fun k hk => by
    have hc := fun i => cell_of_row _ w.heap.size i _ _ _ hblk
    match k, hk with
    | 0, _ => exact ⟨most, by omega, by omega, by rw [hc 0]; rfl⟩
    | 1, _ => exact ⟨r, by omega, by omega, by rw [hc 1]; rfl⟩
  have HKS := Lib.hid hks
  have EA := Lib.hid ea
  clear hks hblk hr ea
  go_wp2_with fail
  obtain ⟨w0, hw0⟩ : ∃ w0, w.alloc (.cells #[.int .i64 most, .int .i64 r] 3) = w0 := ⟨_, rfl⟩
  rw [hw0] at HKS EA ⊢
  clear hw0
  obtain ⟨z0, hz0⟩ : ∃ z0, w.heap.size = z0 := ⟨_, rfl⟩
  rw [hz0] at HKS ⊢
  clear hz0
  go_loopw [4] (fun i wr => ∃ k : Nat, k ≤ 2 ∧ i = .int .i64 k ∧ Ext w0 wr) (fun i _ => 2 - (intOf i).toNat)
  case atStart => exact ⟨0, by omega, rfl, Ext.refl _⟩
  case round =>
    obtain ⟨k, hk, rfl, extk⟩ := hrel
    by_cases hlt : k < 2
    · obtain ⟨K, hK0, hK1, hc0⟩ := HKS.out k hlt
      have KC := Lib.hid (fun w' (e : Ext wr w') => (extk.trans e).cell hc0)
      have EK := Lib.hid extk
      clear hc0 extk
      have r0 := KC.out wr (Ext.refl _)
      by_cases hin : 1 ≤ K ∧ K ≤ 16
      · obtain ⟨hi1, hi2⟩ := hin
        obtain ⟨M, rfl⟩ := Int.eq_ofNat_of_zero_le (show 0 ≤ K by omega)
        go_wp2_with fail
        clear r0
        refine (fnew_ok (M : Int) M rfl wr (by omega) (by omega)).mono ?_
        rintro e w2 ⟨tb, mb, rfl, hm, ht, hb, e2⟩
        have HM := Lib.hid hm
        have r2 := KC.out w2 e2
        have E2 := Lib.hid e2
        clear hm e2
        go_wp2_with fail
        clear r2
        go_loopw [8] (fun i wq => ∃ j : Nat, j ≤ 17 ∧ i = .int .i64 (j : Int) ∧ FidT wq tb mb M (Lf (min j M)) ∧ Ext wr wq) (fun i _ => 17 - (intOf i).toNat)
        case atStart => exact ⟨0, by omega, rfl, by rw [Nat.zero_min]; exact HM.out, E2.out⟩
        case round =>
          obtain ⟨j, hj, rfl, hmj, extj⟩ := hrel
          have HMJ := Lib.hid hmj
          have EJ := Lib.hid extj
          clear hmj extj
          by_cases hlj : j < 17
          · have hno := Lf_no (min j M) j (by omega)
            have hln := Lf_len (min j M)
            have HNO := Lib.hid hno
            have HLN := Lib.hid hln
            clear hno hln
            by_cases hjM : j < M
            · have t1 : decide (j < M) = true := by simpa using hjM
              go_wp2_with fail
              refine (fadd_ok tb mb M (Lf (min j M)) (j : Int) 0 0 0 0 ⟨#[]⟩ false false 0 (j : Int) 0 HNO.out (by rw [HLN.out]; omega) (by omega) (by omega) wr HMJ.out).mono ?_
              rintro e w3 ⟨rfl, hm3, o3⟩
              have E3 := Lib.hid (o3.ext EJ.out ht hb)
              have HM3 : Hid (FidT w3 tb mb M (Lf (min (j + 1) M))) := Lib.hid (by
                rw [show min (j + 1) M = min j M + 1 by omega]
                unfold Lf
                rw [show ((min j M : Nat) : Int) = (j : Int) by omega]
                exact hm3)
              have r3 := KC.out w3 E3.out
              clear hm3 o3
              go_wp2
              go_roundw
              case rel => exact ⟨j + 1, by omega, by go_num, HM3.out, E3.out⟩
              case measure => simp [intOf]; omega
            · have t1 : decide (j < M) = false := by simpa using hjM
              go_wp2_with fail
              refine (fadd_full tb mb M (Lf (min j M)) (j : Int) 0 0 0 0 ⟨#[]⟩ false false 0 (j : Int) 0 HNO.out (by rw [HLN.out]; omega) (by omega) (by omega) wr HMJ.out).mono ?_
              rintro e w3 ⟨rfl, e3⟩
              have E3 := Lib.hid (EJ.out.trans e3)
              have HM3 : Hid (FidT w3 tb mb M (Lf (min (j + 1) M))) := Lib.hid (by
                rw [show min (j + 1) M = min j M by omega]
                exact HMJ.out.ext e3)
              have r3 := KC.out w3 E3.out
              clear e3
              go_wp2
              go_roundw
              case rel => exact ⟨j + 1, by omega, by go_num, HM3.out, E3.out⟩
              case measure => simp [intOf]; omega
          · obtain rfl : j = 17 := by omega
            have E3 := Lib.hid (EK.out.trans EJ.out)
            go_wp2
            go_roundw
            case rel => exact ⟨k + 1, by omega, by go_num, E3.out⟩
            case measure => simp [intOf]; omega
      · have hin1 : K < 1 ∨ (1 ≤ K ∧ 16 < K) := by omega
        clear hin
        have HNo := Lib.hid (fun w => fnew_no K w (by omega))
        rcases hin1 with hi | ⟨hi, hj⟩
        · have t1 : decide (1 ≤ K) = false := by simpa using hi
          go_wp2_with fail
          refine (HNo.out wr).mono ?_
          rintro e w2 ⟨rfl, rfl⟩
          go_wp2_with fail
          go_loopw [8] (fun i wq => i = .int .i64 0 ∧ wq = wr) (fun i _ => 0)
          case atStart => exact ⟨rfl, rfl⟩
          case round =>
            obtain ⟨rfl, rfl⟩ := hrel
            go_wp2
            go_roundw
            case rel => exact ⟨k + 1, by omega, by go_num, EK.out⟩
            case measure => simp [intOf]; omega
        · have t1 : decide (K ≤ 16) = false := by simpa using hj
          go_wp2_with fail
          refine (HNo.out wr).mono ?_
          rintro e w2 ⟨rfl, rfl⟩
          go_wp2_with fail
          go_loopw [8] (fun i wq => i = .int .i64 0 ∧ wq = wr) (fun i _ => 0)
          case atStart => exact ⟨rfl, rfl⟩
          case round =>
            obtain ⟨rfl, rfl⟩ := hrel
            go_wp2
            go_roundw
            case rel => exact ⟨k + 1, by omega, by go_num, EK.out⟩
            case measure => simp [intOf]; omega
    · obtain rfl : k = 2 := by omega
      have E2 := Lib.hid (Ext.trans EA.out extk)
      clear extk
      go_wp2_with fail
      refine (flives_any _).mono ?_
      rintro e w5 ⟨rfl, e5⟩
      go_wp2
      go_ret
      exact ⟨rfl, E2.out.trans e5⟩
end Go.Proofs.Ytabcmhiobfddnaa
