/-
  The statement MuxNews: its walk.
-/
import Derived.Test.YtallbmobjhfhpaaMuxC
namespace Go.Proofs.Ytallbmobjhfhpaa
open Go Go.RowKit
set_option linter.unusedVariables false
set_option linter.unusedSimpArgs false
set_option maxRecDepth 20000 in
set_option maxHeartbeats 4000000 in
theorem mn_walk (most first : Int) (w : World) (hm0 : -9223372036854775808 ≤ most) (hm1 : most ≤ 9223372036854775807) (hf0 : 0 ≤ first) (hf1 : first < 4294967296) :
    Calls Try.prog 4 #[.int .i64 most, .int .u32 first] w fun e w' => e = .returned (.bool true) ∧ Ext w w' := by
  go_enter Try.func4, Try.ntmps4
  go_wp2_with fail
  refine (around_any most 19 w hm0 hm1 (by omega) (by omega)).mono ?_
  rintro e w1 ⟨rfl, rfl⟩
  have hr := aroundZ_bound most 19 (by omega)
  obtain ⟨r, hrr⟩ : ∃ r, aroundZ most 19 = r := ⟨_, rfl⟩
  rw [hrr] at hr ⊢
  clear hrr
  have hblk := heap_alloc_new w (.cells #[.int .i64 most, .int .i64 r] 3)
  have ea : Ext w (w.alloc (.cells #[.int .i64 most, .int .i64 r] 3)) := (Ext.refl _).alloc _
  have hks : ∀ k, k < 2 → ∃ K : Int, -9223372036854775808 ≤ K ∧ K ≤ 9223372036854775807 ∧ (w.alloc (.cells #[.int .i64 most, .int .i64 r] 3)).cell? ⟨w.heap.size, k, none⟩ = some (.int .i64 K) := fun k hk => by
    have hc := fun i => cell_of_row _ w.heap.size i _ _ _ hblk
    match k, hk with
    | 0, _ => exact ⟨most, by omega, by omega, by rw [hc 0]; rfl⟩
    | 1, _ => exact ⟨r, by omega, by omega, by rw [hc 1]; rfl⟩
  have HKS := Lib.hid hks
  have EA := Lib.hid ea
  clear hks hblk hr ea
  go_wp2_with fail
  obtain ⟨w0, hw0⟩ : ∃ w0, w.alloc (.cells #[.int .i64 most, .int .i64 r] 3) = w0 := ⟨_, rfl⟩
  rw [hw0] at HKS EA ⊢
  clear hw0
  obtain ⟨z0, hz0⟩ : ∃ z0, w.heap.size = z0 := ⟨_, rfl⟩
  rw [hz0] at HKS ⊢
  clear hz0
  go_loopw [6] (fun i wr => ∃ k : Nat, k ≤ 2 ∧ i = .int .i64 k ∧ Ext w0 wr) (fun i _ => 2 - (intOf i).toNat)
  case atStart => exact ⟨0, by omega, rfl, Ext.refl _⟩
  case round =>
    obtain ⟨k, hk, rfl, extk⟩ := hrel
    by_cases hlt : k < 2
    · obtain ⟨K, hK0, hK1, hc0⟩ := HKS.out k hlt
      have KC := Lib.hid (fun w' (e : Ext wr w') => (extk.trans e).cell hc0)
      have EK := Lib.hid extk
      clear hc0 extk
      have r0 := KC.out wr (Ext.refl _)
      by_cases hin : 1 ≤ K ∧ K ≤ 16
      · obtain ⟨hi1, hi2⟩ := hin
        obtain ⟨M, rfl⟩ := Int.eq_ofNat_of_zero_le (show 0 ≤ K by omega)
        go_wp2_with fail
        clear r0
        refine (mnewS_ok first (M : Int) M rfl wr (by omega) (by omega) hf0 hf1).mono ?_
        rintro e w2 ⟨tb, mb, rfl, hm, ht, hb, e2⟩
        have HM := Lib.hid hm
        have r2 := KC.out w2 e2
        have E2 := Lib.hid e2
        clear hm e2
        go_wp2_with fail
        clear r2
        refine (mcallS_at tb mb M first [] 1 (by omega) (by omega) ⟨#[97]⟩ 0 first (nxt first 1) (free_nil _) (by omega) (nxt_zero hf0 hf1) rfl w2 HM.out (by simp; omega)).mono ?_
        rintro e w3 ⟨rfl, hm3, o3⟩
        have HM3 := Lib.hid hm3
        have E3 := Lib.hid (EK.out.trans (o3.ext E2.out ht hb))
        clear hm3 o3
        go_wp2_with fail
        refine (mlenS_any tb mb M _ _ w3 HM3.out).mono ?_
        rintro e w4 ⟨rfl, rfl⟩
        rw [show ((putL [] first (.agg #[.int .u32 1, .string ⟨#[97]⟩])).length : Int) = 1 from rfl]
        go_wp2
        go_roundw
        case rel => exact ⟨k + 1, by omega, by go_num, E3.out⟩
        case measure => simp [intOf]; omega
      · have hin1 : K < 1 ∨ (1 ≤ K ∧ 16 < K) := by omega
        clear hin
        have HNo := Lib.hid (fun w => mnewS_no first K w (by omega))
        rcases hin1 with hi | ⟨hi, hj⟩
        · have t1 : decide (1 ≤ K) = false := by simpa using hi
          go_wp2_with fail
          refine (HNo.out wr).mono ?_
          rintro e w2 ⟨rfl, rfl⟩
          go_wp2
          go_roundw
          case rel => exact ⟨k + 1, by omega, by go_num, EK.out⟩
          case measure => simp [intOf]; omega
        · have t1 : decide (K ≤ 16) = false := by simpa using hj
          go_wp2_with fail
          refine (HNo.out wr).mono ?_
          rintro e w2 ⟨rfl, rfl⟩
          go_wp2
          go_roundw
          case rel => exact ⟨k + 1, by omega, by go_num, EK.out⟩
          case measure => simp [intOf]; omega
    · obtain rfl : k = 2 := by omega
      have E2 := Lib.hid (Ext.trans EA.out extk)
      clear extk
      go_wp2_with fail
      refine (mlives_any _).mono ?_
      rintro e w5 ⟨rfl, e5⟩
      go_wp2
      go_ret
      exact ⟨rfl, E2.out.trans e5⟩
end Go.Proofs.Ytallbmobjhfhpaa
