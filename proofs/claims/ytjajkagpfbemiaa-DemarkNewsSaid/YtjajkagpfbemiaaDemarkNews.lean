/-
  The statement DemarkNews: its walk.
-/
import Derived.Test.YtjajkagpfbemiaaDmH
namespace Go.Proofs.Ytjajkagpfbemiaa
open Go Go.RowKit
set_option linter.unusedVariables false
set_option linter.unusedSimpArgs false
set_option maxRecDepth 20000 in
set_option maxHeartbeats 4000000 in
theorem dn_walk (most frags : Int) (w : World) (hm0 : -9223372036854775808 ≤ most) (hm1 : most ≤ 9223372036854775807) (hf0 : -9223372036854775808 ≤ frags) (hf1 : frags ≤ 9223372036854775807) :
    Calls Try.prog 7 #[.int .i64 most, .int .i64 frags] w fun e w' => e = .returned (.bool true) ∧ Ext w w' := by
  go_enter Try.func7, Try.ntmps7
  go_wp2_with fail
  refine (around_any most 4101 w hm0 hm1 (by omega) (by omega)).mono ?_
  rintro e w1 ⟨rfl, rfl⟩
  have hr := aroundZ_bound most 4101 (by omega)
  obtain ⟨r, hrr⟩ : ∃ r, aroundZ most 4101 = r := ⟨_, rfl⟩
  rw [hrr] at hr ⊢
  clear hrr
  go_wp2_with fail
  refine (around_any frags 67 _ hf0 hf1 (by omega) (by omega)).mono ?_
  rintro e w1 ⟨rfl, rfl⟩
  have hq := aroundZ_bound frags 67 (by omega)
  obtain ⟨q, hqq⟩ : ∃ q, aroundZ frags 67 = q := ⟨_, rfl⟩
  rw [hqq] at hq ⊢
  clear hqq
  have hblk := heap_alloc_new w (.cells #[.int .i64 most, .int .i64 r, .int .i64 0, .int .i64 1] 3)
  have hblk2 := heap_alloc2_new w (.cells #[.int .i64 most, .int .i64 r, .int .i64 0, .int .i64 1] 3) (.cells #[.int .i64 frags, .int .i64 1, .int .i64 q, .int .i64 frags] 3)
  have ea : Ext w ((w.alloc (.cells #[.int .i64 most, .int .i64 r, .int .i64 0, .int .i64 1] 3)).alloc (.cells #[.int .i64 frags, .int .i64 1, .int .i64 q, .int .i64 frags] 3)) := ((Ext.refl _).alloc _).alloc _
  have hblk1 := ((Ext.refl _).alloc (.cells #[.int .i64 frags, .int .i64 1, .int .i64 q, .int .i64 frags] 3)).heap hblk
  have hks : ∀ k, k < 4 → ∃ K F : Int, -9223372036854775808 ≤ K ∧ K ≤ 9223372036854775807 ∧ -9223372036854775808 ≤ F ∧ F ≤ 9223372036854775807 ∧ ((w.alloc (.cells #[.int .i64 most, .int .i64 r, .int .i64 0, .int .i64 1] 3)).alloc (.cells #[.int .i64 frags, .int .i64 1, .int .i64 q, .int .i64 frags] 3)).cell? ⟨w.heap.size, k, none⟩ = some (.int .i64 K) ∧
      ((w.alloc (.cells #[.int .i64 most, .int .i64 r, .int .i64 0, .int .i64 1] 3)).alloc (.cells #[.int .i64 frags, .int .i64 1, .int .i64 q, .int .i64 frags] 3)).cell? ⟨w.heap.size + 1, k, none⟩ = some (.int .i64 F) := fun k hk => by
    have hc := fun i => cell_of_row _ w.heap.size i _ _ _ hblk1
    have hc2 := fun i => cell_of_row _ (w.heap.size + 1) i _ _ _ hblk2
    match k, hk with
    | 0, _ => exact ⟨most, frags, by omega, by omega, by omega, by omega, by rw [hc 0]; rfl, by rw [hc2 0]; rfl⟩
    | 1, _ => exact ⟨r, 1, by omega, by omega, by omega, by omega, by rw [hc 1]; rfl, by rw [hc2 1]; rfl⟩
    | 2, _ => exact ⟨0, q, by omega, by omega, by omega, by omega, by rw [hc 2]; rfl, by rw [hc2 2]; rfl⟩
    | 3, _ => exact ⟨1, frags, by omega, by omega, by omega, by omega, by rw [hc 3]; rfl, by rw [hc2 3]; rfl⟩
  have HKS := Lib.hid hks
  have EA := Lib.hid ea
  clear hks hblk hblk1 hblk2 hr hq ea
  go_wp2_with fail
  obtain ⟨w0, hw0⟩ : ∃ w0, ((w.alloc (.cells #[.int .i64 most, .int .i64 r, .int .i64 0, .int .i64 1] 3)).alloc (.cells #[.int .i64 frags, .int .i64 1, .int .i64 q, .int .i64 frags] 3)) = w0 := ⟨_, rfl⟩
  rw [hw0] at HKS EA ⊢
  clear hw0
  obtain ⟨z0, hz0⟩ : ∃ z0, w.heap.size = z0 := ⟨_, rfl⟩
  rw [hz0] at HKS ⊢
  clear hz0
  go_loopw [7] (fun i wr => ∃ k : Nat, k ≤ 4 ∧ i = .int .i64 k ∧ Ext w0 wr) (fun i _ => 4 - (intOf i).toNat)
  case atStart => exact ⟨0, by omega, rfl, Ext.refl _⟩
  case round =>
    obtain ⟨k, hk, rfl, extk⟩ := hrel
    by_cases hlt : k < 4
    · obtain ⟨K, F, hK0, hK1, hF0, hF1, hc0, hd0⟩ := HKS.out k hlt
      have KC := Lib.hid (fun w' (e : Ext wr w') => (extk.trans e).cell hc0)
      have KD := Lib.hid (fun w' (e : Ext wr w') => (extk.trans e).cell hd0)
      have EK := Lib.hid extk
      clear hc0 hd0 extk
      by_cases hin : 0 ≤ K ∧ K ≤ 4096 ∧ 1 ≤ F ∧ F ≤ 64
      · obtain ⟨hi1, hi2, hi3, hi4⟩ := hin
        obtain ⟨M, rfl⟩ := Int.eq_ofNat_of_zero_le hi1
        obtain ⟨G, rfl⟩ := Int.eq_ofNat_of_zero_le (show 0 ≤ F by omega)
        go_wp2_with fail
        have c0 : ∀ w', Ext wr.drew w' → w'.cell? ⟨z0, k, none⟩ = some (.int .i64 (M : Int)) := fun w' he => KC.out w' ((Ext.refl wr).drew.trans he)
        have d0' : ∀ w', Ext wr.drew w' → w'.cell? ⟨z0 + 1, k, none⟩ = some (.int .i64 (G : Int)) := fun w' he => KD.out w' ((Ext.refl wr).drew.trans he)
        refine wp_region_pl (.free 0 (.free 1 (.free 2 (.free 3 (.free 4 (.free 5 (.free 6 (.free 7 (.one 8 (.free 9 (.free 10 (.free 11 (.free 12 (.free 13 .nil)))))))))))))) (by kernel_rfl) (by kernel_rfl) (by kernel_rfl) (by kernel_rfl) ?_
        iterate 8 (refine pl_val (v := ?_) rfl rfl (fun w' hw' => ?_) ?_; rotate_left; (· go_simp; try with_reducible rfl); simp only [Act.put, List.setIfInBounds_toArray, List.set_cons_zero, List.set_cons_succ])
        clear c0 d0'
        refine pl_call 12 #[.int .i64 (M : Int), .int .i64 (G : Int)] rfl rfl (by go_simp) ?_
        refine (dnew_ok M G wr.drew (by omega) (by omega) (by omega)).mono ?_
        rintro e w2 ⟨rfl, hd, hsz, e2⟩
        refine ⟨_, rfl, e2, ?_⟩
        simp only [Act.put, List.setIfInBounds_toArray, List.set_cons_zero, List.set_cons_succ]
        iterate 5 (refine pl_val (v := ?_) rfl rfl (fun w' hw' => ?_) ?_; rotate_left; (· go_simp; try with_reducible rfl); simp only [Act.put, List.setIfInBounds_toArray, List.set_cons_zero, List.set_cons_succ])
        refine pl_done ?_
        have c2 := KC.out w2 ((Ext.refl wr).drew.trans e2)
        have d2 := KD.out w2 ((Ext.refl wr).drew.trans e2)
        have E2 := Lib.hid ((EK.out.drew).trans e2)
        have HF := Lib.hid (fun w3 (e : Ext w2 w3) => feed_any (X := fun k => ¬ k = wr.drew.heap.size ∧ k < w3.heap.size) none 0 0 [] d0 w3 ((hd.keep (Kp.of_ext e)).weak fun k q => q.1) (fun k q => q.2) (d0_ok _ _) (by omega) (by omega) rfl (Sees.nil _) (by omega) (fun a ha _ => by cases ha))
        have HD := Lib.hid (fun w3 (e : Ext w2 w3) => hd.keep (Kp.of_ext e))
        have HSZ := Lib.hid hsz
        clear hd e2 hsz
        go_wp2_with fail
        refine (dclean_any d0 w2 (HD.out _ (Ext.refl _))).mono ?_
        rintro e w3 ⟨rfl, rfl⟩
        rw [show clB d0 = true from rfl]
        go_wp2_with fail
        refine (dheld_any d0 w2 (HD.out _ (Ext.refl _)) (by simp [d0, btw]) (by simp [d0, btw])).mono ?_
        rintro e w3 ⟨rfl, n3, rfl⟩
        rw [show ((d0.R.length + d0.H.length : Nat) : Int) = 0 from rfl]
        have e3 : Ext w2 (w2.drewN n3) := (Ext.refl _).drewN _
        go_wp2_with fail
        refine (derrno_any d0 (w2.drewN n3) (HD.out _ e3)).mono ?_
        rintro e w4 ⟨rfl, rfl⟩
        rw [show d0.E = 0 from rfl]
        go_wp2_with fail
        refine (HF.out _ e3).mono ?_
        rintro x w4 ⟨v, Z, rfl, d4, z1, z2, o4, k4⟩
        obtain ⟨A4, c4, rfl, s4⟩ := o4.toB.sees
        rw [show (drun M G d0 []).T.length = 0 from rfl]
        have E4 := Lib.hid (show Ext w0 w4 from by
          have a := E2.out.trans e3
          have b := E2.out.size
          exact ⟨k4.os.trans a.os, k4.tape.trans a.tape, k4.output.trans a.output, Nat.le_trans a.size k4.size, fun k hk => (k4.block k ⟨by have := EK.out.size; simp; omega, Nat.lt_of_lt_of_le hk a.size⟩ (Nat.lt_of_lt_of_le hk a.size)).trans (a.block k hk)⟩)
        clear d4 z1 z2 o4 s4 k4 e3
        go_wp2
        go_roundw
        case rel => exact ⟨k + 1, by omega, by go_num, E4.out⟩
        case measure => simp [intOf]; omega
      · have hin1 : K < 0 ∨ (0 ≤ K ∧ 4096 < K) ∨ (0 ≤ K ∧ K ≤ 4096 ∧ F < 1) ∨ (0 ≤ K ∧ K ≤ 4096 ∧ 1 ≤ F ∧ 64 < F) := by omega
        clear hin
        have HNo := Lib.hid (fun w => dnew_no K F w (by omega))
        rcases hin1 with hi | ⟨hi, hj⟩ | ⟨hi, hj, hl⟩ | ⟨hi, hj, hl, hm⟩
        · have t1 : decide (0 ≤ K) = false := by simpa using hi
          go_wp2_with fail
          have c0 : ∀ w', Ext wr.drew w' → w'.cell? ⟨z0, k, none⟩ = some (.int .i64 K) := fun w' he => KC.out w' ((Ext.refl wr).drew.trans he)
          have d0' : ∀ w', Ext wr.drew w' → w'.cell? ⟨z0 + 1, k, none⟩ = some (.int .i64 F) := fun w' he => KD.out w' ((Ext.refl wr).drew.trans he)
          refine wp_region_pl (.free 0 (.free 1 (.free 2 (.free 3 (.free 4 (.free 5 (.free 6 (.free 7 (.one 8 (.free 9 (.free 10 (.free 11 (.free 12 (.free 13 .nil)))))))))))))) (by kernel_rfl) (by kernel_rfl) (by kernel_rfl) (by kernel_rfl) ?_
          iterate 8 (refine pl_val (v := ?_) rfl rfl (fun w' hw' => ?_) ?_; rotate_left; (· go_simp; try with_reducible rfl); simp only [Act.put, List.setIfInBounds_toArray, List.set_cons_zero, List.set_cons_succ])
          clear c0 d0'
          refine pl_call 12 #[.int .i64 K, .int .i64 F] rfl rfl (by go_simp) ?_
          refine (HNo.out _).mono ?_
          rintro e w2 ⟨rfl, rfl⟩
          refine ⟨_, rfl, Ext.refl _, ?_⟩
          simp only [Act.put, List.setIfInBounds_toArray, List.set_cons_zero, List.set_cons_succ]
          iterate 5 (refine pl_val (v := ?_) rfl rfl (fun w' hw' => ?_) ?_; rotate_left; (· go_simp; try with_reducible rfl); simp only [Act.put, List.setIfInBounds_toArray, List.set_cons_zero, List.set_cons_succ])
          refine pl_done ?_
          have c2 := KC.out wr.drew ((Ext.refl wr).drew)
          have d2 := KD.out wr.drew ((Ext.refl wr).drew)
          go_wp2
          go_roundw
          case rel => exact ⟨k + 1, by omega, by go_num, EK.out.drew⟩
          case measure => simp [intOf]; omega
        · have t1 : decide (K ≤ 4096) = false := by simpa using hj
          go_wp2_with fail
          have c0 : ∀ w', Ext wr.drew w' → w'.cell? ⟨z0, k, none⟩ = some (.int .i64 K) := fun w' he => KC.out w' ((Ext.refl wr).drew.trans he)
          have d0' : ∀ w', Ext wr.drew w' → w'.cell? ⟨z0 + 1, k, none⟩ = some (.int .i64 F) := fun w' he => KD.out w' ((Ext.refl wr).drew.trans he)
          refine wp_region_pl (.free 0 (.free 1 (.free 2 (.free 3 (.free 4 (.free 5 (.free 6 (.free 7 (.one 8 (.free 9 (.free 10 (.free 11 (.free 12 (.free 13 .nil)))))))))))))) (by kernel_rfl) (by kernel_rfl) (by kernel_rfl) (by kernel_rfl) ?_
          iterate 8 (refine pl_val (v := ?_) rfl rfl (fun w' hw' => ?_) ?_; rotate_left; (· go_simp; try with_reducible rfl); simp only [Act.put, List.setIfInBounds_toArray, List.set_cons_zero, List.set_cons_succ])
          clear c0 d0'
          refine pl_call 12 #[.int .i64 K, .int .i64 F] rfl rfl (by go_simp) ?_
          refine (HNo.out _).mono ?_
          rintro e w2 ⟨rfl, rfl⟩
          refine ⟨_, rfl, Ext.refl _, ?_⟩
          simp only [Act.put, List.setIfInBounds_toArray, List.set_cons_zero, List.set_cons_succ]
          iterate 5 (refine pl_val (v := ?_) rfl rfl (fun w' hw' => ?_) ?_; rotate_left; (· go_simp; try with_reducible rfl); simp only [Act.put, List.setIfInBounds_toArray, List.set_cons_zero, List.set_cons_succ])
          refine pl_done ?_
          have c2 := KC.out wr.drew ((Ext.refl wr).drew)
          have d2 := KD.out wr.drew ((Ext.refl wr).drew)
          go_wp2
          go_roundw
          case rel => exact ⟨k + 1, by omega, by go_num, EK.out.drew⟩
          case measure => simp [intOf]; omega
        · have t1 : decide (1 ≤ F) = false := by simpa using hl
          go_wp2_with fail
          have c0 : ∀ w', Ext wr.drew w' → w'.cell? ⟨z0, k, none⟩ = some (.int .i64 K) := fun w' he => KC.out w' ((Ext.refl wr).drew.trans he)
          have d0' : ∀ w', Ext wr.drew w' → w'.cell? ⟨z0 + 1, k, none⟩ = some (.int .i64 F) := fun w' he => KD.out w' ((Ext.refl wr).drew.trans he)
          refine wp_region_pl (.free 0 (.free 1 (.free 2 (.free 3 (.free 4 (.free 5 (.free 6 (.free 7 (.one 8 (.free 9 (.free 10 (.free 11 (.free 12 (.free 13 .nil)))))))))))))) (by kernel_rfl) (by kernel_rfl) (by kernel_rfl) (by kernel_rfl) ?_
          iterate 8 (refine pl_val (v := ?_) rfl rfl (fun w' hw' => ?_) ?_; rotate_left; (· go_simp; try with_reducible rfl); simp only [Act.put, List.setIfInBounds_toArray, List.set_cons_zero, List.set_cons_succ])
          clear c0 d0'
          refine pl_call 12 #[.int .i64 K, .int .i64 F] rfl rfl (by go_simp) ?_
          refine (HNo.out _).mono ?_
          rintro e w2 ⟨rfl, rfl⟩
          refine ⟨_, rfl, Ext.refl _, ?_⟩
          simp only [Act.put, List.setIfInBounds_toArray, List.set_cons_zero, List.set_cons_succ]
          iterate 5 (refine pl_val (v := ?_) rfl rfl (fun w' hw' => ?_) ?_; rotate_left; (· go_simp; try with_reducible rfl); simp only [Act.put, List.setIfInBounds_toArray, List.set_cons_zero, List.set_cons_succ])
          refine pl_done ?_
          have c2 := KC.out wr.drew ((Ext.refl wr).drew)
          have d2 := KD.out wr.drew ((Ext.refl wr).drew)
          go_wp2
          go_roundw
          case rel => exact ⟨k + 1, by omega, by go_num, EK.out.drew⟩
          case measure => simp [intOf]; omega
        · have t1 : decide (F ≤ 64) = false := by simpa using hm
          go_wp2_with fail
          have c0 : ∀ w', Ext wr.drew w' → w'.cell? ⟨z0, k, none⟩ = some (.int .i64 K) := fun w' he => KC.out w' ((Ext.refl wr).drew.trans he)
          have d0' : ∀ w', Ext wr.drew w' → w'.cell? ⟨z0 + 1, k, none⟩ = some (.int .i64 F) := fun w' he => KD.out w' ((Ext.refl wr).drew.trans he)
          refine wp_region_pl (.free 0 (.free 1 (.free 2 (.free 3 (.free 4 (.free 5 (.free 6 (.free 7 (.one 8 (.free 9 (.free 10 (.free 11 (.free 12 (.free 13 .nil)))))))))))))) (by kernel_rfl) (by kernel_rfl) (by kernel_rfl) (by kernel_rfl) ?_
          iterate 8 (refine pl_val (v := ?_) rfl rfl (fun w' hw' => ?_) ?_; rotate_left; (· go_simp; try with_reducible rfl); simp only [Act.put, List.setIfInBounds_toArray, List.set_cons_zero, List.set_cons_succ])
          clear c0 d0'
          refine pl_call 12 #[.int .i64 K, .int .i64 F] rfl rfl (by go_simp) ?_
          refine (HNo.out _).mono ?_
          rintro e w2 ⟨rfl, rfl⟩
          refine ⟨_, rfl, Ext.refl _, ?_⟩
          simp only [Act.put, List.setIfInBounds_toArray, List.set_cons_zero, List.set_cons_succ]
          iterate 5 (refine pl_val (v := ?_) rfl rfl (fun w' hw' => ?_) ?_; rotate_left; (· go_simp; try with_reducible rfl); simp only [Act.put, List.setIfInBounds_toArray, List.set_cons_zero, List.set_cons_succ])
          refine pl_done ?_
          have c2 := KC.out wr.drew ((Ext.refl wr).drew)
          have d2 := KD.out wr.drew ((Ext.refl wr).drew)
          go_wp2
          go_roundw
          case rel => exact ⟨k + 1, by omega, by go_num, EK.out.drew⟩
          case measure => simp [intOf]; omega
    · obtain rfl : k = 4 := by omega
      have E2 := Lib.hid (Ext.trans EA.out extk)
      clear extk
      go_wp2_with fail
      refine (dlives_any _).mono ?_
      rintro e w5 ⟨rfl, e5⟩
      go_wp2
      go_ret
      exact ⟨rfl, E2.out.trans e5⟩
end Go.Proofs.Ytjajkagpfbemiaa
