/-
  The statement StatModes: its walk.
-/
import Derived.Test.YtfajnfaipgajdaaStatC
namespace Go.Proofs.Ytfajnfaipgajdaa
open Go Go.RowKit
set_option linter.unusedVariables false
set_option linter.unusedSimpArgs false

set_option maxHeartbeats 2000000 in
theorem modes_1 (m kind : Int) (w : World) (h0 : -9223372036854775808 ≤ m) (h1 : m ≤ 9223372036854775807) (hk0 : -9223372036854775808 ≤ kind) (hk1 : kind ≤ 9223372036854775807) (hkd : 1 + aroundZ kind 2 = 1) :
    Calls Try.prog 3 #[.int .i64 m, .int .i64 kind] w fun x w' => x = .returned (.bool true) ∧ Ext w w' := by
  have hka : aroundZ kind 2 = 1 - 1 := by omega
  have HKA := Lib.hid hka
  clear hkd hka
  go_enter Try.func3, Try.ntmps3
  go_wp2_with fail
  refine (around_any m 41 _ h0 h1 (by omega) (by omega)).mono ?_
  rintro e w1 ⟨rfl, rfl⟩
  have hr := aroundZ_bound m 41 (by omega)
  generalize aroundZ m 41 = r at *
  have hblk := heap_alloc_new w (.cells #[.int .i64 m, .int .i64 r] 3)
  have ea : Ext w (w.alloc (.cells #[.int .i64 m, .int .i64 r] 3)) := (Ext.refl _).alloc _
  have hks : ∀ k, k < 2 → ∃ K : Int, -9223372036854775808 ≤ K ∧ K ≤ 9223372036854775807 ∧ (w.alloc (.cells #[.int .i64 m, .int .i64 r] 3)).cell? ⟨w.heap.size, k, none⟩ = some (.int .i64 K) := fun k hk => by
    have hc := fun i => cell_of_row _ w.heap.size i _ _ _ hblk
    match k, hk with
    | 0, _ => exact ⟨m, by omega, by omega, by simp [hc 0]⟩
    | 1, _ => exact ⟨r, by omega, by omega, by simp [hc 1]⟩
  have HKS := Lib.hid hks
  have HEA := Lib.hid ea
  clear hks hblk ea
  go_wp2_with fail
  generalize w.alloc (.cells #[.int .i64 m, .int .i64 r] 3) = w1 at *
  generalize w.heap.size = z0 at *
  refine (around_any kind 2 _ hk0 hk1 (by omega) (by omega)).mono ?_
  rintro e w2 ⟨rfl, rfl⟩
  rw [HKA.out]
  have e2 : Ext w1 (w1.alloc (.cells #[.int .i64 0, .int .i64 0, .int .i64 1, .int .i64 0, .int .i64 0] 27)) := (Ext.refl _).alloc _
  have hb2 := heap_alloc_new w1 (.cells #[.int .i64 0, .int .i64 0, .int .i64 1, .int .i64 0, .int .i64 0] 27)
  have HB2 := Lib.hid hb2
  clear hb2
  go_wp2_with fail
  generalize w1.alloc (.cells #[.int .i64 0, .int .i64 0, .int .i64 1, .int .i64 0, .int .i64 0] 27) = w2 at *
  generalize w1.heap.size = z1 at *
  go_loopw [7] (fun i wr => ∃ k : Nat, k ≤ 2 ∧ i = .int .i64 k ∧ Ext w2 wr) (fun i _ => 2 - (intOf i).toNat)
  case atStart => exact ⟨0, by omega, rfl, Ext.refl _⟩
  case round =>
    obtain ⟨k, hk, rfl, extk⟩ := hrel
    by_cases hlt : k < 2
    · obtain ⟨K, hK0, hK1, hcell⟩ := HKS.out k hlt
      replace hcell := (e2.trans extk).cell hcell
      have hcells : ∀ w', Ext wr.drew w' → w'.cell? ⟨z0, k, none⟩ = some (.int .i64 K) := fun w' hw => hw.cell (by simpa using hcell)
      have hrow : ∀ w', Ext wr.drew w' → w'.heap[z1]? = some (.cells #[.int .i64 0, .int .i64 0, .int .i64 1, .int .i64 0, .int .i64 0] 27 (0, 0)) := fun w' hw => (extk.drew.trans hw).heap HB2.out
      have HRow := Lib.hid hrow
      have d0 : ∀ w', Ext wr.drew w' → w'.cell? ⟨z1, 0, none⟩ = some (.int .i64 0) := fun w' hw => by rw [cell_of_row w' z1 0 _ _ _ (HRow.out w' hw)]; rfl
      have d1 : ∀ w', Ext wr.drew w' → w'.cell? ⟨z1, 1, none⟩ = some (.int .i64 0) := fun w' hw => by rw [cell_of_row w' z1 1 _ _ _ (HRow.out w' hw)]; rfl
      have d2 : ∀ w', Ext wr.drew w' → w'.cell? ⟨z1, 2, none⟩ = some (.int .i64 1) := fun w' hw => by rw [cell_of_row w' z1 2 _ _ _ (HRow.out w' hw)]; rfl
      have d3 : ∀ w', Ext wr.drew w' → w'.cell? ⟨z1, 3, none⟩ = some (.int .i64 0) := fun w' hw => by rw [cell_of_row w' z1 3 _ _ _ (HRow.out w' hw)]; rfl
      have d4 : ∀ w', Ext wr.drew w' → w'.cell? ⟨z1, 4, none⟩ = some (.int .i64 0) := fun w' hw => by rw [cell_of_row w' z1 4 _ _ _ (HRow.out w' hw)]; rfl
      have H1 := Lib.hid (fun w => opens_1 K w hK0 hK1)
      have H2 := Lib.hid (fun w => ropens_1 K w hK0 hK1)
      have H3 := Lib.hid (fun w => reads_any K w hK0 hK1)
      have H4 := Lib.hid (fun w => rreads_any K w hK0 hK1)
      have H5 := Lib.hid (fun w => writes_any K w hK0 hK1)
      have H6 := Lib.hid (fun w => rwrites_any K w hK0 hK1)
      have H7 := Lib.hid (fun w => cuts_any K w hK0 hK1)
      have H8 := Lib.hid (fun w => rcuts_any K w hK0 hK1)
      generalize opM K true = vo at *
      generalize rdM K = vr at *
      generalize wrM K = vw at *
      generalize ctM K = vc at *
      clear hcell hrow
      go_wp2_with fail
      refine wp_region_ord [0, 1, 2, 3, 4, 6, 7, 8, 9, 10, 5, 11, 12, 13, 14, 15, 16, 17, 19, 20, 21, 22, 18, 23, 24, 25, 26, 27, 28, 29, 30, 32, 33, 34, 35, 31, 36, 37, 38, 39, 40, 41, 42, 43, 45, 46, 47, 48, 44, 49, 50, 51] [10, 11, 22, 23, 35, 36, 48, 49] (by kernel_rfl) (by kernel_rfl) rfl (by kernel_rfl) ?_
      repeat (refine lex_val (v := ?_) rfl rfl (fun w' hw' => ?_) ?_; rotate_left; (· go_simp; try with_reducible rfl); simp only [Act.put, List.setIfInBounds_toArray, List.set_cons_zero, List.set_cons_succ])
      refine lex_call 9 #[.int .i64 K, .agg #[.int .i64 0, .int .i64 0, .int .i64 1, .int .i64 0, .int .i64 0]] rfl rfl (by go_simp) ?_
      refine (Calls.mono (H1.out _) ?_)
      rintro x w3 ⟨rfl, e3⟩
      refine ⟨_, rfl, e3, ?_⟩
      simp only [Act.put, List.setIfInBounds_toArray, List.set_cons_zero, List.set_cons_succ]
      refine lex_call 10 #[.int .i64 K, .agg #[.int .i64 0, .int .i64 0, .int .i64 1, .int .i64 0, .int .i64 0]] rfl rfl (by go_simp) ?_
      refine (Calls.mono (H2.out _) ?_)
      rintro x w4 ⟨rfl, e4⟩
      refine ⟨_, rfl, e4, ?_⟩
      have e34 := e3.trans e4
      have ext4 : Ext w2 w4 := extk.drew.trans e34
      replace hcells := fun w' (hw : Ext w4 w') => hcells w' (e34.trans hw)
      clear d0 d1 d2 d3 d4 e3 e4 e34
      simp only [Act.put, List.setIfInBounds_toArray, List.set_cons_zero, List.set_cons_succ]
      repeat (refine lex_val (v := ?_) rfl rfl (fun w' hw' => ?_) ?_; rotate_left; (· go_simp; try with_reducible rfl); simp only [Act.put, List.setIfInBounds_toArray, List.set_cons_zero, List.set_cons_succ])
      refine lex_call 11 #[.int .i64 K] rfl rfl (by go_simp) ?_
      refine (Calls.mono (H3.out _) ?_)
      rintro x w5 ⟨rfl, rfl⟩
      refine ⟨_, rfl, Ext.refl _, ?_⟩
      simp only [Act.put, List.setIfInBounds_toArray, List.set_cons_zero, List.set_cons_succ]
      refine lex_call 12 #[.int .i64 K] rfl rfl (by go_simp) ?_
      refine (Calls.mono (H4.out _) ?_)
      rintro x w5 ⟨rfl, rfl⟩
      refine ⟨_, rfl, Ext.refl _, ?_⟩
      simp only [Act.put, List.setIfInBounds_toArray, List.set_cons_zero, List.set_cons_succ]
      repeat (refine lex_val (v := ?_) rfl rfl (fun w' hw' => ?_) ?_; rotate_left; (· go_simp; try with_reducible rfl); simp only [Act.put, List.setIfInBounds_toArray, List.set_cons_zero, List.set_cons_succ])
      refine lex_call 13 #[.int .i64 K] rfl rfl (by go_simp) ?_
      refine (Calls.mono (H5.out _) ?_)
      rintro x w5 ⟨rfl, rfl⟩
      refine ⟨_, rfl, Ext.refl _, ?_⟩
      simp only [Act.put, List.setIfInBounds_toArray, List.set_cons_zero, List.set_cons_succ]
      refine lex_call 14 #[.int .i64 K] rfl rfl (by go_simp) ?_
      refine (Calls.mono (H6.out _) ?_)
      rintro x w5 ⟨rfl, rfl⟩
      refine ⟨_, rfl, Ext.refl _, ?_⟩
      simp only [Act.put, List.setIfInBounds_toArray, List.set_cons_zero, List.set_cons_succ]
      repeat (refine lex_val (v := ?_) rfl rfl (fun w' hw' => ?_) ?_; rotate_left; (· go_simp; try with_reducible rfl); simp only [Act.put, List.setIfInBounds_toArray, List.set_cons_zero, List.set_cons_succ])
      refine lex_call 15 #[.int .i64 K] rfl rfl (by go_simp) ?_
      refine (Calls.mono (H7.out _) ?_)
      rintro x w5 ⟨rfl, rfl⟩
      refine ⟨_, rfl, Ext.refl _, ?_⟩
      simp only [Act.put, List.setIfInBounds_toArray, List.set_cons_zero, List.set_cons_succ]
      refine lex_call 16 #[.int .i64 K] rfl rfl (by go_simp) ?_
      refine (Calls.mono (H8.out _) ?_)
      rintro x w5 ⟨rfl, rfl⟩
      refine ⟨_, rfl, Ext.refl _, ?_⟩
      simp only [Act.put, List.setIfInBounds_toArray, List.set_cons_zero, List.set_cons_succ]
      repeat (refine lex_val (v := ?_) rfl rfl (fun w' hw' => ?_) ?_; rotate_left; (· go_simp; try with_reducible rfl); simp only [Act.put, List.setIfInBounds_toArray, List.set_cons_zero, List.set_cons_succ])
      refine lex_done ?_
      clear hcells
      go_wp2
      go_roundw
      case rel => exact ⟨k + 1, by omega, by go_num, ext4⟩
      case measure => simp [intOf]; omega
    · obtain rfl : k = 2 := by omega
      clear HKS
      go_wp2_with fail
      refine (statLives_any _).mono ?_
      rintro e w6 ⟨rfl, e6⟩
      go_wp2
      go_ret
      exact ⟨rfl, HEA.out.trans (e2.trans (extk.trans e6))⟩
set_option maxHeartbeats 2000000 in
theorem modes_2 (m kind : Int) (w : World) (h0 : -9223372036854775808 ≤ m) (h1 : m ≤ 9223372036854775807) (hk0 : -9223372036854775808 ≤ kind) (hk1 : kind ≤ 9223372036854775807) (hkd : 1 + aroundZ kind 2 = 2) :
    Calls Try.prog 3 #[.int .i64 m, .int .i64 kind] w fun x w' => x = .returned (.bool true) ∧ Ext w w' := by
  have hka : aroundZ kind 2 = 2 - 1 := by omega
  have HKA := Lib.hid hka
  clear hkd hka
  go_enter Try.func3, Try.ntmps3
  go_wp2_with fail
  refine (around_any m 41 _ h0 h1 (by omega) (by omega)).mono ?_
  rintro e w1 ⟨rfl, rfl⟩
  have hr := aroundZ_bound m 41 (by omega)
  generalize aroundZ m 41 = r at *
  have hblk := heap_alloc_new w (.cells #[.int .i64 m, .int .i64 r] 3)
  have ea : Ext w (w.alloc (.cells #[.int .i64 m, .int .i64 r] 3)) := (Ext.refl _).alloc _
  have hks : ∀ k, k < 2 → ∃ K : Int, -9223372036854775808 ≤ K ∧ K ≤ 9223372036854775807 ∧ (w.alloc (.cells #[.int .i64 m, .int .i64 r] 3)).cell? ⟨w.heap.size, k, none⟩ = some (.int .i64 K) := fun k hk => by
    have hc := fun i => cell_of_row _ w.heap.size i _ _ _ hblk
    match k, hk with
    | 0, _ => exact ⟨m, by omega, by omega, by simp [hc 0]⟩
    | 1, _ => exact ⟨r, by omega, by omega, by simp [hc 1]⟩
  have HKS := Lib.hid hks
  have HEA := Lib.hid ea
  clear hks hblk ea
  go_wp2_with fail
  generalize w.alloc (.cells #[.int .i64 m, .int .i64 r] 3) = w1 at *
  generalize w.heap.size = z0 at *
  refine (around_any kind 2 _ hk0 hk1 (by omega) (by omega)).mono ?_
  rintro e w2 ⟨rfl, rfl⟩
  rw [HKA.out]
  have e2 : Ext w1 (w1.alloc (.cells #[.int .i64 0, .int .i64 0, .int .i64 2, .int .i64 0, .int .i64 0] 27)) := (Ext.refl _).alloc _
  have hb2 := heap_alloc_new w1 (.cells #[.int .i64 0, .int .i64 0, .int .i64 2, .int .i64 0, .int .i64 0] 27)
  have HB2 := Lib.hid hb2
  clear hb2
  go_wp2_with fail
  generalize w1.alloc (.cells #[.int .i64 0, .int .i64 0, .int .i64 2, .int .i64 0, .int .i64 0] 27) = w2 at *
  generalize w1.heap.size = z1 at *
  go_loopw [7] (fun i wr => ∃ k : Nat, k ≤ 2 ∧ i = .int .i64 k ∧ Ext w2 wr) (fun i _ => 2 - (intOf i).toNat)
  case atStart => exact ⟨0, by omega, rfl, Ext.refl _⟩
  case round =>
    obtain ⟨k, hk, rfl, extk⟩ := hrel
    by_cases hlt : k < 2
    · obtain ⟨K, hK0, hK1, hcell⟩ := HKS.out k hlt
      replace hcell := (e2.trans extk).cell hcell
      have hcells : ∀ w', Ext wr.drew w' → w'.cell? ⟨z0, k, none⟩ = some (.int .i64 K) := fun w' hw => hw.cell (by simpa using hcell)
      have hrow : ∀ w', Ext wr.drew w' → w'.heap[z1]? = some (.cells #[.int .i64 0, .int .i64 0, .int .i64 2, .int .i64 0, .int .i64 0] 27 (0, 0)) := fun w' hw => (extk.drew.trans hw).heap HB2.out
      have HRow := Lib.hid hrow
      have d0 : ∀ w', Ext wr.drew w' → w'.cell? ⟨z1, 0, none⟩ = some (.int .i64 0) := fun w' hw => by rw [cell_of_row w' z1 0 _ _ _ (HRow.out w' hw)]; rfl
      have d1 : ∀ w', Ext wr.drew w' → w'.cell? ⟨z1, 1, none⟩ = some (.int .i64 0) := fun w' hw => by rw [cell_of_row w' z1 1 _ _ _ (HRow.out w' hw)]; rfl
      have d2 : ∀ w', Ext wr.drew w' → w'.cell? ⟨z1, 2, none⟩ = some (.int .i64 2) := fun w' hw => by rw [cell_of_row w' z1 2 _ _ _ (HRow.out w' hw)]; rfl
      have d3 : ∀ w', Ext wr.drew w' → w'.cell? ⟨z1, 3, none⟩ = some (.int .i64 0) := fun w' hw => by rw [cell_of_row w' z1 3 _ _ _ (HRow.out w' hw)]; rfl
      have d4 : ∀ w', Ext wr.drew w' → w'.cell? ⟨z1, 4, none⟩ = some (.int .i64 0) := fun w' hw => by rw [cell_of_row w' z1 4 _ _ _ (HRow.out w' hw)]; rfl
      have H1 := Lib.hid (fun w => opens_2 K w hK0 hK1)
      have H2 := Lib.hid (fun w => ropens_2 K w hK0 hK1)
      have H3 := Lib.hid (fun w => reads_any K w hK0 hK1)
      have H4 := Lib.hid (fun w => rreads_any K w hK0 hK1)
      have H5 := Lib.hid (fun w => writes_any K w hK0 hK1)
      have H6 := Lib.hid (fun w => rwrites_any K w hK0 hK1)
      have H7 := Lib.hid (fun w => cuts_any K w hK0 hK1)
      have H8 := Lib.hid (fun w => rcuts_any K w hK0 hK1)
      generalize opM K false = vo at *
      generalize rdM K = vr at *
      generalize wrM K = vw at *
      generalize ctM K = vc at *
      clear hcell hrow
      go_wp2_with fail
      refine wp_region_ord [0, 1, 2, 3, 4, 6, 7, 8, 9, 10, 5, 11, 12, 13, 14, 15, 16, 17, 19, 20, 21, 22, 18, 23, 24, 25, 26, 27, 28, 29, 30, 32, 33, 34, 35, 31, 36, 37, 38, 39, 40, 41, 42, 43, 45, 46, 47, 48, 44, 49, 50, 51] [10, 11, 22, 23, 35, 36, 48, 49] (by kernel_rfl) (by kernel_rfl) rfl (by kernel_rfl) ?_
      repeat (refine lex_val (v := ?_) rfl rfl (fun w' hw' => ?_) ?_; rotate_left; (· go_simp; try with_reducible rfl); simp only [Act.put, List.setIfInBounds_toArray, List.set_cons_zero, List.set_cons_succ])
      refine lex_call 9 #[.int .i64 K, .agg #[.int .i64 0, .int .i64 0, .int .i64 2, .int .i64 0, .int .i64 0]] rfl rfl (by go_simp) ?_
      refine (Calls.mono (H1.out _) ?_)
      rintro x w3 ⟨rfl, e3⟩
      refine ⟨_, rfl, e3, ?_⟩
      simp only [Act.put, List.setIfInBounds_toArray, List.set_cons_zero, List.set_cons_succ]
      refine lex_call 10 #[.int .i64 K, .agg #[.int .i64 0, .int .i64 0, .int .i64 2, .int .i64 0, .int .i64 0]] rfl rfl (by go_simp) ?_
      refine (Calls.mono (H2.out _) ?_)
      rintro x w4 ⟨rfl, e4⟩
      refine ⟨_, rfl, e4, ?_⟩
      have e34 := e3.trans e4
      have ext4 : Ext w2 w4 := extk.drew.trans e34
      replace hcells := fun w' (hw : Ext w4 w') => hcells w' (e34.trans hw)
      clear d0 d1 d2 d3 d4 e3 e4 e34
      simp only [Act.put, List.setIfInBounds_toArray, List.set_cons_zero, List.set_cons_succ]
      repeat (refine lex_val (v := ?_) rfl rfl (fun w' hw' => ?_) ?_; rotate_left; (· go_simp; try with_reducible rfl); simp only [Act.put, List.setIfInBounds_toArray, List.set_cons_zero, List.set_cons_succ])
      refine lex_call 11 #[.int .i64 K] rfl rfl (by go_simp) ?_
      refine (Calls.mono (H3.out _) ?_)
      rintro x w5 ⟨rfl, rfl⟩
      refine ⟨_, rfl, Ext.refl _, ?_⟩
      simp only [Act.put, List.setIfInBounds_toArray, List.set_cons_zero, List.set_cons_succ]
      refine lex_call 12 #[.int .i64 K] rfl rfl (by go_simp) ?_
      refine (Calls.mono (H4.out _) ?_)
      rintro x w5 ⟨rfl, rfl⟩
      refine ⟨_, rfl, Ext.refl _, ?_⟩
      simp only [Act.put, List.setIfInBounds_toArray, List.set_cons_zero, List.set_cons_succ]
      repeat (refine lex_val (v := ?_) rfl rfl (fun w' hw' => ?_) ?_; rotate_left; (· go_simp; try with_reducible rfl); simp only [Act.put, List.setIfInBounds_toArray, List.set_cons_zero, List.set_cons_succ])
      refine lex_call 13 #[.int .i64 K] rfl rfl (by go_simp) ?_
      refine (Calls.mono (H5.out _) ?_)
      rintro x w5 ⟨rfl, rfl⟩
      refine ⟨_, rfl, Ext.refl _, ?_⟩
      simp only [Act.put, List.setIfInBounds_toArray, List.set_cons_zero, List.set_cons_succ]
      refine lex_call 14 #[.int .i64 K] rfl rfl (by go_simp) ?_
      refine (Calls.mono (H6.out _) ?_)
      rintro x w5 ⟨rfl, rfl⟩
      refine ⟨_, rfl, Ext.refl _, ?_⟩
      simp only [Act.put, List.setIfInBounds_toArray, List.set_cons_zero, List.set_cons_succ]
      repeat (refine lex_val (v := ?_) rfl rfl (fun w' hw' => ?_) ?_; rotate_left; (· go_simp; try with_reducible rfl); simp only [Act.put, List.setIfInBounds_toArray, List.set_cons_zero, List.set_cons_succ])
      refine lex_call 15 #[.int .i64 K] rfl rfl (by go_simp) ?_
      refine (Calls.mono (H7.out _) ?_)
      rintro x w5 ⟨rfl, rfl⟩
      refine ⟨_, rfl, Ext.refl _, ?_⟩
      simp only [Act.put, List.setIfInBounds_toArray, List.set_cons_zero, List.set_cons_succ]
      refine lex_call 16 #[.int .i64 K] rfl rfl (by go_simp) ?_
      refine (Calls.mono (H8.out _) ?_)
      rintro x w5 ⟨rfl, rfl⟩
      refine ⟨_, rfl, Ext.refl _, ?_⟩
      simp only [Act.put, List.setIfInBounds_toArray, List.set_cons_zero, List.set_cons_succ]
      repeat (refine lex_val (v := ?_) rfl rfl (fun w' hw' => ?_) ?_; rotate_left; (· go_simp; try with_reducible rfl); simp only [Act.put, List.setIfInBounds_toArray, List.set_cons_zero, List.set_cons_succ])
      refine lex_done ?_
      clear hcells
      go_wp2
      go_roundw
      case rel => exact ⟨k + 1, by omega, by go_num, ext4⟩
      case measure => simp [intOf]; omega
    · obtain rfl : k = 2 := by omega
      clear HKS
      go_wp2_with fail
      refine (statLives_any _).mono ?_
      rintro e w6 ⟨rfl, e6⟩
      go_wp2
      go_ret
      exact ⟨rfl, HEA.out.trans (e2.trans (extk.trans e6))⟩
theorem statModes_walk (m kind : Int) (w : World) (h0 : -9223372036854775808 ≤ m) (h1 : m ≤ 9223372036854775807) (hk0 : -9223372036854775808 ≤ kind) (hk1 : kind ≤ 9223372036854775807) :
    Calls Try.prog 3 #[.int .i64 m, .int .i64 kind] w fun x w' => x = .returned (.bool true) ∧ Ext w w' := by
  have hb := aroundZ_bound kind 2 (by omega)
  by_cases h : aroundZ kind 2 = 0
  · exact modes_1 m kind w h0 h1 hk0 hk1 (by omega)
  · exact modes_2 m kind w h0 h1 hk0 hk1 (by omega)
end Go.Proofs.Ytfajnfaipgajdaa
