/-
  The statement CodesRound: its walk.
-/
import Derived.Test.YtgbdaohigpnmeaaRRRDoorCodE
namespace Go.Proofs.YtgbdaohigpnmeaaRRRDoor
open Go Go.RowKit
set_option linter.unusedVariables false
set_option linter.unusedSimpArgs false

set_option maxRecDepth 100000 in
theorem txs_inj : ∀ X, X < 19 → ∀ Y, Y < 19 → txs.getD X [] = txs.getD Y [] → X = Y := by decide
theorem errs_inj {X Y : Nat} (hX : X < 19) (hY : Y < 19) (h : errs.getD X 0 = errs.getD Y 0) : X = Y := by
  have := ixE_errs X hX
  rw [h, ixE_errs Y hY] at this
  exact this.symm
theorem sts_inj {X Y : Nat} (hX : X < 19) (hY : Y < 19) (h : sts.getD X 0 = sts.getD Y 0) : X = Y := by
  have := ixS_sts X hX
  rw [h, ixS_sts Y hY] at this
  exact this.symm
theorem sees_errs {w : World} {A : Option Addr} {c : Nat} (h : Sees w A 19 c errsV.toList) : ∃ b off, A = some ⟨b, off, none⟩ ∧ ∀ k, k < 19 → ∀ w', Ext w w' → w'.cell? ⟨b, off + k, none⟩ = some (.int .i64 (errs.getD k 0)) := by
  obtain ⟨b, off, hA, hc⟩ := h.2.2.2.2 (by omega)
  refine ⟨b, off, hA, fun k hk w' he => he.cell (hc k _ ?_)⟩
  have := errsV_get k hk
  simpa using this
set_option maxHeartbeats 1000000 in
theorem codesRound_walk (a b : Int) (w : World) (ht : Tab w) (ha0 : -9223372036854775808 ≤ a) (ha1 : a ≤ 9223372036854775807) (hb0 : -9223372036854775808 ≤ b) (hb1 : b ≤ 9223372036854775807) :
    Calls Tryd.prog 5 #[.int .i64 a, .int .i64 b] w fun x w' => x = .returned (.bool true) ∧ Ext w w' := by
  have HT := Lib.hid ht
  clear ht
  go_enter Tryd.func5, Tryd.ntmps5
  go_wp2_with fail
  refine (all_any w HT.out).mono ?_
  rintro x w1 ⟨v1, rfl, own1, e1⟩
  obtain ⟨A1, c1, rfl, see1⟩ := Sees.of_own own1
  have hc1 := see1.le
  have hm1 := see1.max
  unfold maxLen at hm1
  go_wp2_with fail
  refine (rall_any w1).mono ?_
  rintro x w2 ⟨rfl, hb2, e2⟩
  obtain ⟨lb, lo, rfl, hL⟩ := sees_errs (see1.ext e2)
  have hR : ∀ k, k < 19 → ∀ w', Ext w2 w' → w'.cell? ⟨w1.heap.size, k, none⟩ = some (.int .i64 (errs.getD k 0)) := fun k hk w' he => by
    rw [cell_of_row w' w1.heap.size k _ _ _ (he.heap hb2)]
    exact errsV_get k hk
  have HL := Lib.hid hL
  have HR := Lib.hid hR
  have ext2 := e1.trans e2
  have HT2 := Lib.hid (HT.out.ext ext2)
  clear hL hR hb2 own1 see1 e1 e2
  generalize w1.heap.size = rb at *
  go_wp2_with fail
  go_loopw [7] (fun i wr => ∃ k : Nat, k ≤ 19 ∧ i = .int .i64 k ∧ Ext w2 wr) (fun i _ => 19 - (intOf i).toNat)
  case atStart => exact ⟨0, by omega, rfl, Ext.refl _⟩
  case round =>
    obtain ⟨k, hk, rfl, extk⟩ := hrel
    by_cases hlt : k < 19
    · have hcl : ∀ w', Ext wr.drew w' → w'.cell? ⟨lb, lo + k, none⟩ = some (.int .i64 (errs.getD k 0)) := fun w' hw => HL.out k hlt w' (extk.drew.trans hw)
      have hcr : ∀ w', Ext wr.drew w' → w'.cell? ⟨rb, k, none⟩ = some (.int .i64 (errs.getD k 0)) := fun w' hw => HR.out k hlt w' (extk.drew.trans hw)
      have h1 := fun w ht => code_any (errs.getD k 0) w ht
      rw [ixE_errs k hlt] at h1
      have H1 := Lib.hid h1
      clear h1
      generalize errs.getD k 0 = r at *
      go_wp2_with fail
      refine wp_region_ord [0, 1, 2, 3, 4, 5, 6, 7, 8, 9, 10, 11, 12, 13, 15, 14, 16, 17] [15] (by kernel_rfl) (by kernel_rfl) rfl (by kernel_rfl) ?_
      repeat (refine lex_val (v := ?_) rfl rfl (fun w' hw' => ?_) ?_; rotate_left; (· go_simp; try with_reducible rfl); simp only [Act.put, List.setIfInBounds_toArray, List.set_cons_zero, List.set_cons_succ])
      refine lex_call 11 #[.int .i64 r] rfl rfl (by go_simp) ?_
      refine (Calls.mono (H1.out _ (HT2.out.ext extk.drew)) ?_)
      rintro x w5 ⟨rfl, e5⟩
      refine ⟨_, rfl, e5, ?_⟩
      have ext5 : Ext w2 w5 := extk.drew.trans e5
      simp only [Act.put, List.setIfInBounds_toArray, List.set_cons_zero, List.set_cons_succ]
      repeat (refine lex_val (v := ?_) rfl rfl (fun w' hw' => ?_) ?_; rotate_left; (· go_simp; try with_reducible rfl); simp only [Act.put, List.setIfInBounds_toArray, List.set_cons_zero, List.set_cons_succ])
      refine lex_done ?_
      clear hcl hcr e5 extk
      go_wp2
      go_roundw
      case rel => exact ⟨k + 1, by omega, by go_num, ext5⟩
      case measure => simp [intOf]; omega
    · obtain rfl : k = 19 := by omega
      go_wp2_with fail
      refine (around_any a 19 _ ha0 ha1 (by omega) (by omega)).mono ?_
      rintro e w3 ⟨rfl, rfl⟩
      have hra := aroundZ_bound a 19 (by omega)
      generalize aroundZ a 19 = x at *
      obtain ⟨X, rfl⟩ := Int.eq_ofNat_of_zero_le hra.1
      have hX : X < 19 := by omega
      have hcx : wr.cell? ⟨lb, lo + X, none⟩ = some (.int .i64 (errs.getD X 0)) := HL.out X hX wr extk
      have h1 := fun w ht => status_any (errs.getD X 0) w ht
      have h2 := fun w ht => fromst_any (sts.getD X 0) w ht
      have h3 := fun w ht => code_any (errs.getD X 0) w ht
      have h4 := fun w ht => fromco_any (X : Int) w ht
      have h5 := fun w ht => text_any8 (errs.getD X 0) w ht
      rw [ixE_errs X hX] at h1 h3 h5
      rw [ixS_sts X hX] at h2
      rw [ixC_in X hX] at h4
      have H1 := Lib.hid h1
      have H2 := Lib.hid h2
      have H3 := Lib.hid h3
      have H4 := Lib.hid h4
      have H5 := Lib.hid h5
      have HrX : Hid (∀ k, k < 19 → errs.getD k 0 = errs.getD X 0 → k = X) := Lib.hid fun k hk => errs_inj hk hX
      have HsX : Hid (∀ k, k < 19 → sts.getD k 0 = sts.getD X 0 → k = X) := Lib.hid fun k hk => sts_inj hk hX
      have HtX : Hid (∀ k, k < 19 → txs.getD k [] = txs.getD X [] → k = X) := Lib.hid fun k hk => txs_inj k hk X hX
      have HqX : Hid (∀ k, k = X → errs.getD k 0 = errs.getD X 0 ∧ sts.getD k 0 = sts.getD X 0 ∧ txs.getD k [] = txs.getD X []) := Lib.hid fun k hk => by rw [hk]; exact ⟨rfl, rfl, rfl⟩
      clear h1 h2 h3 h4 h5
      generalize errs.getD X 0 = eX at *
      generalize sts.getD X 0 = sX at *
      generalize txs.getD X [] = tX at *
      go_wp2_with fail
      refine (around_any b 19 _ hb0 hb1 (by omega) (by omega)).mono ?_
      rintro e w3 ⟨rfl, rfl⟩
      have hrb := aroundZ_bound b 19 (by omega)
      generalize aroundZ b 19 = y at *
      obtain ⟨Y, rfl⟩ := Int.eq_ofNat_of_zero_le hrb.1
      have hY : Y < 19 := by omega
      have hcy : wr.cell? ⟨lb, lo + Y, none⟩ = some (.int .i64 (errs.getD Y 0)) := HL.out Y hY wr extk
      have h6 := fun w ht => text_any8 (errs.getD Y 0) w ht
      have h7 := fun w ht => status_any (errs.getD Y 0) w ht
      rw [ixE_errs Y hY] at h6 h7
      have H6 := Lib.hid h6
      have H7 := Lib.hid h7
      have he := HrX.out Y hY
      have hs := HsX.out Y hY
      have hx := HtX.out Y hY
      have hq := HqX.out Y
      clear h6 h7 HrX HsX HtX HqX
      generalize errs.getD Y 0 = eY at *
      generalize sts.getD Y 0 = sY at *
      generalize txs.getD Y [] = tY at *
      have HEI := Lib.hid he
      have HSI := Lib.hid hs
      have HXI := Lib.hid hx
      have HQ := Lib.hid hq
      clear he hs hx hq
      go_wp2_with fail
      refine (Calls.mono (H1.out _ (HT2.out.ext extk)) ?_)
      rintro x w3 ⟨rfl, e3⟩
      have ext3 := extk.trans e3
      go_wp2_with fail
      refine (Calls.mono (H2.out _ (HT2.out.ext ext3)) ?_)
      rintro x w4 ⟨rfl, e4⟩
      have ext4 := ext3.trans e4
      go_wp2_with fail
      refine (Calls.mono (H3.out _ (HT2.out.ext ext4)) ?_)
      rintro x w5 ⟨rfl, e5⟩
      have ext5 := ext4.trans e5
      go_wp2_with fail
      refine (Calls.mono (H4.out _ (HT2.out.ext ext5)) ?_)
      rintro x w6 ⟨rfl, e6⟩
      have ext6 := ext5.trans e6
      go_wp2_with fail
      refine (Calls.mono (H5.out _ (HT2.out.ext ext6)) ?_)
      rintro x w7 ⟨rfl, e7⟩
      have ext7 := ext6.trans e7
      go_wp2_with fail
      refine (Calls.mono (H6.out _ (HT2.out.ext ext7)) ?_)
      rintro x w8 ⟨rfl, e8⟩
      have ext8 := ext7.trans e8
      clear e3 e4 e5 e6 e7 e8 ext3 ext4 ext5 ext6 ext7 extk
      obtain ⟨bb, ht, he, hs⟩ : ∃ bb : Bool, (tX == tY) = bb ∧ (eX == eY) = bb ∧ (sX == sY) = bb := by
        by_cases hxy : Y = X
        · obtain ⟨q1, q2, q3⟩ := HQ.out hxy
          rw [q1, q2, q3]
          exact ⟨true, by simp, by simp, by simp⟩
        · exact ⟨false, by simpa using fun h => hxy (HXI.out h.symm), by simpa using fun h => hxy (HEI.out h.symm), by simpa using fun h => hxy (HSI.out h.symm)⟩
      go_wp2_with fail
      refine (Calls.mono (H1.out _ (HT2.out.ext ext8)) ?_)
      rintro x w9 ⟨rfl, e9⟩
      have ext9 := ext8.trans e9
      go_wp2_with fail
      refine (Calls.mono (H7.out _ (HT2.out.ext ext9)) ?_)
      rintro x w10 ⟨rfl, e10⟩
      have ext10 := ext9.trans e10
      go_wp2_with fail
      refine (livesC_any _ (HT2.out.ext ext10)).mono ?_
      rintro e w11 ⟨rfl, e11⟩
      go_wp2
      go_ret
      exact ⟨rfl, ext2.trans (ext10.trans e11)⟩
end Go.Proofs.YtgbdaohigpnmeaaRRRDoor
