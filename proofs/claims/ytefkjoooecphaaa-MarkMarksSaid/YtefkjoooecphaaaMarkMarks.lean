/-
  The statement MarkMarks: its walk.
-/
import Derived.Test.YtefkjoooecphaaaMarkC
import Derived.Test.YtefkjoooecphaaaOrd
namespace Go.Proofs.Ytefkjoooecphaaa
open Go Go.RowKit
set_option linter.unusedVariables false
set_option linter.unusedSimpArgs false

set_option maxHeartbeats 1000000 in
theorem marks_walk (A : Option Addr) (n c : Nat) (l : List UInt8) (s : Int) (w : World) (hs : Sees w A n c (bs l)) (hs0 : -9223372036854775808 ≤ s) (hs1 : s ≤ 9223372036854775807) :
    Calls Try.prog 10 #[.slice A n c, .int .i64 s] w fun e w' => e = .returned (.bool true) ∧ Ext w w' := by
  go_enter Try.func10, Try.ntmps10
  go_wp2_with fail
  refine (few_nat A n c _ 100 _ _ hs (bs_one _) (by omega) (by omega) rfl).mono ?_
  rintro e w1 ⟨v1, rfl, own1, e1⟩
  rw [bs_take] at own1
  have hN100 : min n 100 ≤ 100 := by omega
  have hs1w := hs.ext e1
  obtain ⟨A1, c1, rfl, see1⟩ := Sees.of_own own1
  clear own1
  go_wp2_with fail
  refine (around_any s 41 _ hs0 hs1 (by omega) (by omega)).mono ?_
  rintro e w2 ⟨rfl, rfl⟩
  have hr := aroundZ_bound s 41 (by omega)
  generalize aroundZ s 41 = r at *
  have hblk := heap_alloc_new w1 (.cells #[.int .i64 s, .int .i64 r] 3)
  have ea : Ext w1 (w1.alloc (.cells #[.int .i64 s, .int .i64 r] 3)) := (Ext.refl _).alloc _
  have hks : ∀ k, k < 2 → ∃ K : Int, -9223372036854775808 ≤ K ∧ K ≤ 9223372036854775807 ∧ (w1.alloc (.cells #[.int .i64 s, .int .i64 r] 3)).cell? ⟨w1.heap.size, k, none⟩ = some (.int .i64 K) := fun k hk => by
    have hc := fun i => cell_of_row _ w1.heap.size i _ _ _ hblk
    match k, hk with
    | 0, _ => exact ⟨s, by omega, by omega, by simp [hc 0]⟩
    | 1, _ => exact ⟨r, by omega, by omega, by simp [hc 1]⟩
  have HKS := Lib.hid hks
  have ext0 := e1.trans ea
  have see1a := see1.ext ea
  have hsa := hs1w.ext ea
  clear hks hblk ea see1 hs1w hs e1
  go_wp2_with fail
  generalize w1.alloc (.cells #[.int .i64 s, .int .i64 r] 3) = w0 at *
  generalize w1.heap.size = z0 at *
  generalize min n 100 = N at *
  go_loopw [7] (fun i wr => ∃ k : Nat, k ≤ 2 ∧ i = .int .i64 k ∧ Ext w0 wr) (fun i _ => 2 - (intOf i).toNat)
  case atStart => exact ⟨0, by omega, rfl, Ext.refl _⟩
  case round =>
    obtain ⟨k, hk, rfl, extk⟩ := hrel
    by_cases hlt : k < 2
    · obtain ⟨K, hK0, hK1, hcell⟩ := HKS.out k hlt
      replace hcell := extk.cell hcell
      go_wp2_with fail
      refine (mark_all A1 N c1 K _ _ (see1a.ext extk) (by omega) hK0 hK1).mono ?_
      rintro e w2 ⟨v2, rfl, own2, e2⟩
      obtain ⟨A2, c2, rfl, see2⟩ := Sees.of_own own2
      have ext2 := extk.trans e2
      have hcell2 := e2.cell hcell
      clear own2 hcell extk e2
      go_wp2_with fail
      refine (rmark_all A1 N c1 K _ _ (see1a.ext ext2) (by omega) hK0 hK1).mono ?_
      rintro e w3 ⟨v3, rfl, own3, e3⟩
      obtain ⟨A3, c3, rfl, see3⟩ := Sees.of_own own3
      have ext3 := ext2.trans e3
      have h2 := str_of (see2.ext e3)
      have h3 := str_of see3
      clear own3 see3 see2 hcell2 ext2 e3
      go_wp2
      go_roundw
      case rel => exact ⟨k + 1, by omega, by go_num, ext3⟩
      case measure => simp [intOf]; omega
    · obtain rfl : k = 2 := by omega
      have hO : ∀ w', Ext wr.drew w' → _ := fun w' hw => str_of ((see1a.ext extk).drew.ext hw)
      have hL := (hsa.ext extk).drew
      have hD := (ext0.trans extk).drew
      clear HKS hsa
      go_wp2_with fail
      refine wp_region_lex [3, 7] (by kernel_rfl) (by kernel_rfl) (by kernel_rfl) ?_
      repeat (refine lex_val (v := ?_) rfl rfl (fun w' hw' => ?_) ?_; rotate_left; (· go_simp; try with_reducible rfl); simp only [Act.put, List.setIfInBounds_toArray, List.set_cons_zero, List.set_cons_succ])
      refine lex_call 15 #[.slice A n c, .int .i64 100] rfl rfl (by go_simp) ?_
      refine (few_nat A n c _ 100 _ _ hL (bs_one _) (by omega) (by omega) rfl).mono ?_
      rintro e w5 ⟨v5, rfl, own5, e5⟩
      rw [bs_take] at own5
      obtain ⟨A5, c5, rfl, see5⟩ := Sees.of_own own5
      refine ⟨_, rfl, e5, ?_⟩
      have h5 : ∀ w', Ext w5 w' → _ := fun w' hw => str_of (see5.ext hw)
      have hD5 := hD.trans e5
      clear own5 hO hL e5 hD
      simp only [Act.put, List.setIfInBounds_toArray, List.set_cons_zero, List.set_cons_succ]
      repeat (refine lex_val (v := ?_) rfl rfl (fun w' hw' => ?_) ?_; rotate_left; (· go_simp; try with_reducible rfl); simp only [Act.put, List.setIfInBounds_toArray, List.set_cons_zero, List.set_cons_succ])
      refine lex_call 43 #[] rfl rfl (by go_simp) ?_
      refine (markLives_any _).mono ?_
      rintro e w6 ⟨rfl, e6⟩
      refine ⟨_, rfl, e6, ?_⟩
      simp only [Act.put, List.setIfInBounds_toArray, List.set_cons_zero, List.set_cons_succ]
      repeat (refine lex_val (v := ?_) rfl rfl (fun w' hw' => ?_) ?_; rotate_left; (· go_simp; try with_reducible rfl); simp only [Act.put, List.setIfInBounds_toArray, List.set_cons_zero, List.set_cons_succ])
      refine lex_done ?_
      go_wp2
      go_ret
      exact ⟨rfl, hD5.trans e6⟩
end Go.Proofs.Ytefkjoooecphaaa
