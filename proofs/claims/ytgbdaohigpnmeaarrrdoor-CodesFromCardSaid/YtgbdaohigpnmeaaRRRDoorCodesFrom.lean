/-
  The statement CodesFrom: its walk.
-/
import Derived.Test.YtgbdaohigpnmeaaRRRDoorCodD
namespace Go.Proofs.YtgbdaohigpnmeaaRRRDoor
open Go Go.RowKit
set_option linter.unusedVariables false
set_option linter.unusedSimpArgs false

set_option maxHeartbeats 1000000 in
theorem codesFrom_walk (n m : Int) (w : World) (ht : Tab w) (h0 : 0 ≤ n) (h1 : n ≤ 4294967295) (hm0 : -9223372036854775808 ≤ m) (hm1 : m ≤ 9223372036854775807) :
    Calls Tryd.prog 4 #[.int .u32 n, .int .i64 m] w fun x w' => x = .returned (.bool true) ∧ Ext w w' := by
  go_enter Tryd.func4, Tryd.ntmps4
  have hblk := heap_alloc_new w (.cells #[.int .u32 n, .int .u32 (n % 80), .int .u32 (10000 + n % 111)] 25)
  have ea : Ext w (w.alloc (.cells #[.int .u32 n, .int .u32 (n % 80), .int .u32 (10000 + n % 111)] 25)) := (Ext.refl _).alloc _
  have hks : ∀ k, k < 3 → ∃ K : Int, (w.alloc (.cells #[.int .u32 n, .int .u32 (n % 80), .int .u32 (10000 + n % 111)] 25)).cell? ⟨w.heap.size, k, none⟩ = some (.int .u32 K) := fun k hk => by
    have hc := fun i => cell_of_row _ w.heap.size i _ _ _ hblk
    match k, hk with
    | 0, _ => exact ⟨n, by simp [hc 0]⟩
    | 1, _ => exact ⟨n % 80, by simp [hc 1]⟩
    | 2, _ => exact ⟨10000 + n % 111, by simp [hc 2]⟩
  have HKS := Lib.hid hks
  have HEA := Lib.hid ea
  have HT := Lib.hid (ht.ext ea)
  clear hks hblk ea ht
  go_wp2_with fail
  generalize w.alloc (.cells #[.int .u32 n, .int .u32 (n % 80), .int .u32 (10000 + n % 111)] 25) = w0 at *
  generalize w.heap.size = z0 at *
  go_loopw [6] (fun i wr => ∃ k : Nat, k ≤ 3 ∧ i = .int .i64 k ∧ Ext w0 wr) (fun i _ => 3 - (intOf i).toNat)
  case atStart => exact ⟨0, by omega, rfl, Ext.refl _⟩
  case round =>
    obtain ⟨k, hk, rfl, extk⟩ := hrel
    by_cases hlt : k < 3
    · obtain ⟨K, hcell⟩ := HKS.out k hlt
      replace hcell := extk.cell hcell
      have hcells : ∀ w', Ext wr.drew w' → w'.cell? ⟨z0, k, none⟩ = some (.int .u32 K) := fun w' hw => hw.cell (by simpa using hcell)
      have H1 := Lib.hid (fun w ht => fromst_any K w ht)
      have H2 := Lib.hid (fun w => rfromst_any K w)
      generalize errs.getD (ixS K) 0 = a at *
      clear hcell
      go_wp2_with fail
      refine wp_region_ord [0, 1, 2, 3, 5, 6, 7, 8, 4, 9, 10] [8, 9] (by kernel_rfl) (by kernel_rfl) rfl (by kernel_rfl) ?_
      repeat (refine lex_val (v := ?_) rfl rfl (fun w' hw' => ?_) ?_; rotate_left; (· go_simp; try with_reducible rfl); simp only [Act.put, List.setIfInBounds_toArray, List.set_cons_zero, List.set_cons_succ])
      refine lex_call 16 #[.int .u32 K] rfl rfl (by go_simp) ?_
      refine (Calls.mono (H1.out _ (HT.out.ext extk.drew)) ?_)
      rintro x w1 ⟨rfl, e1⟩
      refine ⟨_, rfl, e1, ?_⟩
      simp only [Act.put, List.setIfInBounds_toArray, List.set_cons_zero, List.set_cons_succ]
      refine lex_call 17 #[.int .u32 K] rfl rfl (by go_simp) ?_
      refine (Calls.mono (H2.out _) ?_)
      rintro x w2 ⟨rfl, e2⟩
      refine ⟨_, rfl, e2, ?_⟩
      have ext2 : Ext w0 w2 := extk.drew.trans (e1.trans e2)
      clear hcells e1 e2
      simp only [Act.put, List.setIfInBounds_toArray, List.set_cons_zero, List.set_cons_succ]
      repeat (refine lex_val (v := ?_) rfl rfl (fun w' hw' => ?_) ?_; rotate_left; (· go_simp; try with_reducible rfl); simp only [Act.put, List.setIfInBounds_toArray, List.set_cons_zero, List.set_cons_succ])
      refine lex_done ?_
      go_wp2
      go_roundw
      case rel => exact ⟨k + 1, by omega, by go_num, ext2⟩
      case measure => simp [intOf]; omega
    · obtain rfl : k = 3 := by omega
      clear HKS
      go_wp2_with fail
      refine (around_any m 22 _ hm0 hm1 (by omega) (by omega)).mono ?_
      rintro e w1 ⟨rfl, rfl⟩
      have hr := aroundZ_bound m 22 (by omega)
      generalize aroundZ m 22 = r at *
      have H1 := Lib.hid (fun w ht => fromco_any m w ht)
      have H2 := Lib.hid (fun w => rfromco_any m w hm0 hm1)
      have H3 := Lib.hid (fun w ht => fromco_any (r - 1) w ht)
      have H4 := Lib.hid (fun w => rfromco_any (r - 1) w (by omega) (by omega))
      generalize errs.getD (ixC m) 0 = a at *
      generalize errs.getD (ixC (r - 1)) 0 = b at *
      go_wp2_with fail
      refine (Calls.mono (H1.out _ (HT.out.ext extk)) ?_)
      rintro x w1 ⟨rfl, e1⟩
      have ext1 := extk.trans e1
      go_wp2_with fail
      refine (Calls.mono (H2.out _) ?_)
      rintro x w2 ⟨rfl, e2⟩
      have ext2 := ext1.trans e2
      go_wp2_with fail
      refine (Calls.mono (H3.out _ (HT.out.ext ext2)) ?_)
      rintro x w3 ⟨rfl, e3⟩
      have ext3 := ext2.trans e3
      go_wp2_with fail
      refine (Calls.mono (H4.out _) ?_)
      rintro x w4 ⟨rfl, e4⟩
      have ext4 := ext3.trans e4
      go_wp2_with fail
      refine (livesC_any _ (HT.out.ext ext4)).mono ?_
      rintro e w6 ⟨rfl, e6⟩
      go_wp2
      go_ret
      exact ⟨rfl, HEA.out.trans (ext4.trans e6)⟩
end Go.Proofs.YtgbdaohigpnmeaaRRRDoor
