/-
  The statement StatPerms: its walk.
-/
import Derived.Test.YtfajnfaipgajdaaStatA
namespace Go.Proofs.Ytfajnfaipgajdaa
open Go Go.RowKit
set_option linter.unusedVariables false
set_option linter.unusedSimpArgs false

set_option maxHeartbeats 1000000 in
theorem statPerms_walk (p : Int) (w : World) (h0 : -9223372036854775808 ≤ p) (h1 : p ≤ 9223372036854775807) :
    Calls Try.prog 4 #[.int .i64 p] w fun x w' => x = .returned (.bool true) ∧ Ext w w' := by
  go_enter Try.func4, Try.ntmps4
  go_wp2_with fail
  refine (around_any p 1024 _ h0 h1 (by omega) (by omega)).mono ?_
  rintro e w1 ⟨rfl, rfl⟩
  have hr := aroundZ_bound p 1024 (by omega)
  generalize aroundZ p 1024 = r at *
  have hblk := heap_alloc_new w (.cells #[.int .i64 p, .int .i64 r, .int .i64 (2147483648 + r), .int .i64 (1073741824 + r)] 3)
  have ea : Ext w (w.alloc (.cells #[.int .i64 p, .int .i64 r, .int .i64 (2147483648 + r), .int .i64 (1073741824 + r)] 3)) := (Ext.refl _).alloc _
  have hks : ∀ k, k < 4 → ∃ K : Int, -9223372036854775808 ≤ K ∧ K ≤ 9223372036854775807 ∧ (w.alloc (.cells #[.int .i64 p, .int .i64 r, .int .i64 (2147483648 + r), .int .i64 (1073741824 + r)] 3)).cell? ⟨w.heap.size, k, none⟩ = some (.int .i64 K) := fun k hk => by
    have hc := fun i => cell_of_row _ w.heap.size i _ _ _ hblk
    match k, hk with
    | 0, _ => exact ⟨p, by omega, by omega, by simp [hc 0]⟩
    | 1, _ => exact ⟨r, by omega, by omega, by simp [hc 1]⟩
    | 2, _ => exact ⟨2147483648 + r, by omega, by omega, by simp [hc 2]⟩
    | 3, _ => exact ⟨1073741824 + r, by omega, by omega, by simp [hc 3]⟩
  have HKS := Lib.hid hks
  have HEA := Lib.hid ea
  clear hks hblk ea
  go_wp2_with fail
  generalize w.alloc (.cells #[.int .i64 p, .int .i64 r, .int .i64 (2147483648 + r), .int .i64 (1073741824 + r)] 3) = w0 at *
  generalize w.heap.size = z0 at *
  go_loopw [5] (fun i wr => ∃ k : Nat, k ≤ 4 ∧ i = .int .i64 k ∧ Ext w0 wr) (fun i _ => 4 - (intOf i).toNat)
  case atStart => exact ⟨0, by omega, rfl, Ext.refl _⟩
  case round =>
    obtain ⟨k, hk, rfl, extk⟩ := hrel
    by_cases hlt : k < 4
    · obtain ⟨K, hK0, hK1, hcell⟩ := HKS.out k hlt
      replace hcell := extk.cell hcell
      by_cases hA : 0 ≤ K ∧ K < 512
      · go_wp2_with fail
        refine (perm_1 K _ hA.1 hA.2).mono ?_
        rintro x w1 ⟨rfl, rfl⟩
        go_wp2_with fail
        refine (rperm_1 K _ hA.1 hA.2).mono ?_
        rintro x w1 ⟨rfl, rfl⟩
        go_wp2
        go_roundw
        case rel => exact ⟨k + 1, by omega, by go_num, extk⟩
        case measure => simp [intOf]; omega
      · by_cases hB : 2147483648 ≤ K ∧ K < 2147484160
        · obtain ⟨q, rfl⟩ : ∃ q, K = 2147483648 + q := ⟨K - 2147483648, by omega⟩
          have hq0 : 0 ≤ q := by omega
          have hq1 : q < 512 := by omega
          clear hA hB
          go_wp2_with fail
          refine (perm_2 q _ hq0 hq1).mono ?_
          rintro x w1 ⟨rfl, rfl⟩
          go_wp2_with fail
          refine (rperm_2 q _ hq0 hq1).mono ?_
          rintro x w1 ⟨rfl, rfl⟩
          go_wp2
          go_roundw
          case rel => exact ⟨k + 1, by omega, by go_num, extk⟩
          case measure => simp [intOf]; omega
        · have H1 := Lib.hid (fun w => perm_3 K w hK0 hK1 hA hB)
          have H2 := Lib.hid (fun w => rperm_3 K w hK0 hK1 hA hB)
          clear hA hB
          go_wp2_with fail
          refine (Calls.mono (H1.out _) ?_)
          rintro x w1 ⟨rfl, rfl⟩
          go_wp2_with fail
          refine (Calls.mono (H2.out _) ?_)
          rintro x w1 ⟨rfl, rfl⟩
          go_wp2
          go_roundw
          case rel => exact ⟨k + 1, by omega, by go_num, extk⟩
          case measure => simp [intOf]; omega
    · obtain rfl : k = 4 := by omega
      clear HKS
      go_wp2_with fail
      refine (statLives_any _).mono ?_
      rintro e w6 ⟨rfl, e6⟩
      go_wp2
      go_ret
      exact ⟨rfl, HEA.out.trans (extk.trans e6)⟩
end Go.Proofs.Ytfajnfaipgajdaa
