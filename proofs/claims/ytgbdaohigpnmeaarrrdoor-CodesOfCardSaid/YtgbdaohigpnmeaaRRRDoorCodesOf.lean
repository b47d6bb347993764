/-
  The statement CodesOf: its walk.
-/
import Derived.Test.YtgbdaohigpnmeaaRRRDoorCodD
namespace Go.Proofs.YtgbdaohigpnmeaaRRRDoor
open Go Go.RowKit
set_option linter.unusedVariables false
set_option linter.unusedSimpArgs false

set_option maxHeartbeats 1000000 in
theorem codesOf_walk (n : Int) (w : World) (ht : Tab w) (h0 : -9223372036854775808 ≤ n) (h1 : n ≤ 9223372036854775807) :
    Calls Tryd.prog 3 #[.int .i64 n] w fun x w' => x = .returned (.bool true) ∧ Ext w w' := by
  go_enter Tryd.func3, Tryd.ntmps3
  go_wp2_with fail
  refine (around_any n 26 _ h0 h1 (by omega) (by omega)).mono ?_
  rintro e w1 ⟨rfl, rfl⟩
  have hr := aroundZ_bound n 26 (by omega)
  generalize aroundZ n 26 = r at *
  have hblk := heap_alloc_new w (.cells #[.int .i64 n, .int .i64 (r - 1)] 22)
  have ea : Ext w (w.alloc (.cells #[.int .i64 n, .int .i64 (r - 1)] 22)) := (Ext.refl _).alloc _
  have hks : ∀ k, k < 2 → ∃ K : Int, -9223372036854775808 ≤ K ∧ K ≤ 9223372036854775807 ∧ (w.alloc (.cells #[.int .i64 n, .int .i64 (r - 1)] 22)).cell? ⟨w.heap.size, k, none⟩ = some (.int .i64 K) := fun k hk => by
    have hc := fun i => cell_of_row _ w.heap.size i _ _ _ hblk
    match k, hk with
    | 0, _ => exact ⟨n, by omega, by omega, by simp [hc 0]⟩
    | 1, _ => exact ⟨r - 1, by omega, by omega, by simp [hc 1]⟩
  have HKS := Lib.hid hks
  have HEA := Lib.hid ea
  have HT := Lib.hid (ht.ext ea)
  clear hks hblk ea ht
  go_wp2_with fail
  generalize w.alloc (.cells #[.int .i64 n, .int .i64 (r - 1)] 22) = w0 at *
  generalize w.heap.size = z0 at *
  go_loopw [4] (fun i wr => ∃ k : Nat, k ≤ 2 ∧ i = .int .i64 k ∧ Ext w0 wr) (fun i _ => 2 - (intOf i).toNat)
  case atStart => exact ⟨0, by omega, rfl, Ext.refl _⟩
  case round =>
    obtain ⟨k, hk, rfl, extk⟩ := hrel
    by_cases hlt : k < 2
    · obtain ⟨K, hK0, hK1, hcell⟩ := HKS.out k hlt
      replace hcell := extk.cell hcell
      have H1 := Lib.hid (fun w ht => status_any K w ht)
      have H2 := Lib.hid (fun w => rstatus_any K w)
      have H3 := Lib.hid (fun w ht => code_any K w ht)
      have H4 := Lib.hid (fun w => rcode_any K w)
      have H5 := Lib.hid (fun w ht => text_any8 K w ht)
      have H6 := Lib.hid (fun w => rtext_any8 K w)
      generalize sts.getD (ixE K) 0 = a at *
      generalize txs.getD (ixE K) [] = b at *
      generalize (ixE K : Int) = c at *
      go_wp2_with fail
      refine (Calls.mono (H1.out _ (HT.out.ext extk)) ?_)
      rintro x w1 ⟨rfl, e1⟩
      have ext1 := extk.trans e1
      go_wp2_with fail
      refine (Calls.mono (H2.out _) ?_)
      rintro x w2 ⟨rfl, e2⟩
      have ext2 := ext1.trans e2
      go_wp2_with fail
      refine (Calls.mono (H3.out _ (HT.out.ext ext2)) ?_)
      rintro x w3 ⟨rfl, e3⟩
      have ext3 := ext2.trans e3
      go_wp2_with fail
      refine (Calls.mono (H4.out _) ?_)
      rintro x w4 ⟨rfl, e4⟩
      have ext4 := ext3.trans e4
      go_wp2_with fail
      refine (Calls.mono (H5.out _ (HT.out.ext ext4)) ?_)
      rintro x w5 ⟨rfl, e5⟩
      have ext5 := ext4.trans e5
      go_wp2_with fail
      refine (Calls.mono (H6.out _) ?_)
      rintro x w6 ⟨rfl, e6⟩
      have ext6 := ext5.trans e6
      clear extk e1 e2 e3 e4 e5 e6 ext1 ext2 ext3 ext4 ext5 hcell
      go_wp2
      go_roundw
      case rel => exact ⟨k + 1, by omega, by go_num, ext6⟩
      case measure => simp [intOf]; omega
    · obtain rfl : k = 2 := by omega
      clear HKS
      go_wp2_with fail
      refine (livesC_any _ (HT.out.ext extk)).mono ?_
      rintro e w6 ⟨rfl, e6⟩
      go_wp2
      go_ret
      exact ⟨rfl, HEA.out.trans (extk.trans e6)⟩
end Go.Proofs.YtgbdaohigpnmeaaRRRDoor
