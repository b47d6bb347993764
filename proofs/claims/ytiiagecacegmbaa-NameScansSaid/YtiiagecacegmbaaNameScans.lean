/-
  The statement NameScans: its walk.
-/
import Derived.Test.YtiiagecacegmbaaNamY
import Derived.Test.YtiiagecacegmbaaMrk
namespace Go.Proofs.Ytiiagecacegmbaa
open Go Go.RowKit
set_option linter.unusedVariables false
set_option linter.unusedSimpArgs false
set_option maxHeartbeats 4000000 in
set_option maxRecDepth 20000 in
theorem ns_walk (s t : List UInt8) (at_ c : Int) (w : World) (hs : s.length ≤ maxLen) (ht : t.length ≤ maxLen) (ha0 : -9223372036854775808 ≤ at_) (ha1 : at_ ≤ 9223372036854775807) (hc0 : 0 ≤ c) (hc1 : c ≤ 255) :
    Calls Try.prog 11 #[.string ⟨s.toArray⟩, .string ⟨t.toArray⟩, .int .i64 at_, .int .u8 c] w fun e w' => e = .returned (.bool true) ∧ Ext w w' := by
  have HSH := Lib.hid (fun w => short_any s 40 w hs (by omega))
  have hsl : Hid ((s.take 40).length ≤ 40) := Lib.hid (by rw [List.length_take]; omega)
  have HTH := Lib.hid (fun w => short_any t 15 w ht (by omega))
  have htl : (t.take 15).length ≤ 15 := by rw [List.length_take]; omega
  generalize s.take 40 = s0 at *
  generalize t.take 15 = t0 at *
  obtain ⟨cb, rfl⟩ : ∃ cb : UInt8, c = (cb.toNat : Int) := ⟨UInt8.ofNat c.toNat, (u8_of c hc0 (by omega)).symm⟩
  have HR := Lib.hid (fun w => rprint_any t0 w (by omega))
  have hpos := print_pos t0
  have hle := print_le t0
  generalize printB t0 = p at *
  have hpl : p.length ≤ 48 := by omega
  clear hle htl
  go_enter Try.func11, Try.ntmps11
  go_wp2_with fail
  refine (HTH.out _).mono ?_
  rintro e w1 ⟨rfl, rfl⟩
  go_wp2_with fail
  refine (HR.out _).mono ?_
  rintro e w2 ⟨rfl, e2⟩
  obtain ⟨cap, w3, hrun, hown, e3⟩ := bytes_new w2 p w.heap.size (by unfold maxLen; omega) e2.size
  have hcap := hown.2.2.1
  have hcm := hown.2.2.2.1
  have Own := Lib.hid hown
  have E3 := Lib.hid (e2.trans e3)
  clear hown e2 e3
  generalize w2.heap.size = g at *
  generalize hN : p.length = N at *
  unfold maxLen at hcm
  have hAt := Lib.hid (fun w => around_any at_ N w ha0 ha1 (by omega) (by omega))
  obtain ⟨hq0, hq1⟩ := aroundZ_bound at_ N (by omega)
  obtain ⟨q, hq⟩ := Int.eq_ofNat_of_zero_le hq0
  rw [hq] at hq0 hq1 hAt
  clear hq
  go_wp2_with fail
  refine (hAt.out _).mono ?_
  rintro e w4 ⟨rfl, rfl⟩
  have hsee := Own.out.sees.take q (by omega)
  rw [bs_take] at hsee
  have hstr := str_of hsee
  obtain ⟨u, hcell⟩ := Own.out.some_ q (by omega)
  have hfz := Own.out.frozen q (by omega)
  have own2 := Own.out.set q (by omega) cb
  have ext2 : Ext w (w3.setCell ⟨g, q, none⟩ (.int .u8 (cb.toNat : Int))) := E3.out.setCell (Own.out.1) _
  have Own2 := Lib.hid own2
  have Ext2 := Lib.hid ext2
  have hll : ((p.set q cb)).length = N := by rw [List.length_set, hN]
  have hcl : (p.take q).length ≤ 48 := by rw [List.length_take]; omega
  have HLL := Lib.hid hll
  have HN := Lib.hid hN
  clear own2 ext2 hsee hN hll
  generalize p.take q = pc at *
  generalize p.set q cb = po at *
  go_wp2_with fail
  clear hcell hfz hstr hrun hAt HN
  generalize w3.setCell ⟨g, q, none⟩ (.int .u8 (cb.toNat : Int)) = w4 at *
  have hstr2 : ∀ w', Ext w4 w' → (convert 22 9 (.slice (some ⟨g, 0, none⟩) N cap)).run Try.prog w' = .ok (.string ⟨po.toArray⟩) w' := fun w' he => str_of (Own2.out.ext he).sees
  refine wp_region_ordQ [0, 1, 2, 3, 4, 5, 6] [5] (by kernel_rfl) (by kernel_rfl) rfl (by kernel_rfl) ?_
  iterate 1 (refine lexQ_val (v := ?_) rfl rfl (fun w' hw' => ?_) ?_; rotate_left; (· go_simp; try with_reducible rfl); simp only [Act.put, List.setIfInBounds_toArray, List.set_cons_zero, List.set_cons_succ])
  refine lexQ_even 32 #[.string ⟨s.toArray⟩, .int .i64 40] (.string ⟨s0.toArray⟩) rfl rfl (fun w' hw' => by go_simp) (fun w' hw' => HSH.out w') ?_
  simp only [Act.put, List.setIfInBounds_toArray, List.set_cons_zero, List.set_cons_succ]
  iterate 2 (refine lexQ_val (v := ?_) rfl rfl (fun w' hw' => ?_) ?_; rotate_left; (· go_simp; try with_reducible rfl); simp only [Act.put, List.setIfInBounds_toArray, List.set_cons_zero, List.set_cons_succ])
  refine lexQ_val (.string ⟨po.toArray⟩) rfl rfl (fun w' hw' => ?_) ?_
  · have := hstr2 w' (((Ext.refl _).drew).trans hw')
    go_simp
  simp only [Act.put, List.setIfInBounds_toArray, List.set_cons_zero, List.set_cons_succ]
  obtain ⟨tx, htx⟩ : ∃ tx, tx = #[Value.string ⟨s0.toArray⟩, .string ⟨pc.toArray⟩, .string ⟨po.toArray⟩, .string ⟨#[37]⟩, .string ⟨#[37, 50]⟩, .string ⟨#[37, 50, 68]⟩, .string ⟨#[37, 52, 49]⟩, .string ⟨#[45]⟩, .string ⟨#[45, 45]⟩, .string ⟨#[]⟩] := ⟨_, rfl⟩
  refine lexQ_run (w' := w4.drew.alloc (.cells tx 9)) (.slice (some ⟨w4.heap.size, 0, none⟩) 10 10) rfl rfl ?_ ((Ext.refl _).alloc _) ?_
  · rw [htx]
    go_simp
  simp only [Act.put, List.setIfInBounds_toArray, List.set_cons_zero, List.set_cons_succ]
  iterate 1 (refine lexQ_val (v := ?_) rfl rfl (fun w' hw' => ?_) ?_; rotate_left; (· go_simp; try with_reducible rfl); simp only [Act.put, List.setIfInBounds_toArray, List.set_cons_zero, List.set_cons_succ])
  refine lexQ_done ?_
  clear hstr2
  have Ext3 := Lib.hid ((Ext2.out.drew).alloc (.cells tx 9))
  have HK : Hid (∀ k, k < 10 → ∃ t : List UInt8, t.length ≤ 60 ∧ ∀ w', Ext (w4.drew.alloc (.cells tx 9)) w' → w'.cell? ⟨w4.heap.size, k, none⟩ = some (.string ⟨t.toArray⟩)) := Lib.hid fun k hk => by
    have hb := heap_alloc_new w4.drew (.cells tx 9)
    have h6 : k = 0 ∨ k = 1 ∨ k = 2 ∨ k = 3 ∨ k = 4 ∨ k = 5 ∨ k = 6 ∨ k = 7 ∨ k = 8 ∨ k = 9 := by omega
    have key : ∀ t : List UInt8, tx[k]? = some (.string ⟨t.toArray⟩) → t.length ≤ 60 → ∃ t : List UInt8, t.length ≤ 60 ∧ ∀ w', Ext (w4.drew.alloc (.cells tx 9)) w' → w'.cell? ⟨w4.heap.size, k, none⟩ = some (.string ⟨t.toArray⟩) := fun t ht hl =>
      ⟨t, hl, fun w' he => by rw [cell_of_row w' w4.heap.size k tx _ _ (he.heap hb)]; exact ht⟩
    rcases h6 with rfl | rfl | rfl | rfl | rfl | rfl | rfl | rfl | rfl | rfl
    · exact key s0 (by rw [htx]; rfl) (by have := hsl.out; omega)
    · exact key pc (by rw [htx]; rfl) (by omega)
    · exact key po (by rw [htx]; rfl) (by have := HLL.out; omega)
    · exact key [37] (by rw [htx]; rfl) (by simp)
    · exact key [37, 50] (by rw [htx]; rfl) (by simp)
    · exact key [37, 50, 68] (by rw [htx]; rfl) (by simp)
    · exact key [37, 52, 49] (by rw [htx]; rfl) (by simp)
    · exact key [45] (by rw [htx]; rfl) (by simp)
    · exact key [45, 45] (by rw [htx]; rfl) (by simp)
    · exact key [] (by rw [htx]; rfl) (by simp)
  clear htx
  generalize hw5 : w4.drew.alloc (.cells tx 9) = w5 at *
  generalize w4.heap.size = z at *
  clear hw5
  go_wp2_with fail
  go_loopw [13] (fun i wr => ∃ k : Nat, k ≤ 10 ∧ i = .int .i64 k ∧ Ext w5 wr) (fun i _ => 10 - (intOf i).toNat)
  case atStart => exact ⟨0, by omega, rfl, Ext.refl _⟩
  case round =>
    obtain ⟨k, hk, rfl, extk⟩ := hrel
    by_cases hlt : k < 10
    · obtain ⟨t, ht, hcell⟩ := HK.out k hlt
      have HA := Lib.hid (fun w => scan_any t w (by omega))
      have HB := Lib.hid (fun w => rscan_any t w (by omega))
      generalize scanT t = x at *
      generalize scanE t = y at *
      have hc1 := hcell wr extk
      go_wp2_with fail
      refine (HA.out _).mono ?_
      rintro e w6 ⟨rfl, e6⟩
      have hc2 := hcell w6 (extk.trans e6)
      go_wp2_with fail
      refine (HB.out _).mono ?_
      rintro e w7 ⟨rfl, e7⟩
      have Ext7 := Lib.hid ((extk.trans e6).trans e7)
      clear hc1 hc2 hcell e6 e7 extk
      go_wp2
      go_roundw
      case rel => exact ⟨k + 1, by omega, by go_num, Ext7.out⟩
      case measure => simp [intOf]; omega
    · obtain rfl : k = 10 := by omega
      go_wp2_with fail
      refine (lives9 _).mono ?_
      rintro e w6 ⟨rfl, e6⟩
      go_wp2
      go_ret
      exact ⟨rfl, Ext3.out.trans (extk.trans e6)⟩
end Go.Proofs.Ytiiagecacegmbaa
