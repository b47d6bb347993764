/-
  The statement NameNames: its walk.
-/
import Derived.Test.YtfajnfaipgajdaaNamD
namespace Go.Proofs.Ytfajnfaipgajdaa
open Go Go.RowKit
set_option linter.unusedVariables false
set_option linter.unusedSimpArgs false
def NNEnd (w : World) : Ending → World → Prop := fun e w' => e = .returned (.bool true) ∧ Ext w w'
theorem lit_bytes (w : World) (C : Array Value) (n c g : Nat) (hg : g = w.heap.size) : (convert 37 37 (.slice (some ⟨g, 0, none⟩) n c)).run Try.prog (w.alloc (.cells C 5)) =
    .ok (.slice (some ⟨g, 0, none⟩) n c) (w.alloc (.cells C 5 (C.size, C.size + 1))) := by
  subst hg
  exact Lib.run_convert_bytes_const w 37 5 C n c Try.underlying37 Try.underlying5
set_option maxHeartbeats 4000000 in
set_option maxRecDepth 20000 in
theorem nn_walk (s : List UInt8) (c at_ n : Int) (w : World) (hs : s.length ≤ maxLen) (hc0 : 0 ≤ c) (hc1 : c ≤ 255) (ha0 : -9223372036854775808 ≤ at_) (ha1 : at_ ≤ 9223372036854775807)
    (hn0 : -9223372036854775808 ≤ n) (hn1 : n ≤ 9223372036854775807) :
    Calls Try.prog 5 #[.string ⟨s.toArray⟩, .int .u8 c, .int .i64 at_, .int .i64 n] w (NNEnd w) := by
  have kc := lit_bytes w #[.int .u8 97, .int .u8 98, .int .u8 46] 3 3 _ rfl
  have s1 := sees_mark w 5 #[.int .u8 97, .int .u8 98, .int .u8 46] (3, 4) (by simp [maxLen])
  have e0 : Ext w (w.alloc (.cells #[.int .u8 97, .int .u8 98, .int .u8 46] 5 (3, 4))) := (Ext.refl _).alloc _
  obtain ⟨hr0, hr1⟩ := aroundZ_bound n 36 (by omega)
  have hA := Lib.hid (fun w => around_any n 36 w hn0 hn1 (by omega) (by omega))
  obtain ⟨r, hr⟩ := Int.eq_ofNat_of_zero_le hr0
  rw [hr] at hr0 hr1 hA
  clear hr
  have hf := Lib.hid (fill_any _ _ _ [97, 98, 46] (1 + r) _ s1 (by simp) (by simp) (by omega))
  have hrc : ((1 + r : Nat) : Int) = 1 + (r : Int) := by omega
  rw [hrc] at hf
  go_enter Try.func5, Try.ntmps5
  go_wp2_with fail
  refine (hA.out _).mono ?_
  rintro e w1 ⟨rfl, rfl⟩
  go_wp2_with fail
  refine (hf.out).mono ?_
  rintro e w1 ⟨v1, rfl, own1, e1⟩
  have ext1 : Ext w w1 := e0.trans e1
  have own1 := own_mono own1 e0.size
  clear e0 e1 s1 kc hA hf
  obtain ⟨g, cap, cur, rfl, hg, hcap, hcm, hheap, hcs⟩ := own_some own1 (by omega)
  have hAt := Lib.hid (fun w => around_any at_ (1 + r) w ha0 ha1 (by omega) (by omega))
  obtain ⟨hq0, hq1⟩ := aroundZ_bound at_ (1 + r) (by omega)
  obtain ⟨q, hq⟩ := Int.eq_ofNat_of_zero_le hq0
  rw [hq] at hq0 hq1 hAt
  clear hq
  have hcell : ∃ o, w1.cell? ⟨g, q, none⟩ = some o := by
    rw [cell_of_row w1 g q cur _ _ hheap]
    exact ⟨cur[q]'(by omega), by simp [show q < cur.size from by omega]⟩
  obtain ⟨o, hcell⟩ := hcell
  have hfz : w1.frozen? ⟨g, q, none⟩ = false := Lib.frozen_of_heap hheap q
  have own2 := own_set own1 q (by omega) (.int .u8 c)
  have ext2 : Ext w (w1.setCell ⟨g, q, none⟩ (.int .u8 c)) := ext1.setCell hg _
  have hcu : (Value.int .u8 c) = .int .u8 (((UInt8.ofNat c.toNat).toNat : Nat) : Int) := by rw [u8_of c hc0 (by omega)]
  rw [hcu, bset] at own2
  rw [← hcu] at own2
  have hll : ((fillB [97, 98, 46] (1 + r)).set q (UInt8.ofNat c.toNat)).length = 1 + r := by rw [List.length_set, fillB_length]
  have HLL := Lib.hid hll
  generalize (fillB [97, 98, 46] (1 + r)).set q (UInt8.ofNat c.toNat) = l2 at *
  have Own2 := Lib.hid own2
  have Ext2 := Lib.hid ext2
  clear own2 ext2 own1 ext1 hcu hll
  go_wp2_with fail
  refine (hAt.out _).mono ?_
  rintro e w2 ⟨rfl, rfl⟩
  go_wp2_with fail
  clear hcell hfz hAt hheap
  generalize w1.setCell ⟨g, q, none⟩ (.int .u8 c) = w2 at *
  obtain ⟨hp0, hp1⟩ := aroundZ_bound n 40 (by omega)
  have HA2 := Lib.hid (fun w => around_any n 40 w hn0 hn1 (by omega) (by omega))
  obtain ⟨p, hp⟩ := Int.eq_ofNat_of_zero_le hp0
  rw [hp] at hp0 hp1 HA2
  clear hp
  have HSH := Lib.hid (fun w => short_any s 50 w hs (by omega))
  have hsl : Hid ((s.take 50).length ≤ 60) := Lib.hid (by rw [List.length_take]; omega)
  generalize s.take 50 = t0 at *
  obtain ⟨A2, c2, hv2, see2⟩ := Sees.of_own Own2.out
  obtain ⟨rfl, -, rfl⟩ : some (⟨g, 0, none⟩ : Addr) = A2 ∧ True ∧ cap = c2 := by
    injection hv2 with a b c
    exact ⟨a, trivial, c⟩
  have See2 := Lib.hid see2
  clear hv2 see2
  refine wp_region_ordQ [0, 1, 2, 3, 6, 7, 4, 5, 8, 9, 10, 11] [6, 7, 8, 10] (by kernel_rfl) (by kernel_rfl) rfl (by kernel_rfl) ?_
  have Ext2 := Lib.hid (Ext2.out.drew)
  have See2 := Lib.hid (See2.out.drew)
  generalize w2.drew = w2 at *
  iterate 1 (refine lexQ_val (v := ?_) rfl rfl (fun w' hw' => ?_) ?_; rotate_left; (· go_simp; try with_reducible rfl); simp only [Act.put, List.setIfInBounds_toArray, List.set_cons_zero, List.set_cons_succ])
  refine lexQ_even 21 #[.string ⟨s.toArray⟩, .int .i64 50] (.string ⟨t0.toArray⟩) rfl rfl (fun w' hw' => by go_simp) (fun w' _ => HSH.out w') ?_
  simp only [Act.put, List.setIfInBounds_toArray, List.set_cons_zero, List.set_cons_succ]
  iterate 1 (refine lexQ_val (v := ?_) rfl rfl (fun w' hw' => ?_) ?_; rotate_left; (· go_simp; try with_reducible rfl); simp only [Act.put, List.setIfInBounds_toArray, List.set_cons_zero, List.set_cons_succ])
  refine lexQ_val (v := .string ⟨l2.toArray⟩) rfl rfl (fun w' hw' => ?_) ?_
  · have := str_of (See2.out.ext hw')
    simp only [execOp]
    go_simp
  simp only [Act.put, List.setIfInBounds_toArray, List.set_cons_zero, List.set_cons_succ]
  iterate 1 (refine lexQ_val (v := ?_) rfl rfl (fun w' hw' => ?_) ?_; rotate_left; (· go_simp; try with_reducible rfl); simp only [Act.put, List.setIfInBounds_toArray, List.set_cons_zero, List.set_cons_succ])
  refine lexQ_even 8 #[.int .i64 n, .int .i64 40] (.int .i64 (p : Int)) rfl rfl (fun w' hw' => by go_simp) (fun w' _ => HA2.out w') ?_
  simp only [Act.put, List.setIfInBounds_toArray, List.set_cons_zero, List.set_cons_succ]
  have kc2 := lit_bytes w2 #[.int .u8 120] 1 1 _ rfl
  have s2 := sees_mark w2 5 #[.int .u8 120] (1, 2) (by simp [maxLen])
  have e2 : Ext w2 (w2.alloc (.cells #[.int .u8 120] 5 (1, 2))) := (Ext.refl _).alloc _
  have hf2 := Lib.hid (fill_any _ _ _ [120] p _ s2 (by simp) (by simp) (by omega))
  refine lexQ_run2 (w1 := w2.alloc (.cells #[.int .u8 120] 5)) (w2 := w2.alloc (.cells #[.int .u8 120] 5 (1, 2))) (.slice (some ⟨w2.heap.size, 0, none⟩) 1 1) (.slice (some ⟨w2.heap.size, 0, none⟩) 1 1) rfl rfl rfl rfl ?_ ?_ ((Ext.refl _).alloc _) e2 ?_
  · go_simp
  · go_simp
  simp only [Act.put, List.setIfInBounds_toArray, List.set_cons_zero, List.set_cons_succ]
  refine lexQ_call 20 #[.slice (some ⟨w2.heap.size, 0, none⟩) 1 1, .int .i64 (p : Int)] rfl rfl (by go_simp) ?_
  refine (hf2.out).mono ?_
  rintro x w3 ⟨v3, rfl, own3, e3⟩
  refine ⟨_, rfl, e3, ?_⟩
  simp only [Act.put, List.setIfInBounds_toArray, List.set_cons_zero, List.set_cons_succ]
  obtain ⟨A3, c3, rfl, see3⟩ := Sees.of_own own3
  have See3 := Lib.hid see3
  have hl3 := fillB_length [120] p
  generalize fillB [120] p = l3 at *
  clear own3
  refine lexQ_val (v := .string ⟨l3.toArray⟩) rfl rfl (fun w' hw' => ?_) ?_
  · have := str_of (See3.out.ext hw')
    go_simp
  simp only [Act.put, List.setIfInBounds_toArray, List.set_cons_zero, List.set_cons_succ]
  obtain ⟨tx, htx⟩ : ∃ tx, tx = #[Value.string ⟨t0.toArray⟩, .string ⟨l2.toArray⟩, .string ⟨l3.toArray⟩, .string ⟨#[46]⟩, .string ⟨#[46, 46]⟩, .string ⟨#[46, 46, 46]⟩] := ⟨_, rfl⟩
  refine lexQ_run (w' := w3.alloc (.cells tx 9)) (.slice (some ⟨w3.heap.size, 0, none⟩) 6 6) rfl rfl ?_ ((Ext.refl _).alloc _) ?_
  · rw [htx]
    go_simp
  simp only [Act.put, List.setIfInBounds_toArray, List.set_cons_zero, List.set_cons_succ]
  iterate 1 (refine lexQ_val (v := ?_) rfl rfl (fun w' hw' => ?_) ?_; rotate_left; (· go_simp; try with_reducible rfl); simp only [Act.put, List.setIfInBounds_toArray, List.set_cons_zero, List.set_cons_succ])
  refine lexQ_done ?_
  have ext3 : Ext w (w3.alloc (.cells tx 9)) := ((Ext2.out.trans e2).trans e3).alloc _
  have Ext3 := Lib.hid ext3
  have HK : Hid (∀ k, k < 6 → ∃ t : List UInt8, t.length ≤ 60 ∧ ∀ w', Ext (w3.alloc (.cells tx 9)) w' → w'.cell? ⟨w3.heap.size, k, none⟩ = some (.string ⟨t.toArray⟩)) := Lib.hid fun k hk => by
    have hb := heap_alloc_new w3 (.cells tx 9)
    have h6 : k = 0 ∨ k = 1 ∨ k = 2 ∨ k = 3 ∨ k = 4 ∨ k = 5 := by omega
    have key : ∀ t : List UInt8, tx[k]? = some (.string ⟨t.toArray⟩) → t.length ≤ 60 → ∃ t : List UInt8, t.length ≤ 60 ∧ ∀ w', Ext (w3.alloc (.cells tx 9)) w' → w'.cell? ⟨w3.heap.size, k, none⟩ = some (.string ⟨t.toArray⟩) := fun t ht hl =>
      ⟨t, hl, fun w' he => by rw [cell_of_row w' w3.heap.size k tx _ _ (he.heap hb)]; exact ht⟩
    rw [htx] at key
    rw [htx]
    have hl2 := HLL.out
    rcases h6 with rfl | rfl | rfl | rfl | rfl | rfl
    · exact key t0 rfl hsl.out
    · exact key l2 rfl (by omega)
    · exact key l3 rfl (by omega)
    · exact key [46] rfl (by simp)
    · exact key [46, 46] rfl (by simp)
    · exact key [46, 46, 46] rfl (by simp)
  generalize hW : w3.alloc (.cells tx 9) = W at *
  clear hW htx e3 e2 ext3 See3 s2 kc2 hf2 See2 HSH HA2 HLL hsl
  generalize w3.heap.size = z0 at *
  go_wp2_with fail
  go_loopw [11] (fun i wr => ∃ k : Nat, k ≤ 6 ∧ i = .int .i64 k ∧ Ext W wr) (fun i _ => 6 - (intOf i).toNat)
  case atStart => exact ⟨0, by omega, rfl, Ext.refl _⟩
  case round =>
    obtain ⟨k, hk, rfl, ext⟩ := hrel
    have HX := Lib.hid ext
    by_cases hlt : k < 6
    · obtain ⟨t, htl, hcell⟩ := HK.out k hlt
      have hc : ∀ w', Ext wr.drew w' → w'.cell? ⟨z0, k, none⟩ = some (.string ⟨t.toArray⟩) := fun w' he => hcell w' (HX.out.drew.trans he)
      have h1 := Lib.hid (fun w => name_any t w (by omega))
      have h2 := Lib.hid (fun w => rname_any t w (by omega))
      have h3 := Lib.hid (fun w => step_any t w (by omega))
      have h4 := Lib.hid (fun w => rstep_any t w (by omega))
      generalize nmB t = b1 at *
      generalize stB t = b2 at *
      clear hcell
      go_wp2_with fail
      refine wp_region_ordQ [0, 1, 2, 3, 4, 5, 6, 7, 8, 9, 10, 11, 12, 13, 14, 15, 16, 17, 18, 19, 20, 21, 22, 23] [] (by kernel_rfl) (by kernel_rfl) rfl (by kernel_rfl) ?_
      iterate 3 (refine lexQ_val (v := ?_) rfl rfl (fun w' hw' => ?_) ?_; rotate_left; (· go_simp; try with_reducible rfl); simp only [Act.put, List.setIfInBounds_toArray, List.set_cons_zero, List.set_cons_succ])
      (refine lexQ_val (v := .string ⟨t.toArray⟩) rfl rfl (fun w' hw' => ?_) ?_; (· have := hc w' hw'; go_simp); simp only [Act.put, List.setIfInBounds_toArray, List.set_cons_zero, List.set_cons_succ])
      refine lexQ_even 22 #[.string ⟨t.toArray⟩] (.bool b1) rfl rfl (fun w' hw' => by go_simp) (fun w' _ => h1.out w') ?_
      simp only [Act.put, List.setIfInBounds_toArray, List.set_cons_zero, List.set_cons_succ]
      iterate 3 (refine lexQ_val (v := ?_) rfl rfl (fun w' hw' => ?_) ?_; rotate_left; (· go_simp; try with_reducible rfl); simp only [Act.put, List.setIfInBounds_toArray, List.set_cons_zero, List.set_cons_succ])
      (refine lexQ_val (v := .string ⟨t.toArray⟩) rfl rfl (fun w' hw' => ?_) ?_; (· have := hc w' hw'; go_simp); simp only [Act.put, List.setIfInBounds_toArray, List.set_cons_zero, List.set_cons_succ])
      refine lexQ_even 23 #[.string ⟨t.toArray⟩] (.bool b1) rfl rfl (fun w' hw' => by go_simp) (fun w' _ => h2.out w') ?_
      simp only [Act.put, List.setIfInBounds_toArray, List.set_cons_zero, List.set_cons_succ]
      refine lexQ_val (v := .bool false) rfl rfl (fun w' hw' => by go_simp) ?_
      simp only [Act.put, List.setIfInBounds_toArray, List.set_cons_zero, List.set_cons_succ]
      iterate 4 (refine lexQ_val (v := ?_) rfl rfl (fun w' hw' => ?_) ?_; rotate_left; (· go_simp; try with_reducible rfl); simp only [Act.put, List.setIfInBounds_toArray, List.set_cons_zero, List.set_cons_succ])
      (refine lexQ_val (v := .string ⟨t.toArray⟩) rfl rfl (fun w' hw' => ?_) ?_; (· have := hc w' hw'; go_simp); simp only [Act.put, List.setIfInBounds_toArray, List.set_cons_zero, List.set_cons_succ])
      refine lexQ_even 24 #[.string ⟨t.toArray⟩] (.bool b2) rfl rfl (fun w' hw' => by go_simp) (fun w' _ => h3.out w') ?_
      simp only [Act.put, List.setIfInBounds_toArray, List.set_cons_zero, List.set_cons_succ]
      iterate 3 (refine lexQ_val (v := ?_) rfl rfl (fun w' hw' => ?_) ?_; rotate_left; (· go_simp; try with_reducible rfl); simp only [Act.put, List.setIfInBounds_toArray, List.set_cons_zero, List.set_cons_succ])
      (refine lexQ_val (v := .string ⟨t.toArray⟩) rfl rfl (fun w' hw' => ?_) ?_; (· have := hc w' hw'; go_simp); simp only [Act.put, List.setIfInBounds_toArray, List.set_cons_zero, List.set_cons_succ])
      refine lexQ_even 25 #[.string ⟨t.toArray⟩] (.bool b2) rfl rfl (fun w' hw' => by go_simp) (fun w' _ => h4.out w') ?_
      simp only [Act.put, List.setIfInBounds_toArray, List.set_cons_zero, List.set_cons_succ]
      refine lexQ_val (v := .bool false) rfl rfl (fun w' hw' => by go_simp) ?_
      simp only [Act.put, List.setIfInBounds_toArray, List.set_cons_zero, List.set_cons_succ]
      iterate 1 (refine lexQ_val (v := ?_) rfl rfl (fun w' hw' => ?_) ?_; rotate_left; (· go_simp; try with_reducible rfl); simp only [Act.put, List.setIfInBounds_toArray, List.set_cons_zero, List.set_cons_succ])
      refine lexQ_done ?_
      go_wp2
      go_roundw
      case rel => exact ⟨k + 1, by omega, by go_num, HX.out.drew⟩
      case measure => simp [intOf]; omega
    · obtain rfl : k = 6 := by omega
      go_wp2_with fail
      refine (lives9 _).mono ?_
      rintro e w5 ⟨rfl, e5⟩
      have E5 := Lib.hid ((Ext3.out.trans HX.out).trans e5)
      go_wp2
      go_ret
      exact ⟨rfl, E5.out⟩
end Go.Proofs.Ytfajnfaipgajdaa
