/-
  Layer 14: the statement CallsProcs: its walk.
-/
import Derived.Test.YtpjigdfllbhknaaCalI
import Derived.Test.YtpjigdfllbhknaaPln
namespace Go.Proofs.Ytpjigdfllbhknaa
open Go Go.RowKit
set_option linter.unusedVariables false
set_option linter.unusedSimpArgs false
def prL : List Int := [1, 2, 3, 6, 7, 8, 9, 12, 13, 14, 16]
def prV : List Value := [.int .i64 1, .int .i64 2, .int .i64 3, .int .i64 6, .int .i64 7, .int .i64 8, .int .i64 9, .int .i64 12, .int .i64 13, .int .i64 14, .int .i64 16]
theorem prV_get (k : Nat) (u : Value) (h : prV[k]? = some u) : ∃ z, prL[k]? = some z ∧ u = .int .i64 z := by
  have e : prV = prL.map (Value.int .i64) := rfl
  rw [e, List.getElem?_map, Option.map_eq_some_iff] at h
  obtain ⟨z, h1, h2⟩ := h
  exact ⟨z, h1, h2.symm⟩
theorem pr_take (n : Int) (k : Nat) (z : Int) (h : prL[k]? = some z) : (prL.take (k + 1)).any (· == n) = ((prL.take k).any (· == n) || z == n) := by
  rw [List.take_add_one, h]
  simp
theorem may_zero (n : Int) : mayA (AR.zero n) [] = prL.any (· == n) := by
  by_cases h1 : n = 1
  · subst h1; decide
  by_cases h2 : n = 2
  · subst h2; decide
  by_cases h3 : n = 3
  · subst h3; decide
  by_cases h12 : n = 12
  · subst h12; decide
  by_cases h13 : n = 13
  · subst h13; decide
  by_cases h6 : n = 6
  · subst h6; decide
  by_cases h16 : n = 16
  · subst h16; decide
  by_cases h7 : n = 7
  · subst h7; decide
  by_cases h8 : n = 8
  · subst h8; decide
  by_cases h9 : n = 9
  · subst h9; decide
  by_cases h14 : n = 14
  · subst h14; decide
  have e1 : fl n = [] := by simp only [fl, h1, h2, h3, h12, h13, h6, h16, h7, h8, h9, h14, if_false]
  have e2 : kn n = false := by unfold kn; rw [e1]; rfl
  have e3 : prL.any (· == n) = false := by
    simp only [prL, List.any_cons, List.any_nil, Bool.or_eq_false_iff, beq_eq_false_iff_ne, and_true]
    omega
  have e4 : (psM (AR.zero n)).2 = false := by
    unfold psM
    rw [show (AR.zero n).pr = n from rfl, e1, e2]
    rfl
  rw [e3]
  unfold mayA
  rw [e4]
  rfl
theorem procs_any (w : World) : Calls Try.prog 24 #[] w fun e w' => ∃ A, e = .returned (.slice A 11 11) ∧ Sees w' A 11 11 prV ∧ Ext w w' := by
  go_enter Try.func24, Try.ntmps24
  go_wp2
  go_ret
  exact ⟨_, rfl, sees_new w 3 #[.int .i64 1, .int .i64 2, .int .i64 3, .int .i64 6, .int .i64 7, .int .i64 8, .int .i64 9, .int .i64 12, .int .i64 13, .int .i64 14, .int .i64 16] (by unfold maxLen; simp), (Ext.refl w).alloc _⟩
set_option maxRecDepth 20000 in
set_option maxHeartbeats 2000000 in
theorem cp_walk (n : Int) (w : World) : Calls Try.prog 8 #[.int .i64 n] w fun e w' => e = .returned (.bool true) ∧ Ext w w' := by
  go_enter Try.func8, Try.ntmps8
  go_wp2_with fail
  refine (procs_any w).mono ?_
  rintro e w1 ⟨A, rfl, see1, e1⟩
  obtain ⟨w2, hw2⟩ : ∃ w2, w1.alloc (.cells #[.int .i64 1, .int .i64 2, .int .i64 3, .int .i64 6, .int .i64 7, .int .i64 8, .int .i64 9, .int .i64 12, .int .i64 13, .int .i64 14, .int .i64 16] 3) = w2 := ⟨_, rfl⟩
  have e2 : Ext w1 w2 := by rw [← hw2]; exact (Ext.refl w1).alloc _
  have see2 : Sees w2 (some ⟨w1.heap.size, 0, none⟩) 11 11 prV := by rw [← hw2]; exact sees_new w1 3 #[.int .i64 1, .int .i64 2, .int .i64 3, .int .i64 6, .int .i64 7, .int .i64 8, .int .i64 9, .int .i64 12, .int .i64 13, .int .i64 14, .int .i64 16] (by unfold maxLen; simp)
  have SEE1 := Lib.hid (see1.ext e2)
  have SEE2 := Lib.hid see2
  have E2 := Lib.hid (e1.trans e2)
  clear e1 e2 see1 see2
  go_wp2_with fail
  go_loopw [5, 6] (fun nd i wr => ∃ k : Nat, k ≤ 11 ∧ nd = .bool ((prL.take k).any (· == n)) ∧ i = .int .i64 k ∧ Ext w2 wr) (fun _ i _ => 11 - (intOf i).toNat)
  case atStart => exact ⟨0, by omega, by simp, rfl, Ext.refl _⟩
  case round =>
    obtain ⟨k, hk, rfl, rfl, ext⟩ := hrel
    have EX := Lib.hid ext
    clear ext
    by_cases hkl : k < 11
    · obtain ⟨b, off, u, rfl, hu, hc, _⟩ := SEE1.out.at_ hkl
      obtain ⟨z, hz, rfl⟩ := prV_get k u hu
      obtain ⟨b2, off2, u2, hA2, hu2, hc2, _⟩ := SEE2.out.at_ hkl
      obtain ⟨z2, hz2, rfl⟩ := prV_get k u2 hu2
      obtain rfl : z = z2 := by rw [hz] at hz2; injection hz2
      injection hA2 with hA2
      injection hA2 with hb2 ho2 _
      subst hb2 ho2
      have HC : Hid (∀ w', Ext wr w' → w'.cell? ⟨b, off + k, none⟩ = some (.int .i64 z) ∧ w'.cell? ⟨w1.heap.size, k, none⟩ = some (.int .i64 z)) := Lib.hid fun w' h => ⟨(EX.out.trans h).cell hc, by have := (EX.out.trans h).cell hc2; simpa using this⟩
      have HZ := Lib.hid hz
      clear hc hc2 hu hu2 hz hz2
      go_wp2_with fail
      refine wp_region_pl (.free 0 (.free 1 (.free 2 (.free 3 (.free 4 (.free 5 (.free 6 (.free 7 (.free 8 .nil))))))))) (by kernel_rfl) (by kernel_rfl) (by kernel_rfl) (by kernel_rfl) ?_
      refine pl_val (v := ?_) rfl rfl (fun w' hw' => ?_) ?_; rotate_left; (· skip; go_simp; try with_reducible rfl); simp only [Act.put, List.setIfInBounds_toArray, List.set_cons_zero, List.set_cons_succ]
      refine pl_val (v := ?_) rfl rfl (fun w' hw' => ?_) ?_; rotate_left; (· skip; go_simp; try with_reducible rfl); simp only [Act.put, List.setIfInBounds_toArray, List.set_cons_zero, List.set_cons_succ]
      refine pl_val (v := ?_) rfl rfl (fun w' hw' => ?_) ?_; rotate_left; (· skip; go_simp; try with_reducible rfl); simp only [Act.put, List.setIfInBounds_toArray, List.set_cons_zero, List.set_cons_succ]
      refine pl_val (v := ?_) rfl rfl (fun w' hw' => ?_) ?_; rotate_left; (· obtain ⟨q1, q2⟩ := HC.out w' ((Ext.refl wr).drew.trans hw'); go_simp; try with_reducible rfl); simp only [Act.put, List.setIfInBounds_toArray, List.set_cons_zero, List.set_cons_succ]
      refine pl_val (v := ?_) rfl rfl (fun w' hw' => ?_) ?_; rotate_left; (· skip; go_simp; try with_reducible rfl); simp only [Act.put, List.setIfInBounds_toArray, List.set_cons_zero, List.set_cons_succ]
      refine pl_val (v := ?_) rfl rfl (fun w' hw' => ?_) ?_; rotate_left; (· skip; go_simp; try with_reducible rfl); simp only [Act.put, List.setIfInBounds_toArray, List.set_cons_zero, List.set_cons_succ]
      refine pl_val (v := ?_) rfl rfl (fun w' hw' => ?_) ?_; rotate_left; (· skip; go_simp; try with_reducible rfl); simp only [Act.put, List.setIfInBounds_toArray, List.set_cons_zero, List.set_cons_succ]
      refine pl_val (v := ?_) rfl rfl (fun w' hw' => ?_) ?_; rotate_left; (· obtain ⟨q1, q2⟩ := HC.out w' ((Ext.refl wr).drew.trans hw'); go_simp; try with_reducible rfl); simp only [Act.put, List.setIfInBounds_toArray, List.set_cons_zero, List.set_cons_succ]
      refine pl_val (v := .bool false) rfl rfl (fun w' hw' => by go_simp; try with_reducible rfl) ?_
      simp only [Act.put, List.setIfInBounds_toArray, List.set_cons_zero, List.set_cons_succ]
      refine pl_done ?_
      obtain ⟨q1, q2⟩ := HC.out wr.drew ((Ext.refl wr).drew)
      rcases Bool.eq_false_or_eq_true ((prL.take k).any (· == n)) with g | g
      · rw [g]
        have HG := Lib.hid g
        clear g
        go_wp2_with fail
        go_roundw
        case rel => exact ⟨k + 1, by omega, by rw [pr_take _ _ _ HZ.out, HG.out]; rfl, by go_num, EX.out.drew⟩
        case measure => simp [intOf]; omega
      · rw [g]
        have HG := Lib.hid g
        clear g
        go_wp2_with fail
        go_roundw
        case rel => exact ⟨k + 1, by omega, by rw [pr_take _ _ _ HZ.out, HG.out]; simp, by go_num, EX.out.drew⟩
        case measure => simp [intOf]; omega
    · obtain rfl : k = 11 := by omega
      rw [show prL.take 11 = prL from rfl]
      go_wp2_with fail
      refine (cmay_any (AR.zero n) [] wr (Sees.nil _)).mono ?_
      rintro e w4 ⟨rfl, e4⟩
      rw [may_zero]
      have E4 := Lib.hid (E2.out.trans (EX.out.trans e4))
      clear e4
      generalize prL.any (· == n) = nd at *
      have HL := Lib.hid (lives14 w4)
      cases nd
      · go_wp2_with fail
        refine HL.out.mono ?_
        rintro e w5 ⟨rfl, e5⟩
        go_wp2_with fail
        go_ret
        exact ⟨rfl, E4.out.trans e5⟩
      · go_wp2_with fail
        refine HL.out.mono ?_
        rintro e w5 ⟨rfl, e5⟩
        go_wp2_with fail
        go_ret
        exact ⟨rfl, E4.out.trans e5⟩
end Go.Proofs.Ytpjigdfllbhknaa
