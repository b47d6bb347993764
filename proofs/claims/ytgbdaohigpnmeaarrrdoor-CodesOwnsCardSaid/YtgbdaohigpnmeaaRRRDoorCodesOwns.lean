/-
  The statement CodesOwns: its walk.
-/
import Derived.Test.YtgbdaohigpnmeaaRRRDoorCodesRound
namespace Go.Proofs.YtgbdaohigpnmeaaRRRDoor
open Go Go.RowKit
set_option linter.unusedVariables false
set_option linter.unusedSimpArgs false

set_option maxHeartbeats 1000000 in
theorem codesOwns_walk (n : Int) (w : World) (ht : Tab w) (h0 : -9223372036854775808 ≤ n) (h1 : n ≤ 9223372036854775807) :
    Calls Tryd.prog 7 #[.int .i64 n] w fun x w' => x = .returned (.bool true) ∧ Ext w w' := by
  have HT := Lib.hid ht
  clear ht
  go_enter Tryd.func7, Tryd.ntmps7
  go_wp2_with fail
  refine (all_any w HT.out).mono ?_
  rintro x w1 ⟨v1, rfl, own1, e1⟩
  obtain ⟨g, cap, cur, rfl, hg, hh, hnc, hcm, hsz, htk⟩ : ∃ g cap cur, v1 = .slice (some ⟨g, 0, none⟩) 19 cap ∧ w.heap.size ≤ g ∧ w1.heap[g]? = some (.cells cur 22 (0, 0)) ∧ 19 ≤ cap ∧ cap ≤ maxLen ∧ 19 ≤ cur.size ∧ True := by
    rcases own1.2 with ⟨_, h⟩ | ⟨g, cap, cur, q1, q2, q3, q4, q5, q6, q7⟩
    · exact absurd h (by omega)
    · exact ⟨g, cap, cur, by simpa using q1, q2, q3, by omega, q5, by omega, trivial⟩
  unfold maxLen at hcm
  go_wp2_with fail
  refine (around_any n 19 _ h0 h1 (by omega) (by omega)).mono ?_
  rintro e w3 ⟨rfl, rfl⟩
  have hra := aroundZ_bound n 19 (by omega)
  have hR := fun w => around_any n 19 w h0 h1 (by omega) (by omega)
  generalize aroundZ n 19 = x at *
  obtain ⟨X, rfl⟩ := Int.eq_ofNat_of_zero_le hra.1
  have hX : X < 19 := by omega
  have HRN := Lib.hid hR
  have hold : ∃ u, w1.cell? ⟨g, X, none⟩ = some u := by
    rw [cell_of_row w1 g X _ _ _ hh]
    exact ⟨_, Array.getElem?_eq_getElem (by omega)⟩
  obtain ⟨u, hu⟩ := hold
  have hfz : w1.frozen? ⟨g, X, none⟩ = false := frozen_of_row w1 g X _ _ hh
  have ext2 : Ext w (w1.setCell ⟨g, X, none⟩ (.int .i64 99)) := e1.setCell hg _
  have HT2 := Lib.hid (HT.out.ext ext2)
  clear hR own1 hh e1
  go_wp2_with fail
  generalize w1.setCell ⟨g, X, none⟩ (.int .i64 99) = w2 at *
  refine (all_any w2 HT2.out).mono ?_
  rintro x w3 ⟨v3, rfl, own3, e3⟩
  obtain ⟨A3, c3, rfl, see3⟩ := Sees.of_own own3
  have hc3 := see3.le
  have hm3 := see3.max
  unfold maxLen at hm3
  obtain ⟨lb, lo, rfl, hL⟩ := sees_errs see3
  have hcl := hL X hX
  have ext3 := ext2.trans e3
  have HT3 := Lib.hid (HT2.out.ext e3)
  have HRA := Lib.hid (fun w => rall_any w)
  have hrV := errsV_get X hX
  have HRV := Lib.hid hrV
  generalize errs.getD X 0 = r at *
  have hcd : ∀ w', Ext w3.drew w' → w'.cell? ⟨lb, lo + X, none⟩ = some (.int .i64 r) := fun w' hw => hcl w' ((Ext.refl w3).drew.trans hw)
  clear own3 see3 e3 hL hrV ext2 hcl
  go_wp2_with fail
  refine wp_region_ord [0, 1, 2, 3, 4, 5, 10, 6, 7, 8, 9, 11, 12, 13, 14, 15, 16, 17, 18, 19] [7, 10, 11, 17] (by kernel_rfl) (by kernel_rfl) rfl (by kernel_rfl) ?_
  repeat (refine lex_val (v := ?_) rfl rfl (fun w' hw' => ?_) ?_; rotate_left; (· go_simp; try with_reducible rfl); simp only [Act.put, List.setIfInBounds_toArray, List.set_cons_zero, List.set_cons_succ])
  refine lex_call 8 #[.int .i64 n, .int .i64 19] rfl rfl (by go_simp) ?_
  refine (Calls.mono (HRN.out _) ?_)
  rintro x w4 ⟨rfl, rfl⟩
  refine ⟨_, rfl, Ext.refl _, ?_⟩
  simp only [Act.put, List.setIfInBounds_toArray, List.set_cons_zero, List.set_cons_succ]
  repeat (refine lex_val (v := ?_) rfl rfl (fun w' hw' => ?_) ?_; rotate_left; (· go_simp; try with_reducible rfl); simp only [Act.put, List.setIfInBounds_toArray, List.set_cons_zero, List.set_cons_succ])
  refine lex_call 21 #[] rfl rfl (by go_simp) ?_
  refine (Calls.mono (HRA.out _) ?_)
  rintro x w5 ⟨rfl, hb5, e5⟩
  refine ⟨_, rfl, e5, ?_⟩
  have hc5 : ∀ w', Ext w5 w' → w'.cell? ⟨w3.drew.heap.size, X, none⟩ = some (.int .i64 r) := fun w' he => by
    rw [cell_of_row w' _ X _ _ _ (he.heap hb5)]
    exact HRV.out
  have ext5 : Ext w w5 := ext3.drew.trans e5
  have HT5 := Lib.hid (HT3.out.ext ((Ext.refl w3).drew.trans e5))
  generalize w3.drew.heap.size = zb at *
  clear hcd hb5 e5 ext3
  simp only [Act.put, List.setIfInBounds_toArray, List.set_cons_zero, List.set_cons_succ]
  repeat (refine lex_val (v := ?_) rfl rfl (fun w' hw' => ?_) ?_; rotate_left; (· go_simp; try with_reducible rfl); simp only [Act.put, List.setIfInBounds_toArray, List.set_cons_zero, List.set_cons_succ])
  refine lex_call 8 #[.int .i64 n, .int .i64 19] rfl rfl (by go_simp) ?_
  refine (Calls.mono (HRN.out _) ?_)
  rintro x w6 ⟨rfl, rfl⟩
  refine ⟨_, rfl, Ext.refl _, ?_⟩
  simp only [Act.put, List.setIfInBounds_toArray, List.set_cons_zero, List.set_cons_succ]
  repeat (refine lex_val (v := ?_) rfl rfl (fun w' hw' => ?_) ?_; rotate_left; (· go_simp; try with_reducible rfl); simp only [Act.put, List.setIfInBounds_toArray, List.set_cons_zero, List.set_cons_succ])
  refine lex_call 15 #[] rfl rfl (by go_simp) ?_
  refine (livesC_any _ HT5.out).mono ?_
  rintro x w7 ⟨rfl, e7⟩
  refine ⟨_, rfl, e7, ?_⟩
  simp only [Act.put, List.setIfInBounds_toArray, List.set_cons_zero, List.set_cons_succ]
  repeat (refine lex_val (v := ?_) rfl rfl (fun w' hw' => ?_) ?_; rotate_left; (· go_simp; try with_reducible rfl); simp only [Act.put, List.setIfInBounds_toArray, List.set_cons_zero, List.set_cons_succ])
  refine lex_done ?_
  go_wp2
  go_ret
  exact ⟨rfl, ext5.trans e7⟩
end Go.Proofs.YtgbdaohigpnmeaaRRRDoor
