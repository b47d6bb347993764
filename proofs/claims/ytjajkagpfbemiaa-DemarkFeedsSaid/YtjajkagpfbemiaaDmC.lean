/-
  Layer 4: a deframer in memory: what the end of a fragment, and the next byte, leave.
-/
import Derived.Test.YtjajkagpfbemiaaDmB
import Derived.Test.YtjajkagpfbemiaaPln
namespace Go.Proofs.Ytjajkagpfbemiaa
open Go Go.RowKit
set_option linter.unusedVariables false
set_option linter.unusedSimpArgs false
section
variable {X : Nat → Prop} {tb m f : Nat}
theorem dend_fin {w wq w4 : World} {s : DS} {hv : Value} {A' : Option Addr} {n' cp' : Nat} {rv tv : Value} (hen : s.en = true) (hx : ¬ X tb) (k1 : Kp X w wq) (k4 : Kp (fun k => X k ∨ k = tb) wq.drew w4)
    (o4 : DOwn w4 X tb hv (.slice none 0 0) (.slice A' n' cp') s.H [] (s.T ++ [s.R])) (hb : w4.heap[tb]? = some (.cells (#[.int .i64 (m : Int), .int .i64 (f : Int), .int .i64 s.E, stp s.md tb, hv, .int .i64 (s.bg : Int), .int .i64 (s.lf : Int), .bool s.en, rv, tv].setIfInBounds 3 (stp 0 tb)) 52 (0, 0))) :
    Dfm (((w4.setCell ⟨tb, 9, none⟩ (.slice A' n' cp')).setCell ⟨tb, 8, none⟩ (.slice none 0 0)).setCell ⟨tb, 5, none⟩ (.int .i64 0)) X tb m f s.fin ∧ Kp X w (((w4.setCell ⟨tb, 9, none⟩ (.slice A' n' cp')).setCell ⟨tb, 8, none⟩ (.slice none 0 0)).setCell ⟨tb, 5, none⟩ (.int .i64 0)) := by
  have h1 := set_blk (set_blk (set_blk hb 9 (.slice A' n' cp')) 8 (.slice none 0 0)) 5 (.int .i64 0)
  refine ⟨⟨hv, .slice none 0 0, .slice A' n' cp', ?_, ?_⟩, ?_⟩
  · unfold DS.fin DRow
    rw [hen] at h1 ⊢
    simpa [stp] using h1
  · unfold DS.fin
    rw [hen]
    exact o4.keep ((((Kp.refl _ w4).set tb 9 _ (fun q => q (.inr rfl))).set tb 8 _ (fun q => q (.inr rfl))).set tb 5 _ (fun q => q (.inr rfl)))
  · exact ((((k1.drew.trans (k4.mono fun k hk => .inl hk)).set tb 9 _ hx).set tb 8 _ hx).set tb 5 _ hx)
set_option maxHeartbeats 1000000 in
theorem dend_any (s : DS) (w : World) (h : Dfm w X tb m f s) (hX : ∀ k, X k → k < w.heap.size) (hT : s.T.length ≤ 99999) :
    Calls Try.prog 29 #[.pointer (some ⟨tb, 0, none⟩)] w fun x w' => x = .returned (.tuple #[]) ∧ Dfm w' X tb m f s.fin ∧ Kp X w w' := by
  have hlt := h.lt
  obtain ⟨hv, rv, tv, hb, ho⟩ := h
  have f3 := blk_free hb 3
  have c3 := cell_of_row w tb 3 _ _ _ hb
  have c7 := cell_of_row w tb 7 _ _ _ hb
  simp at c3 c7
  have hx := ho.1
  have hb1 := set_blk hb 3 (stp 0 tb)
  have k1 : Kp X w (w.setCell ⟨tb, 3, none⟩ (stp 0 tb)) := (Kp.refl X w).set tb 3 _ hx
  have o1 : DOwn (w.setCell ⟨tb, 3, none⟩ (stp 0 tb)) X tb hv rv tv s.H s.R s.T := ho.keep ((Kp.refl _ w).set tb 3 _ (fun q => q (.inr rfl)))
  have HB := Lib.hid hb1
  have K1 := Lib.hid k1
  have O1 := Lib.hid o1
  cases hen : s.en with
  | false =>
    rw [hen] at c7
    have HEN := Lib.hid hen
    clear hb ho hb1 k1 o1 hen
    go_enter Try.func29, Try.ntmps29
    go_wp2
    go_end0
    refine ⟨rfl, ⟨hv, rv, tv, ?_, ?_⟩, K1.out⟩
    · have := HB.out
      unfold DS.fin DRow
      rw [HEN.out] at this ⊢
      simpa [stp] using this
    · unfold DS.fin
      rw [HEN.out]
      exact O1.out
  | true =>
    rw [hen] at c7
    have HEN := Lib.hid hen
    obtain ⟨Ar, cr, rfl, _⟩ := Sees.of_own ho.2.2.2.1
    obtain ⟨At, ct, _, rfl, _⟩ := ho.2.2.2.2.2.elem
    clear hb ho hb1 k1 o1 hen
    go_enter Try.func29, Try.ntmps29
    go_wp2
    rw [show (Value.func (Fn.func 23) #[.pointer (some ⟨tb, 0, none⟩)] #[]) = stp 0 tb from rfl]
    generalize hq : World.setCell _ _ _ = wq
    rw [hq] at HB K1 O1
    have hz : wq.heap.size = w.heap.size := by rw [← hq]; simp [World.setCell]
    have HZ := Lib.hid hz
    clear hz hq f3 c3 c7
    have hbd : wq.drew.heap[tb]? = _ := HB.out
    have E9 : ∀ w', Ext wq.drew w' → w'.cell? ⟨tb, 9, none⟩ = some (.slice At s.T.length ct) := fun w' he => by rw [cell_of_row _ tb 9 _ _ _ (he.heap hbd)]; rfl
    have E8 : ∀ w', Ext wq.drew w' → w'.cell? ⟨tb, 8, none⟩ = some (.slice Ar s.R.length cr) := fun w' he => by rw [cell_of_row _ tb 8 _ _ _ (he.heap hbd)]; rfl
    have od : DOwn wq.drew X tb hv (.slice Ar s.R.length cr) (.slice At s.T.length ct) s.H s.R s.T := O1.out.keep ((Kp.refl _ wq).drew)
    obtain ⟨A', n', cp', w4, hrun, o4, k4⟩ := od.pushT (fun k hk => by have := hX k hk; have := HZ.out; simp; omega) (by have := HZ.out; simp; omega) hT
    have hb4 := k4.heap hbd (.inr rfl)
    have HB4 := Lib.hid hb4
    have O4 := Lib.hid o4
    have K4 := Lib.hid k4
    have g9 := blk_free hb4 9
    have d9 := cell_of_row w4 tb 9 _ _ _ hb4
    simp at d9
    clear hbd od o4 k4 hb4
    have L9 := E9 _ (Ext.refl _)
    have L8 := E8 _ (Ext.refl _)
    have M9 : (wq.alloc (.cells #[.slice Ar s.R.length cr] 22)).cell? ⟨tb, 9, none⟩ = some (.slice At s.T.length ct) := by
      have := E9 _ ((Ext.refl _).alloc (.cells #[.slice Ar s.R.length cr] 22))
      exact this
    have g8 := blk_free HB4.out 8
    have g5 := blk_free HB4.out 5
    have d8 := cell_of_row w4 tb 8 _ _ _ HB4.out
    have d5 := cell_of_row w4 tb 5 _ _ _ HB4.out
    simp at d8 d5
    have HF := Lib.hid (dend_fin HEN.out hx K1.out K4.out O4.out HB4.out)
    clear E9 E8
    refine wp_region_plU (.free 0 (.free 1 (.free 2 (.free 3 (.free 5 (.free 6 (.free 7 (.fork 4 8 (.one 8 (.one 9 (.one 10 (.free 11 (.free 12 (.one 13 .nil)))))) (.fork 4 9 (.one 9 (.one 10 (.free 11 (.free 12 (.one 13 .nil))))) (.one 4 (.one 10 (.free 11 (.free 12 (.one 13 .nil)))))))))))))) (by kernel_rfl) (by kernel_rfl) (by kernel_rfl) (by kernel_rfl) ?_
    iterate 7 (refine plU_val (v := ?_) rfl rfl (fun w' => ?_) ?_; rotate_left; (· go_simp; try with_reducible rfl); simp only [Act.put, List.setIfInBounds_toArray, List.set_cons_zero, List.set_cons_succ])
    refine plU_fork ?_ ?_
    · refine plU_run (.slice At s.T.length ct) rfl rfl (by go_simp; try rfl) ?_
      simp only [Act.put, List.setIfInBounds_toArray, List.set_cons_zero, List.set_cons_succ]
      refine plU_run (.slice Ar s.R.length cr) rfl rfl (by go_simp; try rfl) ?_
      simp only [Act.put, List.setIfInBounds_toArray, List.set_cons_zero, List.set_cons_succ]
      refine plU_run (w' := wq.drew.alloc _) (.slice (some ⟨wq.heap.size, 0, none⟩) 1 1) rfl rfl (by go_simp; first | rfl | exact ⟨rfl, rfl⟩) ?_
      simp only [Act.put, List.setIfInBounds_toArray, List.set_cons_zero, List.set_cons_succ]
      refine plU_run (w' := w4) _ rfl rfl (exec_app (.tmp 15) (.tmp 20) _ rfl _ _ rfl rfl _ _ hrun) ?_
      simp only [Act.put, List.setIfInBounds_toArray, List.set_cons_zero, List.set_cons_succ]
      iterate 2 (refine plU_val (v := ?_) rfl rfl (fun w' => ?_) ?_; rotate_left; (· go_simp; try with_reducible rfl); simp only [Act.put, List.setIfInBounds_toArray, List.set_cons_zero, List.set_cons_succ])
      refine plU_void (w' := w4.setCell ⟨tb, 9, none⟩ (.slice A' n' cp')) rfl rfl (by go_simp; try rfl) ?_
      simp only [Act.put, List.setIfInBounds_toArray, List.set_cons_zero, List.set_cons_succ]
      refine plU_done ?_
      go_wp2
      go_end0
      exact ⟨rfl, HF.out⟩
    · refine plU_run (.slice Ar s.R.length cr) rfl rfl (by go_simp; try rfl) ?_
      simp only [Act.put, List.setIfInBounds_toArray, List.set_cons_zero, List.set_cons_succ]
      refine plU_fork ?_ ?_
      · refine plU_run (.slice At s.T.length ct) rfl rfl (by go_simp; try rfl) ?_
        simp only [Act.put, List.setIfInBounds_toArray, List.set_cons_zero, List.set_cons_succ]
        refine plU_run (w' := wq.drew.alloc _) (.slice (some ⟨wq.heap.size, 0, none⟩) 1 1) rfl rfl (by go_simp; first | rfl | exact ⟨rfl, rfl⟩) ?_
        simp only [Act.put, List.setIfInBounds_toArray, List.set_cons_zero, List.set_cons_succ]
        refine plU_run (w' := w4) _ rfl rfl (exec_app (.tmp 15) (.tmp 20) _ rfl _ _ rfl rfl _ _ hrun) ?_
        simp only [Act.put, List.setIfInBounds_toArray, List.set_cons_zero, List.set_cons_succ]
        iterate 2 (refine plU_val (v := ?_) rfl rfl (fun w' => ?_) ?_; rotate_left; (· go_simp; try with_reducible rfl); simp only [Act.put, List.setIfInBounds_toArray, List.set_cons_zero, List.set_cons_succ])
        refine plU_void (w' := w4.setCell ⟨tb, 9, none⟩ (.slice A' n' cp')) rfl rfl (by go_simp; try rfl) ?_
        simp only [Act.put, List.setIfInBounds_toArray, List.set_cons_zero, List.set_cons_succ]
        refine plU_done ?_
        go_wp2
        go_end0
        exact ⟨rfl, HF.out⟩
      · refine plU_run (w' := wq.drew.alloc _) (.slice (some ⟨wq.heap.size, 0, none⟩) 1 1) rfl rfl (by go_simp; first | rfl | exact ⟨rfl, rfl⟩) ?_
        simp only [Act.put, List.setIfInBounds_toArray, List.set_cons_zero, List.set_cons_succ]
        refine plU_run (.slice At s.T.length ct) rfl rfl (by go_simp; try rfl) ?_
        simp only [Act.put, List.setIfInBounds_toArray, List.set_cons_zero, List.set_cons_succ]
        refine plU_run (w' := w4) _ rfl rfl (exec_app (.tmp 15) (.tmp 20) _ rfl _ _ rfl rfl _ _ hrun) ?_
        simp only [Act.put, List.setIfInBounds_toArray, List.set_cons_zero, List.set_cons_succ]
        iterate 2 (refine plU_val (v := ?_) rfl rfl (fun w' => ?_) ?_; rotate_left; (· go_simp; try with_reducible rfl); simp only [Act.put, List.setIfInBounds_toArray, List.set_cons_zero, List.set_cons_succ])
        refine plU_void (w' := w4.setCell ⟨tb, 9, none⟩ (.slice A' n' cp')) rfl rfl (by go_simp; try rfl) ?_
        simp only [Act.put, List.setIfInBounds_toArray, List.set_cons_zero, List.set_cons_succ]
        refine plU_done ?_
        go_wp2
        go_end0
        exact ⟨rfl, HF.out⟩
set_option maxHeartbeats 1000000 in
theorem dbody_any (s : DS) (c : UInt8) (w : World) (h : Dfm w X tb m f s) (hX : ∀ k, X k → k < w.heap.size) (hT : s.T.length ≤ 99999) (h1 : 1 ≤ s.lf) (h2 : s.lf ≤ 2147483648) (hR : s.R.length ≤ 99999) :
    Calls Try.prog 30 #[.pointer (some ⟨tb, 0, none⟩), .int .u8 (c.toNat : Int)] w fun x w' => x = .returned (.tuple #[]) ∧ Dfm w' X tb m f (stepB s c) ∧ Kp X w w' := by
  have hlt := h.lt
  obtain ⟨hv, rv, tv, hb, ho⟩ := h
  have hx := ho.1
  obtain ⟨Ar, cr, rfl, _⟩ := Sees.of_own ho.2.2.2.1
  obtain ⟨A, n, cp, w4, hrun, hn, o4, k4⟩ := ho.byteR hX hlt c (by omega)
  have c8 := cell_of_row w tb 8 _ _ _ hb
  simp at c8
  have hb4 := k4.heap hb (.inr rfl)
  have g8 := blk_free hb4 8
  have g6 := blk_free hb4 6
  have d8 := cell_of_row w4 tb 8 _ _ _ hb4
  have d6 := cell_of_row w4 tb 6 _ _ _ hb4
  simp at d8 d6
  have hb5 := set_blk (set_blk hb4 8 (.slice A n cp)) 6 (.int .i64 ((s.lf - 1 : Nat) : Int))
  have elf : ((s.lf : Int) - 1) = ((s.lf - 1 : Nat) : Int) := by omega
  have o5 := o4.keep (((Kp.refl _ w4).set tb 8 (.slice A n cp) (fun q => q (.inr rfl))).set tb 6 (.int .i64 ((s.lf - 1 : Nat) : Int)) (fun q => q (.inr rfl)))
  have k5 : Kp X w ((w4.setCell ⟨tb, 8, none⟩ (.slice A n cp)).setCell ⟨tb, 6, none⟩ (.int .i64 ((s.lf - 1 : Nat) : Int))) := ((k4.mono fun k hk => .inl hk).set tb 8 _ hx).set tb 6 _ hx
  have hD : Dfm ((w4.setCell ⟨tb, 8, none⟩ (.slice A n cp)).setCell ⟨tb, 6, none⟩ (.int .i64 ((s.lf - 1 : Nat) : Int))) X tb m f (s.add c) :=
    ⟨hv, .slice A n cp, tv, by simpa [DRow, DS.add] using hb5, o5⟩
  rw [← elf] at hD k5
  have HD := Lib.hid hD
  have K5 := Lib.hid k5
  have HSZ := Lib.hid k5.size
  clear hb ho hn o4 k4 hb4 hb5 elf o5 k5 hD
  by_cases hl : s.lf - 1 = 0
  · have hl1 : s.lf = 1 := by omega
    have hst : stepB s c = (s.add c).fin := by unfold stepB; rw [if_pos hl]
    have HST := Lib.hid hst
    have t1 : ((s.lf : Int) == 1) = true := by simp [hl1]
    have t2 : (((s.lf : Int) - 1) == 0) = true := by simp [hl1]
    clear hst hl hl1
    go_enter Try.func30, Try.ntmps30
    go_wp2_with (first | (at_builtin; refine wpList_append_run rfl (.tmp 8) (.tmp 10) _ rfl _ _ rfl rfl (.slice A n cp) w4 hrun ?_) | fail)
    refine (dend_any (s.add c) _ HD.out (fun k hk => Nat.lt_of_lt_of_le (hX k hk) HSZ.out) hT).mono ?_
    rintro x w6 ⟨rfl, hD6, k6⟩
    have H6 := Lib.hid hD6
    have K6 := Lib.hid (K5.out.trans k6)
    clear hD6 k6
    go_wp2
    go_end0
    exact ⟨rfl, by rw [HST.out]; exact H6.out, K6.out⟩
  · have hst : stepB s c = s.add c := by unfold stepB; rw [if_neg hl]
    have HST := Lib.hid hst
    have t1 : ((s.lf : Int) == 1) = false := by simp; omega
    have t2 : (((s.lf : Int) - 1) == 0) = false := by simp; omega
    clear hst hl
    go_enter Try.func30, Try.ntmps30
    go_wp2_with (first | (at_builtin; refine wpList_append_run rfl (.tmp 8) (.tmp 10) _ rfl _ _ rfl rfl (.slice A n cp) w4 hrun ?_) | fail)
    go_end0
    exact ⟨rfl, by rw [HST.out]; exact HD.out, K5.out⟩
theorem dforget_any (c : UInt8) (w : World) : Calls Try.prog 32 #[.pointer (some ⟨tb, 0, none⟩), .int .u8 (c.toNat : Int)] w fun x w' => x = .returned (.tuple #[]) ∧ w = w' := by
  go_enter Try.func32, Try.ntmps32
  go_wp2
  go_end0
  exact ⟨rfl, rfl⟩
end
end Go.Proofs.Ytjajkagpfbemiaa
