/-
  Layer 10: a table of places: what its functions return, where a place has a value of type int.
-/
import Derived.Test.YtmljfaihkcldnaaInoA
namespace Go.Proofs.Ytmljfaihkcldnaa
open Go Go.RowKit
set_option linter.unusedVariables false
set_option linter.unusedSimpArgs false
theorem info_int : (Try.prog.info? 65).map (fun i => (i.zero, i.size, i.bytes)) = some (some (.agg #[.int .i64 0, .bool false, .int .i64 0]), 3, 24) := by kernel_rfl
theorem newint_no (n : Int) (w : World) (h : n < 1 ∨ 64 < n) :
    Calls Try.prog 11 #[.int .i64 n] w fun e w' => e = .returned (.tuple #[.pointer none, .int .i64 1]) ∧ w = w' := by
  rcases h with h | h
  · go_enter Try.func11, Try.ntmps11
    go_wp2
    go_ret2
    exact ⟨rfl, rfl⟩
  · have h' : ¬ n < 1 := by omega
    go_enter Try.func11, Try.ntmps11
    go_wp2
    go_ret2
    exact ⟨rfl, rfl⟩
abbrev Tab_int (w : World) (tb pb bx most : Nat) (full : Int) (TH : Nat → Value) (FU : Nat → Bool) (GE : Nat → Int) : Prop :=
  TabI w 22 63 65 35 tb pb bx most full TH FU GE
theorem new_int (n : Int) (N : Nat) (w : World) (hN : n = (N : Int)) (h1 : 1 ≤ N) (h2 : N ≤ 64) :
    Calls Try.prog 11 #[.int .i64 n] w fun e w' => ∃ tb pb bx, e = .returned (.tuple #[.pointer (some ⟨tb, 0, none⟩), .int .i64 0]) ∧ Tab_int w' tb pb bx N 0 (fun _ => .int .i64 0) (fun _ => false) (fun _ => 0) ∧ w.heap.size ≤ tb ∧ w.heap.size ≤ pb ∧ w.heap.size ≤ bx ∧ Ext w w' := by
  obtain ⟨i0, hi⟩ : ∃ i, Try.prog.info? 65 = some i := by
    have := info_int
    cases h : Try.prog.info? 65 with
    | none => rw [h] at this; cases this
    | some i => exact ⟨i, rfl⟩
  have hk := info_int
  rw [hi] at hk
  simp at hk
  obtain ⟨hz, hs, hby⟩ := hk
  have hmk := fun w => run_make (P := Try.prog) w 61 65 i0 _ Try.underlying61 hi hz .i64 .i64 n n (by omega) (by omega) (by rw [hby]; omega) (by omega)
  have hnt : n.toNat = N := by omega
  simp only [hnt, hs] at hmk
  have hmk2 : ∀ w, (Instr.makeSlice 61 (.int .i64 n) (.int .i64 n)).run Try.prog w = .ok (.slice (some ⟨w.heap.size, 0, none⟩) N N) (w.alloc (.cells (madeCells #[.int .i64 0, .bool false, .int .i64 0] (N * 3)) 65)) := hmk
  have n1 : 1 ≤ n := by omega
  have n2 : n ≤ 64 := by omega
  have HN := Lib.hid hN
  clear hN hmk hz hs hby hi hnt
  have hbP := heap_alloc_new w (.cells (madeCells #[.int .i64 0, .bool false, .int .i64 0] (N * 3)) 65)
  have hbT := heap_alloc2_new w (.cells (madeCells #[.int .i64 0, .bool false, .int .i64 0] (N * 3)) 65) (.cells #[.slice (some ⟨w.heap.size, 0, none⟩) N N, .int .i64 0, .nilFunc] 63)
  obtain ⟨W2, hW2⟩ : ∃ W2, W2 = (w.alloc (.cells (madeCells #[.int .i64 0, .bool false, .int .i64 0] (N * 3)) 65)).alloc (.cells #[.slice (some ⟨w.heap.size, 0, none⟩) N N, .int .i64 0, .nilFunc] 63) := ⟨_, rfl⟩
  have hz2 : W2.heap.size = w.heap.size + 1 + 1 := by rw [hW2]; simp
  have hbP2 : W2.heap[w.heap.size]? = some (.cells (madeCells #[.int .i64 0, .bool false, .int .i64 0] (N * 3)) 65 (0, 0)) := by rw [hW2]; exact ((Ext.refl _).alloc _).heap hbP
  rw [← hW2] at hbT
  have e2 : Ext w W2 := by rw [hW2]; exact ((Ext.refl _).alloc _).alloc _
  have hb3 := heap_alloc_new W2 (.cells #[.pointer (some ⟨w.heap.size + 1, 0, none⟩)] 35)
  rw [hz2] at hb3
  have e23 : Ext W2 (W2.alloc (.cells #[.pointer (some ⟨w.heap.size + 1, 0, none⟩)] 35)) := (Ext.refl _).alloc _
  have hc := cell_of_row _ (w.heap.size + 1) 2 _ _ _ (e23.heap hbT)
  simp at hc
  have hf := Lib.frozen_of_heap (e23.heap hbT) 2
  have HP := Lib.hid (e23.heap hbP2)
  have HT := Lib.hid (e23.heap hbT)
  have HB := Lib.hid hb3
  have E3 := Lib.hid (e2.trans e23)
  rw [hW2] at hc hf HP HT HB E3
  clear hbP hbT hz2 hbP2 e2 hb3 e23 hW2
  go_enter Try.func11, Try.ntmps11
  go_wp2
  go_ret2
  have kP := heap_alloc_new w (.cells (madeCells #[.int .i64 0, .bool false, .int .i64 0] (N * 3)) 65)
  have kT := heap_alloc2_new w (.cells (madeCells #[.int .i64 0, .bool false, .int .i64 0] (N * 3)) 65) (.cells #[.slice (some ⟨w.heap.size, 0, none⟩) N N, .int .i64 0, .func (.func 22) #[] #[.pointer (some ⟨w.heap.size + 1 + 1, 0, none⟩)]] 63)
  have kB := heap_alloc_new ((w.alloc (.cells (madeCells #[.int .i64 0, .bool false, .int .i64 0] (N * 3)) 65)).alloc (.cells #[.slice (some ⟨w.heap.size, 0, none⟩) N N, .int .i64 0, .func (.func 22) #[] #[.pointer (some ⟨w.heap.size + 1 + 1, 0, none⟩)]] 63)) (.cells #[.pointer (some ⟨w.heap.size + 1, 0, none⟩)] 35)
  obtain ⟨W, hW⟩ : ∃ W, W = ((w.alloc (.cells (madeCells #[.int .i64 0, .bool false, .int .i64 0] (N * 3)) 65)).alloc (.cells #[.slice (some ⟨w.heap.size, 0, none⟩) N N, .int .i64 0, .func (.func 22) #[] #[.pointer (some ⟨w.heap.size + 1 + 1, 0, none⟩)]] 63)).alloc (.cells #[.pointer (some ⟨w.heap.size + 1, 0, none⟩)] 35) := ⟨_, rfl⟩
  have e1 : Ext w W := by rw [hW]; exact (((Ext.refl _).alloc _).alloc _).alloc _
  have kT' : W.heap[w.heap.size + 1]? = some (.cells #[.slice (some ⟨w.heap.size, 0, none⟩) N N, .int .i64 0, .func (.func 22) #[] #[.pointer (some ⟨w.heap.size + 1 + 1, 0, none⟩)]] 63 (0, 0)) := by rw [hW]; exact ((Ext.refl _).alloc _).heap kT
  have kB' : W.heap[w.heap.size + 1 + 1]? = some (.cells #[.pointer (some ⟨w.heap.size + 1, 0, none⟩)] 35 (0, 0)) := by rw [hW]; simpa using kB
  have kP' : W.heap[w.heap.size]? = some (.cells (madeCells #[.int .i64 0, .bool false, .int .i64 0] (N * 3)) 65 (0, 0)) := by rw [hW]; exact (((Ext.refl _).alloc _).alloc _).heap kP
  have hplc : Plc W w.heap.size N 65 (fun _ => .int .i64 0) (fun _ => false) (fun _ => 0) := ⟨_, kP', size_madeCells _ _, fun i hi => made3 _ _ _ N i hi⟩
  have htab : Tab_int W (w.heap.size + 1) w.heap.size (w.heap.size + 1 + 1) N 0 (fun _ => .int .i64 0) (fun _ => false) (fun _ => 0) := ⟨kT', kB', hplc, by omega, by omega, by omega, h1, h2⟩
  rw [← hW]
  exact ⟨w.heap.size + 1, w.heap.size, w.heap.size + 1 + 1, rfl, htab, by omega, by omega, by omega, e1⟩
theorem handle_int (w : World) (tb pb bx most : Nat) (full : Int) (TH : Nat → Value) (FU : Nat → Bool) (GE : Nat → Int) (i : Nat) (h : Tab_int w tb pb bx most full TH FU GE) (hi : i < most) :
    Calls Try.prog 22 #[.int .i64 (i : Int), .pointer (some ⟨bx, 0, none⟩)] w fun e w' => e = .returned (.agg #[.int .i64 ((i : Int) + 1), .int .i64 (GE i)]) ∧ Ext w w' := by
  have hm := h.2.2.2.2.2.2.2
  have e1 : Ext w (w.alloc (.cells #[.int .i64 0, .int .i64 0] 29)) := (Ext.refl w).alloc _
  obtain ⟨a0, a1, a2, a3⟩ := (h.ext e1).head
  obtain ⟨b0, b1, b2⟩ := (h.ext e1).at_ i hi
  have hb := heap_alloc_new w (.cells #[.int .i64 ((i : Int) + 1), .int .i64 (GE i)] 29)
  have HB := Lib.hid hb
  have hz : (Try.prog.info? 29).map (·.size) = some (Array.size (α := Value) #[.int .i64 ((i : Int) + 1), .int .i64 (GE i)]) := by
    change _ = some 2
    kernel_rfl
  have HZ := Lib.hid hz
  have E1 := Lib.hid (show Ext w (w.alloc (.cells #[.int .i64 ((i : Int) + 1), .int .i64 (GE i)] 29)) from (Ext.refl w).alloc _)
  clear hb hz h e1
  go_enter Try.func22, Try.ntmps22
  go_wp2
  refine bodyPost_ret (results_cell_row rfl _ _ w.heap.size _ _ (0, 0) _ rfl HB.out Try.underlying29 rfl HZ.out) rfl ?_
  exact ⟨rfl, E1.out⟩
set_option maxRecDepth 20000 in
set_option maxHeartbeats 1000000 in
theorem stale_int_out (w : World) (tb pb bx most : Nat) (full ino gen : Int) (TH : Nat → Value) (FU : Nat → Bool) (GE : Nat → Int) (h : Tab_int w tb pb bx most full TH FU GE) (hi : ino < 1 ∨ (most : Int) < ino) (h0 : -9223372036854775808 ≤ ino) (h1 : ino ≤ 9223372036854775807) :
    Calls Try.prog 23 #[.pointer (some ⟨tb, 0, none⟩), .agg #[.int .i64 ino, .int .i64 gen]] w fun e w' => e = .returned (.bool true) ∧ Ext w w' := by
  have hm := h.2.2.2.2.2.2.2
  have e1 : Ext w (w.alloc (.cells #[.int .i64 ino, .int .i64 gen] 29)) := (Ext.refl w).alloc _
  obtain ⟨a0, a1, a2, a3⟩ := (h.ext e1).head
  have E1 := Lib.hid e1
  clear h e1
  rcases hi with hi | hi
  · have hd : decide (ino < 1) = true := by simpa using hi
    go_enter Try.func23, Try.ntmps23
    go_wp2
    go_quiet (fail)
    go_wp2
    go_ret
    exact ⟨rfl, E1.out.drewN _⟩
  · have hi' : ¬ ino < 1 := by omega
    have hd : decide (ino < 1) = false := by simpa using hi'
    go_enter Try.func23, Try.ntmps23
    go_wp2
    go_quiet (fail)
    go_wp2
    go_ret
    exact ⟨rfl, E1.out.drewN _⟩
/-- A place's own handle, or another one. -/
theorem stale_int_in (w : World) (tb pb bx most : Nat) (full ino gen : Int) (i : Nat) (TH : Nat → Value) (FU : Nat → Bool) (GE : Nat → Int) (h : Tab_int w tb pb bx most full TH FU GE) (hino : ino = (i : Int) + 1) (hi : i < most) :
    Calls Try.prog 23 #[.pointer (some ⟨tb, 0, none⟩), .agg #[.int .i64 ino, .int .i64 gen]] w fun e w' => e = .returned (.bool (!(FU i && (GE i == gen)))) ∧ Ext w w' := by
  subst hino
  have hm := h.2.2.2.2.2.2.2
  have e1 : Ext w (w.alloc (.cells #[.int .i64 ((i : Int) + 1), .int .i64 gen] 29)) := (Ext.refl w).alloc _
  obtain ⟨a0, a1, a2, a3⟩ := (h.ext e1).head
  have H1 := Lib.hid (h.ext e1)
  have hb := heap_alloc_new w (.cells #[.int .i64 ((i : Int) + 1), .int .i64 gen] 29)
  have HB := Lib.hid hb
  have E1 := Lib.hid e1
  have hi' : ¬ ((i : Int) + 1 < 1) := by omega
  have hi2 : ¬ ((most : Int) < (i : Int) + 1) := by omega
  have hd : decide ((i : Int) + 1 < 1) = false := by simpa using hi'
  clear h e1 hb
  go_enter Try.func23, Try.ntmps23
  go_wp2
  go_quiet (fail)
  go_wp2
  generalize hq : World.drewN _ _ = wq
  have EQ := Lib.hid (show Ext (w.alloc (.cells #[.int .i64 ((i : Int) + 1), .int .i64 gen] 29)) wq by rw [← hq]; exact (Ext.refl _).drewN _)
  clear hq a0 a1 a2 a3
  have HT := Lib.hid (fun w' (he : Ext wq.drew w') => H1.out.ext (EQ.out.drew.trans he))
  have HBX := Lib.hid (fun w' (he : Ext wq.drew w') => (EQ.out.drew.trans he).heap HB.out)
  have c0 : ∀ w', Ext wq.drew w' → w'.cell? ⟨tb, 0, none⟩ = some (.slice (some ⟨pb, 0, none⟩) most most) := fun w' he => (HT.out w' he).head.1
  have c2 : ∀ w', Ext wq.drew w' → w'.cell? ⟨tb, 2, none⟩ = some (.func (.func 22) #[] #[.pointer (some ⟨bx, 0, none⟩)]) := fun w' he => (HT.out w' he).head.2.2.1
  have d1 : ∀ w', Ext wq.drew w' → w'.cell? ⟨pb, i * 3 + 1, none⟩ = some (.bool (FU i)) := fun w' he => ((HT.out w' he).at_ i hi).2.1
  have k0 : ∀ w', Ext wq.drew w' → w'.cell? ⟨w.heap.size, 0, none⟩ = some (.int .i64 ((i : Int) + 1)) := fun w' he => by rw [cell_of_row w' _ 0 _ _ _ (HBX.out w' he)]; rfl
  have k1 : ∀ w', Ext wq.drew w' → w'.cell? ⟨w.heap.size, 1, none⟩ = some (.int .i64 gen) := fun w' he => by rw [cell_of_row w' _ 1 _ _ _ (HBX.out w' he)]; rfl
  have hz : (Try.prog.info? 29).map (·.size) = some (Array.size (α := Value) #[.int .i64 ((i : Int) + 1), .int .i64 gen]) := by
    change _ = some 2
    kernel_rfl
  have kl : ∀ w', Ext wq.drew w' → (loadVar 29 ⟨w.heap.size, 0, none⟩).run Try.prog w' = .ok (.agg #[.int .i64 ((i : Int) + 1), .int .i64 gen]) w' := fun w' he => run_loadVar_row w' _ _ _ _ _ _ (HBX.out w' he) Try.underlying29 rfl hz
  have HH := Lib.hid (handle_int wq.drew tb pb bx most full TH FU GE i (HT.out _ (Ext.refl _)) hi)
  have EQ2 := Lib.hid (E1.out.trans EQ.out)
  clear hz
  have hwr : IntKind.i64.wrap (i : Int) = (i : Int) := IntWalk.i64_in _ (by omega)
  cases hfu : FU i with
  | false =>
    rw [hfu] at d1
    refine wp_region_pl (.free 0 (.free 1 (.free 2 (.free 3 (.free 4 (.free 5 (.free 6 (.free 7 (.free 8 (.free 9 (.free 10 (.free 11 (.free 12 (.free 13 (.free 14 (.free 15 (.free 16 (.free 17 (.free 18 (.free 20 (.one 19 (.free 21 (.free 22 (.free 23 .nil)))))))))))))))))))))))) (by kernel_rfl) (by kernel_rfl) (by kernel_rfl) (by kernel_rfl) ?_
    iterate 12 (refine pl_val (v := ?_) rfl rfl (fun w' hw' => ?_) ?_; rotate_left; (· go_simp; try with_reducible rfl); simp only [Act.put, List.setIfInBounds_toArray, List.set_cons_zero, List.set_cons_succ])
    iterate 8 (refine pl_skip rfl rfl ?_; simp only [Act.put, List.setIfInBounds_toArray, List.set_cons_zero, List.set_cons_succ])
    refine pl_skip1 rfl rfl ?_
    simp only [Act.put, List.setIfInBounds_toArray, List.set_cons_zero, List.set_cons_succ]
    refine pl_skip rfl rfl ?_
    simp only [Act.put, List.setIfInBounds_toArray, List.set_cons_zero, List.set_cons_succ]
    iterate 2 (refine pl_val (v := ?_) rfl rfl (fun w' hw' => ?_) ?_; rotate_left; (· go_simp; try with_reducible rfl); simp only [Act.put, List.setIfInBounds_toArray, List.set_cons_zero, List.set_cons_succ])
    refine pl_done ?_
    go_wp2
    go_ret
    exact ⟨by rw [hfu]; rfl, EQ2.out.drew⟩
  | true =>
    rw [hfu] at d1
    refine wp_region_pl (.free 0 (.free 1 (.free 2 (.free 3 (.free 4 (.free 5 (.free 6 (.free 7 (.free 8 (.free 9 (.free 10 (.free 11 (.free 12 (.free 13 (.free 14 (.free 15 (.free 16 (.free 17 (.free 18 (.free 20 (.one 19 (.free 21 (.free 22 (.free 23 .nil)))))))))))))))))))))))) (by kernel_rfl) (by kernel_rfl) (by kernel_rfl) (by kernel_rfl) ?_
    iterate 20 (refine pl_val (v := ?_) rfl rfl (fun w' hw' => ?_) ?_; rotate_left; (· go_simp; try with_reducible rfl); simp only [Act.put, List.setIfInBounds_toArray, List.set_cons_zero, List.set_cons_succ])
    refine pl_call 22 #[.int .i64 (i : Int), .pointer (some ⟨bx, 0, none⟩)] rfl rfl (by go_simp) ?_
    refine (HH.out).mono ?_
    rintro e w4 ⟨rfl, e4⟩
    refine ⟨_, rfl, e4, ?_⟩
    simp only [Act.put, List.setIfInBounds_toArray, List.set_cons_zero, List.set_cons_succ]
    clear c0 c2 d1 k0 k1 kl hwr
    refine pl_val (.bool (!(GE i == gen))) rfl rfl (fun w' hw' => by
      go_simp
      by_cases hg : GE i = gen <;> simp [hg]) ?_
    simp only [Act.put, List.setIfInBounds_toArray, List.set_cons_zero, List.set_cons_succ]
    iterate 2 (refine pl_val (v := ?_) rfl rfl (fun w' hw' => ?_) ?_; rotate_left; (· go_simp; try with_reducible rfl); simp only [Act.put, List.setIfInBounds_toArray, List.set_cons_zero, List.set_cons_succ])
    refine pl_done ?_
    go_wp2
    go_ret
    exact ⟨by rw [hfu]; simp, EQ2.out.drew.trans e4⟩
set_option maxRecDepth 20000 in
set_option maxHeartbeats 400000 in
theorem add_int_ok (w : World) (tb pb bx most : Nat) (full : Int) (TH : Nat → Value) (FU : Nat → Bool) (GE : Nat → Int) (i : Nat) (x : Int) (h : Tab_int w tb pb bx most full TH FU GE) (hi : i < most) (hfree : FU i = false) (hbef : ∀ j, j < i → FU j = true)
    (hg0 : 0 ≤ GE i) (hg1 : GE i ≤ 1000000) (hf0 : 0 ≤ full) (hf1 : full ≤ 1000000) :
    Calls Try.prog 12 #[.pointer (some ⟨tb, 0, none⟩), .int .i64 x] w fun e w' => e = .returned (.tuple #[.agg #[.int .i64 ((i : Int) + 1), .int .i64 (GE i + 1)], .int .i64 0]) ∧
      Tab_int w' tb pb bx most (full + 1) (upd TH i (.int .i64 x)) (upd FU i true) (upd GE i (GE i + 1)) ∧ (∀ B, B ≤ tb → B ≤ pb → B ≤ w.heap.size → Below B w w') ∧ Fr tb pb w w' := by
  have hm := h.2.2.2.2.2.2.2
  obtain ⟨l1, l2, l3⟩ := h.lt
  have n1 := h.2.2.2.1
  have e1 : Ext w (w.alloc (.cells #[.int .i64 0, .int .i64 0] 29)) := (Ext.refl w).alloc _
  obtain ⟨a0, a1, a2, a3⟩ := h.head
  have hat := fun j hj => (h.at_ j hj).2.1
  obtain ⟨b0, b1, b2⟩ := h.at_ i hi
  have f0 := (h.thaw (i * 3)).1
  have hT1 := h.set1 i hi (.int .i64 x)
  have c1 := (hT1.at_ i hi).2.1
  have f1 := (hT1.thaw (i * 3 + 1)).1
  have hT2 := hT1.setF i hi true
  have c2 := (hT2.at_ i hi).2.2
  have f2 := (hT2.thaw (i * 3 + 2)).1
  have hT3 := hT2.setG i hi (GE i + 1)
  have c3 := hT3.head.2.1
  have f3 := (hT3.thaw 1).2
  have hT4 := hT3.setN (full + 1)
  have c4 := hT4.head.2.2.1
  have HT4 := Lib.hid hT4
  have HAT := Lib.hid hat
  have HBE := Lib.hid hbef
  have HFR := Lib.hid hfree
  have HE := Lib.hid e1
  rw [hfree] at b1 c1
  have HH := Lib.hid (handle_int _ tb pb bx most _ _ _ _ i (hT4.ext ((Ext.refl _).alloc (.cells #[.int .i64 0, .int .i64 0] 29))) hi)
  rw [upd_same] at HH
  clear h hT1 hT2 hT3 hT4 hat hbef hfree e1
  go_enter Try.func12, Try.ntmps12
  go_wp2_with fail
  go_loop [13] (fun k => ∃ j : Nat, j ≤ i ∧ k = .int .i64 j) (fun k => most - (intOf k).toNat)
  case atStart => exact ⟨0, by omega, rfl⟩
  case round =>
    obtain ⟨j, hj, rfl⟩ := hrel
    by_cases hji : j < i
    · have hb := HAT.out j (by omega)
      rw [HBE.out j hji] at hb
      have hjm : j < most := by omega
      clear b0 b1 b2 f0 f1 f2 f3 c1 c2 c3 c4
      go_wp2
      go_round
      case rel => exact ⟨j + 1, by omega, by go_num⟩
      case measure => simp [intOf]; omega
    · obtain rfl : j = i := by omega
      have n1' : ¬ pb = tb := fun e => n1 e.symm
      have hzs : ((((w.setCell ⟨pb, j * 3, none⟩ (.int .i64 x)).setCell ⟨pb, j * 3 + 1, none⟩ (.bool true)).setCell ⟨pb, j * 3 + 2, none⟩ (.int .i64 (GE j + 1))).setCell ⟨tb, 1, none⟩ (.int .i64 (full + 1))).heap.size = w.heap.size := by simp [World.setCell]
      have hbn := heap_alloc_new ((((w.setCell ⟨pb, j * 3, none⟩ (.int .i64 x)).setCell ⟨pb, j * 3 + 1, none⟩ (.bool true)).setCell ⟨pb, j * 3 + 2, none⟩ (.int .i64 (GE j + 1))).setCell ⟨tb, 1, none⟩ (.int .i64 (full + 1))) (.cells #[.int .i64 0, .int .i64 0] 29)
      rw [hzs] at hbn
      have HBN := Lib.hid hbn
      have HZS := Lib.hid hzs
      clear hbn hzs
      go_wp2_with fail
      refine (HH.out).mono ?_
      rintro e w5 ⟨rfl, e5⟩
      have hb5 := e5.heap HBN.out
      have HT5 := HT4.out.ext (((Ext.refl _).alloc (.cells #[.int .i64 0, .int .i64 0] 29)).trans e5)
      have z0 := cell_of_row w5 w.heap.size 0 _ _ _ hb5
      have z1 := cell_of_row w5 w.heap.size 1 _ _ _ hb5
      simp at z0 z1
      have g0 := Lib.frozen_of_heap hb5 0
      have g1 := Lib.frozen_of_heap hb5 1
      have HB5 := Lib.hid hb5
      have H5 := Lib.hid HT5
      have E5 := Lib.hid e5
      have hz : (Try.prog.info? 29).map (·.size) = some (Array.size (α := Value) #[.int .i64 ((j : Int) + 1), .int .i64 (GE j + 1)]) := by
        change _ = some 2
        kernel_rfl
      have HZ := Lib.hid hz
      clear hb5 HT5 e5 hz b0 b1 b2 f0 f1 f2 f3 c1 c2 c3 c4 a0 a1 a2 a3
      go_wp2
      refine bodyPost_ret (results_cell_tmp rfl _ _ w.heap.size _ _ (0, 0) _ (.int .i64 0) rfl rfl (set2_row HB5.out) Try.underlying29 rfl HZ.out) rfl ?_
      refine ⟨rfl, (H5.out.off _ _ _ (by omega) (by omega) (by omega)).off _ _ _ (by omega) (by omega) (by omega), fun B hB1 hB2 hB3 => ?_, (((((((Fr.refl tb pb w).set ⟨pb, j * 3, none⟩ (.int .i64 x) (.inr (.inl rfl))).set ⟨pb, j * 3 + 1, none⟩ (.bool true) (.inr (.inl rfl))).set ⟨pb, j * 3 + 2, none⟩ (.int .i64 (GE j + 1)) (.inr (.inl rfl))).set ⟨tb, 1, none⟩ (.int .i64 (full + 1)) (.inl rfl)).ext (((Ext.refl _).alloc _).trans E5.out)).set ⟨w.heap.size, 0, none⟩ _ (.inr (.inr (Nat.le_refl _)))).set ⟨w.heap.size, 1, none⟩ _ (.inr (.inr (Nat.le_refl _)))⟩
      have q1 := put_below (w := w) hB1 hB2 j (.int .i64 x) (.bool true) (.int .i64 (GE j + 1)) (.int .i64 (full + 1))
      have q2 := q1.alloc (by rw [HZS.out]; exact hB3) (.cells #[.int .i64 0, .int .i64 0] 29)
      have q3 := q2.trans (Below.mono E5.out (by simp [World.setCell]; omega))
      exact (q3.setCell (p := ⟨w.heap.size, 0, none⟩) hB3 _).setCell (p := ⟨w.heap.size, 1, none⟩) hB3 _
theorem add_int_full (w : World) (tb pb bx most : Nat) (full : Int) (TH : Nat → Value) (FU : Nat → Bool) (GE : Nat → Int) (x : Int) (h : Tab_int w tb pb bx most full TH FU GE) (hall : ∀ j, j < most → FU j = true) :
    Calls Try.prog 12 #[.pointer (some ⟨tb, 0, none⟩), .int .i64 x] w fun e w' => e = .returned (.tuple #[.agg #[.int .i64 0, .int .i64 0], .int .i64 14]) ∧ Ext w w' := by
  have hm := h.2.2.2.2.2.2.2
  obtain ⟨l1, l2, l3⟩ := h.lt
  obtain ⟨a0, a1, a2, a3⟩ := h.head
  have hat := fun j hj => (h.at_ j hj).2.1
  have HAT := Lib.hid hat
  have HBE := Lib.hid hall
  have hz : (Try.prog.info? 29).map (·.size) = some (Array.size (α := Value) #[.int .i64 0, .int .i64 0]) := by
    change _ = some 2
    kernel_rfl
  have HZ := Lib.hid hz
  clear h hat hall hz
  go_enter Try.func12, Try.ntmps12
  go_wp2_with fail
  go_loop [13] (fun k => ∃ j : Nat, j ≤ most ∧ k = .int .i64 j) (fun k => most - (intOf k).toNat)
  case atStart => exact ⟨0, by omega, rfl⟩
  case round =>
    obtain ⟨j, hj, rfl⟩ := hrel
    by_cases hji : j < most
    · have hb := HAT.out j hji
      rw [HBE.out j hji] at hb
      go_wp2
      go_round
      case rel => exact ⟨j + 1, by omega, by go_num⟩
      case measure => simp [intOf]; omega
    · obtain rfl : j = most := by omega
      go_wp2
      refine bodyPost_ret (results_cell_tmp rfl _ _ w.heap.size _ _ (0, 0) _ (.int .i64 14) rfl rfl (heap_alloc_new w _) Try.underlying29 rfl HZ.out) rfl ?_
      exact ⟨rfl, (Ext.refl w).alloc _⟩
/-- A handle that stands for nothing. -/
def StX_int (most : Nat) (FU : Nat → Bool) (GE : Nat → Int) (ino gen : Int) : Prop := ino < 1 ∨ (most : Int) < ino ∨ ∃ i : Nat, ino = (i : Int) + 1 ∧ i < most ∧ (FU i = false ∨ GE i ≠ gen)
theorem stale_int_yes (w : World) (tb pb bx most : Nat) (full ino gen : Int) (TH : Nat → Value) (FU : Nat → Bool) (GE : Nat → Int) (h : Tab_int w tb pb bx most full TH FU GE) (hs : StX_int most FU GE ino gen) (h0 : -9223372036854775808 ≤ ino) (h1 : ino ≤ 9223372036854775807) :
    Calls Try.prog 23 #[.pointer (some ⟨tb, 0, none⟩), .agg #[.int .i64 ino, .int .i64 gen]] w fun e w' => e = .returned (.bool true) ∧ Ext w w' := by
  rcases hs with hs | hs | ⟨i, hi, hm, hs⟩
  · exact stale_int_out w tb pb bx most full ino gen TH FU GE h (.inl hs) h0 h1
  · exact stale_int_out w tb pb bx most full ino gen TH FU GE h (.inr hs) h0 h1
  · refine (stale_int_in w tb pb bx most full ino gen i TH FU GE h hi hm).mono ?_
    rintro e w' ⟨rfl, he⟩
    refine ⟨?_, he⟩
    rcases hs with hs | hs
    · rw [hs]; rfl
    · have : (GE i == gen) = false := by simpa using hs
      rw [this, Bool.and_false]; rfl
theorem staleint_no (w : World) (tb pb bx most : Nat) (full gen : Int) (i : Nat) (TH : Nat → Value) (FU : Nat → Bool) (GE : Nat → Int) (h : Tab_int w tb pb bx most full TH FU GE) (hi : i < most) (hf : FU i = true) (hg : GE i = gen) :
    Calls Try.prog 23 #[.pointer (some ⟨tb, 0, none⟩), .agg #[.int .i64 ((i : Int) + 1), .int .i64 gen]] w fun e w' => e = .returned (.bool false) ∧ Ext w w' := by
  refine (stale_int_in w tb pb bx most full _ gen i TH FU GE h rfl hi).mono ?_
  rintro e w' ⟨rfl, he⟩
  refine ⟨?_, he⟩
  rw [hf, hg]
  simp
theorem getint_no (w : World) (tb pb bx most : Nat) (full ino gen : Int) (TH : Nat → Value) (FU : Nat → Bool) (GE : Nat → Int) (h : Tab_int w tb pb bx most full TH FU GE) (hs : StX_int most FU GE ino gen) (h0 : -9223372036854775808 ≤ ino) (h1 : ino ≤ 9223372036854775807) :
    Calls Try.prog 14 #[.pointer (some ⟨tb, 0, none⟩), .agg #[.int .i64 ino, .int .i64 gen]] w fun e w' => e = .returned (.tuple #[.int .i64 0, .int .i64 8]) ∧ Ext w w' := by
  have e1 : Ext w (w.alloc (.cells #[.int .i64 ino, .int .i64 gen] 29)) := (Ext.refl w).alloc _
  have HS := Lib.hid (stale_int_yes _ tb pb bx most full ino gen TH FU GE (h.ext e1) hs h0 h1)
  have E1 := Lib.hid e1
  clear h hs e1
  go_enter Try.func14, Try.ntmps14
  go_wp2_with fail
  refine (HS.out).mono ?_
  rintro e w2 ⟨rfl, e2⟩
  go_wp2
  go_ret2
  exact ⟨rfl, E1.out.trans e2⟩
theorem get_int_ok (w : World) (tb pb bx most : Nat) (full gen : Int) (i : Nat) (TH : Nat → Value) (FU : Nat → Bool) (GE : Nat → Int) (h : Tab_int w tb pb bx most full TH FU GE) (hi : i < most) (hf : FU i = true) (hg : GE i = gen) :
    Calls Try.prog 14 #[.pointer (some ⟨tb, 0, none⟩), .agg #[.int .i64 ((i : Int) + 1), .int .i64 gen]] w fun e w' => e = .returned (.tuple #[TH i, .int .i64 0]) ∧ Ext w w' := by
  have hm := h.2.2.2.2.2.2.2
  have e1 : Ext w (w.alloc (.cells #[.int .i64 ((i : Int) + 1), .int .i64 gen] 29)) := (Ext.refl w).alloc _
  have HS := Lib.hid (staleint_no _ tb pb bx most full gen i TH FU GE (h.ext e1) hi hf hg)
  have HB := Lib.hid (heap_alloc_new w (.cells #[.int .i64 ((i : Int) + 1), .int .i64 gen] 29))
  have E1 := Lib.hid e1
  have HT := Lib.hid (h.ext e1)
  clear h e1 hf hg
  go_enter Try.func14, Try.ntmps14
  go_wp2_with fail
  refine (HS.out).mono ?_
  rintro e w2 ⟨rfl, e2⟩
  obtain ⟨a0, a1, a2, a3⟩ := (HT.out.ext e2).head
  obtain ⟨b0, b1, b2⟩ := (HT.out.ext e2).at_ i hi
  have k0 := cell_of_row w2 w.heap.size 0 _ _ _ (e2.heap HB.out)
  simp at k0
  have hwr : IntKind.i64.wrap (i : Int) = (i : Int) := IntWalk.i64_in _ (by omega)
  have E2 := Lib.hid (E1.out.trans e2)
  clear e2
  go_wp2
  go_quiet (fail)
  go_wp2
  go_ret2
  exact ⟨rfl, E2.out.drewN _⟩
theorem len_int (w : World) (tb pb bx most : Nat) (full : Int) (TH : Nat → Value) (FU : Nat → Bool) (GE : Nat → Int) (h : Tab_int w tb pb bx most full TH FU GE) :
    Calls Try.prog 16 #[.pointer (some ⟨tb, 0, none⟩)] w fun e w' => e = .returned (.int .i64 full) ∧ w = w' := by
  obtain ⟨a0, a1, a2, a3⟩ := h.head
  clear h
  go_enter Try.func16, Try.ntmps16
  go_wp2
  go_ret
  exact ⟨rfl, rfl⟩
theorem setint_no (w : World) (tb pb bx most : Nat) (full ino gen : Int) (TH : Nat → Value) (FU : Nat → Bool) (GE : Nat → Int) (x : Int) (h : Tab_int w tb pb bx most full TH FU GE) (hs : StX_int most FU GE ino gen) (h0 : -9223372036854775808 ≤ ino) (h1 : ino ≤ 9223372036854775807) :
    Calls Try.prog 15 #[.pointer (some ⟨tb, 0, none⟩), .agg #[.int .i64 ino, .int .i64 gen], .int .i64 x] w fun e w' => e = .returned (.int .i64 8) ∧ Ext w w' := by
  have e1 : Ext w (w.alloc (.cells #[.int .i64 ino, .int .i64 gen] 29)) := (Ext.refl w).alloc _
  have HS := Lib.hid (stale_int_yes _ tb pb bx most full ino gen TH FU GE (h.ext e1) hs h0 h1)
  have E1 := Lib.hid e1
  clear h hs e1
  go_enter Try.func15, Try.ntmps15
  go_wp2_with fail
  refine (HS.out).mono ?_
  rintro e w2 ⟨rfl, e2⟩
  go_wp2
  go_ret
  exact ⟨rfl, E1.out.trans e2⟩
set_option maxRecDepth 20000 in
set_option maxHeartbeats 1000000 in
theorem set_int_ok (w : World) (tb pb bx most : Nat) (full gen : Int) (i : Nat) (TH : Nat → Value) (FU : Nat → Bool) (GE : Nat → Int) (x : Int) (h : Tab_int w tb pb bx most full TH FU GE) (hi : i < most) (hf : FU i = true) (hg : GE i = gen) :
    Calls Try.prog 15 #[.pointer (some ⟨tb, 0, none⟩), .agg #[.int .i64 ((i : Int) + 1), .int .i64 gen], .int .i64 x] w fun e w' => e = .returned (.int .i64 0) ∧ Tab_int w' tb pb bx most full (upd TH i (.int .i64 x)) FU GE ∧ (∀ B, B ≤ tb → B ≤ pb → B ≤ w.heap.size → Below B w w') ∧ Fr tb pb w w' := by
  have hm := h.2.2.2.2.2.2.2
  obtain ⟨l1, l2, l3⟩ := h.lt
  have n1 := h.2.2.2.1
  have e1 : Ext w (w.alloc (.cells #[.int .i64 ((i : Int) + 1), .int .i64 gen] 29)) := (Ext.refl w).alloc _
  have HS := Lib.hid (staleint_no _ tb pb bx most full gen i TH FU GE (h.ext e1) hi hf hg)
  have HB := Lib.hid (heap_alloc_new w (.cells #[.int .i64 ((i : Int) + 1), .int .i64 gen] 29))
  have E1 := Lib.hid e1
  have HT := Lib.hid (h.ext e1)
  clear h e1 hf hg
  go_enter Try.func15, Try.ntmps15
  go_wp2_with fail
  refine (HS.out).mono ?_
  rintro e w2 ⟨rfl, e2⟩
  have HT2 := Lib.hid (HT.out.ext e2)
  have hb2 := e2.heap HB.out
  have k0 := cell_of_row w2 w.heap.size 0 _ _ _ hb2
  have k1 := cell_of_row w2 w.heap.size 1 _ _ _ hb2
  simp at k0 k1
  have E2 := Lib.hid (E1.out.trans e2)
  have hwr : IntKind.i64.wrap (i : Int) = (i : Int) := IntWalk.i64_in _ (by omega)
  clear e2 hb2
  have hq0 := HT2.out.head.1
  have HS0 : Hid (w2.drew.cell? ⟨tb, 0, none⟩ = some (.slice (some ⟨pb, 0, none⟩) most most) ∧ w2.drew.cell? ⟨w.heap.size, 0, none⟩ = some (.int .i64 ((i : Int) + 1)) ∧ w2.drew.cell? ⟨w.heap.size, 1, none⟩ = some (.int .i64 gen)) := Lib.hid ⟨by simpa using hq0, by simpa using k0, by simpa using k1⟩
  clear k0 k1 hq0
  have hf2 : w2.frozen? ⟨pb, i * 3, none⟩ = false := (HT2.out.thaw (i * 3)).1
  obtain ⟨b0, b1, b2⟩ := HT2.out.at_ i hi
  have hT3 := Lib.hid ((HT2.out.ext (Ext.refl w2).drew).set1 i hi (.int .i64 x))
  go_wp2
  refine wp_region_plS (fun w' => w'.cell? ⟨tb, 0, none⟩ = some (.slice (some ⟨pb, 0, none⟩) most most) ∧ w'.cell? ⟨w.heap.size, 0, none⟩ = some (.int .i64 ((i : Int) + 1)) ∧ w'.cell? ⟨w.heap.size, 1, none⟩ = some (.int .i64 gen)) (.free 0 (.free 1 (.free 2 (.free 3 (.free 4 (.free 5 (.free 6 (.free 7 (.free 8 (.free 9 (.one 10 .nil))))))))))) (by kernel_rfl) (by kernel_rfl) (by kernel_rfl) (by kernel_rfl) ?_
  iterate 10 (refine plS_val (v := ?_) rfl rfl HS0.out (fun w' hw' => ?_) ?_; rotate_left; (· obtain ⟨s0, s1, s2⟩ := hw'; go_simp; try with_reducible rfl); simp only [Act.put, List.setIfInBounds_toArray, List.set_cons_zero, List.set_cons_succ])
  refine plS_void (w' := w2.drew.setCell ⟨pb, i * 3, none⟩ (.int .i64 x)) rfl rfl (by go_simp; try rfl) ?_ ?_
  · have q0 : (⟨pb, 0, none⟩ : Addr).block ≠ tb := fun e => n1 e.symm
    obtain ⟨s0, s1, s2⟩ := HS0.out
    have hpw : pb ≠ w.heap.size := by omega
    exact ⟨by rw [World.cell?_setCell_other _ _ _ _ (fun e => n1 (congrArg Addr.block e).symm)]; exact s0, by rw [World.cell?_setCell_other _ _ _ _ (fun e => hpw (congrArg Addr.block e))]; exact s1, by rw [World.cell?_setCell_other _ _ _ _ (fun e => hpw (congrArg Addr.block e))]; exact s2⟩
  simp only [Act.put, List.setIfInBounds_toArray, List.set_cons_zero, List.set_cons_succ]
  refine plS_done ?_
  clear hf2 b0 b1 b2 hwr
  go_wp2
  go_ret
  refine ⟨rfl, hT3.out, fun B hB1 hB2 hB3 => ?_, ((Fr.refl tb pb w).ext E2.out.drew).set ⟨pb, i * 3, none⟩ _ (.inr (.inl rfl))⟩
  exact (Below.mono E2.out hB3).drew.setCell (p := ⟨pb, i * 3, none⟩) hB2 _
theorem removeint_no (w : World) (tb pb bx most : Nat) (full ino gen : Int) (TH : Nat → Value) (FU : Nat → Bool) (GE : Nat → Int)  (h : Tab_int w tb pb bx most full TH FU GE) (hs : StX_int most FU GE ino gen) (h0 : -9223372036854775808 ≤ ino) (h1 : ino ≤ 9223372036854775807) :
    Calls Try.prog 13 #[.pointer (some ⟨tb, 0, none⟩), .agg #[.int .i64 ino, .int .i64 gen]] w fun e w' => e = .returned (.int .i64 8) ∧ Ext w w' := by
  have e1 : Ext w (w.alloc (.cells #[.int .i64 ino, .int .i64 gen] 29)) := (Ext.refl w).alloc _
  have HS := Lib.hid (stale_int_yes _ tb pb bx most full ino gen TH FU GE (h.ext e1) hs h0 h1)
  have E1 := Lib.hid e1
  clear h hs e1
  go_enter Try.func13, Try.ntmps13
  go_wp2_with fail
  refine (HS.out).mono ?_
  rintro e w2 ⟨rfl, e2⟩
  go_wp2
  go_ret
  exact ⟨rfl, E1.out.trans e2⟩
set_option maxRecDepth 20000 in
set_option maxHeartbeats 1000000 in
theorem remove_int_ok (w : World) (tb pb bx most : Nat) (full gen : Int) (i : Nat) (TH : Nat → Value) (FU : Nat → Bool) (GE : Nat → Int)  (h : Tab_int w tb pb bx most full TH FU GE) (hi : i < most) (hf : FU i = true) (hg : GE i = gen) (hf0 : 1 ≤ full) (hf1 : full ≤ 1000000) :
    Calls Try.prog 13 #[.pointer (some ⟨tb, 0, none⟩), .agg #[.int .i64 ((i : Int) + 1), .int .i64 gen]] w fun e w' => e = .returned (.int .i64 0) ∧ Tab_int w' tb pb bx most (full - 1) (upd TH i (.int .i64 0)) (upd FU i false) (upd GE i gen) ∧ (∀ B, B ≤ tb → B ≤ pb → B ≤ w.heap.size → Below B w w') ∧ Fr tb pb w w' := by
  have hm := h.2.2.2.2.2.2.2
  obtain ⟨l1, l2, l3⟩ := h.lt
  have n1 := h.2.2.2.1
  have e1 : Ext w (w.alloc (.cells #[.int .i64 ((i : Int) + 1), .int .i64 gen] 29)) := (Ext.refl w).alloc _
  have HS := Lib.hid (staleint_no _ tb pb bx most full gen i TH FU GE (h.ext e1) hi hf hg)
  have HB := Lib.hid (heap_alloc_new w (.cells #[.int .i64 ((i : Int) + 1), .int .i64 gen] 29))
  have E1 := Lib.hid e1
  have HT := Lib.hid (h.ext e1)
  clear h e1 hf hg
  go_enter Try.func13, Try.ntmps13
  go_wp2_with fail
  refine (HS.out).mono ?_
  rintro e w2 ⟨rfl, e2⟩
  have HT2 := Lib.hid (HT.out.ext e2)
  have hb2 := e2.heap HB.out
  have k0 := cell_of_row w2 w.heap.size 0 _ _ _ hb2
  have k1 := cell_of_row w2 w.heap.size 1 _ _ _ hb2
  simp at k0 k1
  have E2 := Lib.hid (E1.out.trans e2)
  have hwr : IntKind.i64.wrap (i : Int) = (i : Int) := IntWalk.i64_in _ (by omega)
  clear e2 hb2
  have hq0 := HT2.out.head.1
  have HS0 : Hid (w2.drew.cell? ⟨tb, 0, none⟩ = some (.slice (some ⟨pb, 0, none⟩) most most) ∧ w2.drew.cell? ⟨w.heap.size, 0, none⟩ = some (.int .i64 ((i : Int) + 1)) ∧ w2.drew.cell? ⟨w.heap.size, 1, none⟩ = some (.int .i64 gen)) := Lib.hid ⟨by simpa using hq0, by simpa using k0, by simpa using k1⟩
  clear k0 k1 hq0
  have hT0 := HT2.out.ext (Ext.refl w2).drew
  have f0 := (HT2.out.thaw (i * 3)).1
  obtain ⟨b0, b1, b2⟩ := HT2.out.at_ i hi
  have r1 := HT2.out.set1 i hi (.int .i64 0)
  have c1 := (r1.at_ i hi).2.1
  have f1 := (r1.thaw (i * 3 + 1)).1
  have r2 := r1.setF i hi false
  have c2 := (r2.at_ i hi).2.2
  have f2 := (r2.thaw (i * 3 + 2)).1
  have r3 := (r2.setG i hi gen).ext (Ext.refl _).drew
  have HT3 := Lib.hid r3
  have HT4 := Lib.hid (r3.setN (full - 1))
  clear hT0 r1 r2 r3
  go_wp2
  refine wp_region_plS (fun w' => w'.cell? ⟨tb, 0, none⟩ = some (.slice (some ⟨pb, 0, none⟩) most most) ∧ w'.cell? ⟨w.heap.size, 0, none⟩ = some (.int .i64 ((i : Int) + 1)) ∧ w'.cell? ⟨w.heap.size, 1, none⟩ = some (.int .i64 gen)) (.free 0 (.free 1 (.free 2 (.free 3 (.free 4 (.free 5 (.free 6 (.free 7 (.free 8 (.free 9 (.free 10 (.one 11 .nil)))))))))))) (by kernel_rfl) (by kernel_rfl) (by kernel_rfl) (by kernel_rfl) ?_
  iterate 11 (refine plS_val (v := ?_) rfl rfl HS0.out (fun w' hw' => ?_) ?_; rotate_left; (· obtain ⟨s0, s1, s2⟩ := hw'; go_simp; try with_reducible rfl); simp only [Act.put, List.setIfInBounds_toArray, List.set_cons_zero, List.set_cons_succ])
  refine plS_void (w' := ((w2.setCell ⟨pb, i * 3, none⟩ (.int .i64 0)).setCell ⟨pb, i * 3 + 1, none⟩ (.bool false)).setCell ⟨pb, i * 3 + 2, none⟩ (.int .i64 gen) |>.drew) rfl rfl (by go_simp; try rfl) ?_ ?_
  · have q0 : (⟨pb, 0, none⟩ : Addr).block ≠ tb := fun e => n1 e.symm
    obtain ⟨s0, s1, s2⟩ := HS0.out
    have hpw : pb ≠ w.heap.size := by omega
    exact (by
      refine ⟨?_, ?_, ?_⟩
      · rw [show ∀ (W : World) (a : Addr), W.drew.cell? a = W.cell? a from fun _ _ => rfl, World.cell?_setCell_other _ _ _ _ (fun e => n1 (congrArg Addr.block e).symm), World.cell?_setCell_other _ _ _ _ (fun e => n1 (congrArg Addr.block e).symm), World.cell?_setCell_other _ _ _ _ (fun e => n1 (congrArg Addr.block e).symm)]; exact s0
      · rw [show ∀ (W : World) (a : Addr), W.drew.cell? a = W.cell? a from fun _ _ => rfl, World.cell?_setCell_other _ _ _ _ (fun e => hpw (congrArg Addr.block e)), World.cell?_setCell_other _ _ _ _ (fun e => hpw (congrArg Addr.block e)), World.cell?_setCell_other _ _ _ _ (fun e => hpw (congrArg Addr.block e))]; exact s1
      · rw [show ∀ (W : World) (a : Addr), W.drew.cell? a = W.cell? a from fun _ _ => rfl, World.cell?_setCell_other _ _ _ _ (fun e => hpw (congrArg Addr.block e)), World.cell?_setCell_other _ _ _ _ (fun e => hpw (congrArg Addr.block e)), World.cell?_setCell_other _ _ _ _ (fun e => hpw (congrArg Addr.block e))]; exact s2)
  simp only [Act.put, List.setIfInBounds_toArray, List.set_cons_zero, List.set_cons_succ]
  refine plS_done ?_
  clear f0 f1 f2 b0 b1 b2 c1 c2 hwr
  have c3 := HT3.out.head.2.1
  have f3 := (HT3.out.thaw 1).2
  go_wp2
  go_ret
  refine ⟨rfl, HT4.out, fun B hB1 hB2 hB3 => ?_, (((((Fr.refl tb pb w).ext E2.out).set ⟨pb, i * 3, none⟩ _ (.inr (.inl rfl))).set ⟨pb, i * 3 + 1, none⟩ _ (.inr (.inl rfl))).set ⟨pb, i * 3 + 2, none⟩ _ (.inr (.inl rfl))).set ⟨tb, 1, none⟩ _ (.inl rfl)⟩
  exact ((((Below.mono E2.out hB3).setCell (p := ⟨pb, i * 3, none⟩) hB2 _).setCell (p := ⟨pb, i * 3 + 1, none⟩) hB2 _).setCell (p := ⟨pb, i * 3 + 2, none⟩) hB2 _).drew.setCell (p := ⟨tb, 1, none⟩) hB1 _
end Go.Proofs.Ytmljfaihkcldnaa
