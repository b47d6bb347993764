/-
  Layer 10: a table of places: what its functions return, where a place has a value of type byte.
-/
import Derived.Test.YtmljfaihkcldnaaInoA
namespace Go.Proofs.Ytmljfaihkcldnaa
open Go Go.RowKit
set_option linter.unusedVariables false
set_option linter.unusedSimpArgs false
theorem info_byt : (Try.prog.info? 53).map (fun i => (i.zero, i.size, i.bytes)) = some (some (.agg #[.int .u8 0, .bool false, .int .i64 0]), 3, 16) := by kernel_rfl
theorem newbyt_no (n : Int) (w : World) (h : n < 1 ∨ 64 < n) :
    Calls Try.prog 8 #[.int .i64 n] w fun e w' => e = .returned (.tuple #[.pointer none, .int .i64 1]) ∧ w = w' := by
  rcases h with h | h
  · go_enter Try.func8, Try.ntmps8
    go_wp2
    go_ret2
    exact ⟨rfl, rfl⟩
  · have h' : ¬ n < 1 := by omega
    go_enter Try.func8, Try.ntmps8
    go_wp2
    go_ret2
    exact ⟨rfl, rfl⟩
abbrev Tab_byt (w : World) (tb pb bx most : Nat) (full : Int) (TH : Nat → Value) (FU : Nat → Bool) (GE : Nat → Int) : Prop :=
  TabI w 17 51 53 24 tb pb bx most full TH FU GE
theorem new_byt (n : Int) (N : Nat) (w : World) (hN : n = (N : Int)) (h1 : 1 ≤ N) (h2 : N ≤ 64) :
    Calls Try.prog 8 #[.int .i64 n] w fun e w' => ∃ tb pb bx, e = .returned (.tuple #[.pointer (some ⟨tb, 0, none⟩), .int .i64 0]) ∧ Tab_byt w' tb pb bx N 0 (fun _ => .int .u8 0) (fun _ => false) (fun _ => 0) ∧ w.heap.size ≤ tb ∧ w.heap.size ≤ pb ∧ w.heap.size ≤ bx ∧ Ext w w' := by
  obtain ⟨i0, hi⟩ : ∃ i, Try.prog.info? 53 = some i := by
    have := info_byt
    cases h : Try.prog.info? 53 with
    | none => rw [h] at this; cases this
    | some i => exact ⟨i, rfl⟩
  have hk := info_byt
  rw [hi] at hk
  simp at hk
  obtain ⟨hz, hs, hby⟩ := hk
  have hmk := fun w => run_make (P := Try.prog) w 48 53 i0 _ Try.underlying48 hi hz .i64 .i64 n n (by omega) (by omega) (by rw [hby]; omega) (by omega)
  have hnt : n.toNat = N := by omega
  simp only [hnt, hs] at hmk
  have hmk2 : ∀ w, (Instr.makeSlice 48 (.int .i64 n) (.int .i64 n)).run Try.prog w = .ok (.slice (some ⟨w.heap.size, 0, none⟩) N N) (w.alloc (.cells (madeCells #[.int .u8 0, .bool false, .int .i64 0] (N * 3)) 53)) := hmk
  have n1 : 1 ≤ n := by omega
  have n2 : n ≤ 64 := by omega
  have HN := Lib.hid hN
  clear hN hmk hz hs hby hi hnt
  have hbP := heap_alloc_new w (.cells (madeCells #[.int .u8 0, .bool false, .int .i64 0] (N * 3)) 53)
  have hbT := heap_alloc2_new w (.cells (madeCells #[.int .u8 0, .bool false, .int .i64 0] (N * 3)) 53) (.cells #[.slice (some ⟨w.heap.size, 0, none⟩) N N, .int .i64 0, .nilFunc] 51)
  obtain ⟨W2, hW2⟩ : ∃ W2, W2 = (w.alloc (.cells (madeCells #[.int .u8 0, .bool false, .int .i64 0] (N * 3)) 53)).alloc (.cells #[.slice (some ⟨w.heap.size, 0, none⟩) N N, .int .i64 0, .nilFunc] 51) := ⟨_, rfl⟩
  have hz2 : W2.heap.size = w.heap.size + 1 + 1 := by rw [hW2]; simp
  have hbP2 : W2.heap[w.heap.size]? = some (.cells (madeCells #[.int .u8 0, .bool false, .int .i64 0] (N * 3)) 53 (0, 0)) := by rw [hW2]; exact ((Ext.refl _).alloc _).heap hbP
  rw [← hW2] at hbT
  have e2 : Ext w W2 := by rw [hW2]; exact ((Ext.refl _).alloc _).alloc _
  have hb3 := heap_alloc_new W2 (.cells #[.pointer (some ⟨w.heap.size + 1, 0, none⟩)] 24)
  rw [hz2] at hb3
  have e23 : Ext W2 (W2.alloc (.cells #[.pointer (some ⟨w.heap.size + 1, 0, none⟩)] 24)) := (Ext.refl _).alloc _
  have hc := cell_of_row _ (w.heap.size + 1) 2 _ _ _ (e23.heap hbT)
  simp at hc
  have hf := Lib.frozen_of_heap (e23.heap hbT) 2
  have HP := Lib.hid (e23.heap hbP2)
  have HT := Lib.hid (e23.heap hbT)
  have HB := Lib.hid hb3
  have E3 := Lib.hid (e2.trans e23)
  rw [hW2] at hc hf HP HT HB E3
  clear hbP hbT hz2 hbP2 e2 hb3 e23 hW2
  go_enter Try.func8, Try.ntmps8
  go_wp2
  go_ret2
  have kP := heap_alloc_new w (.cells (madeCells #[.int .u8 0, .bool false, .int .i64 0] (N * 3)) 53)
  have kT := heap_alloc2_new w (.cells (madeCells #[.int .u8 0, .bool false, .int .i64 0] (N * 3)) 53) (.cells #[.slice (some ⟨w.heap.size, 0, none⟩) N N, .int .i64 0, .func (.func 17) #[] #[.pointer (some ⟨w.heap.size + 1 + 1, 0, none⟩)]] 51)
  have kB := heap_alloc_new ((w.alloc (.cells (madeCells #[.int .u8 0, .bool false, .int .i64 0] (N * 3)) 53)).alloc (.cells #[.slice (some ⟨w.heap.size, 0, none⟩) N N, .int .i64 0, .func (.func 17) #[] #[.pointer (some ⟨w.heap.size + 1 + 1, 0, none⟩)]] 51)) (.cells #[.pointer (some ⟨w.heap.size + 1, 0, none⟩)] 24)
  obtain ⟨W, hW⟩ : ∃ W, W = ((w.alloc (.cells (madeCells #[.int .u8 0, .bool false, .int .i64 0] (N * 3)) 53)).alloc (.cells #[.slice (some ⟨w.heap.size, 0, none⟩) N N, .int .i64 0, .func (.func 17) #[] #[.pointer (some ⟨w.heap.size + 1 + 1, 0, none⟩)]] 51)).alloc (.cells #[.pointer (some ⟨w.heap.size + 1, 0, none⟩)] 24) := ⟨_, rfl⟩
  have e1 : Ext w W := by rw [hW]; exact (((Ext.refl _).alloc _).alloc _).alloc _
  have kT' : W.heap[w.heap.size + 1]? = some (.cells #[.slice (some ⟨w.heap.size, 0, none⟩) N N, .int .i64 0, .func (.func 17) #[] #[.pointer (some ⟨w.heap.size + 1 + 1, 0, none⟩)]] 51 (0, 0)) := by rw [hW]; exact ((Ext.refl _).alloc _).heap kT
  have kB' : W.heap[w.heap.size + 1 + 1]? = some (.cells #[.pointer (some ⟨w.heap.size + 1, 0, none⟩)] 24 (0, 0)) := by rw [hW]; simpa using kB
  have kP' : W.heap[w.heap.size]? = some (.cells (madeCells #[.int .u8 0, .bool false, .int .i64 0] (N * 3)) 53 (0, 0)) := by rw [hW]; exact (((Ext.refl _).alloc _).alloc _).heap kP
  have hplc : Plc W w.heap.size N 53 (fun _ => .int .u8 0) (fun _ => false) (fun _ => 0) := ⟨_, kP', size_madeCells _ _, fun i hi => made3 _ _ _ N i hi⟩
  have htab : Tab_byt W (w.heap.size + 1) w.heap.size (w.heap.size + 1 + 1) N 0 (fun _ => .int .u8 0) (fun _ => false) (fun _ => 0) := ⟨kT', kB', hplc, by omega, by omega, by omega, h1, h2⟩
  rw [← hW]
  exact ⟨w.heap.size + 1, w.heap.size, w.heap.size + 1 + 1, rfl, htab, by omega, by omega, by omega, e1⟩
theorem handle_byt (w : World) (tb pb bx most : Nat) (full : Int) (TH : Nat → Value) (FU : Nat → Bool) (GE : Nat → Int) (i : Nat) (h : Tab_byt w tb pb bx most full TH FU GE) (hi : i < most) :
    Calls Try.prog 17 #[.int .i64 (i : Int), .pointer (some ⟨bx, 0, none⟩)] w fun e w' => e = .returned (.agg #[.int .i64 ((i : Int) + 1), .int .i64 (GE i)]) ∧ Ext w w' := by
  have hm := h.2.2.2.2.2.2.2
  have e1 : Ext w (w.alloc (.cells #[.int .i64 0, .int .i64 0] 29)) := (Ext.refl w).alloc _
  obtain ⟨a0, a1, a2, a3⟩ := (h.ext e1).head
  obtain ⟨b0, b1, b2⟩ := (h.ext e1).at_ i hi
  have hb := heap_alloc_new w (.cells #[.int .i64 ((i : Int) + 1), .int .i64 (GE i)] 29)
  have HB := Lib.hid hb
  have hz : (Try.prog.info? 29).map (·.size) = some (Array.size (α := Value) #[.int .i64 ((i : Int) + 1), .int .i64 (GE i)]) := by
    change _ = some 2
    kernel_rfl
  have HZ := Lib.hid hz
  have E1 := Lib.hid (show Ext w (w.alloc (.cells #[.int .i64 ((i : Int) + 1), .int .i64 (GE i)] 29)) from (Ext.refl w).alloc _)
  clear hb hz h e1
  go_enter Try.func17, Try.ntmps17
  go_wp2
  refine bodyPost_ret (results_cell_row rfl _ _ w.heap.size _ _ (0, 0) _ rfl HB.out Try.underlying29 rfl HZ.out) rfl ?_
  exact ⟨rfl, E1.out⟩
set_option maxRecDepth 20000 in
set_option maxHeartbeats 400000 in
theorem add_byt_ok (w : World) (tb pb bx most : Nat) (full : Int) (TH : Nat → Value) (FU : Nat → Bool) (GE : Nat → Int) (i : Nat) (x : Int) (h : Tab_byt w tb pb bx most full TH FU GE) (hi : i < most) (hfree : FU i = false) (hbef : ∀ j, j < i → FU j = true)
    (hg0 : 0 ≤ GE i) (hg1 : GE i ≤ 1000000) (hf0 : 0 ≤ full) (hf1 : full ≤ 1000000) :
    Calls Try.prog 9 #[.pointer (some ⟨tb, 0, none⟩), .int .u8 x] w fun e w' => e = .returned (.tuple #[.agg #[.int .i64 ((i : Int) + 1), .int .i64 (GE i + 1)], .int .i64 0]) ∧
      Tab_byt w' tb pb bx most (full + 1) (upd TH i (.int .u8 x)) (upd FU i true) (upd GE i (GE i + 1)) ∧ (∀ B, B ≤ tb → B ≤ pb → B ≤ w.heap.size → Below B w w') ∧ Fr tb pb w w' := by
  have hm := h.2.2.2.2.2.2.2
  obtain ⟨l1, l2, l3⟩ := h.lt
  have n1 := h.2.2.2.1
  have e1 : Ext w (w.alloc (.cells #[.int .i64 0, .int .i64 0] 29)) := (Ext.refl w).alloc _
  obtain ⟨a0, a1, a2, a3⟩ := h.head
  have hat := fun j hj => (h.at_ j hj).2.1
  obtain ⟨b0, b1, b2⟩ := h.at_ i hi
  have f0 := (h.thaw (i * 3)).1
  have hT1 := h.set1 i hi (.int .u8 x)
  have c1 := (hT1.at_ i hi).2.1
  have f1 := (hT1.thaw (i * 3 + 1)).1
  have hT2 := hT1.setF i hi true
  have c2 := (hT2.at_ i hi).2.2
  have f2 := (hT2.thaw (i * 3 + 2)).1
  have hT3 := hT2.setG i hi (GE i + 1)
  have c3 := hT3.head.2.1
  have f3 := (hT3.thaw 1).2
  have hT4 := hT3.setN (full + 1)
  have c4 := hT4.head.2.2.1
  have HT4 := Lib.hid hT4
  have HAT := Lib.hid hat
  have HBE := Lib.hid hbef
  have HFR := Lib.hid hfree
  have HE := Lib.hid e1
  rw [hfree] at b1 c1
  have HH := Lib.hid (handle_byt _ tb pb bx most _ _ _ _ i (hT4.ext ((Ext.refl _).alloc (.cells #[.int .i64 0, .int .i64 0] 29))) hi)
  rw [upd_same] at HH
  clear h hT1 hT2 hT3 hT4 hat hbef hfree e1
  go_enter Try.func9, Try.ntmps9
  go_wp2_with fail
  go_loop [13] (fun k => ∃ j : Nat, j ≤ i ∧ k = .int .i64 j) (fun k => most - (intOf k).toNat)
  case atStart => exact ⟨0, by omega, rfl⟩
  case round =>
    obtain ⟨j, hj, rfl⟩ := hrel
    by_cases hji : j < i
    · have hb := HAT.out j (by omega)
      rw [HBE.out j hji] at hb
      have hjm : j < most := by omega
      clear b0 b1 b2 f0 f1 f2 f3 c1 c2 c3 c4
      go_wp2
      go_round
      case rel => exact ⟨j + 1, by omega, by go_num⟩
      case measure => simp [intOf]; omega
    · obtain rfl : j = i := by omega
      have n1' : ¬ pb = tb := fun e => n1 e.symm
      have hzs : ((((w.setCell ⟨pb, j * 3, none⟩ (.int .u8 x)).setCell ⟨pb, j * 3 + 1, none⟩ (.bool true)).setCell ⟨pb, j * 3 + 2, none⟩ (.int .i64 (GE j + 1))).setCell ⟨tb, 1, none⟩ (.int .i64 (full + 1))).heap.size = w.heap.size := by simp [World.setCell]
      have hbn := heap_alloc_new ((((w.setCell ⟨pb, j * 3, none⟩ (.int .u8 x)).setCell ⟨pb, j * 3 + 1, none⟩ (.bool true)).setCell ⟨pb, j * 3 + 2, none⟩ (.int .i64 (GE j + 1))).setCell ⟨tb, 1, none⟩ (.int .i64 (full + 1))) (.cells #[.int .i64 0, .int .i64 0] 29)
      rw [hzs] at hbn
      have HBN := Lib.hid hbn
      have HZS := Lib.hid hzs
      clear hbn hzs
      go_wp2_with fail
      refine (HH.out).mono ?_
      rintro e w5 ⟨rfl, e5⟩
      have hb5 := e5.heap HBN.out
      have HT5 := HT4.out.ext (((Ext.refl _).alloc (.cells #[.int .i64 0, .int .i64 0] 29)).trans e5)
      have z0 := cell_of_row w5 w.heap.size 0 _ _ _ hb5
      have z1 := cell_of_row w5 w.heap.size 1 _ _ _ hb5
      simp at z0 z1
      have g0 := Lib.frozen_of_heap hb5 0
      have g1 := Lib.frozen_of_heap hb5 1
      have HB5 := Lib.hid hb5
      have H5 := Lib.hid HT5
      have E5 := Lib.hid e5
      have hz : (Try.prog.info? 29).map (·.size) = some (Array.size (α := Value) #[.int .i64 ((j : Int) + 1), .int .i64 (GE j + 1)]) := by
        change _ = some 2
        kernel_rfl
      have HZ := Lib.hid hz
      clear hb5 HT5 e5 hz b0 b1 b2 f0 f1 f2 f3 c1 c2 c3 c4 a0 a1 a2 a3
      go_wp2
      refine bodyPost_ret (results_cell_tmp rfl _ _ w.heap.size _ _ (0, 0) _ (.int .i64 0) rfl rfl (set2_row HB5.out) Try.underlying29 rfl HZ.out) rfl ?_
      refine ⟨rfl, (H5.out.off _ _ _ (by omega) (by omega) (by omega)).off _ _ _ (by omega) (by omega) (by omega), fun B hB1 hB2 hB3 => ?_, (((((((Fr.refl tb pb w).set ⟨pb, j * 3, none⟩ (.int .u8 x) (.inr (.inl rfl))).set ⟨pb, j * 3 + 1, none⟩ (.bool true) (.inr (.inl rfl))).set ⟨pb, j * 3 + 2, none⟩ (.int .i64 (GE j + 1)) (.inr (.inl rfl))).set ⟨tb, 1, none⟩ (.int .i64 (full + 1)) (.inl rfl)).ext (((Ext.refl _).alloc _).trans E5.out)).set ⟨w.heap.size, 0, none⟩ _ (.inr (.inr (Nat.le_refl _)))).set ⟨w.heap.size, 1, none⟩ _ (.inr (.inr (Nat.le_refl _)))⟩
      have q1 := put_below (w := w) hB1 hB2 j (.int .u8 x) (.bool true) (.int .i64 (GE j + 1)) (.int .i64 (full + 1))
      have q2 := q1.alloc (by rw [HZS.out]; exact hB3) (.cells #[.int .i64 0, .int .i64 0] 29)
      have q3 := q2.trans (Below.mono E5.out (by simp [World.setCell]; omega))
      exact (q3.setCell (p := ⟨w.heap.size, 0, none⟩) hB3 _).setCell (p := ⟨w.heap.size, 1, none⟩) hB3 _
theorem add_byt_full (w : World) (tb pb bx most : Nat) (full : Int) (TH : Nat → Value) (FU : Nat → Bool) (GE : Nat → Int) (x : Int) (h : Tab_byt w tb pb bx most full TH FU GE) (hall : ∀ j, j < most → FU j = true) :
    Calls Try.prog 9 #[.pointer (some ⟨tb, 0, none⟩), .int .u8 x] w fun e w' => e = .returned (.tuple #[.agg #[.int .i64 0, .int .i64 0], .int .i64 14]) ∧ Ext w w' := by
  have hm := h.2.2.2.2.2.2.2
  obtain ⟨l1, l2, l3⟩ := h.lt
  obtain ⟨a0, a1, a2, a3⟩ := h.head
  have hat := fun j hj => (h.at_ j hj).2.1
  have HAT := Lib.hid hat
  have HBE := Lib.hid hall
  have hz : (Try.prog.info? 29).map (·.size) = some (Array.size (α := Value) #[.int .i64 0, .int .i64 0]) := by
    change _ = some 2
    kernel_rfl
  have HZ := Lib.hid hz
  clear h hat hall hz
  go_enter Try.func9, Try.ntmps9
  go_wp2_with fail
  go_loop [13] (fun k => ∃ j : Nat, j ≤ most ∧ k = .int .i64 j) (fun k => most - (intOf k).toNat)
  case atStart => exact ⟨0, by omega, rfl⟩
  case round =>
    obtain ⟨j, hj, rfl⟩ := hrel
    by_cases hji : j < most
    · have hb := HAT.out j hji
      rw [HBE.out j hji] at hb
      go_wp2
      go_round
      case rel => exact ⟨j + 1, by omega, by go_num⟩
      case measure => simp [intOf]; omega
    · obtain rfl : j = most := by omega
      go_wp2
      refine bodyPost_ret (results_cell_tmp rfl _ _ w.heap.size _ _ (0, 0) _ (.int .i64 14) rfl rfl (heap_alloc_new w _) Try.underlying29 rfl HZ.out) rfl ?_
      exact ⟨rfl, (Ext.refl w).alloc _⟩
/-- A handle that stands for nothing. -/
def StX_byt (most : Nat) (FU : Nat → Bool) (GE : Nat → Int) (ino gen : Int) : Prop := ino < 1 ∨ (most : Int) < ino ∨ ∃ i : Nat, ino = (i : Int) + 1 ∧ i < most ∧ (FU i = false ∨ GE i ≠ gen)
end Go.Proofs.Ytmljfaihkcldnaa
