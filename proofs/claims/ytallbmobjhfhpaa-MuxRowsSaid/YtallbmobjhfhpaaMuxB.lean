/-
  Layer 7: calls that wait, in memory: one more.
-/
import Derived.Test.YtallbmobjhfhpaaMuxA
import Derived.Test.YtallbmobjhfhpaaPln
namespace Go.Proofs.Ytallbmobjhfhpaa
open Go Go.RowKit
set_option linter.unusedVariables false
set_option linter.unusedSimpArgs false
theorem nxt_dist (x : Int) (j J : Nat) (h : j ≤ J) (hJ : J < 4294967296) : ((nxt x J - nxt x j) % 4294967296).toNat = J - j := by
  unfold nxt
  omega

/-! int -/
def MCallI (w : World) (tb mb most : Nat) (next : Int) (L : List (Int × Value)) (p : Int) (v : Value) (J : Nat) (e : Ending) (w' : World) : Prop :=
  e = .returned (.tuple #[.int .u32 (nxt next J), .int .i64 0]) ∧ MuxI w' tb mb most (nxt next (J + 1)) (putL L (nxt next J) (.agg #[.int .u32 p, v])) ∧ Onm tb mb w w'
theorem mcallI_full (tb mb most : Nat) (next : Int) (L : List (Int × Value)) (p : Int) (k : Int) (w : World) (h : MuxI w tb mb most next L) (hf : L.length = most) :
    Calls Try.prog 18 #[.pointer (some ⟨tb, 0, none⟩), .int .u32 p, .int .i64 k] w fun e w' => e = .returned (.tuple #[.int .u32 0, .int .i64 5]) ∧ ∃ n, w' = w.drewN n := by
  have c2 := cell_of_row w tb 2 _ _ _ h.1
  have c1 := cell_of_row w tb 1 _ _ _ h.1
  simp at c2 c1
  have hl := fun n => (h.2.1.ext ((Ext.refl w).drewN n)).len (t := 68) (e := 73) Try.underlying68 3
  have ht : decide (most ≤ L.length) = true := by simp; omega
  have ht2 : (most : Int) ≤ (L.length : Int) := by omega
  clear h hf
  go_enter Try.func18, Try.ntmps18
  go_wp2
  go_quiet (fail)
  go_wp2
  go_ret2
  exact ⟨rfl, _, rfl⟩
set_option maxRecDepth 20000 in
set_option maxHeartbeats 2000000 in
theorem mcallI_ok (tb mb most : Nat) (next : Int) (L : List (Int × Value)) (p : Int) (hp0 : 0 ≤ p) (hp1 : p < 4294967296) (k : Int) (J : Nat) (hJ : FreeAt L next J) (hJ2 : J ≤ 1000000) (w : World) (h : MuxI w tb mb most next L) (hf : L.length < most) :
    Calls Try.prog 18 #[.pointer (some ⟨tb, 0, none⟩), .int .u32 p, .int .i64 k] w (MCallI w tb mb most next L p (.int .i64 k) J) := by
  have c2 := cell_of_row w tb 2 _ _ _ h.1
  have c1 := cell_of_row w tb 1 _ _ _ h.1
  have c0 := cell_of_row w tb 0 _ _ _ h.1
  simp at c2 c1 c0
  have hl := fun n => (h.2.1.ext ((Ext.refl w).drewN n)).len (t := 68) (e := 73) Try.underlying68 3
  have ht : decide (most ≤ L.length) = false := by simp; omega
  have ht2 : ¬ (most : Int) ≤ (L.length : Int) := by omega
  have HM := Lib.hid h
  have HF := Lib.hid hf
  have HJ := Lib.hid hJ
  have hn0 := nxt_zero h.2.2.2.2.1 h.2.2.2.2.2.1
  have HN0 := Lib.hid hn0
  clear h hf hJ hn0
  go_enter Try.func18, Try.ntmps18
  go_wp2
  go_quiet (fail)
  go_wp2_with fail
  obtain ⟨wq, hq⟩ : ∃ wq, World.drewN w nq = wq := ⟨_, rfl⟩
  rw [hq]
  have EQ := Lib.hid (show Ext w wq by rw [← hq]; exact (Ext.refl w).drewN _)
  clear hq c0 c1 c2 hl
  go_loopw [8] (fun xv wr => ∃ j : Nat, j ≤ J ∧ xv = .int .u32 (nxt next j) ∧ Ext w wr) (fun xv _ => ((nxt next J - intOf xv) % 4294967296).toNat)
  case atStart => exact ⟨0, by omega, by rw [HN0.out], EQ.out⟩
  case round =>
    obtain ⟨j, hj, rfl, ext⟩ := hrel
    have hb := nxt_bound next j
    have hb0 := hb.1
    have hb1 := hb.2
    have HE := Lib.hid ext
    have HMr := Lib.hid (HM.out.ext ext)
    clear hb ext
    by_cases hlt : j < J
    · have hw := nxt_succ next j
      go_wp2_with fail
      refine (mhasI_any tb mb most next L _ true (HJ.out.1 j hlt) hb0 hb1 wr HMr.out).mono ?_
      rintro e w1 ⟨rfl, e1⟩
      have E1 := Lib.hid (HE.out.trans e1)
      clear e1
      go_wp2
      go_roundw
      case rel => exact ⟨j + 1, by omega, by first | rfl | rw [hw], E1.out⟩
      case measure =>
        have d1 := nxt_dist next j J (by omega) (by omega)
        have d2 := nxt_dist next (j + 1) J (by omega) (by omega)
        simp [intOf]
        omega
    · obtain rfl : J = j := by omega
      go_wp2_with fail
      refine (mhasI_any tb mb most next L _ false HJ.out.2 hb0 hb1 wr HMr.out).mono ?_
      rintro e w1 ⟨rfl, e1⟩
      have hm := HMr.out.ext e1
      have hw := nxt_succ next J
      have c2 := cell_of_row w1 tb 2 _ _ _ hm.1
      simp at c2
      obtain ⟨w2, hrun, hm2, hg2⟩ := hm.2.1.put (t := 68) (e := 73) Try.underlying22 Try.underlying68 (by have := hm.2.2.2.2.2.2.2; have := hm.2.2.2.2.2.2.1; unfold maxLen; omega) (nxt next J) (.agg #[.int .u32 p, .int .i64 k]) (nxt_wf next J)
      have hb2 : w2.heap[tb]? = _ := (hg2.block tb (by have := hm.lt; omega) (fun e => hm.2.2.1 (by injection e))).trans hm.1
      have d0 := cell_of_row w2 tb 0 _ _ _ hb2
      simp at d0
      have f0 := Lib.frozen_of_heap hb2 0
      have HX : Hid (MuxI (w2.setCell ⟨tb, 0, none⟩ (.int .u32 (nxt next (J + 1)))) tb mb most (nxt next (J + 1)) (putL L (nxt next J) (.agg #[.int .u32 p, .int .i64 k])) ∧ Onm tb mb w (w2.setCell ⟨tb, 0, none⟩ (.int .u32 (nxt next (J + 1))))) := Lib.hid ⟨⟨by simpa using heap_setCell_same w2 tb 0 _ _ (.int .u32 (nxt next (J + 1))) hb2,
        hm2.tight.keep (heap_setCell_other _ _ _ _ (fun e => hm.2.2.1 e.symm)), hm.2.2.1, hm.2.2.2.1.put _ p (.int .i64 k) ⟨_, rfl⟩ hp0 hp1, (nxt_bound _ _).1, (nxt_bound _ _).2, hm.2.2.2.2.2.2.1, by rw [len_put_new _ HJ.out.2]; exact HF.out⟩,
        (Onm.grown (tb := tb) (HE.out.trans e1) hg2).trans (Onm.set (.inl rfl))⟩
      clear hm hm2 hg2 hb2 e1
      go_wp2_with (first | (at_mapUpdate; refine wpList_update_run rfl (.tmp 31) (.tmp 32) (.tmp 35) _ rfl _ _ _ rfl rfl rfl w2 hrun ?_) | fail)
      go_ret2
      exact ⟨rfl, HX.out⟩

/-! string -/
def MCallS (w : World) (tb mb most : Nat) (next : Int) (L : List (Int × Value)) (p : Int) (v : Value) (J : Nat) (e : Ending) (w' : World) : Prop :=
  e = .returned (.tuple #[.int .u32 (nxt next J), .int .i64 0]) ∧ MuxS w' tb mb most (nxt next (J + 1)) (putL L (nxt next J) (.agg #[.int .u32 p, v])) ∧ Onm tb mb w w'
theorem mcallS_full (tb mb most : Nat) (next : Int) (L : List (Int × Value)) (p : Int) (k : ByteArray) (w : World) (h : MuxS w tb mb most next L) (hf : L.length = most) :
    Calls Try.prog 27 #[.pointer (some ⟨tb, 0, none⟩), .int .u32 p, .string k] w fun e w' => e = .returned (.tuple #[.int .u32 0, .int .i64 5]) ∧ ∃ n, w' = w.drewN n := by
  have c2 := cell_of_row w tb 2 _ _ _ h.1
  have c1 := cell_of_row w tb 1 _ _ _ h.1
  simp at c2 c1
  have hl := fun n => (h.2.1.ext ((Ext.refl w).drewN n)).len (t := 76) (e := 80) Try.underlying76 3
  have ht : decide (most ≤ L.length) = true := by simp; omega
  have ht2 : (most : Int) ≤ (L.length : Int) := by omega
  clear h hf
  go_enter Try.func27, Try.ntmps27
  go_wp2
  go_quiet (fail)
  go_wp2
  go_ret2
  exact ⟨rfl, _, rfl⟩
set_option maxRecDepth 20000 in
set_option maxHeartbeats 2000000 in
theorem mcallS_ok (tb mb most : Nat) (next : Int) (L : List (Int × Value)) (p : Int) (hp0 : 0 ≤ p) (hp1 : p < 4294967296) (k : ByteArray) (J : Nat) (hJ : FreeAt L next J) (hJ2 : J ≤ 1000000) (w : World) (h : MuxS w tb mb most next L) (hf : L.length < most) :
    Calls Try.prog 27 #[.pointer (some ⟨tb, 0, none⟩), .int .u32 p, .string k] w (MCallS w tb mb most next L p (.string k) J) := by
  have c2 := cell_of_row w tb 2 _ _ _ h.1
  have c1 := cell_of_row w tb 1 _ _ _ h.1
  have c0 := cell_of_row w tb 0 _ _ _ h.1
  simp at c2 c1 c0
  have hl := fun n => (h.2.1.ext ((Ext.refl w).drewN n)).len (t := 76) (e := 80) Try.underlying76 3
  have ht : decide (most ≤ L.length) = false := by simp; omega
  have ht2 : ¬ (most : Int) ≤ (L.length : Int) := by omega
  have HM := Lib.hid h
  have HF := Lib.hid hf
  have HJ := Lib.hid hJ
  have hn0 := nxt_zero h.2.2.2.2.1 h.2.2.2.2.2.1
  have HN0 := Lib.hid hn0
  clear h hf hJ hn0
  go_enter Try.func27, Try.ntmps27
  go_wp2
  go_quiet (fail)
  go_wp2_with fail
  obtain ⟨wq, hq⟩ : ∃ wq, World.drewN w nq = wq := ⟨_, rfl⟩
  rw [hq]
  have EQ := Lib.hid (show Ext w wq by rw [← hq]; exact (Ext.refl w).drewN _)
  clear hq c0 c1 c2 hl
  go_loopw [8] (fun xv wr => ∃ j : Nat, j ≤ J ∧ xv = .int .u32 (nxt next j) ∧ Ext w wr) (fun xv _ => ((nxt next J - intOf xv) % 4294967296).toNat)
  case atStart => exact ⟨0, by omega, by rw [HN0.out], EQ.out⟩
  case round =>
    obtain ⟨j, hj, rfl, ext⟩ := hrel
    have hb := nxt_bound next j
    have hb0 := hb.1
    have hb1 := hb.2
    have HE := Lib.hid ext
    have HMr := Lib.hid (HM.out.ext ext)
    clear hb ext
    by_cases hlt : j < J
    · have hw := nxt_succ next j
      go_wp2_with fail
      refine (mhasS_any tb mb most next L _ true (HJ.out.1 j hlt) hb0 hb1 wr HMr.out).mono ?_
      rintro e w1 ⟨rfl, e1⟩
      have E1 := Lib.hid (HE.out.trans e1)
      clear e1
      go_wp2
      go_roundw
      case rel => exact ⟨j + 1, by omega, by first | rfl | rw [hw], E1.out⟩
      case measure =>
        have d1 := nxt_dist next j J (by omega) (by omega)
        have d2 := nxt_dist next (j + 1) J (by omega) (by omega)
        simp [intOf]
        omega
    · obtain rfl : J = j := by omega
      go_wp2_with fail
      refine (mhasS_any tb mb most next L _ false HJ.out.2 hb0 hb1 wr HMr.out).mono ?_
      rintro e w1 ⟨rfl, e1⟩
      have hm := HMr.out.ext e1
      have hw := nxt_succ next J
      have c2 := cell_of_row w1 tb 2 _ _ _ hm.1
      simp at c2
      obtain ⟨w2, hrun, hm2, hg2⟩ := hm.2.1.put (t := 76) (e := 80) Try.underlying22 Try.underlying76 (by have := hm.2.2.2.2.2.2.2; have := hm.2.2.2.2.2.2.1; unfold maxLen; omega) (nxt next J) (.agg #[.int .u32 p, .string k]) (nxt_wf next J)
      have hb2 : w2.heap[tb]? = _ := (hg2.block tb (by have := hm.lt; omega) (fun e => hm.2.2.1 (by injection e))).trans hm.1
      have d0 := cell_of_row w2 tb 0 _ _ _ hb2
      simp at d0
      have f0 := Lib.frozen_of_heap hb2 0
      have HX : Hid (MuxS (w2.setCell ⟨tb, 0, none⟩ (.int .u32 (nxt next (J + 1)))) tb mb most (nxt next (J + 1)) (putL L (nxt next J) (.agg #[.int .u32 p, .string k])) ∧ Onm tb mb w (w2.setCell ⟨tb, 0, none⟩ (.int .u32 (nxt next (J + 1))))) := Lib.hid ⟨⟨by simpa using heap_setCell_same w2 tb 0 _ _ (.int .u32 (nxt next (J + 1))) hb2,
        hm2.tight.keep (heap_setCell_other _ _ _ _ (fun e => hm.2.2.1 e.symm)), hm.2.2.1, hm.2.2.2.1.put _ p (.string k) ⟨_, rfl⟩ hp0 hp1, (nxt_bound _ _).1, (nxt_bound _ _).2, hm.2.2.2.2.2.2.1, by rw [len_put_new _ HJ.out.2]; exact HF.out⟩,
        (Onm.grown (tb := tb) (HE.out.trans e1) hg2).trans (Onm.set (.inl rfl))⟩
      clear hm hm2 hg2 hb2 e1
      go_wp2_with (first | (at_mapUpdate; refine wpList_update_run rfl (.tmp 31) (.tmp 32) (.tmp 35) _ rfl _ _ _ rfl rfl rfl w2 hrun ?_) | fail)
      go_ret2
      exact ⟨rfl, HX.out⟩
end Go.Proofs.Ytallbmobjhfhpaa
