/-
  Layer 6: bytes with a fault that are read.
-/
import Derived.Test.YtdoijbjmhnncdaaDoorRpcF
import Derived.Test.YtdoijbjmhnncdaaDoorPln
namespace Go.Proofs.YtdoijbjmhnncdaaDoor
open Go Go.RowKit
set_option linter.unusedVariables false
set_option linter.unusedSimpArgs false
def RBad (w : World) (x y : Int) (e : Ending) (w' : World) : Prop := ∃ fb, e = .returned (.tuple #[.agg #[.bool false, .int .u32 0, .int .u32 0, .slice none 0 0], .iface 46 (.pointer (some ⟨fb, 0, none⟩))]) ∧ w'.heap[fb]? = some (.cells #[.int .i64 x, .int .i64 y] 48 (0, 0)) ∧ Ext w w'
set_option maxRecDepth 20000 in
set_option maxHeartbeats 2000000 in
theorem rread_bad (x y : Int) (A : Option Addr) (n c : Nat) (l : List UInt8) (w : World) (hs : Sees w A n c (bs l)) (hn : n ≤ 100000) (hF : (rd4 l).2.2 = some (x, y)) :
    Calls Tryd.prog 10 #[.slice A n c] w (RBad w x y) := by
  have HS := Lib.hid hs
  have HZ := Lib.hid infoMsg
  have hsl := hs.le
  have hsm := hs.max
  unfold maxLen at hsm
  clear hs
  obtain ⟨w1, hw1⟩ : ∃ w1, w.alloc (.cells #[.bool false, .int .u32 0, .int .u32 0, .slice none 0 0] 32) = w1 := ⟨_, rfl⟩
  have e1 : Ext w w1 := by rw [← hw1]; exact (Ext.refl w).alloc _
  have hb1 : w1.heap[w.heap.size]? = some (.cells #[.bool false, .int .u32 0, .int .u32 0, .slice none 0 0] 32 (0, 0)) := by rw [← hw1]; exact heap_alloc_new w _
  have hsz1 : w1.heap.size = w.heap.size + 1 := by rw [← hw1]; simp
  have HB1 := Lib.hid hb1
  have HF := Lib.hid hF
  have E1 := Lib.hid e1
  clear hb1 e1 hF
  go_enter Tryd.func10, Tryd.ntmps10
  go_wp2_with fail
  refine (read_any A n c l w1 (HS.out.ext E1.out) (by omega)).mono ?_
  rintro e w2 ⟨rb, v, rfl, hrb, hr2, hown2, e2⟩
  obtain ⟨w3, hw3⟩ : ∃ w3, w2.alloc (.cells #[.pointer (some ⟨rb, 0, none⟩), .int .i64 0, .pointer none] 61) = w3 := ⟨_, rfl⟩
  obtain ⟨hb, hhb⟩ : ∃ hb, w2.heap.size = hb := ⟨_, rfl⟩
  have e3 : Ext w2 w3 := by rw [← hw3]; exact (Ext.refl w2).alloc _
  have HD3 : Hid (HdT w3 hb rb (0, l, none) 0) := by
    obtain ⟨A', c', rfl, hsv⟩ := own_sh hown2
    have hrl := (Array.getElem?_eq_some_iff.1 hr2).1
    exact Lib.hid ⟨none, by rw [← hw3, ← hhb]; exact heap_alloc_new w2 _, ⟨A', n, c', e3.heap hr2, hsv.ext e3⟩, by omega, rfl⟩
  have E3 := Lib.hid (e2.trans e3)
  have hsz2 := e2.size
  have hrbl : rb < hb := hhb ▸ (Array.getElem?_eq_some_iff.1 hr2).1
  have hhb2 : w3.heap.size = hb + 1 := by rw [← hw3, ← hhb]; simp
  clear e3 e2 hr2 hown2
  go_wp2_with fail
  refine (hnumber_st hb rb 0 _ w3 HD3.out (by omega)).mono ?_
  rintro e w4 ⟨rfl, hd4, k4⟩
  have hsz4 := k4.size
  clear hw1 hw3 hhb
  obtain ⟨mb, hmb⟩ : ∃ mb, w4.heap.size = mb := ⟨_, rfl⟩
  go_wp2_with fail
  generalize hw5 : w4.alloc (.cells #[.bool false, .int .u32 (numN l), .int .u32 0, .slice none 0 0] 32) = w5
  have hw5s : w5.heap.size = mb + 1 := by rw [← hw5, ← hmb]; simp
  have hmbl : ¬ mb = hb ∧ ¬ mb = rb ∧ w1.heap.size ≤ mb := ⟨by omega, by omega, by omega⟩
  have e45 : Ext w4 w5 := by rw [← hw5]; exact (Ext.refl w4).alloc _
  have HD5 : Hid (HdT w5 hb rb (rd1 l) 4) := Lib.hid (HdS.ext hd4 e45)
  have hm5 : w5.heap[mb]? = some (.cells #[.bool false, .int .u32 (numN l), .int .u32 0, .slice none 0 0] 32 (0, 0)) := by rw [← hw5, ← hmb]; exact heap_alloc_new w4 _
  have HX : Hid (∀ k, k < w1.heap.size → TwoH hb rb k) := Lib.hid fun k hk => ⟨by omega, by omega⟩
  have E5 : Hid (Ext w1 w5) := Lib.hid ((ext_kpR E3.out k4 HX.out).trans e45)
  have HM5 := Lib.hid hm5
  clear hd4 k4 e45 hm5
  clear hw5 hmb
  refine (hchoice_st hb rb 4 (rd1 l) [0, 1] #[.int .u32 0, .int .u32 1] 2 _ w5 HD5.out (by omega) rfl rfl (by omega) hw5s).mono ?_
  rintro e w6 ⟨rfl, hd6, k6⟩
  have hm6 := k6.heap HM5.out ⟨hmbl.1, hmbl.2.1⟩
  have hsz6 := k6.size
  have e6 := ext_kpR E5.out k6 HX.out
  have x0 := cell_of_row w6 mb 0 _ _ _ hm6
  simp at x0
  have f0 := Lib.frozen_of_heap hm6 0
  have SET : ∀ v, HdT (w6.setCell ⟨mb, 0, none⟩ v) hb rb (rd2 l) 8 := fun v => HdS.setMsg hd6 hm6 (fun z => by simp) hmbl.1 hmbl.2.1
  have ESET : ∀ v, Ext w1 (w6.setCell ⟨mb, 0, none⟩ v) := fun v => ((Kp.of_ext (X := fun k => k < w1.heap.size) e6).set mb 0 v (by omega)).to_ext (fun k hk => hk)
  rcases Bool.eq_false_or_eq_true (rdR l) with hr | hr
  · have hq : (numN (rd1 l).2.1 == 1) = true := hr
    obtain ⟨w7, hw7⟩ : ∃ w7, w6.setCell ⟨mb, 0, none⟩ (.bool true) = w7 := ⟨_, rfl⟩
    have HM7 : Hid (w7.heap[mb]? = some (.cells #[.bool (rdR l), .int .u32 (numN l), .int .u32 0, .slice none 0 0] 32 (0, 0))) := Lib.hid (by rw [hr, ← hw7]; simpa using heap_setCell_same w6 mb 0 _ _ (.bool true) hm6)
    have HD7 : Hid (HdT w7 hb rb (rd2 l) 8) := Lib.hid (by rw [← hw7]; exact SET _)
    have E7 : Hid (Ext w1 w7) := Lib.hid (by rw [← hw7]; exact ESET _)
    have hsz7 : w7.heap.size = w6.heap.size := by rw [← hw7]; simp
    have x7 : w7.cell? ⟨mb, 0, none⟩ = some (.bool true) := by
      have h := cell_of_row w7 mb 0 _ _ _ HM7.out
      rw [hr] at h
      simpa using h
    clear SET ESET hd6 hm6 k6 e6
    go_wp2_with fail
    clear hw7 x0 f0 hq
    refine (hchoice_st hb rb 8 (rd2 l) [0] #[.int .u32 0] 1 _ w7 HD7.out (by omega) rfl rfl (by omega) (by omega)).mono ?_
    rintro e w8 ⟨rfl, hd8, k8⟩
    have HM8 := Lib.hid (k8.heap HM7.out ⟨hmbl.1, hmbl.2.1⟩)
    have E8 := Lib.hid (ext_kpR E7.out k8 HX.out)
    have HD8 : Hid (HdT w8 hb rb (rd3 l) 12) := Lib.hid (by rw [rd3, hr]; exact hd8)
    have HD9 : Hid (∀ w', HdT w' hb rb (nx (rd3 l) 12) (12 + 4) → ∃ fb, w'.heap[hb]? = some (.cells #[.pointer (some ⟨rb, 0, none⟩), .int .i64 16, .pointer (some ⟨fb, 0, none⟩)] 61 (0, 0)) ∧ w'.heap[fb]? = some (.cells #[.int .i64 x, .int .i64 y] 48 (0, 0))) := Lib.hid fun w' h => by
      obtain ⟨fp, h1, _, _, h4⟩ := h
      have hn : nx (rd3 l) 12 = rd4 l := by rw [rd4, rdA, hr]; rfl
      rw [hn, HF.out] at h4
      obtain ⟨fb, rfl, h5, _, _⟩ := h4
      exact ⟨fb, h1, h5⟩
    clear hd8 k8 x7
    go_wp2_with fail
    refine (hnumber_st hb rb 12 (rd3 l) w8 HD8.out (by omega)).mono ?_
    rintro e w9 ⟨rfl, hd9, k9⟩
    obtain ⟨fb, r1, r2⟩ := HD9.out w9 hd9
    have hm9 := k9.heap HM8.out ⟨hmbl.1, hmbl.2.1⟩
    have hfm : ¬ fb = mb := fun q => by
      subst q
      rw [r2] at hm9
      injection hm9 with hm9
      injection hm9 with hm9
      simp at hm9
    have e9 := ext_kpR E8.out k9 HX.out
    have hfr : ¬ fb = w.heap.size := fun q => by
      have h := e9.heap HB1.out
      subst q
      rw [r2] at h
      injection h with h
      injection h with h
      simp at h
    have y2 := cell_of_row w9 mb 2 _ _ _ hm9
    simp at y2
    have g2 := Lib.frozen_of_heap hm9 2
    obtain ⟨w10, hw10⟩ : ∃ w10, w9.setCell ⟨mb, 2, none⟩ (.int .u32 (numN (rd3 l).2.1)) = w10 := ⟨_, rfl⟩
    have r10 : w10.heap[hb]? = some (.cells #[.pointer (some ⟨rb, 0, none⟩), .int .i64 16, .pointer (some ⟨fb, 0, none⟩)] 61 (0, 0)) := by rw [← hw10]; exact (heap_setCell_other _ _ _ _ (fun e => hmbl.1 e.symm)).trans r1
    have s10 : w10.heap[fb]? = some (.cells #[.int .i64 x, .int .i64 y] 48 (0, 0)) := by rw [← hw10]; exact (heap_setCell_other _ _ _ _ hfm).trans r2
    have e10 : Ext w1 w10 := by rw [← hw10]; exact ((Kp.of_ext (X := fun k => k < w1.heap.size) e9).set mb 2 _ (by omega)).to_ext (fun k hk => hk)
    have c2 := cell_of_row w10 hb 2 _ _ _ r10
    simp at c2
    have hr10 := e10.heap HB1.out
    have z0 := cell_of_row w10 w.heap.size 0 _ _ _ hr10
    have z1 := cell_of_row w10 w.heap.size 1 _ _ _ hr10
    have z2 := cell_of_row w10 w.heap.size 2 _ _ _ hr10
    have z3 := cell_of_row w10 w.heap.size 3 _ _ _ hr10
    simp at z0 z1 z2 z3
    have q0 := Lib.frozen_of_heap hr10 0
    have q1 := Lib.frozen_of_heap hr10 1
    have q2 := Lib.frozen_of_heap hr10 2
    have q3 := Lib.frozen_of_heap hr10 3
    have HR10 := Lib.hid hr10
    have HS10 := Lib.hid s10
    have E10 := Lib.hid (E1.out.trans e10)
    have hhr : ¬ hb = w.heap.size := by omega
    clear HM5 HD5 E5 HX HM7 HD7 E7 HM8 E8 HD8 HD9 hd9 k9 r1 r2 hm9 e9 r10 s10 e10 hr10
    go_wp2_with fail
    obtain ⟨wd, hwd⟩ : ∃ wd, w10.drew = wd := ⟨_, rfl⟩
    have d2 : wd.cell? ⟨hb, 2, none⟩ = some (.pointer (some ⟨fb, 0, none⟩)) := by rw [← hwd]; simpa using c2
    have t0 : wd.cell? ⟨w.heap.size, 0, none⟩ = some (.bool false) := by rw [← hwd]; simpa using z0
    have t1 : wd.cell? ⟨w.heap.size, 1, none⟩ = some (.int .u32 0) := by rw [← hwd]; simpa using z1
    have t2 : wd.cell? ⟨w.heap.size, 2, none⟩ = some (.int .u32 0) := by rw [← hwd]; simpa using z2
    have t3 : wd.cell? ⟨w.heap.size, 3, none⟩ = some (.slice none 0 0) := by rw [← hwd]; simpa using z3
    have HRD : Hid (wd.heap[w.heap.size]? = some (.cells #[.bool false, .int .u32 0, .int .u32 0, .slice none 0 0] 32 (0, 0))) := Lib.hid (by rw [← hwd]; exact (Ext.refl w10).drew.heap HR10.out)
    have HSD : Hid (wd.heap[fb]? = some (.cells #[.int .i64 x, .int .i64 y] 48 (0, 0))) := Lib.hid (by rw [← hwd]; exact (Ext.refl w10).drew.heap HS10.out)
    have ED : Hid (Ext w wd) := Lib.hid (by rw [← hwd]; exact E10.out.drew)
    have p0 := Lib.frozen_of_heap HRD.out 0
    have p1 := Lib.frozen_of_heap HRD.out 1
    have p2 := Lib.frozen_of_heap HRD.out 2
    have p3 := Lib.frozen_of_heap HRD.out 3
    have HSET : Hid (((((wd.setCell ⟨w.heap.size, 0, none⟩ (.bool false)).setCell ⟨w.heap.size, 1, none⟩ (.int .u32 0)).setCell ⟨w.heap.size, 2, none⟩ (.int .u32 0)).setCell ⟨w.heap.size, 3, none⟩ (.slice none 0 0)).heap[w.heap.size]? = some (.cells #[.bool false, .int .u32 0, .int .u32 0, .slice none 0 0] 32 (0, 0))) := Lib.hid (by
      have h1 := set_blk HRD.out 0 (.bool false)
      have h2 := set_blk h1 1 (.int .u32 0)
      have h3 := set_blk h2 2 (.int .u32 0)
      have h4 := set_blk h3 3 (.slice none 0 0)
      simpa using h4)
    have HFIN : Hid (RBad w x y (.returned (.tuple #[.agg #[.bool false, .int .u32 0, .int .u32 0, .slice none 0 0], .iface 46 (.pointer (some ⟨fb, 0, none⟩))])) ((((wd.setCell ⟨w.heap.size, 0, none⟩ (.bool false)).setCell ⟨w.heap.size, 1, none⟩ (.int .u32 0)).setCell ⟨w.heap.size, 2, none⟩ (.int .u32 0)).setCell ⟨w.heap.size, 3, none⟩ (.slice none 0 0))) := Lib.hid ⟨fb, rfl, by
      have hon : Onl w.heap.size wd ((((wd.setCell ⟨w.heap.size, 0, none⟩ (.bool false)).setCell ⟨w.heap.size, 1, none⟩ (.int .u32 0)).setCell ⟨w.heap.size, 2, none⟩ (.int .u32 0)).setCell ⟨w.heap.size, 3, none⟩ (.slice none 0 0)) := (((Onl.set wd 0 _).trans (Onl.set _ 1 _)).trans (Onl.set _ 2 _)).trans (Onl.set _ 3 _)
      exact (hon.block fb (Array.getElem?_eq_some_iff.1 HSD.out).1 (fun q => hfr (by injection q))).trans HSD.out, by
      exact ((((Kp.of_ext (X := fun k => k < w.heap.size) ED.out).set w.heap.size 0 (.bool false) (by omega)).set w.heap.size 1 (.int .u32 0) (by omega)).set w.heap.size 2 (.int .u32 0) (by omega)).set w.heap.size 3 (.slice none 0 0) (by omega) |>.to_ext (fun k hk => hk)⟩
    have SS : ((((wd.setCell ⟨w.heap.size, 0, none⟩ (.bool false)).setCell ⟨w.heap.size, 1, none⟩ (.int .u32 0)).setCell ⟨w.heap.size, 2, none⟩ (.int .u32 0)).setCell ⟨w.heap.size, 3, none⟩ (.slice none 0 0)).cell? ⟨hb, 2, none⟩ = some (.pointer (some ⟨fb, 0, none⟩)) := by
      rw [World.cell?_setCell_other (h := fun q => hhr (by injection q with q1; exact q1.symm)), World.cell?_setCell_other (h := fun q => hhr (by injection q with q1; exact q1.symm)), World.cell?_setCell_other (h := fun q => hhr (by injection q with q1; exact q1.symm)), World.cell?_setCell_other (h := fun q => hhr (by injection q with q1; exact q1.symm))]
      exact d2
    clear z0 z1 z2 z3 q0 q1 q2 q3 c2 y2 g2 hw10
    refine wp_region_plS (fun w' => w'.cell? ⟨hb, 2, none⟩ = some (.pointer (some ⟨fb, 0, none⟩))) (.free 0 (.free 1 (.free 2 (.free 3 (.free 4 (.fork 5 6 (.one 6 (.free 7 .nil)) (.one 5 (.free 7 .nil)))))))) (by kernel_rfl) (by kernel_rfl) (by kernel_rfl) (by kernel_rfl) ?_
    rw [hwd]
    refine plS_val (v := ?_) rfl rfl d2 (fun w' hw' => ?_) ?_; rotate_left; (· go_simp; try with_reducible rfl); simp only [Act.put, List.setIfInBounds_toArray, List.set_cons_zero, List.set_cons_succ]
    refine plS_val (v := ?_) rfl rfl d2 (fun w' hw' => ?_) ?_; rotate_left; (· go_simp; try with_reducible rfl); simp only [Act.put, List.setIfInBounds_toArray, List.set_cons_zero, List.set_cons_succ]
    refine plS_val (v := ?_) rfl rfl d2 (fun w' hw' => ?_) ?_; rotate_left; (· go_simp; try with_reducible rfl); simp only [Act.put, List.setIfInBounds_toArray, List.set_cons_zero, List.set_cons_succ]
    refine plS_val (v := ?_) rfl rfl d2 (fun w' hw' => ?_) ?_; rotate_left; (· go_simp; try with_reducible rfl); simp only [Act.put, List.setIfInBounds_toArray, List.set_cons_zero, List.set_cons_succ]
    refine plS_val (v := ?_) rfl rfl d2 (fun w' hw' => ?_) ?_; rotate_left; (· go_simp; try with_reducible rfl); simp only [Act.put, List.setIfInBounds_toArray, List.set_cons_zero, List.set_cons_succ]
    refine plS_fork ?_ ?_
    · refine plS_run (w' := wd) (v := .iface 46 (.pointer (some ⟨fb, 0, none⟩))) rfl rfl (by go_simp) d2 ?_
      simp only [Act.put, List.setIfInBounds_toArray, List.set_cons_zero, List.set_cons_succ]
      refine plS_void (w' := ((((wd.setCell ⟨w.heap.size, 0, none⟩ (.bool false)).setCell ⟨w.heap.size, 1, none⟩ (.int .u32 0)).setCell ⟨w.heap.size, 2, none⟩ (.int .u32 0)).setCell ⟨w.heap.size, 3, none⟩ (.slice none 0 0))) rfl rfl (by go_simp) SS ?_
      simp only [Act.put, List.setIfInBounds_toArray, List.set_cons_zero, List.set_cons_succ]
      refine plS_val (v := ?_) rfl rfl SS (fun w' hw' => ?_) ?_; rotate_left; (· go_simp; try with_reducible rfl); simp only [Act.put, List.setIfInBounds_toArray, List.set_cons_zero, List.set_cons_succ]
      refine plS_done ?_
      go_wp2_with fail
      refine bodyPost_ret (results_cell_tR rfl _ _ w.heap.size _ _ (0, 0) _ (.iface 46 (.pointer (some ⟨fb, 0, none⟩))) rfl rfl HSET.out Tryd.underlying32 rfl HZ.out) rfl ?_
      exact HFIN.out
    · refine plS_void (w' := ((((wd.setCell ⟨w.heap.size, 0, none⟩ (.bool false)).setCell ⟨w.heap.size, 1, none⟩ (.int .u32 0)).setCell ⟨w.heap.size, 2, none⟩ (.int .u32 0)).setCell ⟨w.heap.size, 3, none⟩ (.slice none 0 0))) rfl rfl (by go_simp) SS ?_
      simp only [Act.put, List.setIfInBounds_toArray, List.set_cons_zero, List.set_cons_succ]
      refine plS_run (w' := ((((wd.setCell ⟨w.heap.size, 0, none⟩ (.bool false)).setCell ⟨w.heap.size, 1, none⟩ (.int .u32 0)).setCell ⟨w.heap.size, 2, none⟩ (.int .u32 0)).setCell ⟨w.heap.size, 3, none⟩ (.slice none 0 0))) (v := .iface 46 (.pointer (some ⟨fb, 0, none⟩))) rfl rfl (by go_simp) SS ?_
      simp only [Act.put, List.setIfInBounds_toArray, List.set_cons_zero, List.set_cons_succ]
      refine plS_val (v := ?_) rfl rfl SS (fun w' hw' => ?_) ?_; rotate_left; (· go_simp; try with_reducible rfl); simp only [Act.put, List.setIfInBounds_toArray, List.set_cons_zero, List.set_cons_succ]
      refine plS_done ?_
      go_wp2_with fail
      refine bodyPost_ret (results_cell_tR rfl _ _ w.heap.size _ _ (0, 0) _ (.iface 46 (.pointer (some ⟨fb, 0, none⟩))) rfl rfl HSET.out Tryd.underlying32 rfl HZ.out) rfl ?_
      exact HFIN.out

  · have hq : (numN (rd1 l).2.1 == 1) = false := hr
    obtain ⟨w7, hw7⟩ : ∃ w7, w6.setCell ⟨mb, 0, none⟩ (.bool false) = w7 := ⟨_, rfl⟩
    have HM7 : Hid (w7.heap[mb]? = some (.cells #[.bool (rdR l), .int .u32 (numN l), .int .u32 0, .slice none 0 0] 32 (0, 0))) := Lib.hid (by rw [hr, ← hw7]; simpa using heap_setCell_same w6 mb 0 _ _ (.bool false) hm6)
    have HD7 : Hid (HdT w7 hb rb (rd2 l) 8) := Lib.hid (by rw [← hw7]; exact SET _)
    have E7 : Hid (Ext w1 w7) := Lib.hid (by rw [← hw7]; exact ESET _)
    have hsz7 : w7.heap.size = w6.heap.size := by rw [← hw7]; simp
    have x7 : w7.cell? ⟨mb, 0, none⟩ = some (.bool false) := by
      have h := cell_of_row w7 mb 0 _ _ _ HM7.out
      rw [hr] at h
      simpa using h
    clear SET ESET hd6 hm6 k6 e6
    go_wp2_with fail
    clear hw7 x0 f0 hq
    refine (hchoice_st hb rb 8 (rd2 l) [2] #[.int .u32 2] 1 _ w7 HD7.out (by omega) rfl rfl (by omega) (by omega)).mono ?_
    rintro e wa ⟨rfl, hda, ka⟩
    have HDA := Lib.hid hda
    have HMA := Lib.hid (ka.heap HM7.out ⟨hmbl.1, hmbl.2.1⟩)
    have EA := Lib.hid (ext_kpR E7.out ka HX.out)
    clear hda ka x7
    go_wp2_with fail
    refine (hchoice_st hb rb 12 _ [536870913] #[.int .u32 536870913] 1 _ wa HDA.out (by omega) rfl rfl (by omega) (by omega)).mono ?_
    rintro e wb ⟨rfl, hdb, kb⟩
    have HDB := Lib.hid hdb
    have HMB := Lib.hid (kb.heap HMA.out ⟨hmbl.1, hmbl.2.1⟩)
    have EB := Lib.hid (ext_kpR EA.out kb HX.out)
    clear hdb kb
    go_wp2_with fail
    refine (hchoice_st hb rb 16 _ [1] #[.int .u32 1] 1 _ wb HDB.out (by omega) rfl rfl (by omega) (by omega)).mono ?_
    rintro e w8 ⟨rfl, hd8, k8⟩
    have HM8 := Lib.hid (k8.heap HMB.out ⟨hmbl.1, hmbl.2.1⟩)
    have E8 := Lib.hid (ext_kpR EB.out k8 HX.out)
    have HD8 : Hid (HdT w8 hb rb (rd3 l) 20) := Lib.hid (by rw [rd3, hr]; exact hd8)
    have HD9 : Hid (∀ w', HdT w' hb rb (nx (rd3 l) 20) (20 + 4) → ∃ fb, w'.heap[hb]? = some (.cells #[.pointer (some ⟨rb, 0, none⟩), .int .i64 24, .pointer (some ⟨fb, 0, none⟩)] 61 (0, 0)) ∧ w'.heap[fb]? = some (.cells #[.int .i64 x, .int .i64 y] 48 (0, 0))) := Lib.hid fun w' h => by
      obtain ⟨fp, h1, _, _, h4⟩ := h
      have hn : nx (rd3 l) 20 = rd4 l := by rw [rd4, rdA, hr]; rfl
      rw [hn, HF.out] at h4
      obtain ⟨fb, rfl, h5, _, _⟩ := h4
      exact ⟨fb, h1, h5⟩
    clear hd8 k8
    go_wp2_with fail
    refine (hnumber_st hb rb 20 (rd3 l) w8 HD8.out (by omega)).mono ?_
    rintro e w9 ⟨rfl, hd9, k9⟩
    obtain ⟨fb, r1, r2⟩ := HD9.out w9 hd9
    have hm9 := k9.heap HM8.out ⟨hmbl.1, hmbl.2.1⟩
    have hfm : ¬ fb = mb := fun q => by
      subst q
      rw [r2] at hm9
      injection hm9 with hm9
      injection hm9 with hm9
      simp at hm9
    have e9 := ext_kpR E8.out k9 HX.out
    have hfr : ¬ fb = w.heap.size := fun q => by
      have h := e9.heap HB1.out
      subst q
      rw [r2] at h
      injection h with h
      injection h with h
      simp at h
    have y2 := cell_of_row w9 mb 2 _ _ _ hm9
    simp at y2
    have g2 := Lib.frozen_of_heap hm9 2
    obtain ⟨w10, hw10⟩ : ∃ w10, w9.setCell ⟨mb, 2, none⟩ (.int .u32 (numN (rd3 l).2.1)) = w10 := ⟨_, rfl⟩
    have r10 : w10.heap[hb]? = some (.cells #[.pointer (some ⟨rb, 0, none⟩), .int .i64 24, .pointer (some ⟨fb, 0, none⟩)] 61 (0, 0)) := by rw [← hw10]; exact (heap_setCell_other _ _ _ _ (fun e => hmbl.1 e.symm)).trans r1
    have s10 : w10.heap[fb]? = some (.cells #[.int .i64 x, .int .i64 y] 48 (0, 0)) := by rw [← hw10]; exact (heap_setCell_other _ _ _ _ hfm).trans r2
    have e10 : Ext w1 w10 := by rw [← hw10]; exact ((Kp.of_ext (X := fun k => k < w1.heap.size) e9).set mb 2 _ (by omega)).to_ext (fun k hk => hk)
    have c2 := cell_of_row w10 hb 2 _ _ _ r10
    simp at c2
    have hr10 := e10.heap HB1.out
    have z0 := cell_of_row w10 w.heap.size 0 _ _ _ hr10
    have z1 := cell_of_row w10 w.heap.size 1 _ _ _ hr10
    have z2 := cell_of_row w10 w.heap.size 2 _ _ _ hr10
    have z3 := cell_of_row w10 w.heap.size 3 _ _ _ hr10
    simp at z0 z1 z2 z3
    have q0 := Lib.frozen_of_heap hr10 0
    have q1 := Lib.frozen_of_heap hr10 1
    have q2 := Lib.frozen_of_heap hr10 2
    have q3 := Lib.frozen_of_heap hr10 3
    have HR10 := Lib.hid hr10
    have HS10 := Lib.hid s10
    have E10 := Lib.hid (E1.out.trans e10)
    have hhr : ¬ hb = w.heap.size := by omega
    clear HDA HMA EA HDB HMB EB HM5 HD5 E5 HX HM7 HD7 E7 HM8 E8 HD8 HD9 hd9 k9 r1 r2 hm9 e9 r10 s10 e10 hr10
    go_wp2_with fail
    obtain ⟨wd, hwd⟩ : ∃ wd, w10.drew = wd := ⟨_, rfl⟩
    have d2 : wd.cell? ⟨hb, 2, none⟩ = some (.pointer (some ⟨fb, 0, none⟩)) := by rw [← hwd]; simpa using c2
    have t0 : wd.cell? ⟨w.heap.size, 0, none⟩ = some (.bool false) := by rw [← hwd]; simpa using z0
    have t1 : wd.cell? ⟨w.heap.size, 1, none⟩ = some (.int .u32 0) := by rw [← hwd]; simpa using z1
    have t2 : wd.cell? ⟨w.heap.size, 2, none⟩ = some (.int .u32 0) := by rw [← hwd]; simpa using z2
    have t3 : wd.cell? ⟨w.heap.size, 3, none⟩ = some (.slice none 0 0) := by rw [← hwd]; simpa using z3
    have HRD : Hid (wd.heap[w.heap.size]? = some (.cells #[.bool false, .int .u32 0, .int .u32 0, .slice none 0 0] 32 (0, 0))) := Lib.hid (by rw [← hwd]; exact (Ext.refl w10).drew.heap HR10.out)
    have HSD : Hid (wd.heap[fb]? = some (.cells #[.int .i64 x, .int .i64 y] 48 (0, 0))) := Lib.hid (by rw [← hwd]; exact (Ext.refl w10).drew.heap HS10.out)
    have ED : Hid (Ext w wd) := Lib.hid (by rw [← hwd]; exact E10.out.drew)
    have p0 := Lib.frozen_of_heap HRD.out 0
    have p1 := Lib.frozen_of_heap HRD.out 1
    have p2 := Lib.frozen_of_heap HRD.out 2
    have p3 := Lib.frozen_of_heap HRD.out 3
    have HSET : Hid (((((wd.setCell ⟨w.heap.size, 0, none⟩ (.bool false)).setCell ⟨w.heap.size, 1, none⟩ (.int .u32 0)).setCell ⟨w.heap.size, 2, none⟩ (.int .u32 0)).setCell ⟨w.heap.size, 3, none⟩ (.slice none 0 0)).heap[w.heap.size]? = some (.cells #[.bool false, .int .u32 0, .int .u32 0, .slice none 0 0] 32 (0, 0))) := Lib.hid (by
      have h1 := set_blk HRD.out 0 (.bool false)
      have h2 := set_blk h1 1 (.int .u32 0)
      have h3 := set_blk h2 2 (.int .u32 0)
      have h4 := set_blk h3 3 (.slice none 0 0)
      simpa using h4)
    have HFIN : Hid (RBad w x y (.returned (.tuple #[.agg #[.bool false, .int .u32 0, .int .u32 0, .slice none 0 0], .iface 46 (.pointer (some ⟨fb, 0, none⟩))])) ((((wd.setCell ⟨w.heap.size, 0, none⟩ (.bool false)).setCell ⟨w.heap.size, 1, none⟩ (.int .u32 0)).setCell ⟨w.heap.size, 2, none⟩ (.int .u32 0)).setCell ⟨w.heap.size, 3, none⟩ (.slice none 0 0))) := Lib.hid ⟨fb, rfl, by
      have hon : Onl w.heap.size wd ((((wd.setCell ⟨w.heap.size, 0, none⟩ (.bool false)).setCell ⟨w.heap.size, 1, none⟩ (.int .u32 0)).setCell ⟨w.heap.size, 2, none⟩ (.int .u32 0)).setCell ⟨w.heap.size, 3, none⟩ (.slice none 0 0)) := (((Onl.set wd 0 _).trans (Onl.set _ 1 _)).trans (Onl.set _ 2 _)).trans (Onl.set _ 3 _)
      exact (hon.block fb (Array.getElem?_eq_some_iff.1 HSD.out).1 (fun q => hfr (by injection q))).trans HSD.out, by
      exact ((((Kp.of_ext (X := fun k => k < w.heap.size) ED.out).set w.heap.size 0 (.bool false) (by omega)).set w.heap.size 1 (.int .u32 0) (by omega)).set w.heap.size 2 (.int .u32 0) (by omega)).set w.heap.size 3 (.slice none 0 0) (by omega) |>.to_ext (fun k hk => hk)⟩
    have SS : ((((wd.setCell ⟨w.heap.size, 0, none⟩ (.bool false)).setCell ⟨w.heap.size, 1, none⟩ (.int .u32 0)).setCell ⟨w.heap.size, 2, none⟩ (.int .u32 0)).setCell ⟨w.heap.size, 3, none⟩ (.slice none 0 0)).cell? ⟨hb, 2, none⟩ = some (.pointer (some ⟨fb, 0, none⟩)) := by
      rw [World.cell?_setCell_other (h := fun q => hhr (by injection q with q1; exact q1.symm)), World.cell?_setCell_other (h := fun q => hhr (by injection q with q1; exact q1.symm)), World.cell?_setCell_other (h := fun q => hhr (by injection q with q1; exact q1.symm)), World.cell?_setCell_other (h := fun q => hhr (by injection q with q1; exact q1.symm))]
      exact d2
    clear z0 z1 z2 z3 q0 q1 q2 q3 c2 y2 g2 hw10
    refine wp_region_plS (fun w' => w'.cell? ⟨hb, 2, none⟩ = some (.pointer (some ⟨fb, 0, none⟩))) (.free 0 (.free 1 (.free 2 (.free 3 (.free 4 (.fork 5 6 (.one 6 (.free 7 .nil)) (.one 5 (.free 7 .nil)))))))) (by kernel_rfl) (by kernel_rfl) (by kernel_rfl) (by kernel_rfl) ?_
    rw [hwd]
    refine plS_val (v := ?_) rfl rfl d2 (fun w' hw' => ?_) ?_; rotate_left; (· go_simp; try with_reducible rfl); simp only [Act.put, List.setIfInBounds_toArray, List.set_cons_zero, List.set_cons_succ]
    refine plS_val (v := ?_) rfl rfl d2 (fun w' hw' => ?_) ?_; rotate_left; (· go_simp; try with_reducible rfl); simp only [Act.put, List.setIfInBounds_toArray, List.set_cons_zero, List.set_cons_succ]
    refine plS_val (v := ?_) rfl rfl d2 (fun w' hw' => ?_) ?_; rotate_left; (· go_simp; try with_reducible rfl); simp only [Act.put, List.setIfInBounds_toArray, List.set_cons_zero, List.set_cons_succ]
    refine plS_val (v := ?_) rfl rfl d2 (fun w' hw' => ?_) ?_; rotate_left; (· go_simp; try with_reducible rfl); simp only [Act.put, List.setIfInBounds_toArray, List.set_cons_zero, List.set_cons_succ]
    refine plS_val (v := ?_) rfl rfl d2 (fun w' hw' => ?_) ?_; rotate_left; (· go_simp; try with_reducible rfl); simp only [Act.put, List.setIfInBounds_toArray, List.set_cons_zero, List.set_cons_succ]
    refine plS_fork ?_ ?_
    · refine plS_run (w' := wd) (v := .iface 46 (.pointer (some ⟨fb, 0, none⟩))) rfl rfl (by go_simp) d2 ?_
      simp only [Act.put, List.setIfInBounds_toArray, List.set_cons_zero, List.set_cons_succ]
      refine plS_void (w' := ((((wd.setCell ⟨w.heap.size, 0, none⟩ (.bool false)).setCell ⟨w.heap.size, 1, none⟩ (.int .u32 0)).setCell ⟨w.heap.size, 2, none⟩ (.int .u32 0)).setCell ⟨w.heap.size, 3, none⟩ (.slice none 0 0))) rfl rfl (by go_simp) SS ?_
      simp only [Act.put, List.setIfInBounds_toArray, List.set_cons_zero, List.set_cons_succ]
      refine plS_val (v := ?_) rfl rfl SS (fun w' hw' => ?_) ?_; rotate_left; (· go_simp; try with_reducible rfl); simp only [Act.put, List.setIfInBounds_toArray, List.set_cons_zero, List.set_cons_succ]
      refine plS_done ?_
      go_wp2_with fail
      refine bodyPost_ret (results_cell_tR rfl _ _ w.heap.size _ _ (0, 0) _ (.iface 46 (.pointer (some ⟨fb, 0, none⟩))) rfl rfl HSET.out Tryd.underlying32 rfl HZ.out) rfl ?_
      exact HFIN.out
    · refine plS_void (w' := ((((wd.setCell ⟨w.heap.size, 0, none⟩ (.bool false)).setCell ⟨w.heap.size, 1, none⟩ (.int .u32 0)).setCell ⟨w.heap.size, 2, none⟩ (.int .u32 0)).setCell ⟨w.heap.size, 3, none⟩ (.slice none 0 0))) rfl rfl (by go_simp) SS ?_
      simp only [Act.put, List.setIfInBounds_toArray, List.set_cons_zero, List.set_cons_succ]
      refine plS_run (w' := ((((wd.setCell ⟨w.heap.size, 0, none⟩ (.bool false)).setCell ⟨w.heap.size, 1, none⟩ (.int .u32 0)).setCell ⟨w.heap.size, 2, none⟩ (.int .u32 0)).setCell ⟨w.heap.size, 3, none⟩ (.slice none 0 0))) (v := .iface 46 (.pointer (some ⟨fb, 0, none⟩))) rfl rfl (by go_simp) SS ?_
      simp only [Act.put, List.setIfInBounds_toArray, List.set_cons_zero, List.set_cons_succ]
      refine plS_val (v := ?_) rfl rfl SS (fun w' hw' => ?_) ?_; rotate_left; (· go_simp; try with_reducible rfl); simp only [Act.put, List.setIfInBounds_toArray, List.set_cons_zero, List.set_cons_succ]
      refine plS_done ?_
      go_wp2_with fail
      refine bodyPost_ret (results_cell_tR rfl _ _ w.heap.size _ _ (0, 0) _ (.iface 46 (.pointer (some ⟨fb, 0, none⟩))) rfl rfl HSET.out Tryd.underlying32 rfl HZ.out) rfl ?_
      exact HFIN.out

end Go.Proofs.YtdoijbjmhnncdaaDoor
