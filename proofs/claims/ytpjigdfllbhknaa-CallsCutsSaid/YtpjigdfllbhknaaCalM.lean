/-
  Layer 14: Own of Rename; of every procedure.
-/
import Derived.Test.YtpjigdfllbhknaaCalL
namespace Go.Proofs.Ytpjigdfllbhknaa
open Go Go.RowKit
set_option linter.unusedVariables false
set_option linter.unusedSimpArgs false
set_option maxRecDepth 20000 in
set_option maxHeartbeats 4000000 in
theorem own_hnij (a : AR) (w : World) (hf : fld a.pr = [104, 110, 105, 106]) : Calls Try.prog 28 #[.agg a.cs] w fun e w' => e = .returned (.agg (ownA a).cs) ∧ Ext w w' := by
  have HF := Lib.hid hf
  obtain ⟨w2, hw2⟩ : ∃ w2, (w.alloc (.cells a.cs 26)).alloc (.cells #[.int .i64 0, .int .i64 0, .int .i64 0, .int .i64 0, .int .i64 0, .int .i64 0, .int .i64 0, .int .i64 0, .int .i64 0, .string ⟨#[]⟩, .string ⟨#[]⟩, .slice none 0 0] 26) = w2 := ⟨_, rfl⟩
  have e2 : Ext w w2 := by rw [← hw2]; exact ((Ext.refl w).alloc _).alloc _
  have hb : w2.heap[w.heap.size]? = some (.cells a.cs 26 (0, 0)) := by rw [← hw2]; exact ((Ext.refl _).alloc _).heap (heap_alloc_new w _)
  have hz : w2.heap[w.heap.size + 1]? = some (.cells #[.int .i64 0, .int .i64 0, .int .i64 0, .int .i64 0, .int .i64 0, .int .i64 0, .int .i64 0, .int .i64 0, .int .i64 0, .string ⟨#[]⟩, .string ⟨#[]⟩, .slice none 0 0] 26 (0, 0)) := by rw [← hw2]; exact heap_alloc2_new w _ _
  obtain ⟨ab, hab⟩ : ∃ ab, w.heap.size = ab := ⟨_, rfl⟩
  obtain ⟨xb, hxb⟩ : ∃ xb, w2.heap.size = xb := ⟨_, rfl⟩
  rw [hab] at hb hz
  have hlt : ab + 1 < xb := by rw [← hxb]; exact (Array.getElem?_eq_some_iff.1 hz).1
  have c0 := cell_of_row w2 ab 0 _ _ _ hb
  have c5 := cell_of_row w2 ab 5 _ _ _ hb
  have c6 := cell_of_row w2 ab 6 _ _ _ hb
  simp [AR.cs] at c0 c5 c6
  have HZ0 : Hid ((w2.alloc (.cells #[.int .i64 0, .int .i64 0, .int .i64 0, .int .i64 0, .int .i64 0, .int .i64 0, .int .i64 0, .int .i64 0, .int .i64 0, .string ⟨#[]⟩, .string ⟨#[]⟩, .slice none 0 0] 26)).heap[xb]? = some (.cells #[.int .i64 0, .int .i64 0, .int .i64 0, .int .i64 0, .int .i64 0, .int .i64 0, .int .i64 0, .int .i64 0, .int .i64 0, .string ⟨#[]⟩, .string ⟨#[]⟩, .slice none 0 0] 26 (0, 0))) := Lib.hid (by rw [← hxb]; exact heap_alloc_new w2 _)
  have HI := Lib.hid (arg_info (own0 a))
  have HS : Hid ((#[.int .i64 0, .int .i64 0, .int .i64 0, .int .i64 0, .int .i64 0, .int .i64 0, .int .i64 0, .int .i64 0, .int .i64 0, .string ⟨#[]⟩, .string ⟨#[]⟩, .slice none 0 0] : Array Value).size = (own0 a).cs.size) := Lib.hid rfl
  have HU := Lib.hid (AR.one (own0 a))
  have E3 : Hid (Ext w2 ((w2.alloc (.cells #[.int .i64 0, .int .i64 0, .int .i64 0, .int .i64 0, .int .i64 0, .int .i64 0, .int .i64 0, .int .i64 0, .int .i64 0, .string ⟨#[]⟩, .string ⟨#[]⟩, .slice none 0 0] 26)).setRow xb (own0 a).cs)) := Lib.hid (below_setRow ((Ext.refl w2).alloc _) (Nat.le_of_eq hxb) _)
  have HX3 := Lib.hid (setRow_heap _ xb _ (own0 a).cs _ _ HZ0.out)
  have HB3 := Lib.hid (E3.out.heap hb)
  have HZ3 := Lib.hid (E3.out.heap hz)
  have E2 := Lib.hid e2
  clear hb hz e2 hf
  have q0 : ((w2.alloc (.cells #[.int .i64 0, .int .i64 0, .int .i64 0, .int .i64 0, .int .i64 0, .int .i64 0, .int .i64 0, .int .i64 0, .int .i64 0, .string ⟨#[]⟩, .string ⟨#[]⟩, .slice none 0 0] 26)).setRow xb (own0 a).cs).cell? ⟨ab, 0, none⟩ = some (.int .i64 a.pr) := (cell_of_row _ ab 0 _ _ _ HB3.out).trans rfl
  go_enter Try.func28, Try.ntmps28
  go_wp2_with (first | (with_reducible refine wpList_store_row rfl 26 (.tmp 3) (.tmp 8) rfl xb _ rfl rfl _ _ HZ0.out HI.out HS.out HU.out ?_) | fail)
  refine (has14 a.pr 115 _).mono ?_
  rintro e w4 ⟨rfl, e4⟩
  rw [HF.out, show hasB [104, 110, 105, 106] 115 = false from by decide]
  have HB0a := Lib.hid (e4.heap HB3.out)
  have HZ0a := Lib.hid (e4.heap HZ3.out)
  have HX0a := Lib.hid (e4.heap HX3.out)
  have HE0a : Hid (Ext w w4) := Lib.hid ((E2.out.trans E3.out).trans e4)
  clear e4
  have q1 : w4.cell? ⟨ab, 0, none⟩ = some (.int .i64 a.pr) := (cell_of_row _ ab 0 _ _ _ HB0a.out).trans rfl
  go_wp2_with fail
  refine (has14 a.pr 110 _).mono ?_
  rintro e w5 ⟨rfl, e5⟩
  rw [HF.out, show hasB [104, 110, 105, 106] 110 = true from by decide]
  have HB1a := Lib.hid (e5.heap HB0a.out)
  have HZ1a := Lib.hid (e5.heap HZ0a.out)
  have HX1a := Lib.hid (e5.heap HX0a.out)
  have HE1a : Hid (Ext w w5) := Lib.hid (HE0a.out.trans e5)
  clear e5
  have y1 : w5.cell? ⟨ab, 9, none⟩ = some (.string ⟨a.nm.toArray⟩) := (cell_of_row _ ab 9 _ _ _ HB1a.out).trans rfl
  obtain ⟨o1, z1⟩ : ∃ o, w5.cell? ⟨xb, 9, none⟩ = some o := ⟨_, (cell_of_row _ xb 9 _ _ _ HX1a.out).trans rfl⟩
  have fr1 := blk_freeC HX1a.out 9
  have HO1 : Hid (On2 xb xb w5 (w5.setCell ⟨xb, 9, none⟩ (.string ⟨a.nm.toArray⟩))) := Lib.hid (On2.set _ _ _ (.inl rfl))
  have HB1b := Lib.hid (HO1.out.heap HB1a.out (by omega) (by omega))
  have HZ1b := Lib.hid (HO1.out.heap HZ1a.out (by omega) (by omega))
  have HX1b : Hid ((w5.setCell ⟨xb, 9, none⟩ (.string ⟨a.nm.toArray⟩)).heap[xb]? = some (.cells (AR.cs ({ own0 a with nm := a.nm })) 26 (0, 0))) := Lib.hid (set_blkC HX1a.out 9 _)
  have HE1b : Hid (Ext w (w5.setCell ⟨xb, 9, none⟩ (.string ⟨a.nm.toArray⟩))) := Lib.hid (HO1.out.ext HE1a.out (by omega) (by omega))
  have q2 : (w5.setCell ⟨xb, 9, none⟩ (.string ⟨a.nm.toArray⟩)).cell? ⟨ab, 0, none⟩ = some (.int .i64 a.pr) := (cell_of_row _ ab 0 _ _ _ HB1b.out).trans rfl
  go_wp2_with fail
  clear y1 z1 fr1
  refine (has14 a.pr 111 _).mono ?_
  rintro e w6 ⟨rfl, e6⟩
  rw [HF.out, show hasB [104, 110, 105, 106] 111 = false from by decide]
  have HB2a := Lib.hid (e6.heap HB1b.out)
  have HZ2a := Lib.hid (e6.heap HZ1b.out)
  have HX2a := Lib.hid (e6.heap HX1b.out)
  have HE2a : Hid (Ext w w6) := Lib.hid (HE1b.out.trans e6)
  clear e6
  have q3 : w6.cell? ⟨ab, 0, none⟩ = some (.int .i64 a.pr) := (cell_of_row _ ab 0 _ _ _ HB2a.out).trans rfl
  go_wp2_with fail
  refine (has14 a.pr 99 _).mono ?_
  rintro e w7 ⟨rfl, e7⟩
  rw [HF.out, show hasB [104, 110, 105, 106] 99 = false from by decide]
  have HB3a := Lib.hid (e7.heap HB2a.out)
  have HZ3a := Lib.hid (e7.heap HZ2a.out)
  have HX3a := Lib.hid (e7.heap HX2a.out)
  have HE3a : Hid (Ext w w7) := Lib.hid (HE2a.out.trans e7)
  clear e7
  have q4 : w7.cell? ⟨ab, 0, none⟩ = some (.int .i64 a.pr) := (cell_of_row _ ab 0 _ _ _ HB3a.out).trans rfl
  go_wp2_with fail
  refine (has14 a.pr 100 _).mono ?_
  rintro e w8 ⟨rfl, e8⟩
  rw [HF.out, show hasB [104, 110, 105, 106] 100 = false from by decide]
  have HB4a := Lib.hid (e8.heap HB3a.out)
  have HZ4a := Lib.hid (e8.heap HZ3a.out)
  have HX4a := Lib.hid (e8.heap HX3a.out)
  have HE4a : Hid (Ext w w8) := Lib.hid (HE3a.out.trans e8)
  clear e8
  have q5 : w8.cell? ⟨ab, 0, none⟩ = some (.int .i64 a.pr) := (cell_of_row _ ab 0 _ _ _ HB4a.out).trans rfl
  go_wp2_with fail
  refine (has14 a.pr 109 _).mono ?_
  rintro e w9 ⟨rfl, e9⟩
  rw [HF.out, show hasB [104, 110, 105, 106] 109 = false from by decide]
  have HB5a := Lib.hid (e9.heap HB4a.out)
  have HZ5a := Lib.hid (e9.heap HZ4a.out)
  have HX5a := Lib.hid (e9.heap HX4a.out)
  have HE5a : Hid (Ext w w9) := Lib.hid (HE4a.out.trans e9)
  clear e9
  have q6 : w9.cell? ⟨ab, 0, none⟩ = some (.int .i64 a.pr) := (cell_of_row _ ab 0 _ _ _ HB5a.out).trans rfl
  go_wp2_with fail
  refine (has14 a.pr 105 _).mono ?_
  rintro e w10 ⟨rfl, e10⟩
  rw [HF.out, show hasB [104, 110, 105, 106] 105 = true from by decide]
  have HB6a := Lib.hid (e10.heap HB5a.out)
  have HZ6a := Lib.hid (e10.heap HZ5a.out)
  have HX6a := Lib.hid (e10.heap HX5a.out)
  have HE6a : Hid (Ext w w10) := Lib.hid (HE5a.out.trans e10)
  clear e10
  have y7 : w10.cell? ⟨ab, 7, none⟩ = some (.int .i64 a.g1) := (cell_of_row _ ab 7 _ _ _ HB6a.out).trans rfl
  have y8 : w10.cell? ⟨ab, 8, none⟩ = some (.int .i64 a.g2) := (cell_of_row _ ab 8 _ _ _ HB6a.out).trans rfl
  have x7 : w10.cell? ⟨xb, 7, none⟩ = some (.int .i64 0) := (cell_of_row _ xb 7 _ _ _ HX6a.out).trans rfl
  have x8 : w10.cell? ⟨xb, 8, none⟩ = some (.int .i64 0) := (cell_of_row _ xb 8 _ _ _ HX6a.out).trans rfl
  have fr7 := blk_freeC HX6a.out 7
  have fr8 := blk_freeC HX6a.out 8
  have HO6 : Hid (On2 xb xb w10 ((w10.setCell ⟨xb, 7, none⟩ (.int .i64 a.g1)).setCell ⟨xb, 8, none⟩ (.int .i64 a.g2))) := Lib.hid (On2.trans (tb := xb) (mb := xb) (On2.set w10 ⟨xb, 7, none⟩ (.int .i64 a.g1) (.inl rfl)) (On2.set _ ⟨xb, 8, none⟩ (.int .i64 a.g2) (.inl rfl)))
  have HB6b := Lib.hid (HO6.out.heap HB6a.out (by omega) (by omega))
  have HX6b : Hid (((w10.setCell ⟨xb, 7, none⟩ (.int .i64 a.g1)).setCell ⟨xb, 8, none⟩ (.int .i64 a.g2)).heap[xb]? = some (.cells (AR.cs ({ ({ own0 a with nm := a.nm } : AR) with g1 := a.g1, g2 := a.g2 })) 26 (0, 0))) := Lib.hid (set_blkC (set_blkC HX6a.out 7 _) 8 _)
  have yA : ((w10.setCell ⟨xb, 7, none⟩ (.int .i64 a.g1)).setCell ⟨xb, 8, none⟩ (.int .i64 a.g2)).cell? ⟨ab, 10, none⟩ = some (.string ⟨a.n2.toArray⟩) := (cell_of_row _ ab 10 _ _ _ HB6b.out).trans rfl
  have xA : ((w10.setCell ⟨xb, 7, none⟩ (.int .i64 a.g1)).setCell ⟨xb, 8, none⟩ (.int .i64 a.g2)).cell? ⟨xb, 10, none⟩ = some (.string ⟨#[]⟩) := (cell_of_row _ xb 10 _ _ _ HX6b.out).trans rfl
  have xA0 : w10.cell? ⟨xb, 10, none⟩ = some (.string ⟨#[]⟩) := (cell_of_row _ xb 10 _ _ _ HX6a.out).trans rfl
  have yA0 : w10.cell? ⟨ab, 10, none⟩ = some (.string ⟨a.n2.toArray⟩) := (cell_of_row _ ab 10 _ _ _ HB6a.out).trans rfl
  have frA := blk_freeC HX6b.out 10
  have frA0 := blk_freeC HX6a.out 10
  have HO7 : Hid (On2 xb xb w10 (((w10.setCell ⟨xb, 7, none⟩ (.int .i64 a.g1)).setCell ⟨xb, 8, none⟩ (.int .i64 a.g2)).setCell ⟨xb, 10, none⟩ (.string ⟨a.n2.toArray⟩))) := Lib.hid (On2.trans (tb := xb) (mb := xb) HO6.out (On2.set _ ⟨xb, 10, none⟩ (.string ⟨a.n2.toArray⟩) (.inl rfl)))
  have HZ6b := Lib.hid (HO7.out.heap HZ6a.out (by omega) (by omega))
  have HX6c : Hid ((((w10.setCell ⟨xb, 7, none⟩ (.int .i64 a.g1)).setCell ⟨xb, 8, none⟩ (.int .i64 a.g2)).setCell ⟨xb, 10, none⟩ (.string ⟨a.n2.toArray⟩)).heap[xb]? = some (.cells (AR.cs ({ ({ ({ own0 a with nm := a.nm } : AR) with g1 := a.g1, g2 := a.g2 } : AR) with n2 := a.n2 })) 26 (0, 0))) := Lib.hid (set_blkC HX6b.out 10 _)
  have HE6b : Hid (Ext w (((w10.setCell ⟨xb, 7, none⟩ (.int .i64 a.g1)).setCell ⟨xb, 8, none⟩ (.int .i64 a.g2)).setCell ⟨xb, 10, none⟩ (.string ⟨a.n2.toArray⟩))) := Lib.hid (HO7.out.ext HE6a.out (by omega) (by omega))
  have HIc := Lib.hid (arg_info ({ ({ ({ own0 a with nm := a.nm } : AR) with g1 := a.g1, g2 := a.g2 } : AR) with n2 := a.n2 }))
  have HSc : Hid ((#[.int .i64 0, .int .i64 0, .int .i64 0, .int .i64 0, .int .i64 0, .int .i64 0, .int .i64 0, .int .i64 0, .int .i64 0, .string ⟨#[]⟩, .string ⟨#[]⟩, .slice none 0 0] : Array Value).size = (AR.cs ({ ({ ({ own0 a with nm := a.nm } : AR) with g1 := a.g1, g2 := a.g2 } : AR) with n2 := a.n2 })).size) := Lib.hid rfl
  have HUc := Lib.hid (AR.one ({ ({ ({ own0 a with nm := a.nm } : AR) with g1 := a.g1, g2 := a.g2 } : AR) with n2 := a.n2 }))
  have HG := Lib.hid (setRow_heap (((w10.setCell ⟨xb, 7, none⟩ (.int .i64 a.g1)).setCell ⟨xb, 8, none⟩ (.int .i64 a.g2)).setCell ⟨xb, 10, none⟩ (.string ⟨a.n2.toArray⟩)) (ab + 1) _ (AR.cs ({ ({ ({ own0 a with nm := a.nm } : AR) with g1 := a.g1, g2 := a.g2 } : AR) with n2 := a.n2 })) _ _ HZ6b.out)
  have EG := Lib.hid (below_setRow HE6b.out (by omega : w.heap.size ≤ ab + 1) (AR.cs ({ ({ ({ own0 a with nm := a.nm } : AR) with g1 := a.g1, g2 := a.g2 } : AR) with n2 := a.n2 })))
  go_wp2_with (first | (with_reducible refine wpList_load_row rfl 26 (.tmp 3) rfl xb rfl _ _ _ _ HX6c.out Try.underlying26 rfl HIc.out ?_) | (with_reducible refine wpList_store_row rfl 26 (.tmp 2) (.tmp 54) rfl (ab + 1) _ rfl rfl _ _ HZ6b.out HIc.out HSc.out HUc.out ?_) | fail)
  refine bodyPost_ret (results_cell_row rfl _ _ (ab + 1) _ _ (0, 0) _ rfl HG.out Try.underlying26 rfl HIc.out) rfl ?_
  have ho : ownA a = ({ ({ ({ own0 a with nm := a.nm } : AR) with g1 := a.g1, g2 := a.g2 } : AR) with n2 := a.n2 }) := by
    unfold ownA
    rw [HF.out]
    rfl
  rw [ho]
  exact ⟨rfl, EG.out⟩
theorem own14 (a : AR) (w : World) : Calls Try.prog 28 #[.agg a.cs] w fun e w' => e = .returned (.agg (ownA a).cs) ∧ Ext w w' := by
  by_cases n1 : a.pr = 1
  · exact own_h a w (by rw [n1]; rfl)
  by_cases n2 : a.pr = 2
  · exact own_hs a w (by rw [n2]; rfl)
  by_cases n3 : a.pr = 3
  · exact own_hn a w (by rw [n3]; rfl)
  by_cases n12 : a.pr = 12
  · exact own_hn a w (by rw [n12]; rfl)
  by_cases n13 : a.pr = 13
  · exact own_hn a w (by rw [n13]; rfl)
  by_cases n6 : a.pr = 6
  · exact own_hoc a w (by rw [n6]; rfl)
  by_cases n16 : a.pr = 16
  · exact own_hoc a w (by rw [n16]; rfl)
  by_cases n7 : a.pr = 7
  · exact own_hod a w (by rw [n7]; rfl)
  by_cases n8 : a.pr = 8
  · exact own_hnm a w (by rw [n8]; rfl)
  by_cases n9 : a.pr = 9
  · exact own_hnm a w (by rw [n9]; rfl)
  by_cases n14 : a.pr = 14
  · exact own_hnij a w (by rw [n14]; rfl)
  exact own_none a w (by simp only [fld, n1, n2, n3, n12, n13, n6, n16, n7, n8, n9, n14, if_false])
end Go.Proofs.Ytpjigdfllbhknaa
