/-
  Layer 14: what a procedure has of what it is asked with, by the document.
-/
import Derived.Test.YtpjigdfllbhknaaCalK
namespace Go.Proofs.Ytpjigdfllbhknaa
open Go Go.RowKit
set_option linter.unusedVariables false
set_option linter.unusedSimpArgs false
def ownA (a : AR) : AR := ⟨a.pr, if hasB (fld a.pr) 111 then a.off else 0, if hasB (fld a.pr) 99 then a.ct else 0, if hasB (fld a.pr) 115 then a.sz else 0, if hasB (fld a.pr) 109 then a.md else 0, a.h1, a.h2, if hasB (fld a.pr) 105 then a.g1 else 0, if hasB (fld a.pr) 105 then a.g2 else 0, if hasB (fld a.pr) 110 then a.nm else [], if hasB (fld a.pr) 105 then a.n2 else [], if hasB (fld a.pr) 100 then a.dA else none, if hasB (fld a.pr) 100 then a.dn else 0, if hasB (fld a.pr) 100 then a.dk else 0⟩
def own0 (a : AR) : AR := ⟨a.pr, 0, 0, 0, 0, a.h1, a.h2, 0, 0, [], [], none, 0, 0⟩
theorem AR.one (a : AR) : a.cs.all (·.oneCell') = true := by simp [AR.cs, Value.oneCell']
theorem below_setRow {a w : World} {g : Nat} (h : Ext a w) (hg : a.heap.size ≤ g) (cs : Array Value) : Ext a (w.setRow g cs) :=
  Below.trans h ⟨rfl, rfl, rfl, by simp [World.setRow], fun k hk => setRow_other w g k _ (by omega)⟩
set_option maxRecDepth 20000 in
set_option maxHeartbeats 4000000 in
theorem own_none (a : AR) (w : World) (hf : fld a.pr = []) : Calls Try.prog 28 #[.agg a.cs] w fun e w' => e = .returned (.agg (ownA a).cs) ∧ Ext w w' := by
  have HF := Lib.hid hf
  obtain ⟨w2, hw2⟩ : ∃ w2, (w.alloc (.cells a.cs 26)).alloc (.cells #[.int .i64 0, .int .i64 0, .int .i64 0, .int .i64 0, .int .i64 0, .int .i64 0, .int .i64 0, .int .i64 0, .int .i64 0, .string ⟨#[]⟩, .string ⟨#[]⟩, .slice none 0 0] 26) = w2 := ⟨_, rfl⟩
  have e2 : Ext w w2 := by rw [← hw2]; exact ((Ext.refl w).alloc _).alloc _
  have hb : w2.heap[w.heap.size]? = some (.cells a.cs 26 (0, 0)) := by rw [← hw2]; exact ((Ext.refl _).alloc _).heap (heap_alloc_new w _)
  have hz : w2.heap[w.heap.size + 1]? = some (.cells #[.int .i64 0, .int .i64 0, .int .i64 0, .int .i64 0, .int .i64 0, .int .i64 0, .int .i64 0, .int .i64 0, .int .i64 0, .string ⟨#[]⟩, .string ⟨#[]⟩, .slice none 0 0] 26 (0, 0)) := by rw [← hw2]; exact heap_alloc2_new w _ _
  obtain ⟨ab, hab⟩ : ∃ ab, w.heap.size = ab := ⟨_, rfl⟩
  obtain ⟨xb, hxb⟩ : ∃ xb, w2.heap.size = xb := ⟨_, rfl⟩
  rw [hab] at hb hz
  have hlt : ab + 1 < xb := by rw [← hxb]; exact (Array.getElem?_eq_some_iff.1 hz).1
  have c0 := cell_of_row w2 ab 0 _ _ _ hb
  have c5 := cell_of_row w2 ab 5 _ _ _ hb
  have c6 := cell_of_row w2 ab 6 _ _ _ hb
  simp [AR.cs] at c0 c5 c6
  have HZ0 : Hid ((w2.alloc (.cells #[.int .i64 0, .int .i64 0, .int .i64 0, .int .i64 0, .int .i64 0, .int .i64 0, .int .i64 0, .int .i64 0, .int .i64 0, .string ⟨#[]⟩, .string ⟨#[]⟩, .slice none 0 0] 26)).heap[xb]? = some (.cells #[.int .i64 0, .int .i64 0, .int .i64 0, .int .i64 0, .int .i64 0, .int .i64 0, .int .i64 0, .int .i64 0, .int .i64 0, .string ⟨#[]⟩, .string ⟨#[]⟩, .slice none 0 0] 26 (0, 0))) := Lib.hid (by rw [← hxb]; exact heap_alloc_new w2 _)
  have HI := Lib.hid (arg_info (own0 a))
  have HS : Hid ((#[.int .i64 0, .int .i64 0, .int .i64 0, .int .i64 0, .int .i64 0, .int .i64 0, .int .i64 0, .int .i64 0, .int .i64 0, .string ⟨#[]⟩, .string ⟨#[]⟩, .slice none 0 0] : Array Value).size = (own0 a).cs.size) := Lib.hid rfl
  have HU := Lib.hid (AR.one (own0 a))
  have E3 : Hid (Ext w2 ((w2.alloc (.cells #[.int .i64 0, .int .i64 0, .int .i64 0, .int .i64 0, .int .i64 0, .int .i64 0, .int .i64 0, .int .i64 0, .int .i64 0, .string ⟨#[]⟩, .string ⟨#[]⟩, .slice none 0 0] 26)).setRow xb (own0 a).cs)) := Lib.hid (below_setRow ((Ext.refl w2).alloc _) (Nat.le_of_eq hxb) _)
  have HX3 := Lib.hid (setRow_heap _ xb _ (own0 a).cs _ _ HZ0.out)
  have HB3 := Lib.hid (E3.out.heap hb)
  have HZ3 := Lib.hid (E3.out.heap hz)
  have E2 := Lib.hid e2
  clear hb hz e2 hf
  have q0 : ((w2.alloc (.cells #[.int .i64 0, .int .i64 0, .int .i64 0, .int .i64 0, .int .i64 0, .int .i64 0, .int .i64 0, .int .i64 0, .int .i64 0, .string ⟨#[]⟩, .string ⟨#[]⟩, .slice none 0 0] 26)).setRow xb (own0 a).cs).cell? ⟨ab, 0, none⟩ = some (.int .i64 a.pr) := (cell_of_row _ ab 0 _ _ _ HB3.out).trans rfl
  go_enter Try.func28, Try.ntmps28
  go_wp2_with (first | (with_reducible refine wpList_store_row rfl 26 (.tmp 3) (.tmp 8) rfl xb _ rfl rfl _ _ HZ0.out HI.out HS.out HU.out ?_) | fail)
  refine (has14 a.pr 115 _).mono ?_
  rintro e w4 ⟨rfl, e4⟩
  rw [HF.out, show hasB [] 115 = false from by decide]
  have HB0a := Lib.hid (e4.heap HB3.out)
  have HZ0a := Lib.hid (e4.heap HZ3.out)
  have HX0a := Lib.hid (e4.heap HX3.out)
  have HE0a : Hid (Ext w w4) := Lib.hid ((E2.out.trans E3.out).trans e4)
  clear e4
  have q1 : w4.cell? ⟨ab, 0, none⟩ = some (.int .i64 a.pr) := (cell_of_row _ ab 0 _ _ _ HB0a.out).trans rfl
  go_wp2_with fail
  refine (has14 a.pr 110 _).mono ?_
  rintro e w5 ⟨rfl, e5⟩
  rw [HF.out, show hasB [] 110 = false from by decide]
  have HB1a := Lib.hid (e5.heap HB0a.out)
  have HZ1a := Lib.hid (e5.heap HZ0a.out)
  have HX1a := Lib.hid (e5.heap HX0a.out)
  have HE1a : Hid (Ext w w5) := Lib.hid (HE0a.out.trans e5)
  clear e5
  have q2 : w5.cell? ⟨ab, 0, none⟩ = some (.int .i64 a.pr) := (cell_of_row _ ab 0 _ _ _ HB1a.out).trans rfl
  go_wp2_with fail
  refine (has14 a.pr 111 _).mono ?_
  rintro e w6 ⟨rfl, e6⟩
  rw [HF.out, show hasB [] 111 = false from by decide]
  have HB2a := Lib.hid (e6.heap HB1a.out)
  have HZ2a := Lib.hid (e6.heap HZ1a.out)
  have HX2a := Lib.hid (e6.heap HX1a.out)
  have HE2a : Hid (Ext w w6) := Lib.hid (HE1a.out.trans e6)
  clear e6
  have q3 : w6.cell? ⟨ab, 0, none⟩ = some (.int .i64 a.pr) := (cell_of_row _ ab 0 _ _ _ HB2a.out).trans rfl
  go_wp2_with fail
  refine (has14 a.pr 99 _).mono ?_
  rintro e w7 ⟨rfl, e7⟩
  rw [HF.out, show hasB [] 99 = false from by decide]
  have HB3a := Lib.hid (e7.heap HB2a.out)
  have HZ3a := Lib.hid (e7.heap HZ2a.out)
  have HX3a := Lib.hid (e7.heap HX2a.out)
  have HE3a : Hid (Ext w w7) := Lib.hid (HE2a.out.trans e7)
  clear e7
  have q4 : w7.cell? ⟨ab, 0, none⟩ = some (.int .i64 a.pr) := (cell_of_row _ ab 0 _ _ _ HB3a.out).trans rfl
  go_wp2_with fail
  refine (has14 a.pr 100 _).mono ?_
  rintro e w8 ⟨rfl, e8⟩
  rw [HF.out, show hasB [] 100 = false from by decide]
  have HB4a := Lib.hid (e8.heap HB3a.out)
  have HZ4a := Lib.hid (e8.heap HZ3a.out)
  have HX4a := Lib.hid (e8.heap HX3a.out)
  have HE4a : Hid (Ext w w8) := Lib.hid (HE3a.out.trans e8)
  clear e8
  have q5 : w8.cell? ⟨ab, 0, none⟩ = some (.int .i64 a.pr) := (cell_of_row _ ab 0 _ _ _ HB4a.out).trans rfl
  go_wp2_with fail
  refine (has14 a.pr 109 _).mono ?_
  rintro e w9 ⟨rfl, e9⟩
  rw [HF.out, show hasB [] 109 = false from by decide]
  have HB5a := Lib.hid (e9.heap HB4a.out)
  have HZ5a := Lib.hid (e9.heap HZ4a.out)
  have HX5a := Lib.hid (e9.heap HX4a.out)
  have HE5a : Hid (Ext w w9) := Lib.hid (HE4a.out.trans e9)
  clear e9
  have q6 : w9.cell? ⟨ab, 0, none⟩ = some (.int .i64 a.pr) := (cell_of_row _ ab 0 _ _ _ HB5a.out).trans rfl
  go_wp2_with fail
  refine (has14 a.pr 105 _).mono ?_
  rintro e w10 ⟨rfl, e10⟩
  rw [HF.out, show hasB [] 105 = false from by decide]
  have HB6a := Lib.hid (e10.heap HB5a.out)
  have HZ6a := Lib.hid (e10.heap HZ5a.out)
  have HX6a := Lib.hid (e10.heap HX5a.out)
  have HE6a : Hid (Ext w w10) := Lib.hid (HE5a.out.trans e10)
  clear e10
  have HIc := Lib.hid (arg_info (own0 a))
  have HSc : Hid ((#[.int .i64 0, .int .i64 0, .int .i64 0, .int .i64 0, .int .i64 0, .int .i64 0, .int .i64 0, .int .i64 0, .int .i64 0, .string ⟨#[]⟩, .string ⟨#[]⟩, .slice none 0 0] : Array Value).size = (AR.cs (own0 a)).size) := Lib.hid rfl
  have HUc := Lib.hid (AR.one (own0 a))
  have HG := Lib.hid (setRow_heap w10 (ab + 1) _ (AR.cs (own0 a)) _ _ HZ6a.out)
  have EG := Lib.hid (below_setRow HE6a.out (by omega : w.heap.size ≤ ab + 1) (AR.cs (own0 a)))
  go_wp2_with (first | (with_reducible refine wpList_load_row rfl 26 (.tmp 3) rfl xb rfl _ _ _ _ HX6a.out Try.underlying26 rfl HIc.out ?_) | (with_reducible refine wpList_store_row rfl 26 (.tmp 2) (.tmp 54) rfl (ab + 1) _ rfl rfl _ _ HZ6a.out HIc.out HSc.out HUc.out ?_) | fail)
  refine bodyPost_ret (results_cell_row rfl _ _ (ab + 1) _ _ (0, 0) _ rfl HG.out Try.underlying26 rfl HIc.out) rfl ?_
  have ho : ownA a = (own0 a) := by
    unfold ownA
    rw [HF.out]
    rfl
  rw [ho]
  exact ⟨rfl, EG.out⟩
set_option maxRecDepth 20000 in
set_option maxHeartbeats 4000000 in
theorem own_h (a : AR) (w : World) (hf : fld a.pr = [104]) : Calls Try.prog 28 #[.agg a.cs] w fun e w' => e = .returned (.agg (ownA a).cs) ∧ Ext w w' := by
  have HF := Lib.hid hf
  obtain ⟨w2, hw2⟩ : ∃ w2, (w.alloc (.cells a.cs 26)).alloc (.cells #[.int .i64 0, .int .i64 0, .int .i64 0, .int .i64 0, .int .i64 0, .int .i64 0, .int .i64 0, .int .i64 0, .int .i64 0, .string ⟨#[]⟩, .string ⟨#[]⟩, .slice none 0 0] 26) = w2 := ⟨_, rfl⟩
  have e2 : Ext w w2 := by rw [← hw2]; exact ((Ext.refl w).alloc _).alloc _
  have hb : w2.heap[w.heap.size]? = some (.cells a.cs 26 (0, 0)) := by rw [← hw2]; exact ((Ext.refl _).alloc _).heap (heap_alloc_new w _)
  have hz : w2.heap[w.heap.size + 1]? = some (.cells #[.int .i64 0, .int .i64 0, .int .i64 0, .int .i64 0, .int .i64 0, .int .i64 0, .int .i64 0, .int .i64 0, .int .i64 0, .string ⟨#[]⟩, .string ⟨#[]⟩, .slice none 0 0] 26 (0, 0)) := by rw [← hw2]; exact heap_alloc2_new w _ _
  obtain ⟨ab, hab⟩ : ∃ ab, w.heap.size = ab := ⟨_, rfl⟩
  obtain ⟨xb, hxb⟩ : ∃ xb, w2.heap.size = xb := ⟨_, rfl⟩
  rw [hab] at hb hz
  have hlt : ab + 1 < xb := by rw [← hxb]; exact (Array.getElem?_eq_some_iff.1 hz).1
  have c0 := cell_of_row w2 ab 0 _ _ _ hb
  have c5 := cell_of_row w2 ab 5 _ _ _ hb
  have c6 := cell_of_row w2 ab 6 _ _ _ hb
  simp [AR.cs] at c0 c5 c6
  have HZ0 : Hid ((w2.alloc (.cells #[.int .i64 0, .int .i64 0, .int .i64 0, .int .i64 0, .int .i64 0, .int .i64 0, .int .i64 0, .int .i64 0, .int .i64 0, .string ⟨#[]⟩, .string ⟨#[]⟩, .slice none 0 0] 26)).heap[xb]? = some (.cells #[.int .i64 0, .int .i64 0, .int .i64 0, .int .i64 0, .int .i64 0, .int .i64 0, .int .i64 0, .int .i64 0, .int .i64 0, .string ⟨#[]⟩, .string ⟨#[]⟩, .slice none 0 0] 26 (0, 0))) := Lib.hid (by rw [← hxb]; exact heap_alloc_new w2 _)
  have HI := Lib.hid (arg_info (own0 a))
  have HS : Hid ((#[.int .i64 0, .int .i64 0, .int .i64 0, .int .i64 0, .int .i64 0, .int .i64 0, .int .i64 0, .int .i64 0, .int .i64 0, .string ⟨#[]⟩, .string ⟨#[]⟩, .slice none 0 0] : Array Value).size = (own0 a).cs.size) := Lib.hid rfl
  have HU := Lib.hid (AR.one (own0 a))
  have E3 : Hid (Ext w2 ((w2.alloc (.cells #[.int .i64 0, .int .i64 0, .int .i64 0, .int .i64 0, .int .i64 0, .int .i64 0, .int .i64 0, .int .i64 0, .int .i64 0, .string ⟨#[]⟩, .string ⟨#[]⟩, .slice none 0 0] 26)).setRow xb (own0 a).cs)) := Lib.hid (below_setRow ((Ext.refl w2).alloc _) (Nat.le_of_eq hxb) _)
  have HX3 := Lib.hid (setRow_heap _ xb _ (own0 a).cs _ _ HZ0.out)
  have HB3 := Lib.hid (E3.out.heap hb)
  have HZ3 := Lib.hid (E3.out.heap hz)
  have E2 := Lib.hid e2
  clear hb hz e2 hf
  have q0 : ((w2.alloc (.cells #[.int .i64 0, .int .i64 0, .int .i64 0, .int .i64 0, .int .i64 0, .int .i64 0, .int .i64 0, .int .i64 0, .int .i64 0, .string ⟨#[]⟩, .string ⟨#[]⟩, .slice none 0 0] 26)).setRow xb (own0 a).cs).cell? ⟨ab, 0, none⟩ = some (.int .i64 a.pr) := (cell_of_row _ ab 0 _ _ _ HB3.out).trans rfl
  go_enter Try.func28, Try.ntmps28
  go_wp2_with (first | (with_reducible refine wpList_store_row rfl 26 (.tmp 3) (.tmp 8) rfl xb _ rfl rfl _ _ HZ0.out HI.out HS.out HU.out ?_) | fail)
  refine (has14 a.pr 115 _).mono ?_
  rintro e w4 ⟨rfl, e4⟩
  rw [HF.out, show hasB [104] 115 = false from by decide]
  have HB0a := Lib.hid (e4.heap HB3.out)
  have HZ0a := Lib.hid (e4.heap HZ3.out)
  have HX0a := Lib.hid (e4.heap HX3.out)
  have HE0a : Hid (Ext w w4) := Lib.hid ((E2.out.trans E3.out).trans e4)
  clear e4
  have q1 : w4.cell? ⟨ab, 0, none⟩ = some (.int .i64 a.pr) := (cell_of_row _ ab 0 _ _ _ HB0a.out).trans rfl
  go_wp2_with fail
  refine (has14 a.pr 110 _).mono ?_
  rintro e w5 ⟨rfl, e5⟩
  rw [HF.out, show hasB [104] 110 = false from by decide]
  have HB1a := Lib.hid (e5.heap HB0a.out)
  have HZ1a := Lib.hid (e5.heap HZ0a.out)
  have HX1a := Lib.hid (e5.heap HX0a.out)
  have HE1a : Hid (Ext w w5) := Lib.hid (HE0a.out.trans e5)
  clear e5
  have q2 : w5.cell? ⟨ab, 0, none⟩ = some (.int .i64 a.pr) := (cell_of_row _ ab 0 _ _ _ HB1a.out).trans rfl
  go_wp2_with fail
  refine (has14 a.pr 111 _).mono ?_
  rintro e w6 ⟨rfl, e6⟩
  rw [HF.out, show hasB [104] 111 = false from by decide]
  have HB2a := Lib.hid (e6.heap HB1a.out)
  have HZ2a := Lib.hid (e6.heap HZ1a.out)
  have HX2a := Lib.hid (e6.heap HX1a.out)
  have HE2a : Hid (Ext w w6) := Lib.hid (HE1a.out.trans e6)
  clear e6
  have q3 : w6.cell? ⟨ab, 0, none⟩ = some (.int .i64 a.pr) := (cell_of_row _ ab 0 _ _ _ HB2a.out).trans rfl
  go_wp2_with fail
  refine (has14 a.pr 99 _).mono ?_
  rintro e w7 ⟨rfl, e7⟩
  rw [HF.out, show hasB [104] 99 = false from by decide]
  have HB3a := Lib.hid (e7.heap HB2a.out)
  have HZ3a := Lib.hid (e7.heap HZ2a.out)
  have HX3a := Lib.hid (e7.heap HX2a.out)
  have HE3a : Hid (Ext w w7) := Lib.hid (HE2a.out.trans e7)
  clear e7
  have q4 : w7.cell? ⟨ab, 0, none⟩ = some (.int .i64 a.pr) := (cell_of_row _ ab 0 _ _ _ HB3a.out).trans rfl
  go_wp2_with fail
  refine (has14 a.pr 100 _).mono ?_
  rintro e w8 ⟨rfl, e8⟩
  rw [HF.out, show hasB [104] 100 = false from by decide]
  have HB4a := Lib.hid (e8.heap HB3a.out)
  have HZ4a := Lib.hid (e8.heap HZ3a.out)
  have HX4a := Lib.hid (e8.heap HX3a.out)
  have HE4a : Hid (Ext w w8) := Lib.hid (HE3a.out.trans e8)
  clear e8
  have q5 : w8.cell? ⟨ab, 0, none⟩ = some (.int .i64 a.pr) := (cell_of_row _ ab 0 _ _ _ HB4a.out).trans rfl
  go_wp2_with fail
  refine (has14 a.pr 109 _).mono ?_
  rintro e w9 ⟨rfl, e9⟩
  rw [HF.out, show hasB [104] 109 = false from by decide]
  have HB5a := Lib.hid (e9.heap HB4a.out)
  have HZ5a := Lib.hid (e9.heap HZ4a.out)
  have HX5a := Lib.hid (e9.heap HX4a.out)
  have HE5a : Hid (Ext w w9) := Lib.hid (HE4a.out.trans e9)
  clear e9
  have q6 : w9.cell? ⟨ab, 0, none⟩ = some (.int .i64 a.pr) := (cell_of_row _ ab 0 _ _ _ HB5a.out).trans rfl
  go_wp2_with fail
  refine (has14 a.pr 105 _).mono ?_
  rintro e w10 ⟨rfl, e10⟩
  rw [HF.out, show hasB [104] 105 = false from by decide]
  have HB6a := Lib.hid (e10.heap HB5a.out)
  have HZ6a := Lib.hid (e10.heap HZ5a.out)
  have HX6a := Lib.hid (e10.heap HX5a.out)
  have HE6a : Hid (Ext w w10) := Lib.hid (HE5a.out.trans e10)
  clear e10
  have HIc := Lib.hid (arg_info (own0 a))
  have HSc : Hid ((#[.int .i64 0, .int .i64 0, .int .i64 0, .int .i64 0, .int .i64 0, .int .i64 0, .int .i64 0, .int .i64 0, .int .i64 0, .string ⟨#[]⟩, .string ⟨#[]⟩, .slice none 0 0] : Array Value).size = (AR.cs (own0 a)).size) := Lib.hid rfl
  have HUc := Lib.hid (AR.one (own0 a))
  have HG := Lib.hid (setRow_heap w10 (ab + 1) _ (AR.cs (own0 a)) _ _ HZ6a.out)
  have EG := Lib.hid (below_setRow HE6a.out (by omega : w.heap.size ≤ ab + 1) (AR.cs (own0 a)))
  go_wp2_with (first | (with_reducible refine wpList_load_row rfl 26 (.tmp 3) rfl xb rfl _ _ _ _ HX6a.out Try.underlying26 rfl HIc.out ?_) | (with_reducible refine wpList_store_row rfl 26 (.tmp 2) (.tmp 54) rfl (ab + 1) _ rfl rfl _ _ HZ6a.out HIc.out HSc.out HUc.out ?_) | fail)
  refine bodyPost_ret (results_cell_row rfl _ _ (ab + 1) _ _ (0, 0) _ rfl HG.out Try.underlying26 rfl HIc.out) rfl ?_
  have ho : ownA a = (own0 a) := by
    unfold ownA
    rw [HF.out]
    rfl
  rw [ho]
  exact ⟨rfl, EG.out⟩
set_option maxRecDepth 20000 in
set_option maxHeartbeats 4000000 in
theorem own_hs (a : AR) (w : World) (hf : fld a.pr = [104, 115]) : Calls Try.prog 28 #[.agg a.cs] w fun e w' => e = .returned (.agg (ownA a).cs) ∧ Ext w w' := by
  have HF := Lib.hid hf
  obtain ⟨w2, hw2⟩ : ∃ w2, (w.alloc (.cells a.cs 26)).alloc (.cells #[.int .i64 0, .int .i64 0, .int .i64 0, .int .i64 0, .int .i64 0, .int .i64 0, .int .i64 0, .int .i64 0, .int .i64 0, .string ⟨#[]⟩, .string ⟨#[]⟩, .slice none 0 0] 26) = w2 := ⟨_, rfl⟩
  have e2 : Ext w w2 := by rw [← hw2]; exact ((Ext.refl w).alloc _).alloc _
  have hb : w2.heap[w.heap.size]? = some (.cells a.cs 26 (0, 0)) := by rw [← hw2]; exact ((Ext.refl _).alloc _).heap (heap_alloc_new w _)
  have hz : w2.heap[w.heap.size + 1]? = some (.cells #[.int .i64 0, .int .i64 0, .int .i64 0, .int .i64 0, .int .i64 0, .int .i64 0, .int .i64 0, .int .i64 0, .int .i64 0, .string ⟨#[]⟩, .string ⟨#[]⟩, .slice none 0 0] 26 (0, 0)) := by rw [← hw2]; exact heap_alloc2_new w _ _
  obtain ⟨ab, hab⟩ : ∃ ab, w.heap.size = ab := ⟨_, rfl⟩
  obtain ⟨xb, hxb⟩ : ∃ xb, w2.heap.size = xb := ⟨_, rfl⟩
  rw [hab] at hb hz
  have hlt : ab + 1 < xb := by rw [← hxb]; exact (Array.getElem?_eq_some_iff.1 hz).1
  have c0 := cell_of_row w2 ab 0 _ _ _ hb
  have c5 := cell_of_row w2 ab 5 _ _ _ hb
  have c6 := cell_of_row w2 ab 6 _ _ _ hb
  simp [AR.cs] at c0 c5 c6
  have HZ0 : Hid ((w2.alloc (.cells #[.int .i64 0, .int .i64 0, .int .i64 0, .int .i64 0, .int .i64 0, .int .i64 0, .int .i64 0, .int .i64 0, .int .i64 0, .string ⟨#[]⟩, .string ⟨#[]⟩, .slice none 0 0] 26)).heap[xb]? = some (.cells #[.int .i64 0, .int .i64 0, .int .i64 0, .int .i64 0, .int .i64 0, .int .i64 0, .int .i64 0, .int .i64 0, .int .i64 0, .string ⟨#[]⟩, .string ⟨#[]⟩, .slice none 0 0] 26 (0, 0))) := Lib.hid (by rw [← hxb]; exact heap_alloc_new w2 _)
  have HI := Lib.hid (arg_info (own0 a))
  have HS : Hid ((#[.int .i64 0, .int .i64 0, .int .i64 0, .int .i64 0, .int .i64 0, .int .i64 0, .int .i64 0, .int .i64 0, .int .i64 0, .string ⟨#[]⟩, .string ⟨#[]⟩, .slice none 0 0] : Array Value).size = (own0 a).cs.size) := Lib.hid rfl
  have HU := Lib.hid (AR.one (own0 a))
  have E3 : Hid (Ext w2 ((w2.alloc (.cells #[.int .i64 0, .int .i64 0, .int .i64 0, .int .i64 0, .int .i64 0, .int .i64 0, .int .i64 0, .int .i64 0, .int .i64 0, .string ⟨#[]⟩, .string ⟨#[]⟩, .slice none 0 0] 26)).setRow xb (own0 a).cs)) := Lib.hid (below_setRow ((Ext.refl w2).alloc _) (Nat.le_of_eq hxb) _)
  have HX3 := Lib.hid (setRow_heap _ xb _ (own0 a).cs _ _ HZ0.out)
  have HB3 := Lib.hid (E3.out.heap hb)
  have HZ3 := Lib.hid (E3.out.heap hz)
  have E2 := Lib.hid e2
  clear hb hz e2 hf
  have q0 : ((w2.alloc (.cells #[.int .i64 0, .int .i64 0, .int .i64 0, .int .i64 0, .int .i64 0, .int .i64 0, .int .i64 0, .int .i64 0, .int .i64 0, .string ⟨#[]⟩, .string ⟨#[]⟩, .slice none 0 0] 26)).setRow xb (own0 a).cs).cell? ⟨ab, 0, none⟩ = some (.int .i64 a.pr) := (cell_of_row _ ab 0 _ _ _ HB3.out).trans rfl
  go_enter Try.func28, Try.ntmps28
  go_wp2_with (first | (with_reducible refine wpList_store_row rfl 26 (.tmp 3) (.tmp 8) rfl xb _ rfl rfl _ _ HZ0.out HI.out HS.out HU.out ?_) | fail)
  refine (has14 a.pr 115 _).mono ?_
  rintro e w4 ⟨rfl, e4⟩
  rw [HF.out, show hasB [104, 115] 115 = true from by decide]
  have HB0a := Lib.hid (e4.heap HB3.out)
  have HZ0a := Lib.hid (e4.heap HZ3.out)
  have HX0a := Lib.hid (e4.heap HX3.out)
  have HE0a : Hid (Ext w w4) := Lib.hid ((E2.out.trans E3.out).trans e4)
  clear e4
  have y0 : w4.cell? ⟨ab, 3, none⟩ = some (.int .i64 a.sz) := (cell_of_row _ ab 3 _ _ _ HB0a.out).trans rfl
  obtain ⟨o0, z0⟩ : ∃ o, w4.cell? ⟨xb, 3, none⟩ = some o := ⟨_, (cell_of_row _ xb 3 _ _ _ HX0a.out).trans rfl⟩
  have fr0 := blk_freeC HX0a.out 3
  have HO0 : Hid (On2 xb xb w4 (w4.setCell ⟨xb, 3, none⟩ (.int .i64 a.sz))) := Lib.hid (On2.set _ _ _ (.inl rfl))
  have HB0b := Lib.hid (HO0.out.heap HB0a.out (by omega) (by omega))
  have HZ0b := Lib.hid (HO0.out.heap HZ0a.out (by omega) (by omega))
  have HX0b : Hid ((w4.setCell ⟨xb, 3, none⟩ (.int .i64 a.sz)).heap[xb]? = some (.cells (AR.cs ({ own0 a with sz := a.sz })) 26 (0, 0))) := Lib.hid (set_blkC HX0a.out 3 _)
  have HE0b : Hid (Ext w (w4.setCell ⟨xb, 3, none⟩ (.int .i64 a.sz))) := Lib.hid (HO0.out.ext HE0a.out (by omega) (by omega))
  have q1 : (w4.setCell ⟨xb, 3, none⟩ (.int .i64 a.sz)).cell? ⟨ab, 0, none⟩ = some (.int .i64 a.pr) := (cell_of_row _ ab 0 _ _ _ HB0b.out).trans rfl
  go_wp2_with fail
  clear y0 z0 fr0
  refine (has14 a.pr 110 _).mono ?_
  rintro e w5 ⟨rfl, e5⟩
  rw [HF.out, show hasB [104, 115] 110 = false from by decide]
  have HB1a := Lib.hid (e5.heap HB0b.out)
  have HZ1a := Lib.hid (e5.heap HZ0b.out)
  have HX1a := Lib.hid (e5.heap HX0b.out)
  have HE1a : Hid (Ext w w5) := Lib.hid (HE0b.out.trans e5)
  clear e5
  have q2 : w5.cell? ⟨ab, 0, none⟩ = some (.int .i64 a.pr) := (cell_of_row _ ab 0 _ _ _ HB1a.out).trans rfl
  go_wp2_with fail
  refine (has14 a.pr 111 _).mono ?_
  rintro e w6 ⟨rfl, e6⟩
  rw [HF.out, show hasB [104, 115] 111 = false from by decide]
  have HB2a := Lib.hid (e6.heap HB1a.out)
  have HZ2a := Lib.hid (e6.heap HZ1a.out)
  have HX2a := Lib.hid (e6.heap HX1a.out)
  have HE2a : Hid (Ext w w6) := Lib.hid (HE1a.out.trans e6)
  clear e6
  have q3 : w6.cell? ⟨ab, 0, none⟩ = some (.int .i64 a.pr) := (cell_of_row _ ab 0 _ _ _ HB2a.out).trans rfl
  go_wp2_with fail
  refine (has14 a.pr 99 _).mono ?_
  rintro e w7 ⟨rfl, e7⟩
  rw [HF.out, show hasB [104, 115] 99 = false from by decide]
  have HB3a := Lib.hid (e7.heap HB2a.out)
  have HZ3a := Lib.hid (e7.heap HZ2a.out)
  have HX3a := Lib.hid (e7.heap HX2a.out)
  have HE3a : Hid (Ext w w7) := Lib.hid (HE2a.out.trans e7)
  clear e7
  have q4 : w7.cell? ⟨ab, 0, none⟩ = some (.int .i64 a.pr) := (cell_of_row _ ab 0 _ _ _ HB3a.out).trans rfl
  go_wp2_with fail
  refine (has14 a.pr 100 _).mono ?_
  rintro e w8 ⟨rfl, e8⟩
  rw [HF.out, show hasB [104, 115] 100 = false from by decide]
  have HB4a := Lib.hid (e8.heap HB3a.out)
  have HZ4a := Lib.hid (e8.heap HZ3a.out)
  have HX4a := Lib.hid (e8.heap HX3a.out)
  have HE4a : Hid (Ext w w8) := Lib.hid (HE3a.out.trans e8)
  clear e8
  have q5 : w8.cell? ⟨ab, 0, none⟩ = some (.int .i64 a.pr) := (cell_of_row _ ab 0 _ _ _ HB4a.out).trans rfl
  go_wp2_with fail
  refine (has14 a.pr 109 _).mono ?_
  rintro e w9 ⟨rfl, e9⟩
  rw [HF.out, show hasB [104, 115] 109 = false from by decide]
  have HB5a := Lib.hid (e9.heap HB4a.out)
  have HZ5a := Lib.hid (e9.heap HZ4a.out)
  have HX5a := Lib.hid (e9.heap HX4a.out)
  have HE5a : Hid (Ext w w9) := Lib.hid (HE4a.out.trans e9)
  clear e9
  have q6 : w9.cell? ⟨ab, 0, none⟩ = some (.int .i64 a.pr) := (cell_of_row _ ab 0 _ _ _ HB5a.out).trans rfl
  go_wp2_with fail
  refine (has14 a.pr 105 _).mono ?_
  rintro e w10 ⟨rfl, e10⟩
  rw [HF.out, show hasB [104, 115] 105 = false from by decide]
  have HB6a := Lib.hid (e10.heap HB5a.out)
  have HZ6a := Lib.hid (e10.heap HZ5a.out)
  have HX6a := Lib.hid (e10.heap HX5a.out)
  have HE6a : Hid (Ext w w10) := Lib.hid (HE5a.out.trans e10)
  clear e10
  have HIc := Lib.hid (arg_info ({ own0 a with sz := a.sz }))
  have HSc : Hid ((#[.int .i64 0, .int .i64 0, .int .i64 0, .int .i64 0, .int .i64 0, .int .i64 0, .int .i64 0, .int .i64 0, .int .i64 0, .string ⟨#[]⟩, .string ⟨#[]⟩, .slice none 0 0] : Array Value).size = (AR.cs ({ own0 a with sz := a.sz })).size) := Lib.hid rfl
  have HUc := Lib.hid (AR.one ({ own0 a with sz := a.sz }))
  have HG := Lib.hid (setRow_heap w10 (ab + 1) _ (AR.cs ({ own0 a with sz := a.sz })) _ _ HZ6a.out)
  have EG := Lib.hid (below_setRow HE6a.out (by omega : w.heap.size ≤ ab + 1) (AR.cs ({ own0 a with sz := a.sz })))
  go_wp2_with (first | (with_reducible refine wpList_load_row rfl 26 (.tmp 3) rfl xb rfl _ _ _ _ HX6a.out Try.underlying26 rfl HIc.out ?_) | (with_reducible refine wpList_store_row rfl 26 (.tmp 2) (.tmp 54) rfl (ab + 1) _ rfl rfl _ _ HZ6a.out HIc.out HSc.out HUc.out ?_) | fail)
  refine bodyPost_ret (results_cell_row rfl _ _ (ab + 1) _ _ (0, 0) _ rfl HG.out Try.underlying26 rfl HIc.out) rfl ?_
  have ho : ownA a = ({ own0 a with sz := a.sz }) := by
    unfold ownA
    rw [HF.out]
    rfl
  rw [ho]
  exact ⟨rfl, EG.out⟩
set_option maxRecDepth 20000 in
set_option maxHeartbeats 4000000 in
theorem own_hn (a : AR) (w : World) (hf : fld a.pr = [104, 110]) : Calls Try.prog 28 #[.agg a.cs] w fun e w' => e = .returned (.agg (ownA a).cs) ∧ Ext w w' := by
  have HF := Lib.hid hf
  obtain ⟨w2, hw2⟩ : ∃ w2, (w.alloc (.cells a.cs 26)).alloc (.cells #[.int .i64 0, .int .i64 0, .int .i64 0, .int .i64 0, .int .i64 0, .int .i64 0, .int .i64 0, .int .i64 0, .int .i64 0, .string ⟨#[]⟩, .string ⟨#[]⟩, .slice none 0 0] 26) = w2 := ⟨_, rfl⟩
  have e2 : Ext w w2 := by rw [← hw2]; exact ((Ext.refl w).alloc _).alloc _
  have hb : w2.heap[w.heap.size]? = some (.cells a.cs 26 (0, 0)) := by rw [← hw2]; exact ((Ext.refl _).alloc _).heap (heap_alloc_new w _)
  have hz : w2.heap[w.heap.size + 1]? = some (.cells #[.int .i64 0, .int .i64 0, .int .i64 0, .int .i64 0, .int .i64 0, .int .i64 0, .int .i64 0, .int .i64 0, .int .i64 0, .string ⟨#[]⟩, .string ⟨#[]⟩, .slice none 0 0] 26 (0, 0)) := by rw [← hw2]; exact heap_alloc2_new w _ _
  obtain ⟨ab, hab⟩ : ∃ ab, w.heap.size = ab := ⟨_, rfl⟩
  obtain ⟨xb, hxb⟩ : ∃ xb, w2.heap.size = xb := ⟨_, rfl⟩
  rw [hab] at hb hz
  have hlt : ab + 1 < xb := by rw [← hxb]; exact (Array.getElem?_eq_some_iff.1 hz).1
  have c0 := cell_of_row w2 ab 0 _ _ _ hb
  have c5 := cell_of_row w2 ab 5 _ _ _ hb
  have c6 := cell_of_row w2 ab 6 _ _ _ hb
  simp [AR.cs] at c0 c5 c6
  have HZ0 : Hid ((w2.alloc (.cells #[.int .i64 0, .int .i64 0, .int .i64 0, .int .i64 0, .int .i64 0, .int .i64 0, .int .i64 0, .int .i64 0, .int .i64 0, .string ⟨#[]⟩, .string ⟨#[]⟩, .slice none 0 0] 26)).heap[xb]? = some (.cells #[.int .i64 0, .int .i64 0, .int .i64 0, .int .i64 0, .int .i64 0, .int .i64 0, .int .i64 0, .int .i64 0, .int .i64 0, .string ⟨#[]⟩, .string ⟨#[]⟩, .slice none 0 0] 26 (0, 0))) := Lib.hid (by rw [← hxb]; exact heap_alloc_new w2 _)
  have HI := Lib.hid (arg_info (own0 a))
  have HS : Hid ((#[.int .i64 0, .int .i64 0, .int .i64 0, .int .i64 0, .int .i64 0, .int .i64 0, .int .i64 0, .int .i64 0, .int .i64 0, .string ⟨#[]⟩, .string ⟨#[]⟩, .slice none 0 0] : Array Value).size = (own0 a).cs.size) := Lib.hid rfl
  have HU := Lib.hid (AR.one (own0 a))
  have E3 : Hid (Ext w2 ((w2.alloc (.cells #[.int .i64 0, .int .i64 0, .int .i64 0, .int .i64 0, .int .i64 0, .int .i64 0, .int .i64 0, .int .i64 0, .int .i64 0, .string ⟨#[]⟩, .string ⟨#[]⟩, .slice none 0 0] 26)).setRow xb (own0 a).cs)) := Lib.hid (below_setRow ((Ext.refl w2).alloc _) (Nat.le_of_eq hxb) _)
  have HX3 := Lib.hid (setRow_heap _ xb _ (own0 a).cs _ _ HZ0.out)
  have HB3 := Lib.hid (E3.out.heap hb)
  have HZ3 := Lib.hid (E3.out.heap hz)
  have E2 := Lib.hid e2
  clear hb hz e2 hf
  have q0 : ((w2.alloc (.cells #[.int .i64 0, .int .i64 0, .int .i64 0, .int .i64 0, .int .i64 0, .int .i64 0, .int .i64 0, .int .i64 0, .int .i64 0, .string ⟨#[]⟩, .string ⟨#[]⟩, .slice none 0 0] 26)).setRow xb (own0 a).cs).cell? ⟨ab, 0, none⟩ = some (.int .i64 a.pr) := (cell_of_row _ ab 0 _ _ _ HB3.out).trans rfl
  go_enter Try.func28, Try.ntmps28
  go_wp2_with (first | (with_reducible refine wpList_store_row rfl 26 (.tmp 3) (.tmp 8) rfl xb _ rfl rfl _ _ HZ0.out HI.out HS.out HU.out ?_) | fail)
  refine (has14 a.pr 115 _).mono ?_
  rintro e w4 ⟨rfl, e4⟩
  rw [HF.out, show hasB [104, 110] 115 = false from by decide]
  have HB0a := Lib.hid (e4.heap HB3.out)
  have HZ0a := Lib.hid (e4.heap HZ3.out)
  have HX0a := Lib.hid (e4.heap HX3.out)
  have HE0a : Hid (Ext w w4) := Lib.hid ((E2.out.trans E3.out).trans e4)
  clear e4
  have q1 : w4.cell? ⟨ab, 0, none⟩ = some (.int .i64 a.pr) := (cell_of_row _ ab 0 _ _ _ HB0a.out).trans rfl
  go_wp2_with fail
  refine (has14 a.pr 110 _).mono ?_
  rintro e w5 ⟨rfl, e5⟩
  rw [HF.out, show hasB [104, 110] 110 = true from by decide]
  have HB1a := Lib.hid (e5.heap HB0a.out)
  have HZ1a := Lib.hid (e5.heap HZ0a.out)
  have HX1a := Lib.hid (e5.heap HX0a.out)
  have HE1a : Hid (Ext w w5) := Lib.hid (HE0a.out.trans e5)
  clear e5
  have y1 : w5.cell? ⟨ab, 9, none⟩ = some (.string ⟨a.nm.toArray⟩) := (cell_of_row _ ab 9 _ _ _ HB1a.out).trans rfl
  obtain ⟨o1, z1⟩ : ∃ o, w5.cell? ⟨xb, 9, none⟩ = some o := ⟨_, (cell_of_row _ xb 9 _ _ _ HX1a.out).trans rfl⟩
  have fr1 := blk_freeC HX1a.out 9
  have HO1 : Hid (On2 xb xb w5 (w5.setCell ⟨xb, 9, none⟩ (.string ⟨a.nm.toArray⟩))) := Lib.hid (On2.set _ _ _ (.inl rfl))
  have HB1b := Lib.hid (HO1.out.heap HB1a.out (by omega) (by omega))
  have HZ1b := Lib.hid (HO1.out.heap HZ1a.out (by omega) (by omega))
  have HX1b : Hid ((w5.setCell ⟨xb, 9, none⟩ (.string ⟨a.nm.toArray⟩)).heap[xb]? = some (.cells (AR.cs ({ own0 a with nm := a.nm })) 26 (0, 0))) := Lib.hid (set_blkC HX1a.out 9 _)
  have HE1b : Hid (Ext w (w5.setCell ⟨xb, 9, none⟩ (.string ⟨a.nm.toArray⟩))) := Lib.hid (HO1.out.ext HE1a.out (by omega) (by omega))
  have q2 : (w5.setCell ⟨xb, 9, none⟩ (.string ⟨a.nm.toArray⟩)).cell? ⟨ab, 0, none⟩ = some (.int .i64 a.pr) := (cell_of_row _ ab 0 _ _ _ HB1b.out).trans rfl
  go_wp2_with fail
  clear y1 z1 fr1
  refine (has14 a.pr 111 _).mono ?_
  rintro e w6 ⟨rfl, e6⟩
  rw [HF.out, show hasB [104, 110] 111 = false from by decide]
  have HB2a := Lib.hid (e6.heap HB1b.out)
  have HZ2a := Lib.hid (e6.heap HZ1b.out)
  have HX2a := Lib.hid (e6.heap HX1b.out)
  have HE2a : Hid (Ext w w6) := Lib.hid (HE1b.out.trans e6)
  clear e6
  have q3 : w6.cell? ⟨ab, 0, none⟩ = some (.int .i64 a.pr) := (cell_of_row _ ab 0 _ _ _ HB2a.out).trans rfl
  go_wp2_with fail
  refine (has14 a.pr 99 _).mono ?_
  rintro e w7 ⟨rfl, e7⟩
  rw [HF.out, show hasB [104, 110] 99 = false from by decide]
  have HB3a := Lib.hid (e7.heap HB2a.out)
  have HZ3a := Lib.hid (e7.heap HZ2a.out)
  have HX3a := Lib.hid (e7.heap HX2a.out)
  have HE3a : Hid (Ext w w7) := Lib.hid (HE2a.out.trans e7)
  clear e7
  have q4 : w7.cell? ⟨ab, 0, none⟩ = some (.int .i64 a.pr) := (cell_of_row _ ab 0 _ _ _ HB3a.out).trans rfl
  go_wp2_with fail
  refine (has14 a.pr 100 _).mono ?_
  rintro e w8 ⟨rfl, e8⟩
  rw [HF.out, show hasB [104, 110] 100 = false from by decide]
  have HB4a := Lib.hid (e8.heap HB3a.out)
  have HZ4a := Lib.hid (e8.heap HZ3a.out)
  have HX4a := Lib.hid (e8.heap HX3a.out)
  have HE4a : Hid (Ext w w8) := Lib.hid (HE3a.out.trans e8)
  clear e8
  have q5 : w8.cell? ⟨ab, 0, none⟩ = some (.int .i64 a.pr) := (cell_of_row _ ab 0 _ _ _ HB4a.out).trans rfl
  go_wp2_with fail
  refine (has14 a.pr 109 _).mono ?_
  rintro e w9 ⟨rfl, e9⟩
  rw [HF.out, show hasB [104, 110] 109 = false from by decide]
  have HB5a := Lib.hid (e9.heap HB4a.out)
  have HZ5a := Lib.hid (e9.heap HZ4a.out)
  have HX5a := Lib.hid (e9.heap HX4a.out)
  have HE5a : Hid (Ext w w9) := Lib.hid (HE4a.out.trans e9)
  clear e9
  have q6 : w9.cell? ⟨ab, 0, none⟩ = some (.int .i64 a.pr) := (cell_of_row _ ab 0 _ _ _ HB5a.out).trans rfl
  go_wp2_with fail
  refine (has14 a.pr 105 _).mono ?_
  rintro e w10 ⟨rfl, e10⟩
  rw [HF.out, show hasB [104, 110] 105 = false from by decide]
  have HB6a := Lib.hid (e10.heap HB5a.out)
  have HZ6a := Lib.hid (e10.heap HZ5a.out)
  have HX6a := Lib.hid (e10.heap HX5a.out)
  have HE6a : Hid (Ext w w10) := Lib.hid (HE5a.out.trans e10)
  clear e10
  have HIc := Lib.hid (arg_info ({ own0 a with nm := a.nm }))
  have HSc : Hid ((#[.int .i64 0, .int .i64 0, .int .i64 0, .int .i64 0, .int .i64 0, .int .i64 0, .int .i64 0, .int .i64 0, .int .i64 0, .string ⟨#[]⟩, .string ⟨#[]⟩, .slice none 0 0] : Array Value).size = (AR.cs ({ own0 a with nm := a.nm })).size) := Lib.hid rfl
  have HUc := Lib.hid (AR.one ({ own0 a with nm := a.nm }))
  have HG := Lib.hid (setRow_heap w10 (ab + 1) _ (AR.cs ({ own0 a with nm := a.nm })) _ _ HZ6a.out)
  have EG := Lib.hid (below_setRow HE6a.out (by omega : w.heap.size ≤ ab + 1) (AR.cs ({ own0 a with nm := a.nm })))
  go_wp2_with (first | (with_reducible refine wpList_load_row rfl 26 (.tmp 3) rfl xb rfl _ _ _ _ HX6a.out Try.underlying26 rfl HIc.out ?_) | (with_reducible refine wpList_store_row rfl 26 (.tmp 2) (.tmp 54) rfl (ab + 1) _ rfl rfl _ _ HZ6a.out HIc.out HSc.out HUc.out ?_) | fail)
  refine bodyPost_ret (results_cell_row rfl _ _ (ab + 1) _ _ (0, 0) _ rfl HG.out Try.underlying26 rfl HIc.out) rfl ?_
  have ho : ownA a = ({ own0 a with nm := a.nm }) := by
    unfold ownA
    rw [HF.out]
    rfl
  rw [ho]
  exact ⟨rfl, EG.out⟩
set_option maxRecDepth 20000 in
set_option maxHeartbeats 4000000 in
theorem own_hoc (a : AR) (w : World) (hf : fld a.pr = [104, 111, 99]) : Calls Try.prog 28 #[.agg a.cs] w fun e w' => e = .returned (.agg (ownA a).cs) ∧ Ext w w' := by
  have HF := Lib.hid hf
  obtain ⟨w2, hw2⟩ : ∃ w2, (w.alloc (.cells a.cs 26)).alloc (.cells #[.int .i64 0, .int .i64 0, .int .i64 0, .int .i64 0, .int .i64 0, .int .i64 0, .int .i64 0, .int .i64 0, .int .i64 0, .string ⟨#[]⟩, .string ⟨#[]⟩, .slice none 0 0] 26) = w2 := ⟨_, rfl⟩
  have e2 : Ext w w2 := by rw [← hw2]; exact ((Ext.refl w).alloc _).alloc _
  have hb : w2.heap[w.heap.size]? = some (.cells a.cs 26 (0, 0)) := by rw [← hw2]; exact ((Ext.refl _).alloc _).heap (heap_alloc_new w _)
  have hz : w2.heap[w.heap.size + 1]? = some (.cells #[.int .i64 0, .int .i64 0, .int .i64 0, .int .i64 0, .int .i64 0, .int .i64 0, .int .i64 0, .int .i64 0, .int .i64 0, .string ⟨#[]⟩, .string ⟨#[]⟩, .slice none 0 0] 26 (0, 0)) := by rw [← hw2]; exact heap_alloc2_new w _ _
  obtain ⟨ab, hab⟩ : ∃ ab, w.heap.size = ab := ⟨_, rfl⟩
  obtain ⟨xb, hxb⟩ : ∃ xb, w2.heap.size = xb := ⟨_, rfl⟩
  rw [hab] at hb hz
  have hlt : ab + 1 < xb := by rw [← hxb]; exact (Array.getElem?_eq_some_iff.1 hz).1
  have c0 := cell_of_row w2 ab 0 _ _ _ hb
  have c5 := cell_of_row w2 ab 5 _ _ _ hb
  have c6 := cell_of_row w2 ab 6 _ _ _ hb
  simp [AR.cs] at c0 c5 c6
  have HZ0 : Hid ((w2.alloc (.cells #[.int .i64 0, .int .i64 0, .int .i64 0, .int .i64 0, .int .i64 0, .int .i64 0, .int .i64 0, .int .i64 0, .int .i64 0, .string ⟨#[]⟩, .string ⟨#[]⟩, .slice none 0 0] 26)).heap[xb]? = some (.cells #[.int .i64 0, .int .i64 0, .int .i64 0, .int .i64 0, .int .i64 0, .int .i64 0, .int .i64 0, .int .i64 0, .int .i64 0, .string ⟨#[]⟩, .string ⟨#[]⟩, .slice none 0 0] 26 (0, 0))) := Lib.hid (by rw [← hxb]; exact heap_alloc_new w2 _)
  have HI := Lib.hid (arg_info (own0 a))
  have HS : Hid ((#[.int .i64 0, .int .i64 0, .int .i64 0, .int .i64 0, .int .i64 0, .int .i64 0, .int .i64 0, .int .i64 0, .int .i64 0, .string ⟨#[]⟩, .string ⟨#[]⟩, .slice none 0 0] : Array Value).size = (own0 a).cs.size) := Lib.hid rfl
  have HU := Lib.hid (AR.one (own0 a))
  have E3 : Hid (Ext w2 ((w2.alloc (.cells #[.int .i64 0, .int .i64 0, .int .i64 0, .int .i64 0, .int .i64 0, .int .i64 0, .int .i64 0, .int .i64 0, .int .i64 0, .string ⟨#[]⟩, .string ⟨#[]⟩, .slice none 0 0] 26)).setRow xb (own0 a).cs)) := Lib.hid (below_setRow ((Ext.refl w2).alloc _) (Nat.le_of_eq hxb) _)
  have HX3 := Lib.hid (setRow_heap _ xb _ (own0 a).cs _ _ HZ0.out)
  have HB3 := Lib.hid (E3.out.heap hb)
  have HZ3 := Lib.hid (E3.out.heap hz)
  have E2 := Lib.hid e2
  clear hb hz e2 hf
  have q0 : ((w2.alloc (.cells #[.int .i64 0, .int .i64 0, .int .i64 0, .int .i64 0, .int .i64 0, .int .i64 0, .int .i64 0, .int .i64 0, .int .i64 0, .string ⟨#[]⟩, .string ⟨#[]⟩, .slice none 0 0] 26)).setRow xb (own0 a).cs).cell? ⟨ab, 0, none⟩ = some (.int .i64 a.pr) := (cell_of_row _ ab 0 _ _ _ HB3.out).trans rfl
  go_enter Try.func28, Try.ntmps28
  go_wp2_with (first | (with_reducible refine wpList_store_row rfl 26 (.tmp 3) (.tmp 8) rfl xb _ rfl rfl _ _ HZ0.out HI.out HS.out HU.out ?_) | fail)
  refine (has14 a.pr 115 _).mono ?_
  rintro e w4 ⟨rfl, e4⟩
  rw [HF.out, show hasB [104, 111, 99] 115 = false from by decide]
  have HB0a := Lib.hid (e4.heap HB3.out)
  have HZ0a := Lib.hid (e4.heap HZ3.out)
  have HX0a := Lib.hid (e4.heap HX3.out)
  have HE0a : Hid (Ext w w4) := Lib.hid ((E2.out.trans E3.out).trans e4)
  clear e4
  have q1 : w4.cell? ⟨ab, 0, none⟩ = some (.int .i64 a.pr) := (cell_of_row _ ab 0 _ _ _ HB0a.out).trans rfl
  go_wp2_with fail
  refine (has14 a.pr 110 _).mono ?_
  rintro e w5 ⟨rfl, e5⟩
  rw [HF.out, show hasB [104, 111, 99] 110 = false from by decide]
  have HB1a := Lib.hid (e5.heap HB0a.out)
  have HZ1a := Lib.hid (e5.heap HZ0a.out)
  have HX1a := Lib.hid (e5.heap HX0a.out)
  have HE1a : Hid (Ext w w5) := Lib.hid (HE0a.out.trans e5)
  clear e5
  have q2 : w5.cell? ⟨ab, 0, none⟩ = some (.int .i64 a.pr) := (cell_of_row _ ab 0 _ _ _ HB1a.out).trans rfl
  go_wp2_with fail
  refine (has14 a.pr 111 _).mono ?_
  rintro e w6 ⟨rfl, e6⟩
  rw [HF.out, show hasB [104, 111, 99] 111 = true from by decide]
  have HB2a := Lib.hid (e6.heap HB1a.out)
  have HZ2a := Lib.hid (e6.heap HZ1a.out)
  have HX2a := Lib.hid (e6.heap HX1a.out)
  have HE2a : Hid (Ext w w6) := Lib.hid (HE1a.out.trans e6)
  clear e6
  have y2 : w6.cell? ⟨ab, 1, none⟩ = some (.int .i64 a.off) := (cell_of_row _ ab 1 _ _ _ HB2a.out).trans rfl
  obtain ⟨o2, z2⟩ : ∃ o, w6.cell? ⟨xb, 1, none⟩ = some o := ⟨_, (cell_of_row _ xb 1 _ _ _ HX2a.out).trans rfl⟩
  have fr2 := blk_freeC HX2a.out 1
  have HO2 : Hid (On2 xb xb w6 (w6.setCell ⟨xb, 1, none⟩ (.int .i64 a.off))) := Lib.hid (On2.set _ _ _ (.inl rfl))
  have HB2b := Lib.hid (HO2.out.heap HB2a.out (by omega) (by omega))
  have HZ2b := Lib.hid (HO2.out.heap HZ2a.out (by omega) (by omega))
  have HX2b : Hid ((w6.setCell ⟨xb, 1, none⟩ (.int .i64 a.off)).heap[xb]? = some (.cells (AR.cs ({ own0 a with off := a.off })) 26 (0, 0))) := Lib.hid (set_blkC HX2a.out 1 _)
  have HE2b : Hid (Ext w (w6.setCell ⟨xb, 1, none⟩ (.int .i64 a.off))) := Lib.hid (HO2.out.ext HE2a.out (by omega) (by omega))
  have q3 : (w6.setCell ⟨xb, 1, none⟩ (.int .i64 a.off)).cell? ⟨ab, 0, none⟩ = some (.int .i64 a.pr) := (cell_of_row _ ab 0 _ _ _ HB2b.out).trans rfl
  go_wp2_with fail
  clear y2 z2 fr2
  refine (has14 a.pr 99 _).mono ?_
  rintro e w7 ⟨rfl, e7⟩
  rw [HF.out, show hasB [104, 111, 99] 99 = true from by decide]
  have HB3a := Lib.hid (e7.heap HB2b.out)
  have HZ3a := Lib.hid (e7.heap HZ2b.out)
  have HX3a := Lib.hid (e7.heap HX2b.out)
  have HE3a : Hid (Ext w w7) := Lib.hid (HE2b.out.trans e7)
  clear e7
  have y3 : w7.cell? ⟨ab, 2, none⟩ = some (.int .i64 a.ct) := (cell_of_row _ ab 2 _ _ _ HB3a.out).trans rfl
  obtain ⟨o3, z3⟩ : ∃ o, w7.cell? ⟨xb, 2, none⟩ = some o := ⟨_, (cell_of_row _ xb 2 _ _ _ HX3a.out).trans rfl⟩
  have fr3 := blk_freeC HX3a.out 2
  have HO3 : Hid (On2 xb xb w7 (w7.setCell ⟨xb, 2, none⟩ (.int .i64 a.ct))) := Lib.hid (On2.set _ _ _ (.inl rfl))
  have HB3b := Lib.hid (HO3.out.heap HB3a.out (by omega) (by omega))
  have HZ3b := Lib.hid (HO3.out.heap HZ3a.out (by omega) (by omega))
  have HX3b : Hid ((w7.setCell ⟨xb, 2, none⟩ (.int .i64 a.ct)).heap[xb]? = some (.cells (AR.cs ({ ({ own0 a with off := a.off } : AR) with ct := a.ct })) 26 (0, 0))) := Lib.hid (set_blkC HX3a.out 2 _)
  have HE3b : Hid (Ext w (w7.setCell ⟨xb, 2, none⟩ (.int .i64 a.ct))) := Lib.hid (HO3.out.ext HE3a.out (by omega) (by omega))
  have q4 : (w7.setCell ⟨xb, 2, none⟩ (.int .i64 a.ct)).cell? ⟨ab, 0, none⟩ = some (.int .i64 a.pr) := (cell_of_row _ ab 0 _ _ _ HB3b.out).trans rfl
  go_wp2_with fail
  clear y3 z3 fr3
  refine (has14 a.pr 100 _).mono ?_
  rintro e w8 ⟨rfl, e8⟩
  rw [HF.out, show hasB [104, 111, 99] 100 = false from by decide]
  have HB4a := Lib.hid (e8.heap HB3b.out)
  have HZ4a := Lib.hid (e8.heap HZ3b.out)
  have HX4a := Lib.hid (e8.heap HX3b.out)
  have HE4a : Hid (Ext w w8) := Lib.hid (HE3b.out.trans e8)
  clear e8
  have q5 : w8.cell? ⟨ab, 0, none⟩ = some (.int .i64 a.pr) := (cell_of_row _ ab 0 _ _ _ HB4a.out).trans rfl
  go_wp2_with fail
  refine (has14 a.pr 109 _).mono ?_
  rintro e w9 ⟨rfl, e9⟩
  rw [HF.out, show hasB [104, 111, 99] 109 = false from by decide]
  have HB5a := Lib.hid (e9.heap HB4a.out)
  have HZ5a := Lib.hid (e9.heap HZ4a.out)
  have HX5a := Lib.hid (e9.heap HX4a.out)
  have HE5a : Hid (Ext w w9) := Lib.hid (HE4a.out.trans e9)
  clear e9
  have q6 : w9.cell? ⟨ab, 0, none⟩ = some (.int .i64 a.pr) := (cell_of_row _ ab 0 _ _ _ HB5a.out).trans rfl
  go_wp2_with fail
  refine (has14 a.pr 105 _).mono ?_
  rintro e w10 ⟨rfl, e10⟩
  rw [HF.out, show hasB [104, 111, 99] 105 = false from by decide]
  have HB6a := Lib.hid (e10.heap HB5a.out)
  have HZ6a := Lib.hid (e10.heap HZ5a.out)
  have HX6a := Lib.hid (e10.heap HX5a.out)
  have HE6a : Hid (Ext w w10) := Lib.hid (HE5a.out.trans e10)
  clear e10
  have HIc := Lib.hid (arg_info ({ ({ own0 a with off := a.off } : AR) with ct := a.ct }))
  have HSc : Hid ((#[.int .i64 0, .int .i64 0, .int .i64 0, .int .i64 0, .int .i64 0, .int .i64 0, .int .i64 0, .int .i64 0, .int .i64 0, .string ⟨#[]⟩, .string ⟨#[]⟩, .slice none 0 0] : Array Value).size = (AR.cs ({ ({ own0 a with off := a.off } : AR) with ct := a.ct })).size) := Lib.hid rfl
  have HUc := Lib.hid (AR.one ({ ({ own0 a with off := a.off } : AR) with ct := a.ct }))
  have HG := Lib.hid (setRow_heap w10 (ab + 1) _ (AR.cs ({ ({ own0 a with off := a.off } : AR) with ct := a.ct })) _ _ HZ6a.out)
  have EG := Lib.hid (below_setRow HE6a.out (by omega : w.heap.size ≤ ab + 1) (AR.cs ({ ({ own0 a with off := a.off } : AR) with ct := a.ct })))
  go_wp2_with (first | (with_reducible refine wpList_load_row rfl 26 (.tmp 3) rfl xb rfl _ _ _ _ HX6a.out Try.underlying26 rfl HIc.out ?_) | (with_reducible refine wpList_store_row rfl 26 (.tmp 2) (.tmp 54) rfl (ab + 1) _ rfl rfl _ _ HZ6a.out HIc.out HSc.out HUc.out ?_) | fail)
  refine bodyPost_ret (results_cell_row rfl _ _ (ab + 1) _ _ (0, 0) _ rfl HG.out Try.underlying26 rfl HIc.out) rfl ?_
  have ho : ownA a = ({ ({ own0 a with off := a.off } : AR) with ct := a.ct }) := by
    unfold ownA
    rw [HF.out]
    rfl
  rw [ho]
  exact ⟨rfl, EG.out⟩
set_option maxRecDepth 20000 in
set_option maxHeartbeats 4000000 in
theorem own_hod (a : AR) (w : World) (hf : fld a.pr = [104, 111, 100]) : Calls Try.prog 28 #[.agg a.cs] w fun e w' => e = .returned (.agg (ownA a).cs) ∧ Ext w w' := by
  have HF := Lib.hid hf
  obtain ⟨w2, hw2⟩ : ∃ w2, (w.alloc (.cells a.cs 26)).alloc (.cells #[.int .i64 0, .int .i64 0, .int .i64 0, .int .i64 0, .int .i64 0, .int .i64 0, .int .i64 0, .int .i64 0, .int .i64 0, .string ⟨#[]⟩, .string ⟨#[]⟩, .slice none 0 0] 26) = w2 := ⟨_, rfl⟩
  have e2 : Ext w w2 := by rw [← hw2]; exact ((Ext.refl w).alloc _).alloc _
  have hb : w2.heap[w.heap.size]? = some (.cells a.cs 26 (0, 0)) := by rw [← hw2]; exact ((Ext.refl _).alloc _).heap (heap_alloc_new w _)
  have hz : w2.heap[w.heap.size + 1]? = some (.cells #[.int .i64 0, .int .i64 0, .int .i64 0, .int .i64 0, .int .i64 0, .int .i64 0, .int .i64 0, .int .i64 0, .int .i64 0, .string ⟨#[]⟩, .string ⟨#[]⟩, .slice none 0 0] 26 (0, 0)) := by rw [← hw2]; exact heap_alloc2_new w _ _
  obtain ⟨ab, hab⟩ : ∃ ab, w.heap.size = ab := ⟨_, rfl⟩
  obtain ⟨xb, hxb⟩ : ∃ xb, w2.heap.size = xb := ⟨_, rfl⟩
  rw [hab] at hb hz
  have hlt : ab + 1 < xb := by rw [← hxb]; exact (Array.getElem?_eq_some_iff.1 hz).1
  have c0 := cell_of_row w2 ab 0 _ _ _ hb
  have c5 := cell_of_row w2 ab 5 _ _ _ hb
  have c6 := cell_of_row w2 ab 6 _ _ _ hb
  simp [AR.cs] at c0 c5 c6
  have HZ0 : Hid ((w2.alloc (.cells #[.int .i64 0, .int .i64 0, .int .i64 0, .int .i64 0, .int .i64 0, .int .i64 0, .int .i64 0, .int .i64 0, .int .i64 0, .string ⟨#[]⟩, .string ⟨#[]⟩, .slice none 0 0] 26)).heap[xb]? = some (.cells #[.int .i64 0, .int .i64 0, .int .i64 0, .int .i64 0, .int .i64 0, .int .i64 0, .int .i64 0, .int .i64 0, .int .i64 0, .string ⟨#[]⟩, .string ⟨#[]⟩, .slice none 0 0] 26 (0, 0))) := Lib.hid (by rw [← hxb]; exact heap_alloc_new w2 _)
  have HI := Lib.hid (arg_info (own0 a))
  have HS : Hid ((#[.int .i64 0, .int .i64 0, .int .i64 0, .int .i64 0, .int .i64 0, .int .i64 0, .int .i64 0, .int .i64 0, .int .i64 0, .string ⟨#[]⟩, .string ⟨#[]⟩, .slice none 0 0] : Array Value).size = (own0 a).cs.size) := Lib.hid rfl
  have HU := Lib.hid (AR.one (own0 a))
  have E3 : Hid (Ext w2 ((w2.alloc (.cells #[.int .i64 0, .int .i64 0, .int .i64 0, .int .i64 0, .int .i64 0, .int .i64 0, .int .i64 0, .int .i64 0, .int .i64 0, .string ⟨#[]⟩, .string ⟨#[]⟩, .slice none 0 0] 26)).setRow xb (own0 a).cs)) := Lib.hid (below_setRow ((Ext.refl w2).alloc _) (Nat.le_of_eq hxb) _)
  have HX3 := Lib.hid (setRow_heap _ xb _ (own0 a).cs _ _ HZ0.out)
  have HB3 := Lib.hid (E3.out.heap hb)
  have HZ3 := Lib.hid (E3.out.heap hz)
  have E2 := Lib.hid e2
  clear hb hz e2 hf
  have q0 : ((w2.alloc (.cells #[.int .i64 0, .int .i64 0, .int .i64 0, .int .i64 0, .int .i64 0, .int .i64 0, .int .i64 0, .int .i64 0, .int .i64 0, .string ⟨#[]⟩, .string ⟨#[]⟩, .slice none 0 0] 26)).setRow xb (own0 a).cs).cell? ⟨ab, 0, none⟩ = some (.int .i64 a.pr) := (cell_of_row _ ab 0 _ _ _ HB3.out).trans rfl
  go_enter Try.func28, Try.ntmps28
  go_wp2_with (first | (with_reducible refine wpList_store_row rfl 26 (.tmp 3) (.tmp 8) rfl xb _ rfl rfl _ _ HZ0.out HI.out HS.out HU.out ?_) | fail)
  refine (has14 a.pr 115 _).mono ?_
  rintro e w4 ⟨rfl, e4⟩
  rw [HF.out, show hasB [104, 111, 100] 115 = false from by decide]
  have HB0a := Lib.hid (e4.heap HB3.out)
  have HZ0a := Lib.hid (e4.heap HZ3.out)
  have HX0a := Lib.hid (e4.heap HX3.out)
  have HE0a : Hid (Ext w w4) := Lib.hid ((E2.out.trans E3.out).trans e4)
  clear e4
  have q1 : w4.cell? ⟨ab, 0, none⟩ = some (.int .i64 a.pr) := (cell_of_row _ ab 0 _ _ _ HB0a.out).trans rfl
  go_wp2_with fail
  refine (has14 a.pr 110 _).mono ?_
  rintro e w5 ⟨rfl, e5⟩
  rw [HF.out, show hasB [104, 111, 100] 110 = false from by decide]
  have HB1a := Lib.hid (e5.heap HB0a.out)
  have HZ1a := Lib.hid (e5.heap HZ0a.out)
  have HX1a := Lib.hid (e5.heap HX0a.out)
  have HE1a : Hid (Ext w w5) := Lib.hid (HE0a.out.trans e5)
  clear e5
  have q2 : w5.cell? ⟨ab, 0, none⟩ = some (.int .i64 a.pr) := (cell_of_row _ ab 0 _ _ _ HB1a.out).trans rfl
  go_wp2_with fail
  refine (has14 a.pr 111 _).mono ?_
  rintro e w6 ⟨rfl, e6⟩
  rw [HF.out, show hasB [104, 111, 100] 111 = true from by decide]
  have HB2a := Lib.hid (e6.heap HB1a.out)
  have HZ2a := Lib.hid (e6.heap HZ1a.out)
  have HX2a := Lib.hid (e6.heap HX1a.out)
  have HE2a : Hid (Ext w w6) := Lib.hid (HE1a.out.trans e6)
  clear e6
  have y2 : w6.cell? ⟨ab, 1, none⟩ = some (.int .i64 a.off) := (cell_of_row _ ab 1 _ _ _ HB2a.out).trans rfl
  obtain ⟨o2, z2⟩ : ∃ o, w6.cell? ⟨xb, 1, none⟩ = some o := ⟨_, (cell_of_row _ xb 1 _ _ _ HX2a.out).trans rfl⟩
  have fr2 := blk_freeC HX2a.out 1
  have HO2 : Hid (On2 xb xb w6 (w6.setCell ⟨xb, 1, none⟩ (.int .i64 a.off))) := Lib.hid (On2.set _ _ _ (.inl rfl))
  have HB2b := Lib.hid (HO2.out.heap HB2a.out (by omega) (by omega))
  have HZ2b := Lib.hid (HO2.out.heap HZ2a.out (by omega) (by omega))
  have HX2b : Hid ((w6.setCell ⟨xb, 1, none⟩ (.int .i64 a.off)).heap[xb]? = some (.cells (AR.cs ({ own0 a with off := a.off })) 26 (0, 0))) := Lib.hid (set_blkC HX2a.out 1 _)
  have HE2b : Hid (Ext w (w6.setCell ⟨xb, 1, none⟩ (.int .i64 a.off))) := Lib.hid (HO2.out.ext HE2a.out (by omega) (by omega))
  have q3 : (w6.setCell ⟨xb, 1, none⟩ (.int .i64 a.off)).cell? ⟨ab, 0, none⟩ = some (.int .i64 a.pr) := (cell_of_row _ ab 0 _ _ _ HB2b.out).trans rfl
  go_wp2_with fail
  clear y2 z2 fr2
  refine (has14 a.pr 99 _).mono ?_
  rintro e w7 ⟨rfl, e7⟩
  rw [HF.out, show hasB [104, 111, 100] 99 = false from by decide]
  have HB3a := Lib.hid (e7.heap HB2b.out)
  have HZ3a := Lib.hid (e7.heap HZ2b.out)
  have HX3a := Lib.hid (e7.heap HX2b.out)
  have HE3a : Hid (Ext w w7) := Lib.hid (HE2b.out.trans e7)
  clear e7
  have q4 : w7.cell? ⟨ab, 0, none⟩ = some (.int .i64 a.pr) := (cell_of_row _ ab 0 _ _ _ HB3a.out).trans rfl
  go_wp2_with fail
  refine (has14 a.pr 100 _).mono ?_
  rintro e w8 ⟨rfl, e8⟩
  rw [HF.out, show hasB [104, 111, 100] 100 = true from by decide]
  have HB4a := Lib.hid (e8.heap HB3a.out)
  have HZ4a := Lib.hid (e8.heap HZ3a.out)
  have HX4a := Lib.hid (e8.heap HX3a.out)
  have HE4a : Hid (Ext w w8) := Lib.hid (HE3a.out.trans e8)
  clear e8
  have y4 : w8.cell? ⟨ab, 11, none⟩ = some (.slice a.dA a.dn a.dk) := (cell_of_row _ ab 11 _ _ _ HB4a.out).trans rfl
  obtain ⟨o4, z4⟩ : ∃ o, w8.cell? ⟨xb, 11, none⟩ = some o := ⟨_, (cell_of_row _ xb 11 _ _ _ HX4a.out).trans rfl⟩
  have fr4 := blk_freeC HX4a.out 11
  have HO4 : Hid (On2 xb xb w8 (w8.setCell ⟨xb, 11, none⟩ (.slice a.dA a.dn a.dk))) := Lib.hid (On2.set _ _ _ (.inl rfl))
  have HB4b := Lib.hid (HO4.out.heap HB4a.out (by omega) (by omega))
  have HZ4b := Lib.hid (HO4.out.heap HZ4a.out (by omega) (by omega))
  have HX4b : Hid ((w8.setCell ⟨xb, 11, none⟩ (.slice a.dA a.dn a.dk)).heap[xb]? = some (.cells (AR.cs ({ ({ own0 a with off := a.off } : AR) with dA := a.dA, dn := a.dn, dk := a.dk })) 26 (0, 0))) := Lib.hid (set_blkC HX4a.out 11 _)
  have HE4b : Hid (Ext w (w8.setCell ⟨xb, 11, none⟩ (.slice a.dA a.dn a.dk))) := Lib.hid (HO4.out.ext HE4a.out (by omega) (by omega))
  have q5 : (w8.setCell ⟨xb, 11, none⟩ (.slice a.dA a.dn a.dk)).cell? ⟨ab, 0, none⟩ = some (.int .i64 a.pr) := (cell_of_row _ ab 0 _ _ _ HB4b.out).trans rfl
  go_wp2_with fail
  clear y4 z4 fr4
  refine (has14 a.pr 109 _).mono ?_
  rintro e w9 ⟨rfl, e9⟩
  rw [HF.out, show hasB [104, 111, 100] 109 = false from by decide]
  have HB5a := Lib.hid (e9.heap HB4b.out)
  have HZ5a := Lib.hid (e9.heap HZ4b.out)
  have HX5a := Lib.hid (e9.heap HX4b.out)
  have HE5a : Hid (Ext w w9) := Lib.hid (HE4b.out.trans e9)
  clear e9
  have q6 : w9.cell? ⟨ab, 0, none⟩ = some (.int .i64 a.pr) := (cell_of_row _ ab 0 _ _ _ HB5a.out).trans rfl
  go_wp2_with fail
  refine (has14 a.pr 105 _).mono ?_
  rintro e w10 ⟨rfl, e10⟩
  rw [HF.out, show hasB [104, 111, 100] 105 = false from by decide]
  have HB6a := Lib.hid (e10.heap HB5a.out)
  have HZ6a := Lib.hid (e10.heap HZ5a.out)
  have HX6a := Lib.hid (e10.heap HX5a.out)
  have HE6a : Hid (Ext w w10) := Lib.hid (HE5a.out.trans e10)
  clear e10
  have HIc := Lib.hid (arg_info ({ ({ own0 a with off := a.off } : AR) with dA := a.dA, dn := a.dn, dk := a.dk }))
  have HSc : Hid ((#[.int .i64 0, .int .i64 0, .int .i64 0, .int .i64 0, .int .i64 0, .int .i64 0, .int .i64 0, .int .i64 0, .int .i64 0, .string ⟨#[]⟩, .string ⟨#[]⟩, .slice none 0 0] : Array Value).size = (AR.cs ({ ({ own0 a with off := a.off } : AR) with dA := a.dA, dn := a.dn, dk := a.dk })).size) := Lib.hid rfl
  have HUc := Lib.hid (AR.one ({ ({ own0 a with off := a.off } : AR) with dA := a.dA, dn := a.dn, dk := a.dk }))
  have HG := Lib.hid (setRow_heap w10 (ab + 1) _ (AR.cs ({ ({ own0 a with off := a.off } : AR) with dA := a.dA, dn := a.dn, dk := a.dk })) _ _ HZ6a.out)
  have EG := Lib.hid (below_setRow HE6a.out (by omega : w.heap.size ≤ ab + 1) (AR.cs ({ ({ own0 a with off := a.off } : AR) with dA := a.dA, dn := a.dn, dk := a.dk })))
  go_wp2_with (first | (with_reducible refine wpList_load_row rfl 26 (.tmp 3) rfl xb rfl _ _ _ _ HX6a.out Try.underlying26 rfl HIc.out ?_) | (with_reducible refine wpList_store_row rfl 26 (.tmp 2) (.tmp 54) rfl (ab + 1) _ rfl rfl _ _ HZ6a.out HIc.out HSc.out HUc.out ?_) | fail)
  refine bodyPost_ret (results_cell_row rfl _ _ (ab + 1) _ _ (0, 0) _ rfl HG.out Try.underlying26 rfl HIc.out) rfl ?_
  have ho : ownA a = ({ ({ own0 a with off := a.off } : AR) with dA := a.dA, dn := a.dn, dk := a.dk }) := by
    unfold ownA
    rw [HF.out]
    rfl
  rw [ho]
  exact ⟨rfl, EG.out⟩
set_option maxRecDepth 20000 in
set_option maxHeartbeats 4000000 in
theorem own_hnm (a : AR) (w : World) (hf : fld a.pr = [104, 110, 109]) : Calls Try.prog 28 #[.agg a.cs] w fun e w' => e = .returned (.agg (ownA a).cs) ∧ Ext w w' := by
  have HF := Lib.hid hf
  obtain ⟨w2, hw2⟩ : ∃ w2, (w.alloc (.cells a.cs 26)).alloc (.cells #[.int .i64 0, .int .i64 0, .int .i64 0, .int .i64 0, .int .i64 0, .int .i64 0, .int .i64 0, .int .i64 0, .int .i64 0, .string ⟨#[]⟩, .string ⟨#[]⟩, .slice none 0 0] 26) = w2 := ⟨_, rfl⟩
  have e2 : Ext w w2 := by rw [← hw2]; exact ((Ext.refl w).alloc _).alloc _
  have hb : w2.heap[w.heap.size]? = some (.cells a.cs 26 (0, 0)) := by rw [← hw2]; exact ((Ext.refl _).alloc _).heap (heap_alloc_new w _)
  have hz : w2.heap[w.heap.size + 1]? = some (.cells #[.int .i64 0, .int .i64 0, .int .i64 0, .int .i64 0, .int .i64 0, .int .i64 0, .int .i64 0, .int .i64 0, .int .i64 0, .string ⟨#[]⟩, .string ⟨#[]⟩, .slice none 0 0] 26 (0, 0)) := by rw [← hw2]; exact heap_alloc2_new w _ _
  obtain ⟨ab, hab⟩ : ∃ ab, w.heap.size = ab := ⟨_, rfl⟩
  obtain ⟨xb, hxb⟩ : ∃ xb, w2.heap.size = xb := ⟨_, rfl⟩
  rw [hab] at hb hz
  have hlt : ab + 1 < xb := by rw [← hxb]; exact (Array.getElem?_eq_some_iff.1 hz).1
  have c0 := cell_of_row w2 ab 0 _ _ _ hb
  have c5 := cell_of_row w2 ab 5 _ _ _ hb
  have c6 := cell_of_row w2 ab 6 _ _ _ hb
  simp [AR.cs] at c0 c5 c6
  have HZ0 : Hid ((w2.alloc (.cells #[.int .i64 0, .int .i64 0, .int .i64 0, .int .i64 0, .int .i64 0, .int .i64 0, .int .i64 0, .int .i64 0, .int .i64 0, .string ⟨#[]⟩, .string ⟨#[]⟩, .slice none 0 0] 26)).heap[xb]? = some (.cells #[.int .i64 0, .int .i64 0, .int .i64 0, .int .i64 0, .int .i64 0, .int .i64 0, .int .i64 0, .int .i64 0, .int .i64 0, .string ⟨#[]⟩, .string ⟨#[]⟩, .slice none 0 0] 26 (0, 0))) := Lib.hid (by rw [← hxb]; exact heap_alloc_new w2 _)
  have HI := Lib.hid (arg_info (own0 a))
  have HS : Hid ((#[.int .i64 0, .int .i64 0, .int .i64 0, .int .i64 0, .int .i64 0, .int .i64 0, .int .i64 0, .int .i64 0, .int .i64 0, .string ⟨#[]⟩, .string ⟨#[]⟩, .slice none 0 0] : Array Value).size = (own0 a).cs.size) := Lib.hid rfl
  have HU := Lib.hid (AR.one (own0 a))
  have E3 : Hid (Ext w2 ((w2.alloc (.cells #[.int .i64 0, .int .i64 0, .int .i64 0, .int .i64 0, .int .i64 0, .int .i64 0, .int .i64 0, .int .i64 0, .int .i64 0, .string ⟨#[]⟩, .string ⟨#[]⟩, .slice none 0 0] 26)).setRow xb (own0 a).cs)) := Lib.hid (below_setRow ((Ext.refl w2).alloc _) (Nat.le_of_eq hxb) _)
  have HX3 := Lib.hid (setRow_heap _ xb _ (own0 a).cs _ _ HZ0.out)
  have HB3 := Lib.hid (E3.out.heap hb)
  have HZ3 := Lib.hid (E3.out.heap hz)
  have E2 := Lib.hid e2
  clear hb hz e2 hf
  have q0 : ((w2.alloc (.cells #[.int .i64 0, .int .i64 0, .int .i64 0, .int .i64 0, .int .i64 0, .int .i64 0, .int .i64 0, .int .i64 0, .int .i64 0, .string ⟨#[]⟩, .string ⟨#[]⟩, .slice none 0 0] 26)).setRow xb (own0 a).cs).cell? ⟨ab, 0, none⟩ = some (.int .i64 a.pr) := (cell_of_row _ ab 0 _ _ _ HB3.out).trans rfl
  go_enter Try.func28, Try.ntmps28
  go_wp2_with (first | (with_reducible refine wpList_store_row rfl 26 (.tmp 3) (.tmp 8) rfl xb _ rfl rfl _ _ HZ0.out HI.out HS.out HU.out ?_) | fail)
  refine (has14 a.pr 115 _).mono ?_
  rintro e w4 ⟨rfl, e4⟩
  rw [HF.out, show hasB [104, 110, 109] 115 = false from by decide]
  have HB0a := Lib.hid (e4.heap HB3.out)
  have HZ0a := Lib.hid (e4.heap HZ3.out)
  have HX0a := Lib.hid (e4.heap HX3.out)
  have HE0a : Hid (Ext w w4) := Lib.hid ((E2.out.trans E3.out).trans e4)
  clear e4
  have q1 : w4.cell? ⟨ab, 0, none⟩ = some (.int .i64 a.pr) := (cell_of_row _ ab 0 _ _ _ HB0a.out).trans rfl
  go_wp2_with fail
  refine (has14 a.pr 110 _).mono ?_
  rintro e w5 ⟨rfl, e5⟩
  rw [HF.out, show hasB [104, 110, 109] 110 = true from by decide]
  have HB1a := Lib.hid (e5.heap HB0a.out)
  have HZ1a := Lib.hid (e5.heap HZ0a.out)
  have HX1a := Lib.hid (e5.heap HX0a.out)
  have HE1a : Hid (Ext w w5) := Lib.hid (HE0a.out.trans e5)
  clear e5
  have y1 : w5.cell? ⟨ab, 9, none⟩ = some (.string ⟨a.nm.toArray⟩) := (cell_of_row _ ab 9 _ _ _ HB1a.out).trans rfl
  obtain ⟨o1, z1⟩ : ∃ o, w5.cell? ⟨xb, 9, none⟩ = some o := ⟨_, (cell_of_row _ xb 9 _ _ _ HX1a.out).trans rfl⟩
  have fr1 := blk_freeC HX1a.out 9
  have HO1 : Hid (On2 xb xb w5 (w5.setCell ⟨xb, 9, none⟩ (.string ⟨a.nm.toArray⟩))) := Lib.hid (On2.set _ _ _ (.inl rfl))
  have HB1b := Lib.hid (HO1.out.heap HB1a.out (by omega) (by omega))
  have HZ1b := Lib.hid (HO1.out.heap HZ1a.out (by omega) (by omega))
  have HX1b : Hid ((w5.setCell ⟨xb, 9, none⟩ (.string ⟨a.nm.toArray⟩)).heap[xb]? = some (.cells (AR.cs ({ own0 a with nm := a.nm })) 26 (0, 0))) := Lib.hid (set_blkC HX1a.out 9 _)
  have HE1b : Hid (Ext w (w5.setCell ⟨xb, 9, none⟩ (.string ⟨a.nm.toArray⟩))) := Lib.hid (HO1.out.ext HE1a.out (by omega) (by omega))
  have q2 : (w5.setCell ⟨xb, 9, none⟩ (.string ⟨a.nm.toArray⟩)).cell? ⟨ab, 0, none⟩ = some (.int .i64 a.pr) := (cell_of_row _ ab 0 _ _ _ HB1b.out).trans rfl
  go_wp2_with fail
  clear y1 z1 fr1
  refine (has14 a.pr 111 _).mono ?_
  rintro e w6 ⟨rfl, e6⟩
  rw [HF.out, show hasB [104, 110, 109] 111 = false from by decide]
  have HB2a := Lib.hid (e6.heap HB1b.out)
  have HZ2a := Lib.hid (e6.heap HZ1b.out)
  have HX2a := Lib.hid (e6.heap HX1b.out)
  have HE2a : Hid (Ext w w6) := Lib.hid (HE1b.out.trans e6)
  clear e6
  have q3 : w6.cell? ⟨ab, 0, none⟩ = some (.int .i64 a.pr) := (cell_of_row _ ab 0 _ _ _ HB2a.out).trans rfl
  go_wp2_with fail
  refine (has14 a.pr 99 _).mono ?_
  rintro e w7 ⟨rfl, e7⟩
  rw [HF.out, show hasB [104, 110, 109] 99 = false from by decide]
  have HB3a := Lib.hid (e7.heap HB2a.out)
  have HZ3a := Lib.hid (e7.heap HZ2a.out)
  have HX3a := Lib.hid (e7.heap HX2a.out)
  have HE3a : Hid (Ext w w7) := Lib.hid (HE2a.out.trans e7)
  clear e7
  have q4 : w7.cell? ⟨ab, 0, none⟩ = some (.int .i64 a.pr) := (cell_of_row _ ab 0 _ _ _ HB3a.out).trans rfl
  go_wp2_with fail
  refine (has14 a.pr 100 _).mono ?_
  rintro e w8 ⟨rfl, e8⟩
  rw [HF.out, show hasB [104, 110, 109] 100 = false from by decide]
  have HB4a := Lib.hid (e8.heap HB3a.out)
  have HZ4a := Lib.hid (e8.heap HZ3a.out)
  have HX4a := Lib.hid (e8.heap HX3a.out)
  have HE4a : Hid (Ext w w8) := Lib.hid (HE3a.out.trans e8)
  clear e8
  have q5 : w8.cell? ⟨ab, 0, none⟩ = some (.int .i64 a.pr) := (cell_of_row _ ab 0 _ _ _ HB4a.out).trans rfl
  go_wp2_with fail
  refine (has14 a.pr 109 _).mono ?_
  rintro e w9 ⟨rfl, e9⟩
  rw [HF.out, show hasB [104, 110, 109] 109 = true from by decide]
  have HB5a := Lib.hid (e9.heap HB4a.out)
  have HZ5a := Lib.hid (e9.heap HZ4a.out)
  have HX5a := Lib.hid (e9.heap HX4a.out)
  have HE5a : Hid (Ext w w9) := Lib.hid (HE4a.out.trans e9)
  clear e9
  have y5 : w9.cell? ⟨ab, 4, none⟩ = some (.int .i64 a.md) := (cell_of_row _ ab 4 _ _ _ HB5a.out).trans rfl
  obtain ⟨o5, z5⟩ : ∃ o, w9.cell? ⟨xb, 4, none⟩ = some o := ⟨_, (cell_of_row _ xb 4 _ _ _ HX5a.out).trans rfl⟩
  have fr5 := blk_freeC HX5a.out 4
  have HO5 : Hid (On2 xb xb w9 (w9.setCell ⟨xb, 4, none⟩ (.int .i64 a.md))) := Lib.hid (On2.set _ _ _ (.inl rfl))
  have HB5b := Lib.hid (HO5.out.heap HB5a.out (by omega) (by omega))
  have HZ5b := Lib.hid (HO5.out.heap HZ5a.out (by omega) (by omega))
  have HX5b : Hid ((w9.setCell ⟨xb, 4, none⟩ (.int .i64 a.md)).heap[xb]? = some (.cells (AR.cs ({ ({ own0 a with nm := a.nm } : AR) with md := a.md })) 26 (0, 0))) := Lib.hid (set_blkC HX5a.out 4 _)
  have HE5b : Hid (Ext w (w9.setCell ⟨xb, 4, none⟩ (.int .i64 a.md))) := Lib.hid (HO5.out.ext HE5a.out (by omega) (by omega))
  have q6 : (w9.setCell ⟨xb, 4, none⟩ (.int .i64 a.md)).cell? ⟨ab, 0, none⟩ = some (.int .i64 a.pr) := (cell_of_row _ ab 0 _ _ _ HB5b.out).trans rfl
  go_wp2_with fail
  clear y5 z5 fr5
  refine (has14 a.pr 105 _).mono ?_
  rintro e w10 ⟨rfl, e10⟩
  rw [HF.out, show hasB [104, 110, 109] 105 = false from by decide]
  have HB6a := Lib.hid (e10.heap HB5b.out)
  have HZ6a := Lib.hid (e10.heap HZ5b.out)
  have HX6a := Lib.hid (e10.heap HX5b.out)
  have HE6a : Hid (Ext w w10) := Lib.hid (HE5b.out.trans e10)
  clear e10
  have HIc := Lib.hid (arg_info ({ ({ own0 a with nm := a.nm } : AR) with md := a.md }))
  have HSc : Hid ((#[.int .i64 0, .int .i64 0, .int .i64 0, .int .i64 0, .int .i64 0, .int .i64 0, .int .i64 0, .int .i64 0, .int .i64 0, .string ⟨#[]⟩, .string ⟨#[]⟩, .slice none 0 0] : Array Value).size = (AR.cs ({ ({ own0 a with nm := a.nm } : AR) with md := a.md })).size) := Lib.hid rfl
  have HUc := Lib.hid (AR.one ({ ({ own0 a with nm := a.nm } : AR) with md := a.md }))
  have HG := Lib.hid (setRow_heap w10 (ab + 1) _ (AR.cs ({ ({ own0 a with nm := a.nm } : AR) with md := a.md })) _ _ HZ6a.out)
  have EG := Lib.hid (below_setRow HE6a.out (by omega : w.heap.size ≤ ab + 1) (AR.cs ({ ({ own0 a with nm := a.nm } : AR) with md := a.md })))
  go_wp2_with (first | (with_reducible refine wpList_load_row rfl 26 (.tmp 3) rfl xb rfl _ _ _ _ HX6a.out Try.underlying26 rfl HIc.out ?_) | (with_reducible refine wpList_store_row rfl 26 (.tmp 2) (.tmp 54) rfl (ab + 1) _ rfl rfl _ _ HZ6a.out HIc.out HSc.out HUc.out ?_) | fail)
  refine bodyPost_ret (results_cell_row rfl _ _ (ab + 1) _ _ (0, 0) _ rfl HG.out Try.underlying26 rfl HIc.out) rfl ?_
  have ho : ownA a = ({ ({ own0 a with nm := a.nm } : AR) with md := a.md }) := by
    unfold ownA
    rw [HF.out]
    rfl
  rw [ho]
  exact ⟨rfl, EG.out⟩
end Go.Proofs.Ytpjigdfllbhknaa
