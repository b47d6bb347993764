/-
  Layer 8: what the package tells, function by function.
-/
import Derived.Test.YtgbdaohigpnmeaaRRRDoorCodB
namespace Go.Proofs.YtgbdaohigpnmeaaRRRDoor
open Go Go.RowKit
set_option linter.unusedVariables false
set_option linter.unusedSimpArgs false

/-- The row of an error, of a status, of a code. -/
def ixE (e : Int) : Nat := fstC fun k => errs.getD k 0 == e
def ixS (e : Int) : Nat := fstC fun k => sts.getD k 0 == e
def ixC (e : Int) : Nat := fstC fun k => (k : Int) == e
theorem fstC_lt (hit : Nat → Bool) : fstC hit < 19 := by
  unfold fstC
  cases h : (List.range 19).find? hit with
  | none => simp
  | some k =>
    have := List.mem_of_find?_eq_some h
    simpa using this

set_option maxHeartbeats 1000000 in
theorem of_any (e : Int) (w : World) (ht : Tab w) :
    Calls Tryd.prog 22 #[.int .i64 e] w fun x w' => x = .returned (.agg (rowC (ixE e))) ∧ Ext w w' := by
  have e1 : Ext w ((w.alloc (.cells #[.int .i64 e] 22)).alloc (.cells #[.int .i64 0, .int .u32 0, .int .i64 0, .string ⟨#[]⟩] 38)) := ((Ext.refl w).alloc _).alloc _
  have hb := heap_alloc2_old w (.cells #[.int .i64 e] 22) (.cells #[.int .i64 0, .int .u32 0, .int .i64 0, .string ⟨#[]⟩] 38)
  have hr := heap_alloc2_new w (.cells #[.int .i64 e] 22) (.cells #[.int .i64 0, .int .u32 0, .int .i64 0, .string ⟨#[]⟩] 38)
  have hf := find_err e w.heap.size _ _ _ (ht.ext e1) hb
  have HF := Lib.hid hf
  have HR := Lib.hid hr
  have hsz4 : (Tryd.prog.info? 38).map (·.size) = some (rowC (ixE e)).size := by
    have : (rowC (ixE e)).size = 4 := rfl
    rw [this]
    change _ = _
    kernel_rfl
  have HZr := Lib.hid hsz4
  have HZs : Hid ((#[.int .i64 0, .int .u32 0, .int .i64 0, .string ⟨#[]⟩] : Array Value).size = (rowC (ixE e)).size) := Lib.hid rfl
  have HZu : Hid ((rowC (ixE e)).all (·.oneCell') = true) := Lib.hid (by simp [rowC, Value.oneCell'])
  clear hf hr hb hsz4
  go_enter Tryd.func22, Tryd.ntmps22
  go_wp2_with fail
  refine (Calls.mono HF.out ?_)
  rintro x w2 ⟨rfl, e2⟩
  have HR2 := Lib.hid (e2.heap HR.out)
  have ext2 := e1.trans e2
  have HRow := Lib.hid (setRow_heap w2 (w.heap.size + 1) _ (rowC (ixE e)) _ _ HR2.out)
  have exts : Ext w (w2.setRow (w.heap.size + 1) (rowC (ixE e))) := below_setRow ext2 (by omega) _
  have hrc : rowC (fstC fun k => errs.getD k 0 == e) = rowC (ixE e) := rfl
  rw [hrc]
  clear hrc e2 ext2 e1 HR
  generalize w.heap.size + 1 = g at *
  go_wp2_with (first | (with_reducible refine wpList_store_row rfl 38 (.tmp 2) (.tmp 4) rfl g _ rfl rfl _ _ HR2.out HZr.out HZs.out HZu.out ?_) | fail)
  refine bodyPost_ret (results_cell_row rfl _ _ g _ _ (0, 0) _ rfl HRow.out Tryd.underlying38 rfl HZr.out) rfl ?_
  exact ⟨rfl, exts⟩

theorem fld (r1 r2 r3 : Int) (r4 : List UInt8) (w : World) :
    (Instr.field 38 (.agg #[.int .i64 r1, .int .u32 r2, .int .i64 r3, .string ⟨r4.toArray⟩]) 0).run Tryd.prog w = .ok (.int .i64 r1) w ∧
    (Instr.field 38 (.agg #[.int .i64 r1, .int .u32 r2, .int .i64 r3, .string ⟨r4.toArray⟩]) 1).run Tryd.prog w = .ok (.int .u32 r2) w ∧
    (Instr.field 38 (.agg #[.int .i64 r1, .int .u32 r2, .int .i64 r3, .string ⟨r4.toArray⟩]) 2).run Tryd.prog w = .ok (.int .i64 r3) w ∧
    (Instr.field 38 (.agg #[.int .i64 r1, .int .u32 r2, .int .i64 r3, .string ⟨r4.toArray⟩]) 3).run Tryd.prog w = .ok (.string ⟨r4.toArray⟩) w := by
  refine ⟨?_, ?_, ?_, ?_⟩
  all_goals
    change _ = _
    kernel_rfl

theorem status_any (e : Int) (w : World) (ht : Tab w) :
    Calls Tryd.prog 9 #[.int .i64 e] w fun x w' => x = .returned (.int .u32 (sts.getD (ixE e) 0)) ∧ Ext w w' := by
  have hof := of_any e w ht
  unfold rowC at hof
  generalize errs.getD (ixE e) 0 = r1 at *
  generalize sts.getD (ixE e) 0 = r2 at *
  generalize txs.getD (ixE e) [] = r4 at *
  generalize ixE e = k at *
  go_enter Tryd.func9, Tryd.ntmps9
  go_wp2_with fail
  refine (Calls.mono hof ?_)
  rintro x w2 ⟨rfl, e2⟩
  obtain ⟨f0, f1, f2, f3⟩ := fld r1 r2 k r4 w2
  go_wp2
  go_ret
  exact ⟨rfl, e2⟩
theorem code_any (e : Int) (w : World) (ht : Tab w) :
    Calls Tryd.prog 11 #[.int .i64 e] w fun x w' => x = .returned (.int .i64 (ixE e : Int)) ∧ Ext w w' := by
  have hof := of_any e w ht
  unfold rowC at hof
  generalize errs.getD (ixE e) 0 = r1 at *
  generalize sts.getD (ixE e) 0 = r2 at *
  generalize txs.getD (ixE e) [] = r4 at *
  generalize ixE e = k at *
  go_enter Tryd.func11, Tryd.ntmps11
  go_wp2_with fail
  refine (Calls.mono hof ?_)
  rintro x w2 ⟨rfl, e2⟩
  obtain ⟨f0, f1, f2, f3⟩ := fld r1 r2 k r4 w2
  go_wp2
  go_ret
  exact ⟨rfl, e2⟩
theorem text_any8 (e : Int) (w : World) (ht : Tab w) :
    Calls Tryd.prog 13 #[.int .i64 e] w fun x w' => x = .returned (.string ⟨(txs.getD (ixE e) []).toArray⟩) ∧ Ext w w' := by
  have hof := of_any e w ht
  unfold rowC at hof
  generalize errs.getD (ixE e) 0 = r1 at *
  generalize sts.getD (ixE e) 0 = r2 at *
  generalize txs.getD (ixE e) [] = r4 at *
  generalize ixE e = k at *
  go_enter Tryd.func13, Tryd.ntmps13
  go_wp2_with fail
  refine (Calls.mono hof ?_)
  rintro x w2 ⟨rfl, e2⟩
  obtain ⟨f0, f1, f2, f3⟩ := fld r1 r2 k r4 w2
  go_wp2
  go_ret
  exact ⟨rfl, e2⟩

set_option maxHeartbeats 1000000 in
theorem fromst_any (e : Int) (w : World) (ht : Tab w) :
    Calls Tryd.prog 16 #[.int .u32 e] w fun x w' => x = .returned (.int .i64 (errs.getD (ixS e) 0)) ∧ Ext w w' := by
  have e1 : Ext w (w.alloc (.cells #[.int .u32 e] 25)) := (Ext.refl w).alloc _
  have hb := heap_alloc_new w (.cells #[.int .u32 e] 25)
  have hf := find_st e w.heap.size _ _ _ (ht.ext e1) hb
  have hix : fstC (fun k => sts.getD k 0 == e) = ixS e := rfl
  rw [hix] at hf
  unfold rowC at hf
  generalize errs.getD (ixS e) 0 = r1 at *
  generalize sts.getD (ixS e) 0 = r2 at *
  generalize txs.getD (ixS e) [] = r4 at *
  generalize ixS e = k at *
  have HF := Lib.hid hf
  clear hf hix hb
  go_enter Tryd.func16, Tryd.ntmps16
  go_wp2_with fail
  refine (Calls.mono HF.out ?_)
  rintro x w2 ⟨rfl, e2⟩
  have ext2 := e1.trans e2
  clear e1 e2
  obtain ⟨f0, f1, f2, f3⟩ := fld r1 r2 k r4 w2
  go_wp2
  go_ret
  exact ⟨rfl, ext2⟩
set_option maxHeartbeats 1000000 in
theorem fromco_any (e : Int) (w : World) (ht : Tab w) :
    Calls Tryd.prog 18 #[.int .i64 e] w fun x w' => x = .returned (.int .i64 (errs.getD (ixC e) 0)) ∧ Ext w w' := by
  have e1 : Ext w (w.alloc (.cells #[.int .i64 e] 3)) := (Ext.refl w).alloc _
  have hb := heap_alloc_new w (.cells #[.int .i64 e] 3)
  have hf := find_co e w.heap.size _ _ _ (ht.ext e1) hb
  have hix : fstC (fun k => (k : Int) == e) = ixC e := rfl
  rw [hix] at hf
  unfold rowC at hf
  generalize errs.getD (ixC e) 0 = r1 at *
  generalize sts.getD (ixC e) 0 = r2 at *
  generalize txs.getD (ixC e) [] = r4 at *
  generalize ixC e = k at *
  have HF := Lib.hid hf
  clear hf hix hb
  go_enter Tryd.func18, Tryd.ntmps18
  go_wp2_with fail
  refine (Calls.mono HF.out ?_)
  rintro x w2 ⟨rfl, e2⟩
  have ext2 := e1.trans e2
  clear e1 e2
  obtain ⟨f0, f1, f2, f3⟩ := fld r1 r2 k r4 w2
  go_wp2
  go_ret
  exact ⟨rfl, ext2⟩

end Go.Proofs.YtgbdaohigpnmeaaRRRDoor
