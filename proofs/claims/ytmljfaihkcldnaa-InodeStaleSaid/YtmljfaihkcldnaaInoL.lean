/-
  Layer 10: the document's example is met.
-/
import Derived.Test.YtmljfaihkcldnaaInoS
namespace Go.Proofs.Ytmljfaihkcldnaa
open Go Go.RowKit
set_option linter.unusedVariables false
set_option linter.unusedSimpArgs false
theorem ld_handle {w : World} {g : Nat} {a b : Int} {t : TypeId} {fr : Nat × Nat} (h : w.heap[g]? = some (.cells #[.int .i64 a, .int .i64 b] t fr)) :
    (loadVar 29 ⟨g, 0, none⟩).run Try.prog w = .ok (.agg #[.int .i64 a, .int .i64 b]) w := by
  have hz : (Try.prog.info? 29).map (·.size) = some (Array.size (α := Value) #[.int .i64 a, .int .i64 b]) := by
    change _ = some 2
    kernel_rfl
  exact run_loadVar_row w _ _ _ _ _ _ h Try.underlying29 rfl hz
set_option maxRecDepth 20000 in
set_option maxHeartbeats 1000000 in
theorem lives10 (w : World) : Calls Try.prog 10 #[] w fun e w' => e = .returned (.bool true) ∧ Ext w w' := by
  have HN := Lib.hid (new_str 3 3 w rfl (by omega) (by omega))
  go_enter Try.func10, Try.ntmps10
  go_wp2_with fail
  refine (HN.out).mono ?_
  rintro e w1 ⟨tb, pb, bx, rfl, T1, q1, q2, q3, e1⟩
  have A1 : Calls Try.prog 19 #[.pointer (some ⟨tb, 0, none⟩), .string ⟨#[120]⟩] w1 fun e w' => e = .returned (.tuple #[.agg #[.int .i64 1, .int .i64 1], .int .i64 0]) ∧
      Tab_str w' tb pb bx 3 1 (upd (fun _ => .string ⟨#[]⟩) 0 (.string ⟨#[120]⟩)) (upd (fun _ => false) 0 true) (upd (fun _ => 0) 0 1) ∧ (∀ B, B ≤ tb → B ≤ pb → B ≤ w1.heap.size → Below B w1 w') ∧ Fr tb pb w1 w' :=
    add_str_ok w1 tb pb bx 3 0 _ _ _ 0 ⟨#[120]⟩ T1 (by omega) rfl (fun j h => absurd h (by omega)) (by decide) (by decide) (by decide) (by decide)
  have HA1 := Lib.hid A1
  have E1 := Lib.hid e1
  clear A1 T1 e1
  go_wp2_with fail
  refine (HA1.out).mono ?_
  rintro e w2 ⟨rfl, T2, b2, f2⟩
  obtain ⟨l1, l2, l3⟩ := T2.lt
  have x2 : Ext w w2 := Below.trans E1.out (b2 _ q1 q2 E1.out.size)
  have x2a : Ext w2 (w2.alloc (.cells #[.int .i64 1, .int .i64 1] 29)) := (Ext.refl _).alloc _
  have hp := heap_alloc_new w2 (.cells #[.int .i64 1, .int .i64 1] 29)
  have k1 := ld_handle hp
  have R1 : Calls Try.prog 20 #[.pointer (some ⟨tb, 0, none⟩), .agg #[.int .i64 1, .int .i64 1]] (w2.alloc (.cells #[.int .i64 1, .int .i64 1] 29)) fun e w' => e = .returned (.int .i64 0) ∧
      Tab_str w' tb pb bx 3 0 (upd (upd (fun _ => .string ⟨#[]⟩) 0 (.string ⟨#[120]⟩)) 0 (.string ⟨#[]⟩)) (upd (upd (fun _ => false) 0 true) 0 false) (upd (upd (fun _ => 0) 0 1) 0 1) ∧
      (∀ B, B ≤ tb → B ≤ pb → B ≤ (w2.alloc (.cells #[.int .i64 1, .int .i64 1] 29)).heap.size → Below B (w2.alloc (.cells #[.int .i64 1, .int .i64 1] 29)) w') ∧ Fr tb pb (w2.alloc (.cells #[.int .i64 1, .int .i64 1] 29)) w' :=
    remove_str_ok _ tb pb bx 3 1 1 0 _ _ _ (T2.ext x2a) (by omega) rfl rfl (by decide) (by decide)
  have HR1 := Lib.hid R1
  have HP := Lib.hid hp
  have X2 := Lib.hid (x2.trans x2a)
  clear R1 T2 b2 f2 x2 x2a hp
  go_wp2_with fail
  refine (HR1.out).mono ?_
  rintro e w3 ⟨rfl, T3, b3, f3⟩
  have hp3 := f3.heap HP.out (by omega) (by omega)
  have x3 : Ext w w3 := Below.trans X2.out (b3 _ q1 q2 X2.out.size)
  have A2 : Calls Try.prog 19 #[.pointer (some ⟨tb, 0, none⟩), .string ⟨#[121]⟩] w3 fun e w' => e = .returned (.tuple #[.agg #[.int .i64 1, .int .i64 2], .int .i64 0]) ∧
      Tab_str w' tb pb bx 3 1 (upd (upd (upd (fun _ => .string ⟨#[]⟩) 0 (.string ⟨#[120]⟩)) 0 (.string ⟨#[]⟩)) 0 (.string ⟨#[121]⟩)) (upd (upd (upd (fun _ => false) 0 true) 0 false) 0 true) (upd (upd (upd (fun _ => 0) 0 1) 0 1) 0 2) ∧ (∀ B, B ≤ tb → B ≤ pb → B ≤ w3.heap.size → Below B w3 w') ∧ Fr tb pb w3 w' :=
    add_str_ok w3 tb pb bx 3 0 _ _ _ 0 ⟨#[121]⟩ T3 (by omega) rfl (fun j h => absurd h (by omega)) (by decide) (by decide) (by decide) (by decide)
  have HA2 := Lib.hid A2
  have HP3 := Lib.hid hp3
  have X3 := Lib.hid x3
  have hlt3 := (Array.getElem?_eq_some_iff.1 hp3).1
  clear A2 T3 b3 f3 hp3 x3 k1
  go_wp2_with fail
  refine (HA2.out).mono ?_
  rintro e w4 ⟨rfl, T4, b4, f4⟩
  have hp4 := f4.heap HP3.out (by omega) (by omega)
  have x4 : Ext w w4 := Below.trans X3.out (b4 _ q1 q2 X3.out.size)
  have x4a : Ext w4 (w4.alloc (.cells #[.int .i64 1, .int .i64 2] 29)) := (Ext.refl _).alloc _
  have hr := heap_alloc_new w4 (.cells #[.int .i64 1, .int .i64 2] 29)
  have k4 := ld_handle hr
  have G : Calls Try.prog 21 #[.pointer (some ⟨tb, 0, none⟩), .agg #[.int .i64 1, .int .i64 2]] (w4.alloc (.cells #[.int .i64 1, .int .i64 2] 29)) fun e w' => e = .returned (.tuple #[.string ⟨#[121]⟩, .int .i64 0]) ∧ Ext (w4.alloc (.cells #[.int .i64 1, .int .i64 2] 29)) w' :=
    get_str_ok _ tb pb bx 3 1 2 0 _ _ _ (T4.ext x4a) (by omega) rfl rfl
  have HG := Lib.hid G
  have HR := Lib.hid hr
  have HP4 := Lib.hid (x4a.heap hp4)
  have X4 := Lib.hid (x4.trans x4a)
  clear G T4 b4 f4 x4 x4a hp4 hr
  go_wp2_with fail
  refine (HG.out).mono ?_
  rintro e w5 ⟨rfl, e5⟩
  have u0 := cell_of_row w5 w2.heap.size 0 _ _ _ (e5.heap HP4.out)
  have u1 := cell_of_row w5 w2.heap.size 1 _ _ _ (e5.heap HP4.out)
  have v0 := cell_of_row w5 w4.heap.size 0 _ _ _ (e5.heap HR.out)
  have v1 := cell_of_row w5 w4.heap.size 1 _ _ _ (e5.heap HR.out)
  simp at u0 u1 v0 v1
  clear k4
  go_wp2
  go_ret
  exact ⟨rfl, X4.out.trans e5⟩
end Go.Proofs.Ytmljfaihkcldnaa
