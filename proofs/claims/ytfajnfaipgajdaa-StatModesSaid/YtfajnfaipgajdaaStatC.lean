/-
  Layer 19: what a node is told to be when it is opened; plain contracts.
-/
import Derived.Test.YtfajnfaipgajdaaStatB
namespace Go.Proofs.Ytfajnfaipgajdaa
open Go Go.RowKit
set_option linter.unusedVariables false
set_option linter.unusedSimpArgs false

theorem qid_1 (w : World) : Calls Try.prog 34 #[.agg #[.int .i64 0, .int .i64 0, .int .i64 1, .int .i64 0, .int .i64 0]] w fun e w' => e = .returned (.agg #[.bool true, .int .i64 0, .int .i64 0]) ∧ Ext w w' := by
  have e1 : Ext w ((w.alloc (.cells #[.int .i64 0, .int .i64 0, .int .i64 1, .int .i64 0, .int .i64 0] 27)).alloc (.cells #[.bool true, .int .i64 0, .int .i64 0] 55)) := ((Ext.refl w).alloc _).alloc _
  have hb := heap_alloc2_new w (.cells #[.int .i64 0, .int .i64 0, .int .i64 1, .int .i64 0, .int .i64 0] 27) (.cells #[.bool true, .int .i64 0, .int .i64 0] 55)
  have HB := Lib.hid hb
  have hz : (Try.prog.info? 55).map (·.size) = some (Array.size (α := Value) #[.bool true, .int .i64 0, .int .i64 0]) := by
    change _ = some 3
    kernel_rfl
  have HZ := Lib.hid hz
  clear hb hz
  go_enter Try.func34, Try.ntmps34
  go_wp2
  refine bodyPost_ret (results_cell_row rfl _ _ (w.heap.size + 1) _ _ (0, 0) _ rfl HB.out Try.underlying55 rfl HZ.out) rfl ?_
  exact ⟨rfl, e1⟩
theorem dir_1 (w : World) : Calls Try.prog 33 #[.agg #[.bool true, .int .i64 0, .int .i64 0]] w fun e w' => e = .returned (.bool true) ∧ Ext w w' := by
  have e1 : Ext w (w.alloc (.cells #[.bool true, .int .i64 0, .int .i64 0] 55)) := (Ext.refl w).alloc _
  go_enter Try.func33, Try.ntmps33
  go_wp2
  go_ret
  exact ⟨rfl, e1⟩
theorem qid_2 (w : World) : Calls Try.prog 34 #[.agg #[.int .i64 0, .int .i64 0, .int .i64 2, .int .i64 0, .int .i64 0]] w fun e w' => e = .returned (.agg #[.bool false, .int .i64 0, .int .i64 0]) ∧ Ext w w' := by
  have e1 : Ext w ((w.alloc (.cells #[.int .i64 0, .int .i64 0, .int .i64 2, .int .i64 0, .int .i64 0] 27)).alloc (.cells #[.bool false, .int .i64 0, .int .i64 0] 55)) := ((Ext.refl w).alloc _).alloc _
  have hb := heap_alloc2_new w (.cells #[.int .i64 0, .int .i64 0, .int .i64 2, .int .i64 0, .int .i64 0] 27) (.cells #[.bool false, .int .i64 0, .int .i64 0] 55)
  have HB := Lib.hid hb
  have hz : (Try.prog.info? 55).map (·.size) = some (Array.size (α := Value) #[.bool false, .int .i64 0, .int .i64 0]) := by
    change _ = some 3
    kernel_rfl
  have HZ := Lib.hid hz
  clear hb hz
  go_enter Try.func34, Try.ntmps34
  go_wp2
  refine bodyPost_ret (results_cell_row rfl _ _ (w.heap.size + 1) _ _ (0, 0) _ rfl HB.out Try.underlying55 rfl HZ.out) rfl ?_
  exact ⟨rfl, e1⟩
theorem dir_2 (w : World) : Calls Try.prog 33 #[.agg #[.bool false, .int .i64 0, .int .i64 0]] w fun e w' => e = .returned (.bool false) ∧ Ext w w' := by
  have e1 : Ext w (w.alloc (.cells #[.bool false, .int .i64 0, .int .i64 0] 55)) := (Ext.refl w).alloc _
  go_enter Try.func33, Try.ntmps33
  go_wp2
  go_ret
  exact ⟨rfl, e1⟩
/-- What opening is told. -/
def opM (m : Int) (d : Bool) : Int := cond (okM m) (cond (d && !(m == 0)) 12 0) 19
theorem opens_1 (m : Int) (w : World) (h0 : -9223372036854775808 ≤ m) (h1 : m ≤ 9223372036854775807) :
    Calls Try.prog 9 #[.int .i64 m, .agg #[.int .i64 0, .int .i64 0, .int .i64 1, .int .i64 0, .int .i64 0]] w fun e w' => e = .returned (.int .i64 (opM m true)) ∧ Ext w w' := by
  have e1 : Ext w (w.alloc (.cells #[.int .i64 0, .int .i64 0, .int .i64 1, .int .i64 0, .int .i64 0] 27)) := (Ext.refl w).alloc _
  cases hk : okM m with
  | false =>
    have hv : opM m true = 19 := by unfold opM; rw [hk]; rfl
    have hr := fun w => reads_any m w h0 h1
    have hw := fun w => writes_any m w h0 h1
    rw [show rdM m = false by have := notM hk; unfold rdM; simp; omega] at hr
    rw [show wrM m = false by have := notM hk; unfold wrM; simp; omega] at hw
    rw [hv]
    have HR := Lib.hid hr
    have HW := Lib.hid hw
    clear hk hv hr hw
    go_enter Try.func9, Try.ntmps9
    go_wp2_with fail
    refine (Calls.mono (HR.out _) ?_)
    rintro e w1 ⟨rfl, rfl⟩
    go_wp2_with fail
    refine (Calls.mono (HW.out _) ?_)
    rintro e w1 ⟨rfl, rfl⟩
    go_wp2
    go_ret
    exact ⟨rfl, e1⟩
  | true =>
    rcases isM hk with rfl | rfl | rfl | rfl | rfl | rfl
    · have hr := fun w => reads_any 0 w (by omega) (by omega)
      rw [show rdM 0 = true by decide] at hr
      have HR := Lib.hid hr
      clear hr hk
      go_enter Try.func9, Try.ntmps9
      go_wp2_with fail
      refine (Calls.mono (HR.out _) ?_)
      rintro e w1 ⟨rfl, rfl⟩
      go_wp2
      go_ret
      exact ⟨rfl, e1⟩
    · have hr := fun w => reads_any 1 w (by omega) (by omega)
      rw [show rdM 1 = false by decide] at hr
      have hw := fun w => writes_any 1 w (by omega) (by omega)
      rw [show wrM 1 = true by decide] at hw
      have HW := Lib.hid hw
      clear hw
      have HR := Lib.hid hr
      clear hr hk
      go_enter Try.func9, Try.ntmps9
      go_wp2_with fail
      refine (Calls.mono (HR.out _) ?_)
      rintro e w1 ⟨rfl, rfl⟩
      go_wp2_with fail
      refine (Calls.mono (HW.out _) ?_)
      rintro e w1 ⟨rfl, rfl⟩
      go_wp2_with fail
      refine (qid_1 _).mono ?_
      rintro e w2 ⟨rfl, e2⟩
      go_wp2_with fail
      refine (dir_1 _).mono ?_
      rintro e w3 ⟨rfl, e3⟩
      go_wp2
      go_ret
      exact ⟨rfl, e1.trans (e2.trans e3)⟩
    · have hr := fun w => reads_any 2 w (by omega) (by omega)
      rw [show rdM 2 = true by decide] at hr
      have HR := Lib.hid hr
      clear hr hk
      go_enter Try.func9, Try.ntmps9
      go_wp2_with fail
      refine (Calls.mono (HR.out _) ?_)
      rintro e w1 ⟨rfl, rfl⟩
      go_wp2_with fail
      refine (qid_1 _).mono ?_
      rintro e w2 ⟨rfl, e2⟩
      go_wp2_with fail
      refine (dir_1 _).mono ?_
      rintro e w3 ⟨rfl, e3⟩
      go_wp2
      go_ret
      exact ⟨rfl, e1.trans (e2.trans e3)⟩
    · have hr := fun w => reads_any 16 w (by omega) (by omega)
      rw [show rdM 16 = true by decide] at hr
      have HR := Lib.hid hr
      clear hr hk
      go_enter Try.func9, Try.ntmps9
      go_wp2_with fail
      refine (Calls.mono (HR.out _) ?_)
      rintro e w1 ⟨rfl, rfl⟩
      go_wp2_with fail
      refine (qid_1 _).mono ?_
      rintro e w2 ⟨rfl, e2⟩
      go_wp2_with fail
      refine (dir_1 _).mono ?_
      rintro e w3 ⟨rfl, e3⟩
      go_wp2
      go_ret
      exact ⟨rfl, e1.trans (e2.trans e3)⟩
    · have hr := fun w => reads_any 17 w (by omega) (by omega)
      rw [show rdM 17 = false by decide] at hr
      have hw := fun w => writes_any 17 w (by omega) (by omega)
      rw [show wrM 17 = true by decide] at hw
      have HW := Lib.hid hw
      clear hw
      have HR := Lib.hid hr
      clear hr hk
      go_enter Try.func9, Try.ntmps9
      go_wp2_with fail
      refine (Calls.mono (HR.out _) ?_)
      rintro e w1 ⟨rfl, rfl⟩
      go_wp2_with fail
      refine (Calls.mono (HW.out _) ?_)
      rintro e w1 ⟨rfl, rfl⟩
      go_wp2_with fail
      refine (qid_1 _).mono ?_
      rintro e w2 ⟨rfl, e2⟩
      go_wp2_with fail
      refine (dir_1 _).mono ?_
      rintro e w3 ⟨rfl, e3⟩
      go_wp2
      go_ret
      exact ⟨rfl, e1.trans (e2.trans e3)⟩
    · have hr := fun w => reads_any 18 w (by omega) (by omega)
      rw [show rdM 18 = true by decide] at hr
      have HR := Lib.hid hr
      clear hr hk
      go_enter Try.func9, Try.ntmps9
      go_wp2_with fail
      refine (Calls.mono (HR.out _) ?_)
      rintro e w1 ⟨rfl, rfl⟩
      go_wp2_with fail
      refine (qid_1 _).mono ?_
      rintro e w2 ⟨rfl, e2⟩
      go_wp2_with fail
      refine (dir_1 _).mono ?_
      rintro e w3 ⟨rfl, e3⟩
      go_wp2
      go_ret
      exact ⟨rfl, e1.trans (e2.trans e3)⟩
theorem ropens_1 (m : Int) (w : World) (h0 : -9223372036854775808 ≤ m) (h1 : m ≤ 9223372036854775807) :
    Calls Try.prog 10 #[.int .i64 m, .agg #[.int .i64 0, .int .i64 0, .int .i64 1, .int .i64 0, .int .i64 0]] w fun e w' => e = .returned (.int .i64 (opM m true)) ∧ Ext w w' := by
  have e1 : Ext w (w.alloc (.cells #[.int .i64 0, .int .i64 0, .int .i64 1, .int .i64 0, .int .i64 0] 27)) := (Ext.refl w).alloc _
  have hr := fun w => rmode_any m w h0 h1
  have HR := Lib.hid hr
  clear hr
  cases hk : okM m with
  | false =>
    have hv : opM m true = 19 := by unfold opM; rw [hk]; rfl
    rw [hv]
    have HR := Lib.hid HR.out
    rw [hk] at HR
    clear hk hv
    go_enter Try.func10, Try.ntmps10
    go_wp2_with fail
    refine (Calls.mono (HR.out _) ?_)
    rintro e w1 ⟨rfl, rfl⟩
    go_wp2
    go_ret
    exact ⟨rfl, e1⟩
  | true =>
    rw [hk] at HR
    rcases isM hk with rfl | rfl | rfl | rfl | rfl | rfl
    all_goals
      clear hk
      go_enter Try.func10, Try.ntmps10
      go_wp2_with fail
      refine (Calls.mono (HR.out _) ?_)
      rintro e w1 ⟨rfl, rfl⟩
      go_wp2
      go_ret
      exact ⟨rfl, e1⟩
theorem opens_2 (m : Int) (w : World) (h0 : -9223372036854775808 ≤ m) (h1 : m ≤ 9223372036854775807) :
    Calls Try.prog 9 #[.int .i64 m, .agg #[.int .i64 0, .int .i64 0, .int .i64 2, .int .i64 0, .int .i64 0]] w fun e w' => e = .returned (.int .i64 (opM m false)) ∧ Ext w w' := by
  have e1 : Ext w (w.alloc (.cells #[.int .i64 0, .int .i64 0, .int .i64 2, .int .i64 0, .int .i64 0] 27)) := (Ext.refl w).alloc _
  cases hk : okM m with
  | false =>
    have hv : opM m false = 19 := by unfold opM; rw [hk]; rfl
    have hr := fun w => reads_any m w h0 h1
    have hw := fun w => writes_any m w h0 h1
    rw [show rdM m = false by have := notM hk; unfold rdM; simp; omega] at hr
    rw [show wrM m = false by have := notM hk; unfold wrM; simp; omega] at hw
    rw [hv]
    have HR := Lib.hid hr
    have HW := Lib.hid hw
    clear hk hv hr hw
    go_enter Try.func9, Try.ntmps9
    go_wp2_with fail
    refine (Calls.mono (HR.out _) ?_)
    rintro e w1 ⟨rfl, rfl⟩
    go_wp2_with fail
    refine (Calls.mono (HW.out _) ?_)
    rintro e w1 ⟨rfl, rfl⟩
    go_wp2
    go_ret
    exact ⟨rfl, e1⟩
  | true =>
    rcases isM hk with rfl | rfl | rfl | rfl | rfl | rfl
    · have hr := fun w => reads_any 0 w (by omega) (by omega)
      rw [show rdM 0 = true by decide] at hr
      have HR := Lib.hid hr
      clear hr hk
      go_enter Try.func9, Try.ntmps9
      go_wp2_with fail
      refine (Calls.mono (HR.out _) ?_)
      rintro e w1 ⟨rfl, rfl⟩
      go_wp2
      go_ret
      exact ⟨rfl, e1⟩
    · have hr := fun w => reads_any 1 w (by omega) (by omega)
      rw [show rdM 1 = false by decide] at hr
      have hw := fun w => writes_any 1 w (by omega) (by omega)
      rw [show wrM 1 = true by decide] at hw
      have HW := Lib.hid hw
      clear hw
      have HR := Lib.hid hr
      clear hr hk
      go_enter Try.func9, Try.ntmps9
      go_wp2_with fail
      refine (Calls.mono (HR.out _) ?_)
      rintro e w1 ⟨rfl, rfl⟩
      go_wp2_with fail
      refine (Calls.mono (HW.out _) ?_)
      rintro e w1 ⟨rfl, rfl⟩
      go_wp2_with fail
      refine (qid_2 _).mono ?_
      rintro e w2 ⟨rfl, e2⟩
      go_wp2_with fail
      refine (dir_2 _).mono ?_
      rintro e w3 ⟨rfl, e3⟩
      go_wp2
      go_ret
      exact ⟨rfl, e1.trans (e2.trans e3)⟩
    · have hr := fun w => reads_any 2 w (by omega) (by omega)
      rw [show rdM 2 = true by decide] at hr
      have HR := Lib.hid hr
      clear hr hk
      go_enter Try.func9, Try.ntmps9
      go_wp2_with fail
      refine (Calls.mono (HR.out _) ?_)
      rintro e w1 ⟨rfl, rfl⟩
      go_wp2_with fail
      refine (qid_2 _).mono ?_
      rintro e w2 ⟨rfl, e2⟩
      go_wp2_with fail
      refine (dir_2 _).mono ?_
      rintro e w3 ⟨rfl, e3⟩
      go_wp2
      go_ret
      exact ⟨rfl, e1.trans (e2.trans e3)⟩
    · have hr := fun w => reads_any 16 w (by omega) (by omega)
      rw [show rdM 16 = true by decide] at hr
      have HR := Lib.hid hr
      clear hr hk
      go_enter Try.func9, Try.ntmps9
      go_wp2_with fail
      refine (Calls.mono (HR.out _) ?_)
      rintro e w1 ⟨rfl, rfl⟩
      go_wp2_with fail
      refine (qid_2 _).mono ?_
      rintro e w2 ⟨rfl, e2⟩
      go_wp2_with fail
      refine (dir_2 _).mono ?_
      rintro e w3 ⟨rfl, e3⟩
      go_wp2
      go_ret
      exact ⟨rfl, e1.trans (e2.trans e3)⟩
    · have hr := fun w => reads_any 17 w (by omega) (by omega)
      rw [show rdM 17 = false by decide] at hr
      have hw := fun w => writes_any 17 w (by omega) (by omega)
      rw [show wrM 17 = true by decide] at hw
      have HW := Lib.hid hw
      clear hw
      have HR := Lib.hid hr
      clear hr hk
      go_enter Try.func9, Try.ntmps9
      go_wp2_with fail
      refine (Calls.mono (HR.out _) ?_)
      rintro e w1 ⟨rfl, rfl⟩
      go_wp2_with fail
      refine (Calls.mono (HW.out _) ?_)
      rintro e w1 ⟨rfl, rfl⟩
      go_wp2_with fail
      refine (qid_2 _).mono ?_
      rintro e w2 ⟨rfl, e2⟩
      go_wp2_with fail
      refine (dir_2 _).mono ?_
      rintro e w3 ⟨rfl, e3⟩
      go_wp2
      go_ret
      exact ⟨rfl, e1.trans (e2.trans e3)⟩
    · have hr := fun w => reads_any 18 w (by omega) (by omega)
      rw [show rdM 18 = true by decide] at hr
      have HR := Lib.hid hr
      clear hr hk
      go_enter Try.func9, Try.ntmps9
      go_wp2_with fail
      refine (Calls.mono (HR.out _) ?_)
      rintro e w1 ⟨rfl, rfl⟩
      go_wp2_with fail
      refine (qid_2 _).mono ?_
      rintro e w2 ⟨rfl, e2⟩
      go_wp2_with fail
      refine (dir_2 _).mono ?_
      rintro e w3 ⟨rfl, e3⟩
      go_wp2
      go_ret
      exact ⟨rfl, e1.trans (e2.trans e3)⟩
theorem ropens_2 (m : Int) (w : World) (h0 : -9223372036854775808 ≤ m) (h1 : m ≤ 9223372036854775807) :
    Calls Try.prog 10 #[.int .i64 m, .agg #[.int .i64 0, .int .i64 0, .int .i64 2, .int .i64 0, .int .i64 0]] w fun e w' => e = .returned (.int .i64 (opM m false)) ∧ Ext w w' := by
  have e1 : Ext w (w.alloc (.cells #[.int .i64 0, .int .i64 0, .int .i64 2, .int .i64 0, .int .i64 0] 27)) := (Ext.refl w).alloc _
  have hr := fun w => rmode_any m w h0 h1
  have HR := Lib.hid hr
  clear hr
  cases hk : okM m with
  | false =>
    have hv : opM m false = 19 := by unfold opM; rw [hk]; rfl
    rw [hv]
    have HR := Lib.hid HR.out
    rw [hk] at HR
    clear hk hv
    go_enter Try.func10, Try.ntmps10
    go_wp2_with fail
    refine (Calls.mono (HR.out _) ?_)
    rintro e w1 ⟨rfl, rfl⟩
    go_wp2
    go_ret
    exact ⟨rfl, e1⟩
  | true =>
    rw [hk] at HR
    rcases isM hk with rfl | rfl | rfl | rfl | rfl | rfl
    all_goals
      clear hk
      go_enter Try.func10, Try.ntmps10
      go_wp2_with fail
      refine (Calls.mono (HR.out _) ?_)
      rintro e w1 ⟨rfl, rfl⟩
      go_wp2
      go_ret
      exact ⟨rfl, e1⟩

end Go.Proofs.Ytfajnfaipgajdaa
