/-
  Layer 22: errors.Is of a number that is an error, and of nil.
-/
import Derived.Test.YtnbeeglomciieaaSubR
import Derived.Stop.Asserts
import Derived.RowKitTokens
import Derived.Lib.IfaceEq
import Derived.LaidEql
import Derived.Stop.IfaceNil
namespace Go.Proofs.Ytnbeeglomciieaa
open Go Go.RowKit Go.Extern.Stop Go.Stop Go.Extern
set_option linter.unusedVariables false
set_option linter.unusedSimpArgs false
theorem tg_typeOfE (v : Value) (w : World) : (ReflectliteType.typeOf #[.iface 25 v]).run Try.prog w = .ok (.iface 80 (.agg #[.pointer (some ⟨0, 25, none⟩)])) w := by kernel_rfl
def cmpX : Array Value → Sem Value := ReflectliteType.method fun t => do Rtype.noPackHeld "Comparable" t; pure (.bool (← typeInfo t).comparable)
theorem tg_cmp (w : World) : (cmpX #[.agg #[.pointer (some ⟨0, 25, none⟩)]]).run Try.prog w = .ok (.bool true) w := by kernel_rfl
theorem tg_mCmp (h : Value) (w : World) : (Go.method 224 80 (.agg #[h]) "Comparable").run Try.prog w = .ok (59, .agg #[h]) w := by kernel_rfl
theorem eis_nil (x : Int) (w : World) : Calls Try.prog 26 #[.nilIface, .iface 25 (.int .i64 x)] w fun e w' => e = .returned (.bool false) ∧ Ext w w' := by
  have hn := run_eql_iface_nil_left (P := Try.prog) w 25 (.int .i64 x) Try.underlying63
  go_enter Try.func26, Try.ntmps26
  go_wp2
  go_ret
  exact ⟨rfl, Ext.refl w⟩
theorem eis_is (x : Int) (w : World) : Calls Try.prog 36 #[.iface 25 (.int .i64 x), .iface 25 (.int .i64 x), .bool true] w fun e w' => e = .returned (.bool true) ∧ Ext w w' := by
  have heq := Go.Lib.run_eql_iface_int (P := Try.prog) w (k := .i64) x x Try.underlying63 (tx := 25) (by kernel_rfl) Try.underlying25
  rw [show (x == x) = true from by simp] at heq
  go_enter Try.func36, Try.ntmps36
  go_wp2
  refine wp_loop_rounds 1 ?_
  rw [rounds_succ]
  go_wp2
  go_ret
  exact ⟨rfl, Ext.refl w⟩
set_option maxRecDepth 20000 in
theorem eis_same (x : Int) (w : World) : Calls Try.prog 26 #[.iface 25 (.int .i64 x), .iface 25 (.int .i64 x)] w fun e w' => e = .returned (.bool true) ∧ Ext w w' := by
  have h43 := @run_callFunc_extern Try.prog 35 _ ReflectliteType.typeOf Try.func35 (by kernel_rfl) (by kernel_rfl) (by kernel_rfl) (by kernel_rfl)
  have h83 := @run_callFunc_extern Try.prog 59 _ cmpX Try.func59 (by kernel_rfl) (by kernel_rfl) (by kernel_rfl) (by kernel_rfl)
  have tO := tg_typeOfE
  have aE := tg_cmp
  have mA := tg_mCmp
  have hn1 := fun v => run_eql_iface_nil (P := Try.prog) (w := w) 63 (by kernel_rfl) 25 v
  go_enter Try.func26, Try.ntmps26
  go_wp2_with fail
  refine (eis_is x w).mono ?_
  rintro e w1 ⟨rfl, e1⟩
  go_wp2_with fail
  go_ret
  exact ⟨rfl, e1⟩
end Go.Proofs.Ytnbeeglomciieaa
