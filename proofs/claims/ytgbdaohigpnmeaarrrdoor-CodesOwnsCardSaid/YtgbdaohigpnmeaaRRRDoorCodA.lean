/-
  Layer 8: the table of errors; the closures and the search; plain contracts.
-/
import Derived.Test.YtgbdaohigpnmeaaRRRDoorBytes
import Derived.Test.YtgbdaohigpnmeaaRRRDoorOrd
import Derived.Test.YtgbdaohigpnmeaaRRRDoorProg
import Derived.WalkSpells
import Derived.WalkLawsBesides
import Derived.KernelRfl
import Derived.LoopTactic
import Derived.IntWalk
import Derived.BigQuiet
import Derived.Laws.CopyOwn
namespace Go.Proofs.YtgbdaohigpnmeaaRRRDoor
open Go Go.RowKit
set_option linter.unusedVariables false
set_option linter.unusedSimpArgs false

def errs : List Int := [0, 8, 9, 10, 11, 12, 13, 14, 15, 16, 20, 17, 18, 19, 22, 21, 7, 5, 2]
def sts : List Int := [0, 70, 2, 17, 20, 21, 66, 28, 27, 63, 10003, 10101, 10102, 10103, 10104, 5, 10105, 10106, 10107]
def txs : List (List UInt8) := [[111, 107], [115, 116, 97, 108, 101], [110, 111, 32, 115, 117, 99, 104, 32, 110, 97, 109, 101], [110, 97, 109, 101, 32, 101, 120, 105, 115, 116, 115], [110, 111, 116, 32, 97, 32, 100, 105, 114, 101, 99, 116, 111, 114, 121], [105, 115, 32, 97, 32, 100, 105, 114, 101, 99, 116, 111, 114, 121], [110, 111, 116, 32, 101, 109, 112, 116, 121], [110, 111, 32, 115, 112, 97, 99, 101], [116, 111, 111, 32, 98, 105, 103], [98, 97, 100, 32, 110, 97, 109, 101], [98, 97, 100, 32, 99, 111, 111, 107, 105, 101], [98, 97, 100, 32, 102, 105, 100], [102, 105, 100, 32, 105, 110, 32, 117, 115, 101], [98, 97, 100, 32, 109, 111, 100, 101], [102, 108, 117, 115, 104, 101, 100], [105, 47, 111, 32, 101, 114, 114, 111, 114], [116, 97, 103, 32, 105, 110, 32, 117, 115, 101], [116, 111, 111, 32, 109, 97, 110, 121, 32, 114, 101, 113, 117, 101, 115, 116, 115], [98, 97, 100, 32, 109, 101, 115, 115, 97, 103, 101]]
/-- The row of an error, as cells. -/
def rowC (k : Nat) : Array Value := #[.int .i64 (errs.getD k 0), .int .u32 (sts.getD k 0), .int .i64 (k : Int), .string ⟨(txs.getD k []).toArray⟩]
def tabC : Array Value := ((List.range 19).flatMap fun k => (rowC k).toList).toArray
def zeroC : Array Value := #[.int .i64 0, .int .u32 0, .int .i64 0, .string ⟨#[]⟩]
/-- The table stands in the world. -/
def Tab (w : World) : Prop := ∃ t fr, w.heap[0]? = some (.cells tabC t fr)
theorem Tab.ext {w w' : World} (h : Tab w) (he : Ext w w') : Tab w' := by
  obtain ⟨t, fr, h⟩ := h
  exact ⟨t, fr, he.heap h⟩
def aroundZ (n most : Int) : Int := (if n < 0 then -(n + 1) else n) % most
theorem aroundZ_bound (n most : Int) (h : 0 < most) : 0 ≤ aroundZ n most ∧ aroundZ n most < most :=
  ⟨Int.emod_nonneg _ (by omega), Int.emod_lt_of_pos _ h⟩
theorem around_any (n most : Int) (w : World) (h0 : -9223372036854775808 ≤ n) (h1 : n ≤ 9223372036854775807) (h : 0 < most) (h2 : most ≤ 9223372036854775807) :
    Calls Tryd.prog 8 #[.int .i64 n, .int .i64 most] w fun e w' => e = .returned (.int .i64 (aroundZ n most)) ∧ w = w' := by
  by_cases hn : n < 0
  · have e1 : aroundZ n most = -(n + 1) % most := by unfold aroundZ; rw [if_pos hn]
    rw [e1]
    clear e1
    go_enter Tryd.func8, Tryd.ntmps8
    go_wp2
    go_ret
    have e2 : -((n + 1).tmod most) = -(n + 1) % most := by rw [← Int.neg_tmod, Int.tmod_eq_emod_of_nonneg (by omega)]
    rw [← e2]
    exact ⟨rfl, rfl⟩
  · have e1 : aroundZ n most = n % most := by unfold aroundZ; rw [if_neg hn]
    rw [e1]
    clear e1
    go_enter Tryd.func8, Tryd.ntmps8
    go_wp2
    go_ret
    exact ⟨rfl, rfl⟩

theorem tabC_size : tabC.size = 76 := by decide
theorem load_tab {w : World} (h : Tab w) : (loadVar 44 ⟨0, 0, none⟩).run Tryd.prog w = .ok (.agg tabC) w := by
  obtain ⟨t, fr, h⟩ := h
  exact run_loadVar_row w 0 t _ tabC fr _ h Tryd.underlying44 rfl (by rw [tabC_size]; kernel_rfl)
theorem idx_tab (k : Nat) (hk : k < 19) (w : World) : (Instr.index 44 (.agg tabC) (.int .i64 (k : Int))).run Tryd.prog w = .ok (.agg (rowC k)) w := by
  have h : k = 0 ∨ k = 1 ∨ k = 2 ∨ k = 3 ∨ k = 4 ∨ k = 5 ∨ k = 6 ∨ k = 7 ∨ k = 8 ∨ k = 9 ∨ k = 10 ∨ k = 11 ∨ k = 12 ∨ k = 13 ∨ k = 14 ∨ k = 15 ∨ k = 16 ∨ k = 17 ∨ k = 18 := by omega
  rcases h with rfl | rfl | rfl | rfl | rfl | rfl | rfl | rfl | rfl | rfl | rfl | rfl | rfl | rfl | rfl | rfl | rfl | rfl | rfl
  all_goals
    change _ = _
    kernel_rfl

theorem clo_err (k g : Nat) (e : Int) (t : TypeId) (fr : Nat × Nat) (w : World) (hg : w.heap[g]? = some (.cells #[.int .i64 e] t fr)) :
    Calls Tryd.prog 27 #[.agg (rowC k), .pointer (some ⟨g, 0, none⟩)] w fun x w' => x = .returned (.bool (errs.getD k 0 == e)) ∧ Ext w w' := by
  have hc : ∀ o, (w.alloc o).cell? ⟨g, 0, none⟩ = some (.int .i64 e) := fun o => by
    have hx : Ext w (w.alloc o) := (Ext.refl w).alloc o
    have := cell_of_row _ g 0 _ _ _ (hx.heap hg)
    simpa using this
  unfold rowC
  generalize errs.getD k 0 = a
  go_enter Tryd.func27, Tryd.ntmps27
  go_wp2
  go_ret
  exact ⟨rfl, (Ext.refl w).alloc _⟩
theorem clo_st (k g : Nat) (e : Int) (t : TypeId) (fr : Nat × Nat) (w : World) (hg : w.heap[g]? = some (.cells #[.int .u32 e] t fr)) :
    Calls Tryd.prog 25 #[.agg (rowC k), .pointer (some ⟨g, 0, none⟩)] w fun x w' => x = .returned (.bool (sts.getD k 0 == e)) ∧ Ext w w' := by
  have hc : ∀ o, (w.alloc o).cell? ⟨g, 0, none⟩ = some (.int .u32 e) := fun o => by
    have hx : Ext w (w.alloc o) := (Ext.refl w).alloc o
    have := cell_of_row _ g 0 _ _ _ (hx.heap hg)
    simpa using this
  unfold rowC
  generalize sts.getD k 0 = a
  go_enter Tryd.func25, Tryd.ntmps25
  go_wp2
  go_ret
  exact ⟨rfl, (Ext.refl w).alloc _⟩
theorem clo_co (k g : Nat) (e : Int) (t : TypeId) (fr : Nat × Nat) (w : World) (hg : w.heap[g]? = some (.cells #[.int .i64 e] t fr)) :
    Calls Tryd.prog 26 #[.agg (rowC k), .pointer (some ⟨g, 0, none⟩)] w fun x w' => x = .returned (.bool ((k : Int) == e)) ∧ Ext w w' := by
  have hc : ∀ o, (w.alloc o).cell? ⟨g, 0, none⟩ = some (.int .i64 e) := fun o => by
    have hx : Ext w (w.alloc o) := (Ext.refl w).alloc o
    have := cell_of_row _ g 0 _ _ _ (hx.heap hg)
    simpa using this
  unfold rowC
  generalize (k : Int) = a
  go_enter Tryd.func26, Tryd.ntmps26
  go_wp2
  go_ret
  exact ⟨rfl, (Ext.refl w).alloc _⟩

end Go.Proofs.YtgbdaohigpnmeaaRRRDoor
