/-
  Layer 14: what a procedure is asked with: its cells; each of the frame's ways to one field.
-/
import Derived.Test.YtpjigdfllbhknaaCalA
namespace Go.Proofs.Ytpjigdfllbhknaa
open Go Go.RowKit
set_option linter.unusedVariables false
set_option linter.unusedSimpArgs false
/-- What a procedure is asked with. -/
structure AR where
  (pr off ct sz md h1 h2 g1 g2 : Int)
  (nm n2 : List UInt8)
  (dA : Option Addr) (dn dk : Nat)
def AR.cs (a : AR) : Array Value := #[.int .i64 a.pr, .int .i64 a.off, .int .i64 a.ct, .int .i64 a.sz, .int .i64 a.md, .int .i64 a.h1, .int .i64 a.h2, .int .i64 a.g1, .int .i64 a.g2, .string ⟨a.nm.toArray⟩, .string ⟨a.n2.toArray⟩, .slice a.dA a.dn a.dk]
def AR.fc (a : AR) (lb : Nat) : Array Value := #[.int .i64 a.pr, .int .i64 a.off, .int .i64 a.ct, .int .i64 a.sz, .int .i64 a.md, .int .i64 a.h1, .int .i64 a.h2, .int .i64 a.g1, .int .i64 a.g2, .string ⟨a.nm.toArray⟩, .string ⟨a.n2.toArray⟩, .slice a.dA a.dn a.dk, .iface 60 (.pointer (some ⟨lb, 0, none⟩))]
def bnA (a : AR) (g : Bool) : Nat → Bool
  | 0 => (g && bi a.h1 4294967295) && bi a.h2 4294967295
  | 1 => (g && bi a.g1 4294967295) && bi a.g2 4294967295
  | 2 => g && decide ((a.nm.length : Int) ≤ 64)
  | 3 => g && decide ((a.n2.length : Int) ≤ 64)
  | 4 => g && bi a.off 4611686018427387904
  | 5 => g && bi a.ct 4294967295
  | 6 => g && bi a.sz 4294967295
  | 7 => g && bi a.md 4294967295
  | _ => g && decide ((a.dn : Int) ≤ 2048)
def woA (a : AR) : Nat → AR
  | 0 => { a with h1 := 0, h2 := 0 }
  | 1 => { a with g1 := 0, g2 := 0 }
  | 2 => { a with nm := [] }
  | 3 => { a with n2 := [] }
  | 4 => { a with off := 0 }
  | 5 => { a with ct := 0 }
  | 6 => { a with sz := 0 }
  | 7 => { a with md := 0 }
  | _ => { a with dA := none, dn := 0, dk := 0 }
theorem mL_handle (v : Value) (w : World) : (Go.method 226 60 v "truchman/calls.handle").run Try.prog w = .ok (85, v) w := by kernel_rfl
theorem mL_text (v : Value) (w : World) : (Go.method 226 60 v "truchman/calls.text").run Try.prog w = .ok (88, v) w := by kernel_rfl
theorem mL_place (v : Value) (w : World) : (Go.method 226 60 v "truchman/calls.place").run Try.prog w = .ok (87, v) w := by kernel_rfl
theorem mL_number (v : Value) (w : World) : (Go.method 226 60 v "truchman/calls.number").run Try.prog w = .ok (86, v) w := by kernel_rfl
theorem mL_data (v : Value) (w : World) : (Go.method 226 60 v "truchman/calls.data").run Try.prog w = .ok (84, v) w := by kernel_rfl
set_option maxRecDepth 20000 in
theorem fm_0 (fb lb : Nat) (g : Bool) (a : AR) (w : World) (h : FrC w fb lb g (a.fc lb)) :
    Calls Try.prog 42 #[.pointer (some ⟨fb, 0, none⟩)] w fun e w' => e = .returned (.tuple #[]) ∧ FrC w' fb lb (bnA a g 0) ((woA a 0).fc lb) ∧ On2 fb lb w w' := by
  have HC : Hid ((fun w' : World => w'.cell? ⟨fb, 12, none⟩ = some (.iface 60 (.pointer (some ⟨lb, 0, none⟩)))) w.drew) := Lib.hid ((cell_of_row w.drew fb 12 _ _ _ (show w.drew.heap[fb]? = _ from h.1)).trans rfl)
  have h1 : FrC w.drew fb lb g (a.fc lb) := h.ext (Ext.refl w).drew
  have HK := Lib.hid (lhandle_any fb lb 5 g (a.fc lb) _ _ _ h1 rfl rfl)
  have mm := mL_handle
  clear h h1
  go_enter Try.func42, Try.ntmps42
  go_wp2_with fail
  refine wp_region_plS (fun w' : World => w'.cell? ⟨fb, 12, none⟩ = some (.iface 60 (.pointer (some ⟨lb, 0, none⟩)))) (.free 0 (.free 1 (.free 2 (.free 3 (.free 4 (.free 5 (.free 6 (.free 7 (.free 8 (.free 9 (.one 10 .nil))))))))))) (by kernel_rfl) (by kernel_rfl) (by kernel_rfl) (by kernel_rfl) ?_
  refine plS_val (v := ?_) rfl rfl HC.out (fun w' hw' => ?_) ?_; rotate_left; (· have q : w'.cell? ⟨fb, 12, none⟩ = some (.iface 60 (.pointer (some ⟨lb, 0, none⟩))) := hw'; go_simp; try with_reducible rfl); simp only [Act.put, List.setIfInBounds_toArray, List.set_cons_zero, List.set_cons_succ]
  refine plS_val (v := ?_) rfl rfl HC.out (fun w' hw' => ?_) ?_; rotate_left; (· have q : w'.cell? ⟨fb, 12, none⟩ = some (.iface 60 (.pointer (some ⟨lb, 0, none⟩))) := hw'; go_simp; try with_reducible rfl); simp only [Act.put, List.setIfInBounds_toArray, List.set_cons_zero, List.set_cons_succ]
  refine plS_val (v := ?_) rfl rfl HC.out (fun w' hw' => ?_) ?_; rotate_left; (· have q : w'.cell? ⟨fb, 12, none⟩ = some (.iface 60 (.pointer (some ⟨lb, 0, none⟩))) := hw'; go_simp; try with_reducible rfl); simp only [Act.put, List.setIfInBounds_toArray, List.set_cons_zero, List.set_cons_succ]
  refine plS_val (v := ?_) rfl rfl HC.out (fun w' hw' => ?_) ?_; rotate_left; (· have q : w'.cell? ⟨fb, 12, none⟩ = some (.iface 60 (.pointer (some ⟨lb, 0, none⟩))) := hw'; go_simp; try with_reducible rfl); simp only [Act.put, List.setIfInBounds_toArray, List.set_cons_zero, List.set_cons_succ]
  refine plS_val (v := ?_) rfl rfl HC.out (fun w' hw' => ?_) ?_; rotate_left; (· have q : w'.cell? ⟨fb, 12, none⟩ = some (.iface 60 (.pointer (some ⟨lb, 0, none⟩))) := hw'; go_simp; try with_reducible rfl); simp only [Act.put, List.setIfInBounds_toArray, List.set_cons_zero, List.set_cons_succ]
  refine plS_val (v := ?_) rfl rfl HC.out (fun w' hw' => ?_) ?_; rotate_left; (· have q : w'.cell? ⟨fb, 12, none⟩ = some (.iface 60 (.pointer (some ⟨lb, 0, none⟩))) := hw'; go_simp; try with_reducible rfl); simp only [Act.put, List.setIfInBounds_toArray, List.set_cons_zero, List.set_cons_succ]
  refine plS_val (v := ?_) rfl rfl HC.out (fun w' hw' => ?_) ?_; rotate_left; (· have q : w'.cell? ⟨fb, 12, none⟩ = some (.iface 60 (.pointer (some ⟨lb, 0, none⟩))) := hw'; go_simp; try with_reducible rfl); simp only [Act.put, List.setIfInBounds_toArray, List.set_cons_zero, List.set_cons_succ]
  refine plS_val (v := ?_) rfl rfl HC.out (fun w' hw' => ?_) ?_; rotate_left; (· have q : w'.cell? ⟨fb, 12, none⟩ = some (.iface 60 (.pointer (some ⟨lb, 0, none⟩))) := hw'; go_simp; try with_reducible rfl); simp only [Act.put, List.setIfInBounds_toArray, List.set_cons_zero, List.set_cons_succ]
  refine plS_val (v := ?_) rfl rfl HC.out (fun w' hw' => ?_) ?_; rotate_left; (· have q : w'.cell? ⟨fb, 12, none⟩ = some (.iface 60 (.pointer (some ⟨lb, 0, none⟩))) := hw'; go_simp; try with_reducible rfl); simp only [Act.put, List.setIfInBounds_toArray, List.set_cons_zero, List.set_cons_succ]
  refine plS_val (v := ?_) rfl rfl HC.out (fun w' hw' => ?_) ?_; rotate_left; (· have q : w'.cell? ⟨fb, 12, none⟩ = some (.iface 60 (.pointer (some ⟨lb, 0, none⟩))) := hw'; go_simp; try with_reducible rfl); simp only [Act.put, List.setIfInBounds_toArray, List.set_cons_zero, List.set_cons_succ]
  refine plS_call 85 #[.pointer (some ⟨lb, 0, none⟩), .pointer (some ⟨fb, 5, none⟩)] rfl rfl (by go_simp) ?_
  refine HK.out.mono ?_
  rintro e w1 ⟨rfl, h2, o2⟩
  refine ⟨_, rfl, (cell_of_row w1 fb 12 _ _ _ h2.1).trans rfl, ?_⟩
  simp only [Act.put, List.setIfInBounds_toArray, List.set_cons_zero, List.set_cons_succ]
  refine plS_done ?_
  go_wp2_with fail
  go_end0
  exact ⟨rfl, h2, (On2.of_ext (Ext.refl w).drew).trans o2⟩
set_option maxRecDepth 20000 in
theorem fm_1 (fb lb : Nat) (g : Bool) (a : AR) (w : World) (h : FrC w fb lb g (a.fc lb)) :
    Calls Try.prog 43 #[.pointer (some ⟨fb, 0, none⟩)] w fun e w' => e = .returned (.tuple #[]) ∧ FrC w' fb lb (bnA a g 1) ((woA a 1).fc lb) ∧ On2 fb lb w w' := by
  have HC : Hid ((fun w' : World => w'.cell? ⟨fb, 12, none⟩ = some (.iface 60 (.pointer (some ⟨lb, 0, none⟩)))) w.drew) := Lib.hid ((cell_of_row w.drew fb 12 _ _ _ (show w.drew.heap[fb]? = _ from h.1)).trans rfl)
  have h1 : FrC w.drew fb lb g (a.fc lb) := h.ext (Ext.refl w).drew
  have HK := Lib.hid (lhandle_any fb lb 7 g (a.fc lb) _ _ _ h1 rfl rfl)
  have mm := mL_handle
  clear h h1
  go_enter Try.func43, Try.ntmps43
  go_wp2_with fail
  refine wp_region_plS (fun w' : World => w'.cell? ⟨fb, 12, none⟩ = some (.iface 60 (.pointer (some ⟨lb, 0, none⟩)))) (.free 0 (.free 1 (.free 2 (.free 3 (.free 4 (.free 5 (.free 6 (.free 7 (.free 8 (.free 9 (.one 10 .nil))))))))))) (by kernel_rfl) (by kernel_rfl) (by kernel_rfl) (by kernel_rfl) ?_
  refine plS_val (v := ?_) rfl rfl HC.out (fun w' hw' => ?_) ?_; rotate_left; (· have q : w'.cell? ⟨fb, 12, none⟩ = some (.iface 60 (.pointer (some ⟨lb, 0, none⟩))) := hw'; go_simp; try with_reducible rfl); simp only [Act.put, List.setIfInBounds_toArray, List.set_cons_zero, List.set_cons_succ]
  refine plS_val (v := ?_) rfl rfl HC.out (fun w' hw' => ?_) ?_; rotate_left; (· have q : w'.cell? ⟨fb, 12, none⟩ = some (.iface 60 (.pointer (some ⟨lb, 0, none⟩))) := hw'; go_simp; try with_reducible rfl); simp only [Act.put, List.setIfInBounds_toArray, List.set_cons_zero, List.set_cons_succ]
  refine plS_val (v := ?_) rfl rfl HC.out (fun w' hw' => ?_) ?_; rotate_left; (· have q : w'.cell? ⟨fb, 12, none⟩ = some (.iface 60 (.pointer (some ⟨lb, 0, none⟩))) := hw'; go_simp; try with_reducible rfl); simp only [Act.put, List.setIfInBounds_toArray, List.set_cons_zero, List.set_cons_succ]
  refine plS_val (v := ?_) rfl rfl HC.out (fun w' hw' => ?_) ?_; rotate_left; (· have q : w'.cell? ⟨fb, 12, none⟩ = some (.iface 60 (.pointer (some ⟨lb, 0, none⟩))) := hw'; go_simp; try with_reducible rfl); simp only [Act.put, List.setIfInBounds_toArray, List.set_cons_zero, List.set_cons_succ]
  refine plS_val (v := ?_) rfl rfl HC.out (fun w' hw' => ?_) ?_; rotate_left; (· have q : w'.cell? ⟨fb, 12, none⟩ = some (.iface 60 (.pointer (some ⟨lb, 0, none⟩))) := hw'; go_simp; try with_reducible rfl); simp only [Act.put, List.setIfInBounds_toArray, List.set_cons_zero, List.set_cons_succ]
  refine plS_val (v := ?_) rfl rfl HC.out (fun w' hw' => ?_) ?_; rotate_left; (· have q : w'.cell? ⟨fb, 12, none⟩ = some (.iface 60 (.pointer (some ⟨lb, 0, none⟩))) := hw'; go_simp; try with_reducible rfl); simp only [Act.put, List.setIfInBounds_toArray, List.set_cons_zero, List.set_cons_succ]
  refine plS_val (v := ?_) rfl rfl HC.out (fun w' hw' => ?_) ?_; rotate_left; (· have q : w'.cell? ⟨fb, 12, none⟩ = some (.iface 60 (.pointer (some ⟨lb, 0, none⟩))) := hw'; go_simp; try with_reducible rfl); simp only [Act.put, List.setIfInBounds_toArray, List.set_cons_zero, List.set_cons_succ]
  refine plS_val (v := ?_) rfl rfl HC.out (fun w' hw' => ?_) ?_; rotate_left; (· have q : w'.cell? ⟨fb, 12, none⟩ = some (.iface 60 (.pointer (some ⟨lb, 0, none⟩))) := hw'; go_simp; try with_reducible rfl); simp only [Act.put, List.setIfInBounds_toArray, List.set_cons_zero, List.set_cons_succ]
  refine plS_val (v := ?_) rfl rfl HC.out (fun w' hw' => ?_) ?_; rotate_left; (· have q : w'.cell? ⟨fb, 12, none⟩ = some (.iface 60 (.pointer (some ⟨lb, 0, none⟩))) := hw'; go_simp; try with_reducible rfl); simp only [Act.put, List.setIfInBounds_toArray, List.set_cons_zero, List.set_cons_succ]
  refine plS_val (v := ?_) rfl rfl HC.out (fun w' hw' => ?_) ?_; rotate_left; (· have q : w'.cell? ⟨fb, 12, none⟩ = some (.iface 60 (.pointer (some ⟨lb, 0, none⟩))) := hw'; go_simp; try with_reducible rfl); simp only [Act.put, List.setIfInBounds_toArray, List.set_cons_zero, List.set_cons_succ]
  refine plS_call 85 #[.pointer (some ⟨lb, 0, none⟩), .pointer (some ⟨fb, 7, none⟩)] rfl rfl (by go_simp) ?_
  refine HK.out.mono ?_
  rintro e w1 ⟨rfl, h2, o2⟩
  refine ⟨_, rfl, (cell_of_row w1 fb 12 _ _ _ h2.1).trans rfl, ?_⟩
  simp only [Act.put, List.setIfInBounds_toArray, List.set_cons_zero, List.set_cons_succ]
  refine plS_done ?_
  go_wp2_with fail
  go_end0
  exact ⟨rfl, h2, (On2.of_ext (Ext.refl w).drew).trans o2⟩
set_option maxRecDepth 20000 in
theorem fm_2 (fb lb : Nat) (g : Bool) (a : AR) (w : World) (h : FrC w fb lb g (a.fc lb)) :
    Calls Try.prog 44 #[.pointer (some ⟨fb, 0, none⟩)] w fun e w' => e = .returned (.tuple #[]) ∧ FrC w' fb lb (bnA a g 2) ((woA a 2).fc lb) ∧ On2 fb lb w w' := by
  have HC : Hid ((fun w' : World => w'.cell? ⟨fb, 12, none⟩ = some (.iface 60 (.pointer (some ⟨lb, 0, none⟩)))) w.drew) := Lib.hid ((cell_of_row w.drew fb 12 _ _ _ (show w.drew.heap[fb]? = _ from h.1)).trans rfl)
  have h1 : FrC w.drew fb lb g (a.fc lb) := h.ext (Ext.refl w).drew
  have HK := Lib.hid (ltext_look fb lb 9 g (a.fc lb) _ _ h1 rfl)
  have mm := mL_text
  clear h h1
  go_enter Try.func44, Try.ntmps44
  go_wp2_with fail
  refine wp_region_plS (fun w' : World => w'.cell? ⟨fb, 12, none⟩ = some (.iface 60 (.pointer (some ⟨lb, 0, none⟩)))) (.free 0 (.free 1 (.free 2 (.free 3 (.free 4 (.free 5 (.free 6 (.free 7 (.free 8 (.free 9 (.one 10 .nil))))))))))) (by kernel_rfl) (by kernel_rfl) (by kernel_rfl) (by kernel_rfl) ?_
  refine plS_val (v := ?_) rfl rfl HC.out (fun w' hw' => ?_) ?_; rotate_left; (· have q : w'.cell? ⟨fb, 12, none⟩ = some (.iface 60 (.pointer (some ⟨lb, 0, none⟩))) := hw'; go_simp; try with_reducible rfl); simp only [Act.put, List.setIfInBounds_toArray, List.set_cons_zero, List.set_cons_succ]
  refine plS_val (v := ?_) rfl rfl HC.out (fun w' hw' => ?_) ?_; rotate_left; (· have q : w'.cell? ⟨fb, 12, none⟩ = some (.iface 60 (.pointer (some ⟨lb, 0, none⟩))) := hw'; go_simp; try with_reducible rfl); simp only [Act.put, List.setIfInBounds_toArray, List.set_cons_zero, List.set_cons_succ]
  refine plS_val (v := ?_) rfl rfl HC.out (fun w' hw' => ?_) ?_; rotate_left; (· have q : w'.cell? ⟨fb, 12, none⟩ = some (.iface 60 (.pointer (some ⟨lb, 0, none⟩))) := hw'; go_simp; try with_reducible rfl); simp only [Act.put, List.setIfInBounds_toArray, List.set_cons_zero, List.set_cons_succ]
  refine plS_val (v := ?_) rfl rfl HC.out (fun w' hw' => ?_) ?_; rotate_left; (· have q : w'.cell? ⟨fb, 12, none⟩ = some (.iface 60 (.pointer (some ⟨lb, 0, none⟩))) := hw'; go_simp; try with_reducible rfl); simp only [Act.put, List.setIfInBounds_toArray, List.set_cons_zero, List.set_cons_succ]
  refine plS_val (v := ?_) rfl rfl HC.out (fun w' hw' => ?_) ?_; rotate_left; (· have q : w'.cell? ⟨fb, 12, none⟩ = some (.iface 60 (.pointer (some ⟨lb, 0, none⟩))) := hw'; go_simp; try with_reducible rfl); simp only [Act.put, List.setIfInBounds_toArray, List.set_cons_zero, List.set_cons_succ]
  refine plS_val (v := ?_) rfl rfl HC.out (fun w' hw' => ?_) ?_; rotate_left; (· have q : w'.cell? ⟨fb, 12, none⟩ = some (.iface 60 (.pointer (some ⟨lb, 0, none⟩))) := hw'; go_simp; try with_reducible rfl); simp only [Act.put, List.setIfInBounds_toArray, List.set_cons_zero, List.set_cons_succ]
  refine plS_val (v := ?_) rfl rfl HC.out (fun w' hw' => ?_) ?_; rotate_left; (· have q : w'.cell? ⟨fb, 12, none⟩ = some (.iface 60 (.pointer (some ⟨lb, 0, none⟩))) := hw'; go_simp; try with_reducible rfl); simp only [Act.put, List.setIfInBounds_toArray, List.set_cons_zero, List.set_cons_succ]
  refine plS_val (v := ?_) rfl rfl HC.out (fun w' hw' => ?_) ?_; rotate_left; (· have q : w'.cell? ⟨fb, 12, none⟩ = some (.iface 60 (.pointer (some ⟨lb, 0, none⟩))) := hw'; go_simp; try with_reducible rfl); simp only [Act.put, List.setIfInBounds_toArray, List.set_cons_zero, List.set_cons_succ]
  refine plS_val (v := ?_) rfl rfl HC.out (fun w' hw' => ?_) ?_; rotate_left; (· have q : w'.cell? ⟨fb, 12, none⟩ = some (.iface 60 (.pointer (some ⟨lb, 0, none⟩))) := hw'; go_simp; try with_reducible rfl); simp only [Act.put, List.setIfInBounds_toArray, List.set_cons_zero, List.set_cons_succ]
  refine plS_val (v := ?_) rfl rfl HC.out (fun w' hw' => ?_) ?_; rotate_left; (· have q : w'.cell? ⟨fb, 12, none⟩ = some (.iface 60 (.pointer (some ⟨lb, 0, none⟩))) := hw'; go_simp; try with_reducible rfl); simp only [Act.put, List.setIfInBounds_toArray, List.set_cons_zero, List.set_cons_succ]
  refine plS_call 88 #[.pointer (some ⟨lb, 0, none⟩), .pointer (some ⟨fb, 9, none⟩)] rfl rfl (by go_simp) ?_
  refine HK.out.mono ?_
  rintro e w1 ⟨rfl, h2, o2⟩
  refine ⟨_, rfl, (cell_of_row w1 fb 12 _ _ _ h2.1).trans rfl, ?_⟩
  simp only [Act.put, List.setIfInBounds_toArray, List.set_cons_zero, List.set_cons_succ]
  refine plS_done ?_
  go_wp2_with fail
  go_end0
  exact ⟨rfl, h2, (On2.of_ext (Ext.refl w).drew).trans o2⟩
set_option maxRecDepth 20000 in
theorem fm_3 (fb lb : Nat) (g : Bool) (a : AR) (w : World) (h : FrC w fb lb g (a.fc lb)) :
    Calls Try.prog 45 #[.pointer (some ⟨fb, 0, none⟩)] w fun e w' => e = .returned (.tuple #[]) ∧ FrC w' fb lb (bnA a g 3) ((woA a 3).fc lb) ∧ On2 fb lb w w' := by
  have HC : Hid ((fun w' : World => w'.cell? ⟨fb, 12, none⟩ = some (.iface 60 (.pointer (some ⟨lb, 0, none⟩)))) w.drew) := Lib.hid ((cell_of_row w.drew fb 12 _ _ _ (show w.drew.heap[fb]? = _ from h.1)).trans rfl)
  have h1 : FrC w.drew fb lb g (a.fc lb) := h.ext (Ext.refl w).drew
  have HK := Lib.hid (ltext_look fb lb 10 g (a.fc lb) _ _ h1 rfl)
  have mm := mL_text
  clear h h1
  go_enter Try.func45, Try.ntmps45
  go_wp2_with fail
  refine wp_region_plS (fun w' : World => w'.cell? ⟨fb, 12, none⟩ = some (.iface 60 (.pointer (some ⟨lb, 0, none⟩)))) (.free 0 (.free 1 (.free 2 (.free 3 (.free 4 (.free 5 (.free 6 (.free 7 (.free 8 (.free 9 (.one 10 .nil))))))))))) (by kernel_rfl) (by kernel_rfl) (by kernel_rfl) (by kernel_rfl) ?_
  refine plS_val (v := ?_) rfl rfl HC.out (fun w' hw' => ?_) ?_; rotate_left; (· have q : w'.cell? ⟨fb, 12, none⟩ = some (.iface 60 (.pointer (some ⟨lb, 0, none⟩))) := hw'; go_simp; try with_reducible rfl); simp only [Act.put, List.setIfInBounds_toArray, List.set_cons_zero, List.set_cons_succ]
  refine plS_val (v := ?_) rfl rfl HC.out (fun w' hw' => ?_) ?_; rotate_left; (· have q : w'.cell? ⟨fb, 12, none⟩ = some (.iface 60 (.pointer (some ⟨lb, 0, none⟩))) := hw'; go_simp; try with_reducible rfl); simp only [Act.put, List.setIfInBounds_toArray, List.set_cons_zero, List.set_cons_succ]
  refine plS_val (v := ?_) rfl rfl HC.out (fun w' hw' => ?_) ?_; rotate_left; (· have q : w'.cell? ⟨fb, 12, none⟩ = some (.iface 60 (.pointer (some ⟨lb, 0, none⟩))) := hw'; go_simp; try with_reducible rfl); simp only [Act.put, List.setIfInBounds_toArray, List.set_cons_zero, List.set_cons_succ]
  refine plS_val (v := ?_) rfl rfl HC.out (fun w' hw' => ?_) ?_; rotate_left; (· have q : w'.cell? ⟨fb, 12, none⟩ = some (.iface 60 (.pointer (some ⟨lb, 0, none⟩))) := hw'; go_simp; try with_reducible rfl); simp only [Act.put, List.setIfInBounds_toArray, List.set_cons_zero, List.set_cons_succ]
  refine plS_val (v := ?_) rfl rfl HC.out (fun w' hw' => ?_) ?_; rotate_left; (· have q : w'.cell? ⟨fb, 12, none⟩ = some (.iface 60 (.pointer (some ⟨lb, 0, none⟩))) := hw'; go_simp; try with_reducible rfl); simp only [Act.put, List.setIfInBounds_toArray, List.set_cons_zero, List.set_cons_succ]
  refine plS_val (v := ?_) rfl rfl HC.out (fun w' hw' => ?_) ?_; rotate_left; (· have q : w'.cell? ⟨fb, 12, none⟩ = some (.iface 60 (.pointer (some ⟨lb, 0, none⟩))) := hw'; go_simp; try with_reducible rfl); simp only [Act.put, List.setIfInBounds_toArray, List.set_cons_zero, List.set_cons_succ]
  refine plS_val (v := ?_) rfl rfl HC.out (fun w' hw' => ?_) ?_; rotate_left; (· have q : w'.cell? ⟨fb, 12, none⟩ = some (.iface 60 (.pointer (some ⟨lb, 0, none⟩))) := hw'; go_simp; try with_reducible rfl); simp only [Act.put, List.setIfInBounds_toArray, List.set_cons_zero, List.set_cons_succ]
  refine plS_val (v := ?_) rfl rfl HC.out (fun w' hw' => ?_) ?_; rotate_left; (· have q : w'.cell? ⟨fb, 12, none⟩ = some (.iface 60 (.pointer (some ⟨lb, 0, none⟩))) := hw'; go_simp; try with_reducible rfl); simp only [Act.put, List.setIfInBounds_toArray, List.set_cons_zero, List.set_cons_succ]
  refine plS_val (v := ?_) rfl rfl HC.out (fun w' hw' => ?_) ?_; rotate_left; (· have q : w'.cell? ⟨fb, 12, none⟩ = some (.iface 60 (.pointer (some ⟨lb, 0, none⟩))) := hw'; go_simp; try with_reducible rfl); simp only [Act.put, List.setIfInBounds_toArray, List.set_cons_zero, List.set_cons_succ]
  refine plS_val (v := ?_) rfl rfl HC.out (fun w' hw' => ?_) ?_; rotate_left; (· have q : w'.cell? ⟨fb, 12, none⟩ = some (.iface 60 (.pointer (some ⟨lb, 0, none⟩))) := hw'; go_simp; try with_reducible rfl); simp only [Act.put, List.setIfInBounds_toArray, List.set_cons_zero, List.set_cons_succ]
  refine plS_call 88 #[.pointer (some ⟨lb, 0, none⟩), .pointer (some ⟨fb, 10, none⟩)] rfl rfl (by go_simp) ?_
  refine HK.out.mono ?_
  rintro e w1 ⟨rfl, h2, o2⟩
  refine ⟨_, rfl, (cell_of_row w1 fb 12 _ _ _ h2.1).trans rfl, ?_⟩
  simp only [Act.put, List.setIfInBounds_toArray, List.set_cons_zero, List.set_cons_succ]
  refine plS_done ?_
  go_wp2_with fail
  go_end0
  exact ⟨rfl, h2, (On2.of_ext (Ext.refl w).drew).trans o2⟩
set_option maxRecDepth 20000 in
theorem fm_4 (fb lb : Nat) (g : Bool) (a : AR) (w : World) (h : FrC w fb lb g (a.fc lb)) :
    Calls Try.prog 46 #[.pointer (some ⟨fb, 0, none⟩)] w fun e w' => e = .returned (.tuple #[]) ∧ FrC w' fb lb (bnA a g 4) ((woA a 4).fc lb) ∧ On2 fb lb w w' := by
  have HC : Hid ((fun w' : World => w'.cell? ⟨fb, 12, none⟩ = some (.iface 60 (.pointer (some ⟨lb, 0, none⟩)))) w.drew) := Lib.hid ((cell_of_row w.drew fb 12 _ _ _ (show w.drew.heap[fb]? = _ from h.1)).trans rfl)
  have h1 : FrC w.drew fb lb g (a.fc lb) := h.ext (Ext.refl w).drew
  have HK := Lib.hid (lplace_any fb lb 1 g (a.fc lb) _ _ h1 rfl)
  have mm := mL_place
  clear h h1
  go_enter Try.func46, Try.ntmps46
  go_wp2_with fail
  refine wp_region_plS (fun w' : World => w'.cell? ⟨fb, 12, none⟩ = some (.iface 60 (.pointer (some ⟨lb, 0, none⟩)))) (.free 0 (.free 1 (.free 2 (.free 3 (.free 4 (.free 5 (.free 6 (.free 7 (.free 8 (.free 9 (.one 10 .nil))))))))))) (by kernel_rfl) (by kernel_rfl) (by kernel_rfl) (by kernel_rfl) ?_
  refine plS_val (v := ?_) rfl rfl HC.out (fun w' hw' => ?_) ?_; rotate_left; (· have q : w'.cell? ⟨fb, 12, none⟩ = some (.iface 60 (.pointer (some ⟨lb, 0, none⟩))) := hw'; go_simp; try with_reducible rfl); simp only [Act.put, List.setIfInBounds_toArray, List.set_cons_zero, List.set_cons_succ]
  refine plS_val (v := ?_) rfl rfl HC.out (fun w' hw' => ?_) ?_; rotate_left; (· have q : w'.cell? ⟨fb, 12, none⟩ = some (.iface 60 (.pointer (some ⟨lb, 0, none⟩))) := hw'; go_simp; try with_reducible rfl); simp only [Act.put, List.setIfInBounds_toArray, List.set_cons_zero, List.set_cons_succ]
  refine plS_val (v := ?_) rfl rfl HC.out (fun w' hw' => ?_) ?_; rotate_left; (· have q : w'.cell? ⟨fb, 12, none⟩ = some (.iface 60 (.pointer (some ⟨lb, 0, none⟩))) := hw'; go_simp; try with_reducible rfl); simp only [Act.put, List.setIfInBounds_toArray, List.set_cons_zero, List.set_cons_succ]
  refine plS_val (v := ?_) rfl rfl HC.out (fun w' hw' => ?_) ?_; rotate_left; (· have q : w'.cell? ⟨fb, 12, none⟩ = some (.iface 60 (.pointer (some ⟨lb, 0, none⟩))) := hw'; go_simp; try with_reducible rfl); simp only [Act.put, List.setIfInBounds_toArray, List.set_cons_zero, List.set_cons_succ]
  refine plS_val (v := ?_) rfl rfl HC.out (fun w' hw' => ?_) ?_; rotate_left; (· have q : w'.cell? ⟨fb, 12, none⟩ = some (.iface 60 (.pointer (some ⟨lb, 0, none⟩))) := hw'; go_simp; try with_reducible rfl); simp only [Act.put, List.setIfInBounds_toArray, List.set_cons_zero, List.set_cons_succ]
  refine plS_val (v := ?_) rfl rfl HC.out (fun w' hw' => ?_) ?_; rotate_left; (· have q : w'.cell? ⟨fb, 12, none⟩ = some (.iface 60 (.pointer (some ⟨lb, 0, none⟩))) := hw'; go_simp; try with_reducible rfl); simp only [Act.put, List.setIfInBounds_toArray, List.set_cons_zero, List.set_cons_succ]
  refine plS_val (v := ?_) rfl rfl HC.out (fun w' hw' => ?_) ?_; rotate_left; (· have q : w'.cell? ⟨fb, 12, none⟩ = some (.iface 60 (.pointer (some ⟨lb, 0, none⟩))) := hw'; go_simp; try with_reducible rfl); simp only [Act.put, List.setIfInBounds_toArray, List.set_cons_zero, List.set_cons_succ]
  refine plS_val (v := ?_) rfl rfl HC.out (fun w' hw' => ?_) ?_; rotate_left; (· have q : w'.cell? ⟨fb, 12, none⟩ = some (.iface 60 (.pointer (some ⟨lb, 0, none⟩))) := hw'; go_simp; try with_reducible rfl); simp only [Act.put, List.setIfInBounds_toArray, List.set_cons_zero, List.set_cons_succ]
  refine plS_val (v := ?_) rfl rfl HC.out (fun w' hw' => ?_) ?_; rotate_left; (· have q : w'.cell? ⟨fb, 12, none⟩ = some (.iface 60 (.pointer (some ⟨lb, 0, none⟩))) := hw'; go_simp; try with_reducible rfl); simp only [Act.put, List.setIfInBounds_toArray, List.set_cons_zero, List.set_cons_succ]
  refine plS_val (v := ?_) rfl rfl HC.out (fun w' hw' => ?_) ?_; rotate_left; (· have q : w'.cell? ⟨fb, 12, none⟩ = some (.iface 60 (.pointer (some ⟨lb, 0, none⟩))) := hw'; go_simp; try with_reducible rfl); simp only [Act.put, List.setIfInBounds_toArray, List.set_cons_zero, List.set_cons_succ]
  refine plS_call 87 #[.pointer (some ⟨lb, 0, none⟩), .pointer (some ⟨fb, 1, none⟩)] rfl rfl (by go_simp) ?_
  refine HK.out.mono ?_
  rintro e w1 ⟨rfl, h2, o2⟩
  refine ⟨_, rfl, (cell_of_row w1 fb 12 _ _ _ h2.1).trans rfl, ?_⟩
  simp only [Act.put, List.setIfInBounds_toArray, List.set_cons_zero, List.set_cons_succ]
  refine plS_done ?_
  go_wp2_with fail
  go_end0
  exact ⟨rfl, h2, (On2.of_ext (Ext.refl w).drew).trans o2⟩
set_option maxRecDepth 20000 in
theorem fm_5 (fb lb : Nat) (g : Bool) (a : AR) (w : World) (h : FrC w fb lb g (a.fc lb)) :
    Calls Try.prog 47 #[.pointer (some ⟨fb, 0, none⟩)] w fun e w' => e = .returned (.tuple #[]) ∧ FrC w' fb lb (bnA a g 5) ((woA a 5).fc lb) ∧ On2 fb lb w w' := by
  have HC : Hid ((fun w' : World => w'.cell? ⟨fb, 12, none⟩ = some (.iface 60 (.pointer (some ⟨lb, 0, none⟩)))) w.drew) := Lib.hid ((cell_of_row w.drew fb 12 _ _ _ (show w.drew.heap[fb]? = _ from h.1)).trans rfl)
  have h1 : FrC w.drew fb lb g (a.fc lb) := h.ext (Ext.refl w).drew
  have HK := Lib.hid (lnumber_any fb lb 2 g (a.fc lb) _ _ h1 rfl)
  have mm := mL_number
  clear h h1
  go_enter Try.func47, Try.ntmps47
  go_wp2_with fail
  refine wp_region_plS (fun w' : World => w'.cell? ⟨fb, 12, none⟩ = some (.iface 60 (.pointer (some ⟨lb, 0, none⟩)))) (.free 0 (.free 1 (.free 2 (.free 3 (.free 4 (.free 5 (.free 6 (.free 7 (.free 8 (.free 9 (.one 10 .nil))))))))))) (by kernel_rfl) (by kernel_rfl) (by kernel_rfl) (by kernel_rfl) ?_
  refine plS_val (v := ?_) rfl rfl HC.out (fun w' hw' => ?_) ?_; rotate_left; (· have q : w'.cell? ⟨fb, 12, none⟩ = some (.iface 60 (.pointer (some ⟨lb, 0, none⟩))) := hw'; go_simp; try with_reducible rfl); simp only [Act.put, List.setIfInBounds_toArray, List.set_cons_zero, List.set_cons_succ]
  refine plS_val (v := ?_) rfl rfl HC.out (fun w' hw' => ?_) ?_; rotate_left; (· have q : w'.cell? ⟨fb, 12, none⟩ = some (.iface 60 (.pointer (some ⟨lb, 0, none⟩))) := hw'; go_simp; try with_reducible rfl); simp only [Act.put, List.setIfInBounds_toArray, List.set_cons_zero, List.set_cons_succ]
  refine plS_val (v := ?_) rfl rfl HC.out (fun w' hw' => ?_) ?_; rotate_left; (· have q : w'.cell? ⟨fb, 12, none⟩ = some (.iface 60 (.pointer (some ⟨lb, 0, none⟩))) := hw'; go_simp; try with_reducible rfl); simp only [Act.put, List.setIfInBounds_toArray, List.set_cons_zero, List.set_cons_succ]
  refine plS_val (v := ?_) rfl rfl HC.out (fun w' hw' => ?_) ?_; rotate_left; (· have q : w'.cell? ⟨fb, 12, none⟩ = some (.iface 60 (.pointer (some ⟨lb, 0, none⟩))) := hw'; go_simp; try with_reducible rfl); simp only [Act.put, List.setIfInBounds_toArray, List.set_cons_zero, List.set_cons_succ]
  refine plS_val (v := ?_) rfl rfl HC.out (fun w' hw' => ?_) ?_; rotate_left; (· have q : w'.cell? ⟨fb, 12, none⟩ = some (.iface 60 (.pointer (some ⟨lb, 0, none⟩))) := hw'; go_simp; try with_reducible rfl); simp only [Act.put, List.setIfInBounds_toArray, List.set_cons_zero, List.set_cons_succ]
  refine plS_val (v := ?_) rfl rfl HC.out (fun w' hw' => ?_) ?_; rotate_left; (· have q : w'.cell? ⟨fb, 12, none⟩ = some (.iface 60 (.pointer (some ⟨lb, 0, none⟩))) := hw'; go_simp; try with_reducible rfl); simp only [Act.put, List.setIfInBounds_toArray, List.set_cons_zero, List.set_cons_succ]
  refine plS_val (v := ?_) rfl rfl HC.out (fun w' hw' => ?_) ?_; rotate_left; (· have q : w'.cell? ⟨fb, 12, none⟩ = some (.iface 60 (.pointer (some ⟨lb, 0, none⟩))) := hw'; go_simp; try with_reducible rfl); simp only [Act.put, List.setIfInBounds_toArray, List.set_cons_zero, List.set_cons_succ]
  refine plS_val (v := ?_) rfl rfl HC.out (fun w' hw' => ?_) ?_; rotate_left; (· have q : w'.cell? ⟨fb, 12, none⟩ = some (.iface 60 (.pointer (some ⟨lb, 0, none⟩))) := hw'; go_simp; try with_reducible rfl); simp only [Act.put, List.setIfInBounds_toArray, List.set_cons_zero, List.set_cons_succ]
  refine plS_val (v := ?_) rfl rfl HC.out (fun w' hw' => ?_) ?_; rotate_left; (· have q : w'.cell? ⟨fb, 12, none⟩ = some (.iface 60 (.pointer (some ⟨lb, 0, none⟩))) := hw'; go_simp; try with_reducible rfl); simp only [Act.put, List.setIfInBounds_toArray, List.set_cons_zero, List.set_cons_succ]
  refine plS_val (v := ?_) rfl rfl HC.out (fun w' hw' => ?_) ?_; rotate_left; (· have q : w'.cell? ⟨fb, 12, none⟩ = some (.iface 60 (.pointer (some ⟨lb, 0, none⟩))) := hw'; go_simp; try with_reducible rfl); simp only [Act.put, List.setIfInBounds_toArray, List.set_cons_zero, List.set_cons_succ]
  refine plS_call 86 #[.pointer (some ⟨lb, 0, none⟩), .pointer (some ⟨fb, 2, none⟩)] rfl rfl (by go_simp) ?_
  refine HK.out.mono ?_
  rintro e w1 ⟨rfl, h2, o2⟩
  refine ⟨_, rfl, (cell_of_row w1 fb 12 _ _ _ h2.1).trans rfl, ?_⟩
  simp only [Act.put, List.setIfInBounds_toArray, List.set_cons_zero, List.set_cons_succ]
  refine plS_done ?_
  go_wp2_with fail
  go_end0
  exact ⟨rfl, h2, (On2.of_ext (Ext.refl w).drew).trans o2⟩
set_option maxRecDepth 20000 in
theorem fm_6 (fb lb : Nat) (g : Bool) (a : AR) (w : World) (h : FrC w fb lb g (a.fc lb)) :
    Calls Try.prog 48 #[.pointer (some ⟨fb, 0, none⟩)] w fun e w' => e = .returned (.tuple #[]) ∧ FrC w' fb lb (bnA a g 6) ((woA a 6).fc lb) ∧ On2 fb lb w w' := by
  have HC : Hid ((fun w' : World => w'.cell? ⟨fb, 12, none⟩ = some (.iface 60 (.pointer (some ⟨lb, 0, none⟩)))) w.drew) := Lib.hid ((cell_of_row w.drew fb 12 _ _ _ (show w.drew.heap[fb]? = _ from h.1)).trans rfl)
  have h1 : FrC w.drew fb lb g (a.fc lb) := h.ext (Ext.refl w).drew
  have HK := Lib.hid (lnumber_any fb lb 3 g (a.fc lb) _ _ h1 rfl)
  have mm := mL_number
  clear h h1
  go_enter Try.func48, Try.ntmps48
  go_wp2_with fail
  refine wp_region_plS (fun w' : World => w'.cell? ⟨fb, 12, none⟩ = some (.iface 60 (.pointer (some ⟨lb, 0, none⟩)))) (.free 0 (.free 1 (.free 2 (.free 3 (.free 4 (.free 5 (.free 6 (.free 7 (.free 8 (.free 9 (.one 10 .nil))))))))))) (by kernel_rfl) (by kernel_rfl) (by kernel_rfl) (by kernel_rfl) ?_
  refine plS_val (v := ?_) rfl rfl HC.out (fun w' hw' => ?_) ?_; rotate_left; (· have q : w'.cell? ⟨fb, 12, none⟩ = some (.iface 60 (.pointer (some ⟨lb, 0, none⟩))) := hw'; go_simp; try with_reducible rfl); simp only [Act.put, List.setIfInBounds_toArray, List.set_cons_zero, List.set_cons_succ]
  refine plS_val (v := ?_) rfl rfl HC.out (fun w' hw' => ?_) ?_; rotate_left; (· have q : w'.cell? ⟨fb, 12, none⟩ = some (.iface 60 (.pointer (some ⟨lb, 0, none⟩))) := hw'; go_simp; try with_reducible rfl); simp only [Act.put, List.setIfInBounds_toArray, List.set_cons_zero, List.set_cons_succ]
  refine plS_val (v := ?_) rfl rfl HC.out (fun w' hw' => ?_) ?_; rotate_left; (· have q : w'.cell? ⟨fb, 12, none⟩ = some (.iface 60 (.pointer (some ⟨lb, 0, none⟩))) := hw'; go_simp; try with_reducible rfl); simp only [Act.put, List.setIfInBounds_toArray, List.set_cons_zero, List.set_cons_succ]
  refine plS_val (v := ?_) rfl rfl HC.out (fun w' hw' => ?_) ?_; rotate_left; (· have q : w'.cell? ⟨fb, 12, none⟩ = some (.iface 60 (.pointer (some ⟨lb, 0, none⟩))) := hw'; go_simp; try with_reducible rfl); simp only [Act.put, List.setIfInBounds_toArray, List.set_cons_zero, List.set_cons_succ]
  refine plS_val (v := ?_) rfl rfl HC.out (fun w' hw' => ?_) ?_; rotate_left; (· have q : w'.cell? ⟨fb, 12, none⟩ = some (.iface 60 (.pointer (some ⟨lb, 0, none⟩))) := hw'; go_simp; try with_reducible rfl); simp only [Act.put, List.setIfInBounds_toArray, List.set_cons_zero, List.set_cons_succ]
  refine plS_val (v := ?_) rfl rfl HC.out (fun w' hw' => ?_) ?_; rotate_left; (· have q : w'.cell? ⟨fb, 12, none⟩ = some (.iface 60 (.pointer (some ⟨lb, 0, none⟩))) := hw'; go_simp; try with_reducible rfl); simp only [Act.put, List.setIfInBounds_toArray, List.set_cons_zero, List.set_cons_succ]
  refine plS_val (v := ?_) rfl rfl HC.out (fun w' hw' => ?_) ?_; rotate_left; (· have q : w'.cell? ⟨fb, 12, none⟩ = some (.iface 60 (.pointer (some ⟨lb, 0, none⟩))) := hw'; go_simp; try with_reducible rfl); simp only [Act.put, List.setIfInBounds_toArray, List.set_cons_zero, List.set_cons_succ]
  refine plS_val (v := ?_) rfl rfl HC.out (fun w' hw' => ?_) ?_; rotate_left; (· have q : w'.cell? ⟨fb, 12, none⟩ = some (.iface 60 (.pointer (some ⟨lb, 0, none⟩))) := hw'; go_simp; try with_reducible rfl); simp only [Act.put, List.setIfInBounds_toArray, List.set_cons_zero, List.set_cons_succ]
  refine plS_val (v := ?_) rfl rfl HC.out (fun w' hw' => ?_) ?_; rotate_left; (· have q : w'.cell? ⟨fb, 12, none⟩ = some (.iface 60 (.pointer (some ⟨lb, 0, none⟩))) := hw'; go_simp; try with_reducible rfl); simp only [Act.put, List.setIfInBounds_toArray, List.set_cons_zero, List.set_cons_succ]
  refine plS_val (v := ?_) rfl rfl HC.out (fun w' hw' => ?_) ?_; rotate_left; (· have q : w'.cell? ⟨fb, 12, none⟩ = some (.iface 60 (.pointer (some ⟨lb, 0, none⟩))) := hw'; go_simp; try with_reducible rfl); simp only [Act.put, List.setIfInBounds_toArray, List.set_cons_zero, List.set_cons_succ]
  refine plS_call 86 #[.pointer (some ⟨lb, 0, none⟩), .pointer (some ⟨fb, 3, none⟩)] rfl rfl (by go_simp) ?_
  refine HK.out.mono ?_
  rintro e w1 ⟨rfl, h2, o2⟩
  refine ⟨_, rfl, (cell_of_row w1 fb 12 _ _ _ h2.1).trans rfl, ?_⟩
  simp only [Act.put, List.setIfInBounds_toArray, List.set_cons_zero, List.set_cons_succ]
  refine plS_done ?_
  go_wp2_with fail
  go_end0
  exact ⟨rfl, h2, (On2.of_ext (Ext.refl w).drew).trans o2⟩
set_option maxRecDepth 20000 in
theorem fm_7 (fb lb : Nat) (g : Bool) (a : AR) (w : World) (h : FrC w fb lb g (a.fc lb)) :
    Calls Try.prog 49 #[.pointer (some ⟨fb, 0, none⟩)] w fun e w' => e = .returned (.tuple #[]) ∧ FrC w' fb lb (bnA a g 7) ((woA a 7).fc lb) ∧ On2 fb lb w w' := by
  have HC : Hid ((fun w' : World => w'.cell? ⟨fb, 12, none⟩ = some (.iface 60 (.pointer (some ⟨lb, 0, none⟩)))) w.drew) := Lib.hid ((cell_of_row w.drew fb 12 _ _ _ (show w.drew.heap[fb]? = _ from h.1)).trans rfl)
  have h1 : FrC w.drew fb lb g (a.fc lb) := h.ext (Ext.refl w).drew
  have HK := Lib.hid (lnumber_any fb lb 4 g (a.fc lb) _ _ h1 rfl)
  have mm := mL_number
  clear h h1
  go_enter Try.func49, Try.ntmps49
  go_wp2_with fail
  refine wp_region_plS (fun w' : World => w'.cell? ⟨fb, 12, none⟩ = some (.iface 60 (.pointer (some ⟨lb, 0, none⟩)))) (.free 0 (.free 1 (.free 2 (.free 3 (.free 4 (.free 5 (.free 6 (.free 7 (.free 8 (.free 9 (.one 10 .nil))))))))))) (by kernel_rfl) (by kernel_rfl) (by kernel_rfl) (by kernel_rfl) ?_
  refine plS_val (v := ?_) rfl rfl HC.out (fun w' hw' => ?_) ?_; rotate_left; (· have q : w'.cell? ⟨fb, 12, none⟩ = some (.iface 60 (.pointer (some ⟨lb, 0, none⟩))) := hw'; go_simp; try with_reducible rfl); simp only [Act.put, List.setIfInBounds_toArray, List.set_cons_zero, List.set_cons_succ]
  refine plS_val (v := ?_) rfl rfl HC.out (fun w' hw' => ?_) ?_; rotate_left; (· have q : w'.cell? ⟨fb, 12, none⟩ = some (.iface 60 (.pointer (some ⟨lb, 0, none⟩))) := hw'; go_simp; try with_reducible rfl); simp only [Act.put, List.setIfInBounds_toArray, List.set_cons_zero, List.set_cons_succ]
  refine plS_val (v := ?_) rfl rfl HC.out (fun w' hw' => ?_) ?_; rotate_left; (· have q : w'.cell? ⟨fb, 12, none⟩ = some (.iface 60 (.pointer (some ⟨lb, 0, none⟩))) := hw'; go_simp; try with_reducible rfl); simp only [Act.put, List.setIfInBounds_toArray, List.set_cons_zero, List.set_cons_succ]
  refine plS_val (v := ?_) rfl rfl HC.out (fun w' hw' => ?_) ?_; rotate_left; (· have q : w'.cell? ⟨fb, 12, none⟩ = some (.iface 60 (.pointer (some ⟨lb, 0, none⟩))) := hw'; go_simp; try with_reducible rfl); simp only [Act.put, List.setIfInBounds_toArray, List.set_cons_zero, List.set_cons_succ]
  refine plS_val (v := ?_) rfl rfl HC.out (fun w' hw' => ?_) ?_; rotate_left; (· have q : w'.cell? ⟨fb, 12, none⟩ = some (.iface 60 (.pointer (some ⟨lb, 0, none⟩))) := hw'; go_simp; try with_reducible rfl); simp only [Act.put, List.setIfInBounds_toArray, List.set_cons_zero, List.set_cons_succ]
  refine plS_val (v := ?_) rfl rfl HC.out (fun w' hw' => ?_) ?_; rotate_left; (· have q : w'.cell? ⟨fb, 12, none⟩ = some (.iface 60 (.pointer (some ⟨lb, 0, none⟩))) := hw'; go_simp; try with_reducible rfl); simp only [Act.put, List.setIfInBounds_toArray, List.set_cons_zero, List.set_cons_succ]
  refine plS_val (v := ?_) rfl rfl HC.out (fun w' hw' => ?_) ?_; rotate_left; (· have q : w'.cell? ⟨fb, 12, none⟩ = some (.iface 60 (.pointer (some ⟨lb, 0, none⟩))) := hw'; go_simp; try with_reducible rfl); simp only [Act.put, List.setIfInBounds_toArray, List.set_cons_zero, List.set_cons_succ]
  refine plS_val (v := ?_) rfl rfl HC.out (fun w' hw' => ?_) ?_; rotate_left; (· have q : w'.cell? ⟨fb, 12, none⟩ = some (.iface 60 (.pointer (some ⟨lb, 0, none⟩))) := hw'; go_simp; try with_reducible rfl); simp only [Act.put, List.setIfInBounds_toArray, List.set_cons_zero, List.set_cons_succ]
  refine plS_val (v := ?_) rfl rfl HC.out (fun w' hw' => ?_) ?_; rotate_left; (· have q : w'.cell? ⟨fb, 12, none⟩ = some (.iface 60 (.pointer (some ⟨lb, 0, none⟩))) := hw'; go_simp; try with_reducible rfl); simp only [Act.put, List.setIfInBounds_toArray, List.set_cons_zero, List.set_cons_succ]
  refine plS_val (v := ?_) rfl rfl HC.out (fun w' hw' => ?_) ?_; rotate_left; (· have q : w'.cell? ⟨fb, 12, none⟩ = some (.iface 60 (.pointer (some ⟨lb, 0, none⟩))) := hw'; go_simp; try with_reducible rfl); simp only [Act.put, List.setIfInBounds_toArray, List.set_cons_zero, List.set_cons_succ]
  refine plS_call 86 #[.pointer (some ⟨lb, 0, none⟩), .pointer (some ⟨fb, 4, none⟩)] rfl rfl (by go_simp) ?_
  refine HK.out.mono ?_
  rintro e w1 ⟨rfl, h2, o2⟩
  refine ⟨_, rfl, (cell_of_row w1 fb 12 _ _ _ h2.1).trans rfl, ?_⟩
  simp only [Act.put, List.setIfInBounds_toArray, List.set_cons_zero, List.set_cons_succ]
  refine plS_done ?_
  go_wp2_with fail
  go_end0
  exact ⟨rfl, h2, (On2.of_ext (Ext.refl w).drew).trans o2⟩
set_option maxRecDepth 20000 in
theorem fm_8 (fb lb : Nat) (g : Bool) (a : AR) (w : World) (h : FrC w fb lb g (a.fc lb)) :
    Calls Try.prog 50 #[.pointer (some ⟨fb, 0, none⟩)] w fun e w' => e = .returned (.tuple #[]) ∧ FrC w' fb lb (bnA a g 8) ((woA a 8).fc lb) ∧ On2 fb lb w w' := by
  have HC : Hid ((fun w' : World => w'.cell? ⟨fb, 12, none⟩ = some (.iface 60 (.pointer (some ⟨lb, 0, none⟩)))) w.drew) := Lib.hid ((cell_of_row w.drew fb 12 _ _ _ (show w.drew.heap[fb]? = _ from h.1)).trans rfl)
  have h1 : FrC w.drew fb lb g (a.fc lb) := h.ext (Ext.refl w).drew
  have HK := Lib.hid (ldata_look fb lb 11 g (a.fc lb) _ _ _ _ h1 rfl)
  have mm := mL_data
  clear h h1
  go_enter Try.func50, Try.ntmps50
  go_wp2_with fail
  refine wp_region_plS (fun w' : World => w'.cell? ⟨fb, 12, none⟩ = some (.iface 60 (.pointer (some ⟨lb, 0, none⟩)))) (.free 0 (.free 1 (.free 2 (.free 3 (.free 4 (.free 5 (.free 6 (.free 7 (.free 8 (.free 9 (.one 10 .nil))))))))))) (by kernel_rfl) (by kernel_rfl) (by kernel_rfl) (by kernel_rfl) ?_
  refine plS_val (v := ?_) rfl rfl HC.out (fun w' hw' => ?_) ?_; rotate_left; (· have q : w'.cell? ⟨fb, 12, none⟩ = some (.iface 60 (.pointer (some ⟨lb, 0, none⟩))) := hw'; go_simp; try with_reducible rfl); simp only [Act.put, List.setIfInBounds_toArray, List.set_cons_zero, List.set_cons_succ]
  refine plS_val (v := ?_) rfl rfl HC.out (fun w' hw' => ?_) ?_; rotate_left; (· have q : w'.cell? ⟨fb, 12, none⟩ = some (.iface 60 (.pointer (some ⟨lb, 0, none⟩))) := hw'; go_simp; try with_reducible rfl); simp only [Act.put, List.setIfInBounds_toArray, List.set_cons_zero, List.set_cons_succ]
  refine plS_val (v := ?_) rfl rfl HC.out (fun w' hw' => ?_) ?_; rotate_left; (· have q : w'.cell? ⟨fb, 12, none⟩ = some (.iface 60 (.pointer (some ⟨lb, 0, none⟩))) := hw'; go_simp; try with_reducible rfl); simp only [Act.put, List.setIfInBounds_toArray, List.set_cons_zero, List.set_cons_succ]
  refine plS_val (v := ?_) rfl rfl HC.out (fun w' hw' => ?_) ?_; rotate_left; (· have q : w'.cell? ⟨fb, 12, none⟩ = some (.iface 60 (.pointer (some ⟨lb, 0, none⟩))) := hw'; go_simp; try with_reducible rfl); simp only [Act.put, List.setIfInBounds_toArray, List.set_cons_zero, List.set_cons_succ]
  refine plS_val (v := ?_) rfl rfl HC.out (fun w' hw' => ?_) ?_; rotate_left; (· have q : w'.cell? ⟨fb, 12, none⟩ = some (.iface 60 (.pointer (some ⟨lb, 0, none⟩))) := hw'; go_simp; try with_reducible rfl); simp only [Act.put, List.setIfInBounds_toArray, List.set_cons_zero, List.set_cons_succ]
  refine plS_val (v := ?_) rfl rfl HC.out (fun w' hw' => ?_) ?_; rotate_left; (· have q : w'.cell? ⟨fb, 12, none⟩ = some (.iface 60 (.pointer (some ⟨lb, 0, none⟩))) := hw'; go_simp; try with_reducible rfl); simp only [Act.put, List.setIfInBounds_toArray, List.set_cons_zero, List.set_cons_succ]
  refine plS_val (v := ?_) rfl rfl HC.out (fun w' hw' => ?_) ?_; rotate_left; (· have q : w'.cell? ⟨fb, 12, none⟩ = some (.iface 60 (.pointer (some ⟨lb, 0, none⟩))) := hw'; go_simp; try with_reducible rfl); simp only [Act.put, List.setIfInBounds_toArray, List.set_cons_zero, List.set_cons_succ]
  refine plS_val (v := ?_) rfl rfl HC.out (fun w' hw' => ?_) ?_; rotate_left; (· have q : w'.cell? ⟨fb, 12, none⟩ = some (.iface 60 (.pointer (some ⟨lb, 0, none⟩))) := hw'; go_simp; try with_reducible rfl); simp only [Act.put, List.setIfInBounds_toArray, List.set_cons_zero, List.set_cons_succ]
  refine plS_val (v := ?_) rfl rfl HC.out (fun w' hw' => ?_) ?_; rotate_left; (· have q : w'.cell? ⟨fb, 12, none⟩ = some (.iface 60 (.pointer (some ⟨lb, 0, none⟩))) := hw'; go_simp; try with_reducible rfl); simp only [Act.put, List.setIfInBounds_toArray, List.set_cons_zero, List.set_cons_succ]
  refine plS_val (v := ?_) rfl rfl HC.out (fun w' hw' => ?_) ?_; rotate_left; (· have q : w'.cell? ⟨fb, 12, none⟩ = some (.iface 60 (.pointer (some ⟨lb, 0, none⟩))) := hw'; go_simp; try with_reducible rfl); simp only [Act.put, List.setIfInBounds_toArray, List.set_cons_zero, List.set_cons_succ]
  refine plS_call 84 #[.pointer (some ⟨lb, 0, none⟩), .pointer (some ⟨fb, 11, none⟩)] rfl rfl (by go_simp) ?_
  refine HK.out.mono ?_
  rintro e w1 ⟨rfl, h2, o2⟩
  refine ⟨_, rfl, (cell_of_row w1 fb 12 _ _ _ h2.1).trans rfl, ?_⟩
  simp only [Act.put, List.setIfInBounds_toArray, List.set_cons_zero, List.set_cons_succ]
  refine plS_done ?_
  go_wp2_with fail
  go_end0
  exact ⟨rfl, h2, (On2.of_ext (Ext.refl w).drew).trans o2⟩
end Go.Proofs.Ytpjigdfllbhknaa
