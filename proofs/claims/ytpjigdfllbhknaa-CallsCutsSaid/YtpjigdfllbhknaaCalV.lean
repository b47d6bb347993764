/-
  Layer 14: the frame with any hand: each of its ways to one field, and the way through all.
-/
import Derived.Test.YtpjigdfllbhknaaCalI
namespace Go.Proofs.Ytpjigdfllbhknaa
open Go Go.RowKit
set_option linter.unusedVariables false
set_option linter.unusedSimpArgs false
/-- All blocks but some are as they were. -/
structure OnP (S : Nat → Prop) (w w' : World) : Prop where
  os : w'.os = w.os
  tape : w'.tape = w.tape
  output : w'.output = w.output
  size : w.heap.size ≤ w'.heap.size
  block : ∀ k, k < w.heap.size → ¬ S k → w'.heap[k]? = w.heap[k]?
theorem OnP.refl (S : Nat → Prop) (w : World) : OnP S w w := ⟨rfl, rfl, rfl, Nat.le_refl _, fun _ _ _ => rfl⟩
theorem OnP.of_ext {S : Nat → Prop} {a b : World} (h : Ext a b) : OnP S a b := ⟨h.os, h.tape, h.output, h.size, fun k hk _ => h.block k hk⟩
theorem OnP.trans {S : Nat → Prop} {a b c : World} (h : OnP S a b) (k : OnP S b c) : OnP S a c :=
  ⟨k.os.trans h.os, k.tape.trans h.tape, k.output.trans h.output, Nat.le_trans h.size k.size, fun i hi h1 => (k.block i (Nat.lt_of_lt_of_le hi h.size) h1).trans (h.block i hi h1)⟩
theorem OnP.of_on2 {S : Nat → Prop} {tb mb : Nat} {a b : World} (h : On2 tb mb a b) (h1 : S tb) (h2 : S mb) : OnP S a b := ⟨h.os, h.tape, h.output, h.size, fun k hk hs => h.block k hk (fun e => hs (e ▸ h1)) (fun e => hs (e ▸ h2))⟩
theorem OnP.ext {S : Nat → Prop} {a b c : World} (h : Ext a b) (k : OnP S b c) (h1 : ∀ i, S i → a.heap.size ≤ i) : Ext a c :=
  ⟨k.os.trans h.os, k.tape.trans h.tape, k.output.trans h.output, Nat.le_trans h.size k.size, fun i hi => (k.block i (Nat.lt_of_lt_of_le hi h.size) (fun e => by have := h1 i e; omega)).trans (h.block i hi)⟩
theorem OnP.heap {S : Nat → Prop} {k : Nat} {a b : World} {o : Obj} (h : OnP S a b) (hk : a.heap[k]? = some o) (h1 : ¬ S k) : b.heap[k]? = some o :=
  (h.block k (Array.getElem?_eq_some_iff.1 hk).1 h1).trans hk
/-- The frame's way to a field. -/
def fmF : Nat → FuncId
  | 0 => 42
  | 1 => 43
  | 2 => 44
  | 3 => 45
  | 4 => 46
  | 5 => 47
  | 6 => 48
  | 7 => 49
  | _ => 50
set_option maxRecDepth 20000 in
theorem fmg_0 (fb hb : Nat) (HT : TypeId) (m : FuncId) (w : World) (R : World → Prop) (hc : w.cell? ⟨fb, 12, none⟩ = some (.iface HT (.pointer (some ⟨hb, 0, none⟩))))
    (mm : ∀ v w, (Go.method 226 HT v "truchman/calls.handle").run Try.prog w = .ok (m, v) w)
    (mc : ∀ args w, (callFunc m args).run Try.prog w = .ok (Next.enter m args) w)
    (hk : Calls Try.prog m #[.pointer (some ⟨hb, 0, none⟩), .pointer (some ⟨fb, 5, none⟩)] w.drew fun e w' => e = .returned (.tuple #[]) ∧ R w') (hR : ∀ w', R w' → w'.cell? ⟨fb, 12, none⟩ = some (.iface HT (.pointer (some ⟨hb, 0, none⟩)))) :
    Calls Try.prog 42 #[.pointer (some ⟨fb, 0, none⟩)] w fun e w' => e = .returned (.tuple #[]) ∧ R w' := by
  have HC : Hid ((fun w' : World => w'.cell? ⟨fb, 12, none⟩ = some (.iface HT (.pointer (some ⟨hb, 0, none⟩)))) w.drew) := Lib.hid hc
  have HK := Lib.hid hk
  have HR := Lib.hid hR
  clear hc hk hR
  go_enter Try.func42, Try.ntmps42
  go_wp2_with fail
  refine wp_region_plS (fun w' : World => w'.cell? ⟨fb, 12, none⟩ = some (.iface HT (.pointer (some ⟨hb, 0, none⟩)))) (.free 0 (.free 1 (.free 2 (.free 3 (.free 4 (.free 5 (.free 6 (.free 7 (.free 8 (.free 9 (.one 10 .nil))))))))))) (by kernel_rfl) (by kernel_rfl) (by kernel_rfl) (by kernel_rfl) ?_
  refine plS_val (v := ?_) rfl rfl HC.out (fun w' hw' => ?_) ?_; rotate_left; (· have q : w'.cell? ⟨fb, 12, none⟩ = some (.iface HT (.pointer (some ⟨hb, 0, none⟩))) := hw'; go_simp; try with_reducible rfl); simp only [Act.put, List.setIfInBounds_toArray, List.set_cons_zero, List.set_cons_succ]
  refine plS_val (v := ?_) rfl rfl HC.out (fun w' hw' => ?_) ?_; rotate_left; (· have q : w'.cell? ⟨fb, 12, none⟩ = some (.iface HT (.pointer (some ⟨hb, 0, none⟩))) := hw'; go_simp; try with_reducible rfl); simp only [Act.put, List.setIfInBounds_toArray, List.set_cons_zero, List.set_cons_succ]
  refine plS_val (v := ?_) rfl rfl HC.out (fun w' hw' => ?_) ?_; rotate_left; (· have q : w'.cell? ⟨fb, 12, none⟩ = some (.iface HT (.pointer (some ⟨hb, 0, none⟩))) := hw'; go_simp; try with_reducible rfl); simp only [Act.put, List.setIfInBounds_toArray, List.set_cons_zero, List.set_cons_succ]
  refine plS_val (v := ?_) rfl rfl HC.out (fun w' hw' => ?_) ?_; rotate_left; (· have q : w'.cell? ⟨fb, 12, none⟩ = some (.iface HT (.pointer (some ⟨hb, 0, none⟩))) := hw'; go_simp; try with_reducible rfl); simp only [Act.put, List.setIfInBounds_toArray, List.set_cons_zero, List.set_cons_succ]
  refine plS_val (v := ?_) rfl rfl HC.out (fun w' hw' => ?_) ?_; rotate_left; (· have q : w'.cell? ⟨fb, 12, none⟩ = some (.iface HT (.pointer (some ⟨hb, 0, none⟩))) := hw'; go_simp; try with_reducible rfl); simp only [Act.put, List.setIfInBounds_toArray, List.set_cons_zero, List.set_cons_succ]
  refine plS_val (v := ?_) rfl rfl HC.out (fun w' hw' => ?_) ?_; rotate_left; (· have q : w'.cell? ⟨fb, 12, none⟩ = some (.iface HT (.pointer (some ⟨hb, 0, none⟩))) := hw'; go_simp; try with_reducible rfl); simp only [Act.put, List.setIfInBounds_toArray, List.set_cons_zero, List.set_cons_succ]
  refine plS_val (v := ?_) rfl rfl HC.out (fun w' hw' => ?_) ?_; rotate_left; (· have q : w'.cell? ⟨fb, 12, none⟩ = some (.iface HT (.pointer (some ⟨hb, 0, none⟩))) := hw'; go_simp; try with_reducible rfl); simp only [Act.put, List.setIfInBounds_toArray, List.set_cons_zero, List.set_cons_succ]
  refine plS_val (v := ?_) rfl rfl HC.out (fun w' hw' => ?_) ?_; rotate_left; (· have q : w'.cell? ⟨fb, 12, none⟩ = some (.iface HT (.pointer (some ⟨hb, 0, none⟩))) := hw'; go_simp; try with_reducible rfl); simp only [Act.put, List.setIfInBounds_toArray, List.set_cons_zero, List.set_cons_succ]
  refine plS_val (v := ?_) rfl rfl HC.out (fun w' hw' => ?_) ?_; rotate_left; (· have q : w'.cell? ⟨fb, 12, none⟩ = some (.iface HT (.pointer (some ⟨hb, 0, none⟩))) := hw'; go_simp; try with_reducible rfl); simp only [Act.put, List.setIfInBounds_toArray, List.set_cons_zero, List.set_cons_succ]
  refine plS_val (v := ?_) rfl rfl HC.out (fun w' hw' => ?_) ?_; rotate_left; (· have q : w'.cell? ⟨fb, 12, none⟩ = some (.iface HT (.pointer (some ⟨hb, 0, none⟩))) := hw'; go_simp; try with_reducible rfl); simp only [Act.put, List.setIfInBounds_toArray, List.set_cons_zero, List.set_cons_succ]
  refine plS_call m #[.pointer (some ⟨hb, 0, none⟩), .pointer (some ⟨fb, 5, none⟩)] rfl rfl (by go_simp) ?_
  refine HK.out.mono ?_
  rintro e w1 ⟨rfl, h2⟩
  refine ⟨_, rfl, HR.out _ h2, ?_⟩
  simp only [Act.put, List.setIfInBounds_toArray, List.set_cons_zero, List.set_cons_succ]
  refine plS_done ?_
  go_wp2_with fail
  go_end0
  exact ⟨rfl, h2⟩
set_option maxRecDepth 20000 in
theorem fmg_1 (fb hb : Nat) (HT : TypeId) (m : FuncId) (w : World) (R : World → Prop) (hc : w.cell? ⟨fb, 12, none⟩ = some (.iface HT (.pointer (some ⟨hb, 0, none⟩))))
    (mm : ∀ v w, (Go.method 226 HT v "truchman/calls.handle").run Try.prog w = .ok (m, v) w)
    (mc : ∀ args w, (callFunc m args).run Try.prog w = .ok (Next.enter m args) w)
    (hk : Calls Try.prog m #[.pointer (some ⟨hb, 0, none⟩), .pointer (some ⟨fb, 7, none⟩)] w.drew fun e w' => e = .returned (.tuple #[]) ∧ R w') (hR : ∀ w', R w' → w'.cell? ⟨fb, 12, none⟩ = some (.iface HT (.pointer (some ⟨hb, 0, none⟩)))) :
    Calls Try.prog 43 #[.pointer (some ⟨fb, 0, none⟩)] w fun e w' => e = .returned (.tuple #[]) ∧ R w' := by
  have HC : Hid ((fun w' : World => w'.cell? ⟨fb, 12, none⟩ = some (.iface HT (.pointer (some ⟨hb, 0, none⟩)))) w.drew) := Lib.hid hc
  have HK := Lib.hid hk
  have HR := Lib.hid hR
  clear hc hk hR
  go_enter Try.func43, Try.ntmps43
  go_wp2_with fail
  refine wp_region_plS (fun w' : World => w'.cell? ⟨fb, 12, none⟩ = some (.iface HT (.pointer (some ⟨hb, 0, none⟩)))) (.free 0 (.free 1 (.free 2 (.free 3 (.free 4 (.free 5 (.free 6 (.free 7 (.free 8 (.free 9 (.one 10 .nil))))))))))) (by kernel_rfl) (by kernel_rfl) (by kernel_rfl) (by kernel_rfl) ?_
  refine plS_val (v := ?_) rfl rfl HC.out (fun w' hw' => ?_) ?_; rotate_left; (· have q : w'.cell? ⟨fb, 12, none⟩ = some (.iface HT (.pointer (some ⟨hb, 0, none⟩))) := hw'; go_simp; try with_reducible rfl); simp only [Act.put, List.setIfInBounds_toArray, List.set_cons_zero, List.set_cons_succ]
  refine plS_val (v := ?_) rfl rfl HC.out (fun w' hw' => ?_) ?_; rotate_left; (· have q : w'.cell? ⟨fb, 12, none⟩ = some (.iface HT (.pointer (some ⟨hb, 0, none⟩))) := hw'; go_simp; try with_reducible rfl); simp only [Act.put, List.setIfInBounds_toArray, List.set_cons_zero, List.set_cons_succ]
  refine plS_val (v := ?_) rfl rfl HC.out (fun w' hw' => ?_) ?_; rotate_left; (· have q : w'.cell? ⟨fb, 12, none⟩ = some (.iface HT (.pointer (some ⟨hb, 0, none⟩))) := hw'; go_simp; try with_reducible rfl); simp only [Act.put, List.setIfInBounds_toArray, List.set_cons_zero, List.set_cons_succ]
  refine plS_val (v := ?_) rfl rfl HC.out (fun w' hw' => ?_) ?_; rotate_left; (· have q : w'.cell? ⟨fb, 12, none⟩ = some (.iface HT (.pointer (some ⟨hb, 0, none⟩))) := hw'; go_simp; try with_reducible rfl); simp only [Act.put, List.setIfInBounds_toArray, List.set_cons_zero, List.set_cons_succ]
  refine plS_val (v := ?_) rfl rfl HC.out (fun w' hw' => ?_) ?_; rotate_left; (· have q : w'.cell? ⟨fb, 12, none⟩ = some (.iface HT (.pointer (some ⟨hb, 0, none⟩))) := hw'; go_simp; try with_reducible rfl); simp only [Act.put, List.setIfInBounds_toArray, List.set_cons_zero, List.set_cons_succ]
  refine plS_val (v := ?_) rfl rfl HC.out (fun w' hw' => ?_) ?_; rotate_left; (· have q : w'.cell? ⟨fb, 12, none⟩ = some (.iface HT (.pointer (some ⟨hb, 0, none⟩))) := hw'; go_simp; try with_reducible rfl); simp only [Act.put, List.setIfInBounds_toArray, List.set_cons_zero, List.set_cons_succ]
  refine plS_val (v := ?_) rfl rfl HC.out (fun w' hw' => ?_) ?_; rotate_left; (· have q : w'.cell? ⟨fb, 12, none⟩ = some (.iface HT (.pointer (some ⟨hb, 0, none⟩))) := hw'; go_simp; try with_reducible rfl); simp only [Act.put, List.setIfInBounds_toArray, List.set_cons_zero, List.set_cons_succ]
  refine plS_val (v := ?_) rfl rfl HC.out (fun w' hw' => ?_) ?_; rotate_left; (· have q : w'.cell? ⟨fb, 12, none⟩ = some (.iface HT (.pointer (some ⟨hb, 0, none⟩))) := hw'; go_simp; try with_reducible rfl); simp only [Act.put, List.setIfInBounds_toArray, List.set_cons_zero, List.set_cons_succ]
  refine plS_val (v := ?_) rfl rfl HC.out (fun w' hw' => ?_) ?_; rotate_left; (· have q : w'.cell? ⟨fb, 12, none⟩ = some (.iface HT (.pointer (some ⟨hb, 0, none⟩))) := hw'; go_simp; try with_reducible rfl); simp only [Act.put, List.setIfInBounds_toArray, List.set_cons_zero, List.set_cons_succ]
  refine plS_val (v := ?_) rfl rfl HC.out (fun w' hw' => ?_) ?_; rotate_left; (· have q : w'.cell? ⟨fb, 12, none⟩ = some (.iface HT (.pointer (some ⟨hb, 0, none⟩))) := hw'; go_simp; try with_reducible rfl); simp only [Act.put, List.setIfInBounds_toArray, List.set_cons_zero, List.set_cons_succ]
  refine plS_call m #[.pointer (some ⟨hb, 0, none⟩), .pointer (some ⟨fb, 7, none⟩)] rfl rfl (by go_simp) ?_
  refine HK.out.mono ?_
  rintro e w1 ⟨rfl, h2⟩
  refine ⟨_, rfl, HR.out _ h2, ?_⟩
  simp only [Act.put, List.setIfInBounds_toArray, List.set_cons_zero, List.set_cons_succ]
  refine plS_done ?_
  go_wp2_with fail
  go_end0
  exact ⟨rfl, h2⟩
set_option maxRecDepth 20000 in
theorem fmg_2 (fb hb : Nat) (HT : TypeId) (m : FuncId) (w : World) (R : World → Prop) (hc : w.cell? ⟨fb, 12, none⟩ = some (.iface HT (.pointer (some ⟨hb, 0, none⟩))))
    (mm : ∀ v w, (Go.method 226 HT v "truchman/calls.text").run Try.prog w = .ok (m, v) w)
    (mc : ∀ args w, (callFunc m args).run Try.prog w = .ok (Next.enter m args) w)
    (hk : Calls Try.prog m #[.pointer (some ⟨hb, 0, none⟩), .pointer (some ⟨fb, 9, none⟩)] w.drew fun e w' => e = .returned (.tuple #[]) ∧ R w') (hR : ∀ w', R w' → w'.cell? ⟨fb, 12, none⟩ = some (.iface HT (.pointer (some ⟨hb, 0, none⟩)))) :
    Calls Try.prog 44 #[.pointer (some ⟨fb, 0, none⟩)] w fun e w' => e = .returned (.tuple #[]) ∧ R w' := by
  have HC : Hid ((fun w' : World => w'.cell? ⟨fb, 12, none⟩ = some (.iface HT (.pointer (some ⟨hb, 0, none⟩)))) w.drew) := Lib.hid hc
  have HK := Lib.hid hk
  have HR := Lib.hid hR
  clear hc hk hR
  go_enter Try.func44, Try.ntmps44
  go_wp2_with fail
  refine wp_region_plS (fun w' : World => w'.cell? ⟨fb, 12, none⟩ = some (.iface HT (.pointer (some ⟨hb, 0, none⟩)))) (.free 0 (.free 1 (.free 2 (.free 3 (.free 4 (.free 5 (.free 6 (.free 7 (.free 8 (.free 9 (.one 10 .nil))))))))))) (by kernel_rfl) (by kernel_rfl) (by kernel_rfl) (by kernel_rfl) ?_
  refine plS_val (v := ?_) rfl rfl HC.out (fun w' hw' => ?_) ?_; rotate_left; (· have q : w'.cell? ⟨fb, 12, none⟩ = some (.iface HT (.pointer (some ⟨hb, 0, none⟩))) := hw'; go_simp; try with_reducible rfl); simp only [Act.put, List.setIfInBounds_toArray, List.set_cons_zero, List.set_cons_succ]
  refine plS_val (v := ?_) rfl rfl HC.out (fun w' hw' => ?_) ?_; rotate_left; (· have q : w'.cell? ⟨fb, 12, none⟩ = some (.iface HT (.pointer (some ⟨hb, 0, none⟩))) := hw'; go_simp; try with_reducible rfl); simp only [Act.put, List.setIfInBounds_toArray, List.set_cons_zero, List.set_cons_succ]
  refine plS_val (v := ?_) rfl rfl HC.out (fun w' hw' => ?_) ?_; rotate_left; (· have q : w'.cell? ⟨fb, 12, none⟩ = some (.iface HT (.pointer (some ⟨hb, 0, none⟩))) := hw'; go_simp; try with_reducible rfl); simp only [Act.put, List.setIfInBounds_toArray, List.set_cons_zero, List.set_cons_succ]
  refine plS_val (v := ?_) rfl rfl HC.out (fun w' hw' => ?_) ?_; rotate_left; (· have q : w'.cell? ⟨fb, 12, none⟩ = some (.iface HT (.pointer (some ⟨hb, 0, none⟩))) := hw'; go_simp; try with_reducible rfl); simp only [Act.put, List.setIfInBounds_toArray, List.set_cons_zero, List.set_cons_succ]
  refine plS_val (v := ?_) rfl rfl HC.out (fun w' hw' => ?_) ?_; rotate_left; (· have q : w'.cell? ⟨fb, 12, none⟩ = some (.iface HT (.pointer (some ⟨hb, 0, none⟩))) := hw'; go_simp; try with_reducible rfl); simp only [Act.put, List.setIfInBounds_toArray, List.set_cons_zero, List.set_cons_succ]
  refine plS_val (v := ?_) rfl rfl HC.out (fun w' hw' => ?_) ?_; rotate_left; (· have q : w'.cell? ⟨fb, 12, none⟩ = some (.iface HT (.pointer (some ⟨hb, 0, none⟩))) := hw'; go_simp; try with_reducible rfl); simp only [Act.put, List.setIfInBounds_toArray, List.set_cons_zero, List.set_cons_succ]
  refine plS_val (v := ?_) rfl rfl HC.out (fun w' hw' => ?_) ?_; rotate_left; (· have q : w'.cell? ⟨fb, 12, none⟩ = some (.iface HT (.pointer (some ⟨hb, 0, none⟩))) := hw'; go_simp; try with_reducible rfl); simp only [Act.put, List.setIfInBounds_toArray, List.set_cons_zero, List.set_cons_succ]
  refine plS_val (v := ?_) rfl rfl HC.out (fun w' hw' => ?_) ?_; rotate_left; (· have q : w'.cell? ⟨fb, 12, none⟩ = some (.iface HT (.pointer (some ⟨hb, 0, none⟩))) := hw'; go_simp; try with_reducible rfl); simp only [Act.put, List.setIfInBounds_toArray, List.set_cons_zero, List.set_cons_succ]
  refine plS_val (v := ?_) rfl rfl HC.out (fun w' hw' => ?_) ?_; rotate_left; (· have q : w'.cell? ⟨fb, 12, none⟩ = some (.iface HT (.pointer (some ⟨hb, 0, none⟩))) := hw'; go_simp; try with_reducible rfl); simp only [Act.put, List.setIfInBounds_toArray, List.set_cons_zero, List.set_cons_succ]
  refine plS_val (v := ?_) rfl rfl HC.out (fun w' hw' => ?_) ?_; rotate_left; (· have q : w'.cell? ⟨fb, 12, none⟩ = some (.iface HT (.pointer (some ⟨hb, 0, none⟩))) := hw'; go_simp; try with_reducible rfl); simp only [Act.put, List.setIfInBounds_toArray, List.set_cons_zero, List.set_cons_succ]
  refine plS_call m #[.pointer (some ⟨hb, 0, none⟩), .pointer (some ⟨fb, 9, none⟩)] rfl rfl (by go_simp) ?_
  refine HK.out.mono ?_
  rintro e w1 ⟨rfl, h2⟩
  refine ⟨_, rfl, HR.out _ h2, ?_⟩
  simp only [Act.put, List.setIfInBounds_toArray, List.set_cons_zero, List.set_cons_succ]
  refine plS_done ?_
  go_wp2_with fail
  go_end0
  exact ⟨rfl, h2⟩
set_option maxRecDepth 20000 in
theorem fmg_3 (fb hb : Nat) (HT : TypeId) (m : FuncId) (w : World) (R : World → Prop) (hc : w.cell? ⟨fb, 12, none⟩ = some (.iface HT (.pointer (some ⟨hb, 0, none⟩))))
    (mm : ∀ v w, (Go.method 226 HT v "truchman/calls.text").run Try.prog w = .ok (m, v) w)
    (mc : ∀ args w, (callFunc m args).run Try.prog w = .ok (Next.enter m args) w)
    (hk : Calls Try.prog m #[.pointer (some ⟨hb, 0, none⟩), .pointer (some ⟨fb, 10, none⟩)] w.drew fun e w' => e = .returned (.tuple #[]) ∧ R w') (hR : ∀ w', R w' → w'.cell? ⟨fb, 12, none⟩ = some (.iface HT (.pointer (some ⟨hb, 0, none⟩)))) :
    Calls Try.prog 45 #[.pointer (some ⟨fb, 0, none⟩)] w fun e w' => e = .returned (.tuple #[]) ∧ R w' := by
  have HC : Hid ((fun w' : World => w'.cell? ⟨fb, 12, none⟩ = some (.iface HT (.pointer (some ⟨hb, 0, none⟩)))) w.drew) := Lib.hid hc
  have HK := Lib.hid hk
  have HR := Lib.hid hR
  clear hc hk hR
  go_enter Try.func45, Try.ntmps45
  go_wp2_with fail
  refine wp_region_plS (fun w' : World => w'.cell? ⟨fb, 12, none⟩ = some (.iface HT (.pointer (some ⟨hb, 0, none⟩)))) (.free 0 (.free 1 (.free 2 (.free 3 (.free 4 (.free 5 (.free 6 (.free 7 (.free 8 (.free 9 (.one 10 .nil))))))))))) (by kernel_rfl) (by kernel_rfl) (by kernel_rfl) (by kernel_rfl) ?_
  refine plS_val (v := ?_) rfl rfl HC.out (fun w' hw' => ?_) ?_; rotate_left; (· have q : w'.cell? ⟨fb, 12, none⟩ = some (.iface HT (.pointer (some ⟨hb, 0, none⟩))) := hw'; go_simp; try with_reducible rfl); simp only [Act.put, List.setIfInBounds_toArray, List.set_cons_zero, List.set_cons_succ]
  refine plS_val (v := ?_) rfl rfl HC.out (fun w' hw' => ?_) ?_; rotate_left; (· have q : w'.cell? ⟨fb, 12, none⟩ = some (.iface HT (.pointer (some ⟨hb, 0, none⟩))) := hw'; go_simp; try with_reducible rfl); simp only [Act.put, List.setIfInBounds_toArray, List.set_cons_zero, List.set_cons_succ]
  refine plS_val (v := ?_) rfl rfl HC.out (fun w' hw' => ?_) ?_; rotate_left; (· have q : w'.cell? ⟨fb, 12, none⟩ = some (.iface HT (.pointer (some ⟨hb, 0, none⟩))) := hw'; go_simp; try with_reducible rfl); simp only [Act.put, List.setIfInBounds_toArray, List.set_cons_zero, List.set_cons_succ]
  refine plS_val (v := ?_) rfl rfl HC.out (fun w' hw' => ?_) ?_; rotate_left; (· have q : w'.cell? ⟨fb, 12, none⟩ = some (.iface HT (.pointer (some ⟨hb, 0, none⟩))) := hw'; go_simp; try with_reducible rfl); simp only [Act.put, List.setIfInBounds_toArray, List.set_cons_zero, List.set_cons_succ]
  refine plS_val (v := ?_) rfl rfl HC.out (fun w' hw' => ?_) ?_; rotate_left; (· have q : w'.cell? ⟨fb, 12, none⟩ = some (.iface HT (.pointer (some ⟨hb, 0, none⟩))) := hw'; go_simp; try with_reducible rfl); simp only [Act.put, List.setIfInBounds_toArray, List.set_cons_zero, List.set_cons_succ]
  refine plS_val (v := ?_) rfl rfl HC.out (fun w' hw' => ?_) ?_; rotate_left; (· have q : w'.cell? ⟨fb, 12, none⟩ = some (.iface HT (.pointer (some ⟨hb, 0, none⟩))) := hw'; go_simp; try with_reducible rfl); simp only [Act.put, List.setIfInBounds_toArray, List.set_cons_zero, List.set_cons_succ]
  refine plS_val (v := ?_) rfl rfl HC.out (fun w' hw' => ?_) ?_; rotate_left; (· have q : w'.cell? ⟨fb, 12, none⟩ = some (.iface HT (.pointer (some ⟨hb, 0, none⟩))) := hw'; go_simp; try with_reducible rfl); simp only [Act.put, List.setIfInBounds_toArray, List.set_cons_zero, List.set_cons_succ]
  refine plS_val (v := ?_) rfl rfl HC.out (fun w' hw' => ?_) ?_; rotate_left; (· have q : w'.cell? ⟨fb, 12, none⟩ = some (.iface HT (.pointer (some ⟨hb, 0, none⟩))) := hw'; go_simp; try with_reducible rfl); simp only [Act.put, List.setIfInBounds_toArray, List.set_cons_zero, List.set_cons_succ]
  refine plS_val (v := ?_) rfl rfl HC.out (fun w' hw' => ?_) ?_; rotate_left; (· have q : w'.cell? ⟨fb, 12, none⟩ = some (.iface HT (.pointer (some ⟨hb, 0, none⟩))) := hw'; go_simp; try with_reducible rfl); simp only [Act.put, List.setIfInBounds_toArray, List.set_cons_zero, List.set_cons_succ]
  refine plS_val (v := ?_) rfl rfl HC.out (fun w' hw' => ?_) ?_; rotate_left; (· have q : w'.cell? ⟨fb, 12, none⟩ = some (.iface HT (.pointer (some ⟨hb, 0, none⟩))) := hw'; go_simp; try with_reducible rfl); simp only [Act.put, List.setIfInBounds_toArray, List.set_cons_zero, List.set_cons_succ]
  refine plS_call m #[.pointer (some ⟨hb, 0, none⟩), .pointer (some ⟨fb, 10, none⟩)] rfl rfl (by go_simp) ?_
  refine HK.out.mono ?_
  rintro e w1 ⟨rfl, h2⟩
  refine ⟨_, rfl, HR.out _ h2, ?_⟩
  simp only [Act.put, List.setIfInBounds_toArray, List.set_cons_zero, List.set_cons_succ]
  refine plS_done ?_
  go_wp2_with fail
  go_end0
  exact ⟨rfl, h2⟩
set_option maxRecDepth 20000 in
theorem fmg_4 (fb hb : Nat) (HT : TypeId) (m : FuncId) (w : World) (R : World → Prop) (hc : w.cell? ⟨fb, 12, none⟩ = some (.iface HT (.pointer (some ⟨hb, 0, none⟩))))
    (mm : ∀ v w, (Go.method 226 HT v "truchman/calls.place").run Try.prog w = .ok (m, v) w)
    (mc : ∀ args w, (callFunc m args).run Try.prog w = .ok (Next.enter m args) w)
    (hk : Calls Try.prog m #[.pointer (some ⟨hb, 0, none⟩), .pointer (some ⟨fb, 1, none⟩)] w.drew fun e w' => e = .returned (.tuple #[]) ∧ R w') (hR : ∀ w', R w' → w'.cell? ⟨fb, 12, none⟩ = some (.iface HT (.pointer (some ⟨hb, 0, none⟩)))) :
    Calls Try.prog 46 #[.pointer (some ⟨fb, 0, none⟩)] w fun e w' => e = .returned (.tuple #[]) ∧ R w' := by
  have HC : Hid ((fun w' : World => w'.cell? ⟨fb, 12, none⟩ = some (.iface HT (.pointer (some ⟨hb, 0, none⟩)))) w.drew) := Lib.hid hc
  have HK := Lib.hid hk
  have HR := Lib.hid hR
  clear hc hk hR
  go_enter Try.func46, Try.ntmps46
  go_wp2_with fail
  refine wp_region_plS (fun w' : World => w'.cell? ⟨fb, 12, none⟩ = some (.iface HT (.pointer (some ⟨hb, 0, none⟩)))) (.free 0 (.free 1 (.free 2 (.free 3 (.free 4 (.free 5 (.free 6 (.free 7 (.free 8 (.free 9 (.one 10 .nil))))))))))) (by kernel_rfl) (by kernel_rfl) (by kernel_rfl) (by kernel_rfl) ?_
  refine plS_val (v := ?_) rfl rfl HC.out (fun w' hw' => ?_) ?_; rotate_left; (· have q : w'.cell? ⟨fb, 12, none⟩ = some (.iface HT (.pointer (some ⟨hb, 0, none⟩))) := hw'; go_simp; try with_reducible rfl); simp only [Act.put, List.setIfInBounds_toArray, List.set_cons_zero, List.set_cons_succ]
  refine plS_val (v := ?_) rfl rfl HC.out (fun w' hw' => ?_) ?_; rotate_left; (· have q : w'.cell? ⟨fb, 12, none⟩ = some (.iface HT (.pointer (some ⟨hb, 0, none⟩))) := hw'; go_simp; try with_reducible rfl); simp only [Act.put, List.setIfInBounds_toArray, List.set_cons_zero, List.set_cons_succ]
  refine plS_val (v := ?_) rfl rfl HC.out (fun w' hw' => ?_) ?_; rotate_left; (· have q : w'.cell? ⟨fb, 12, none⟩ = some (.iface HT (.pointer (some ⟨hb, 0, none⟩))) := hw'; go_simp; try with_reducible rfl); simp only [Act.put, List.setIfInBounds_toArray, List.set_cons_zero, List.set_cons_succ]
  refine plS_val (v := ?_) rfl rfl HC.out (fun w' hw' => ?_) ?_; rotate_left; (· have q : w'.cell? ⟨fb, 12, none⟩ = some (.iface HT (.pointer (some ⟨hb, 0, none⟩))) := hw'; go_simp; try with_reducible rfl); simp only [Act.put, List.setIfInBounds_toArray, List.set_cons_zero, List.set_cons_succ]
  refine plS_val (v := ?_) rfl rfl HC.out (fun w' hw' => ?_) ?_; rotate_left; (· have q : w'.cell? ⟨fb, 12, none⟩ = some (.iface HT (.pointer (some ⟨hb, 0, none⟩))) := hw'; go_simp; try with_reducible rfl); simp only [Act.put, List.setIfInBounds_toArray, List.set_cons_zero, List.set_cons_succ]
  refine plS_val (v := ?_) rfl rfl HC.out (fun w' hw' => ?_) ?_; rotate_left; (· have q : w'.cell? ⟨fb, 12, none⟩ = some (.iface HT (.pointer (some ⟨hb, 0, none⟩))) := hw'; go_simp; try with_reducible rfl); simp only [Act.put, List.setIfInBounds_toArray, List.set_cons_zero, List.set_cons_succ]
  refine plS_val (v := ?_) rfl rfl HC.out (fun w' hw' => ?_) ?_; rotate_left; (· have q : w'.cell? ⟨fb, 12, none⟩ = some (.iface HT (.pointer (some ⟨hb, 0, none⟩))) := hw'; go_simp; try with_reducible rfl); simp only [Act.put, List.setIfInBounds_toArray, List.set_cons_zero, List.set_cons_succ]
  refine plS_val (v := ?_) rfl rfl HC.out (fun w' hw' => ?_) ?_; rotate_left; (· have q : w'.cell? ⟨fb, 12, none⟩ = some (.iface HT (.pointer (some ⟨hb, 0, none⟩))) := hw'; go_simp; try with_reducible rfl); simp only [Act.put, List.setIfInBounds_toArray, List.set_cons_zero, List.set_cons_succ]
  refine plS_val (v := ?_) rfl rfl HC.out (fun w' hw' => ?_) ?_; rotate_left; (· have q : w'.cell? ⟨fb, 12, none⟩ = some (.iface HT (.pointer (some ⟨hb, 0, none⟩))) := hw'; go_simp; try with_reducible rfl); simp only [Act.put, List.setIfInBounds_toArray, List.set_cons_zero, List.set_cons_succ]
  refine plS_val (v := ?_) rfl rfl HC.out (fun w' hw' => ?_) ?_; rotate_left; (· have q : w'.cell? ⟨fb, 12, none⟩ = some (.iface HT (.pointer (some ⟨hb, 0, none⟩))) := hw'; go_simp; try with_reducible rfl); simp only [Act.put, List.setIfInBounds_toArray, List.set_cons_zero, List.set_cons_succ]
  refine plS_call m #[.pointer (some ⟨hb, 0, none⟩), .pointer (some ⟨fb, 1, none⟩)] rfl rfl (by go_simp) ?_
  refine HK.out.mono ?_
  rintro e w1 ⟨rfl, h2⟩
  refine ⟨_, rfl, HR.out _ h2, ?_⟩
  simp only [Act.put, List.setIfInBounds_toArray, List.set_cons_zero, List.set_cons_succ]
  refine plS_done ?_
  go_wp2_with fail
  go_end0
  exact ⟨rfl, h2⟩
set_option maxRecDepth 20000 in
theorem fmg_5 (fb hb : Nat) (HT : TypeId) (m : FuncId) (w : World) (R : World → Prop) (hc : w.cell? ⟨fb, 12, none⟩ = some (.iface HT (.pointer (some ⟨hb, 0, none⟩))))
    (mm : ∀ v w, (Go.method 226 HT v "truchman/calls.number").run Try.prog w = .ok (m, v) w)
    (mc : ∀ args w, (callFunc m args).run Try.prog w = .ok (Next.enter m args) w)
    (hk : Calls Try.prog m #[.pointer (some ⟨hb, 0, none⟩), .pointer (some ⟨fb, 2, none⟩)] w.drew fun e w' => e = .returned (.tuple #[]) ∧ R w') (hR : ∀ w', R w' → w'.cell? ⟨fb, 12, none⟩ = some (.iface HT (.pointer (some ⟨hb, 0, none⟩)))) :
    Calls Try.prog 47 #[.pointer (some ⟨fb, 0, none⟩)] w fun e w' => e = .returned (.tuple #[]) ∧ R w' := by
  have HC : Hid ((fun w' : World => w'.cell? ⟨fb, 12, none⟩ = some (.iface HT (.pointer (some ⟨hb, 0, none⟩)))) w.drew) := Lib.hid hc
  have HK := Lib.hid hk
  have HR := Lib.hid hR
  clear hc hk hR
  go_enter Try.func47, Try.ntmps47
  go_wp2_with fail
  refine wp_region_plS (fun w' : World => w'.cell? ⟨fb, 12, none⟩ = some (.iface HT (.pointer (some ⟨hb, 0, none⟩)))) (.free 0 (.free 1 (.free 2 (.free 3 (.free 4 (.free 5 (.free 6 (.free 7 (.free 8 (.free 9 (.one 10 .nil))))))))))) (by kernel_rfl) (by kernel_rfl) (by kernel_rfl) (by kernel_rfl) ?_
  refine plS_val (v := ?_) rfl rfl HC.out (fun w' hw' => ?_) ?_; rotate_left; (· have q : w'.cell? ⟨fb, 12, none⟩ = some (.iface HT (.pointer (some ⟨hb, 0, none⟩))) := hw'; go_simp; try with_reducible rfl); simp only [Act.put, List.setIfInBounds_toArray, List.set_cons_zero, List.set_cons_succ]
  refine plS_val (v := ?_) rfl rfl HC.out (fun w' hw' => ?_) ?_; rotate_left; (· have q : w'.cell? ⟨fb, 12, none⟩ = some (.iface HT (.pointer (some ⟨hb, 0, none⟩))) := hw'; go_simp; try with_reducible rfl); simp only [Act.put, List.setIfInBounds_toArray, List.set_cons_zero, List.set_cons_succ]
  refine plS_val (v := ?_) rfl rfl HC.out (fun w' hw' => ?_) ?_; rotate_left; (· have q : w'.cell? ⟨fb, 12, none⟩ = some (.iface HT (.pointer (some ⟨hb, 0, none⟩))) := hw'; go_simp; try with_reducible rfl); simp only [Act.put, List.setIfInBounds_toArray, List.set_cons_zero, List.set_cons_succ]
  refine plS_val (v := ?_) rfl rfl HC.out (fun w' hw' => ?_) ?_; rotate_left; (· have q : w'.cell? ⟨fb, 12, none⟩ = some (.iface HT (.pointer (some ⟨hb, 0, none⟩))) := hw'; go_simp; try with_reducible rfl); simp only [Act.put, List.setIfInBounds_toArray, List.set_cons_zero, List.set_cons_succ]
  refine plS_val (v := ?_) rfl rfl HC.out (fun w' hw' => ?_) ?_; rotate_left; (· have q : w'.cell? ⟨fb, 12, none⟩ = some (.iface HT (.pointer (some ⟨hb, 0, none⟩))) := hw'; go_simp; try with_reducible rfl); simp only [Act.put, List.setIfInBounds_toArray, List.set_cons_zero, List.set_cons_succ]
  refine plS_val (v := ?_) rfl rfl HC.out (fun w' hw' => ?_) ?_; rotate_left; (· have q : w'.cell? ⟨fb, 12, none⟩ = some (.iface HT (.pointer (some ⟨hb, 0, none⟩))) := hw'; go_simp; try with_reducible rfl); simp only [Act.put, List.setIfInBounds_toArray, List.set_cons_zero, List.set_cons_succ]
  refine plS_val (v := ?_) rfl rfl HC.out (fun w' hw' => ?_) ?_; rotate_left; (· have q : w'.cell? ⟨fb, 12, none⟩ = some (.iface HT (.pointer (some ⟨hb, 0, none⟩))) := hw'; go_simp; try with_reducible rfl); simp only [Act.put, List.setIfInBounds_toArray, List.set_cons_zero, List.set_cons_succ]
  refine plS_val (v := ?_) rfl rfl HC.out (fun w' hw' => ?_) ?_; rotate_left; (· have q : w'.cell? ⟨fb, 12, none⟩ = some (.iface HT (.pointer (some ⟨hb, 0, none⟩))) := hw'; go_simp; try with_reducible rfl); simp only [Act.put, List.setIfInBounds_toArray, List.set_cons_zero, List.set_cons_succ]
  refine plS_val (v := ?_) rfl rfl HC.out (fun w' hw' => ?_) ?_; rotate_left; (· have q : w'.cell? ⟨fb, 12, none⟩ = some (.iface HT (.pointer (some ⟨hb, 0, none⟩))) := hw'; go_simp; try with_reducible rfl); simp only [Act.put, List.setIfInBounds_toArray, List.set_cons_zero, List.set_cons_succ]
  refine plS_val (v := ?_) rfl rfl HC.out (fun w' hw' => ?_) ?_; rotate_left; (· have q : w'.cell? ⟨fb, 12, none⟩ = some (.iface HT (.pointer (some ⟨hb, 0, none⟩))) := hw'; go_simp; try with_reducible rfl); simp only [Act.put, List.setIfInBounds_toArray, List.set_cons_zero, List.set_cons_succ]
  refine plS_call m #[.pointer (some ⟨hb, 0, none⟩), .pointer (some ⟨fb, 2, none⟩)] rfl rfl (by go_simp) ?_
  refine HK.out.mono ?_
  rintro e w1 ⟨rfl, h2⟩
  refine ⟨_, rfl, HR.out _ h2, ?_⟩
  simp only [Act.put, List.setIfInBounds_toArray, List.set_cons_zero, List.set_cons_succ]
  refine plS_done ?_
  go_wp2_with fail
  go_end0
  exact ⟨rfl, h2⟩
set_option maxRecDepth 20000 in
theorem fmg_6 (fb hb : Nat) (HT : TypeId) (m : FuncId) (w : World) (R : World → Prop) (hc : w.cell? ⟨fb, 12, none⟩ = some (.iface HT (.pointer (some ⟨hb, 0, none⟩))))
    (mm : ∀ v w, (Go.method 226 HT v "truchman/calls.number").run Try.prog w = .ok (m, v) w)
    (mc : ∀ args w, (callFunc m args).run Try.prog w = .ok (Next.enter m args) w)
    (hk : Calls Try.prog m #[.pointer (some ⟨hb, 0, none⟩), .pointer (some ⟨fb, 3, none⟩)] w.drew fun e w' => e = .returned (.tuple #[]) ∧ R w') (hR : ∀ w', R w' → w'.cell? ⟨fb, 12, none⟩ = some (.iface HT (.pointer (some ⟨hb, 0, none⟩)))) :
    Calls Try.prog 48 #[.pointer (some ⟨fb, 0, none⟩)] w fun e w' => e = .returned (.tuple #[]) ∧ R w' := by
  have HC : Hid ((fun w' : World => w'.cell? ⟨fb, 12, none⟩ = some (.iface HT (.pointer (some ⟨hb, 0, none⟩)))) w.drew) := Lib.hid hc
  have HK := Lib.hid hk
  have HR := Lib.hid hR
  clear hc hk hR
  go_enter Try.func48, Try.ntmps48
  go_wp2_with fail
  refine wp_region_plS (fun w' : World => w'.cell? ⟨fb, 12, none⟩ = some (.iface HT (.pointer (some ⟨hb, 0, none⟩)))) (.free 0 (.free 1 (.free 2 (.free 3 (.free 4 (.free 5 (.free 6 (.free 7 (.free 8 (.free 9 (.one 10 .nil))))))))))) (by kernel_rfl) (by kernel_rfl) (by kernel_rfl) (by kernel_rfl) ?_
  refine plS_val (v := ?_) rfl rfl HC.out (fun w' hw' => ?_) ?_; rotate_left; (· have q : w'.cell? ⟨fb, 12, none⟩ = some (.iface HT (.pointer (some ⟨hb, 0, none⟩))) := hw'; go_simp; try with_reducible rfl); simp only [Act.put, List.setIfInBounds_toArray, List.set_cons_zero, List.set_cons_succ]
  refine plS_val (v := ?_) rfl rfl HC.out (fun w' hw' => ?_) ?_; rotate_left; (· have q : w'.cell? ⟨fb, 12, none⟩ = some (.iface HT (.pointer (some ⟨hb, 0, none⟩))) := hw'; go_simp; try with_reducible rfl); simp only [Act.put, List.setIfInBounds_toArray, List.set_cons_zero, List.set_cons_succ]
  refine plS_val (v := ?_) rfl rfl HC.out (fun w' hw' => ?_) ?_; rotate_left; (· have q : w'.cell? ⟨fb, 12, none⟩ = some (.iface HT (.pointer (some ⟨hb, 0, none⟩))) := hw'; go_simp; try with_reducible rfl); simp only [Act.put, List.setIfInBounds_toArray, List.set_cons_zero, List.set_cons_succ]
  refine plS_val (v := ?_) rfl rfl HC.out (fun w' hw' => ?_) ?_; rotate_left; (· have q : w'.cell? ⟨fb, 12, none⟩ = some (.iface HT (.pointer (some ⟨hb, 0, none⟩))) := hw'; go_simp; try with_reducible rfl); simp only [Act.put, List.setIfInBounds_toArray, List.set_cons_zero, List.set_cons_succ]
  refine plS_val (v := ?_) rfl rfl HC.out (fun w' hw' => ?_) ?_; rotate_left; (· have q : w'.cell? ⟨fb, 12, none⟩ = some (.iface HT (.pointer (some ⟨hb, 0, none⟩))) := hw'; go_simp; try with_reducible rfl); simp only [Act.put, List.setIfInBounds_toArray, List.set_cons_zero, List.set_cons_succ]
  refine plS_val (v := ?_) rfl rfl HC.out (fun w' hw' => ?_) ?_; rotate_left; (· have q : w'.cell? ⟨fb, 12, none⟩ = some (.iface HT (.pointer (some ⟨hb, 0, none⟩))) := hw'; go_simp; try with_reducible rfl); simp only [Act.put, List.setIfInBounds_toArray, List.set_cons_zero, List.set_cons_succ]
  refine plS_val (v := ?_) rfl rfl HC.out (fun w' hw' => ?_) ?_; rotate_left; (· have q : w'.cell? ⟨fb, 12, none⟩ = some (.iface HT (.pointer (some ⟨hb, 0, none⟩))) := hw'; go_simp; try with_reducible rfl); simp only [Act.put, List.setIfInBounds_toArray, List.set_cons_zero, List.set_cons_succ]
  refine plS_val (v := ?_) rfl rfl HC.out (fun w' hw' => ?_) ?_; rotate_left; (· have q : w'.cell? ⟨fb, 12, none⟩ = some (.iface HT (.pointer (some ⟨hb, 0, none⟩))) := hw'; go_simp; try with_reducible rfl); simp only [Act.put, List.setIfInBounds_toArray, List.set_cons_zero, List.set_cons_succ]
  refine plS_val (v := ?_) rfl rfl HC.out (fun w' hw' => ?_) ?_; rotate_left; (· have q : w'.cell? ⟨fb, 12, none⟩ = some (.iface HT (.pointer (some ⟨hb, 0, none⟩))) := hw'; go_simp; try with_reducible rfl); simp only [Act.put, List.setIfInBounds_toArray, List.set_cons_zero, List.set_cons_succ]
  refine plS_val (v := ?_) rfl rfl HC.out (fun w' hw' => ?_) ?_; rotate_left; (· have q : w'.cell? ⟨fb, 12, none⟩ = some (.iface HT (.pointer (some ⟨hb, 0, none⟩))) := hw'; go_simp; try with_reducible rfl); simp only [Act.put, List.setIfInBounds_toArray, List.set_cons_zero, List.set_cons_succ]
  refine plS_call m #[.pointer (some ⟨hb, 0, none⟩), .pointer (some ⟨fb, 3, none⟩)] rfl rfl (by go_simp) ?_
  refine HK.out.mono ?_
  rintro e w1 ⟨rfl, h2⟩
  refine ⟨_, rfl, HR.out _ h2, ?_⟩
  simp only [Act.put, List.setIfInBounds_toArray, List.set_cons_zero, List.set_cons_succ]
  refine plS_done ?_
  go_wp2_with fail
  go_end0
  exact ⟨rfl, h2⟩
set_option maxRecDepth 20000 in
theorem fmg_7 (fb hb : Nat) (HT : TypeId) (m : FuncId) (w : World) (R : World → Prop) (hc : w.cell? ⟨fb, 12, none⟩ = some (.iface HT (.pointer (some ⟨hb, 0, none⟩))))
    (mm : ∀ v w, (Go.method 226 HT v "truchman/calls.number").run Try.prog w = .ok (m, v) w)
    (mc : ∀ args w, (callFunc m args).run Try.prog w = .ok (Next.enter m args) w)
    (hk : Calls Try.prog m #[.pointer (some ⟨hb, 0, none⟩), .pointer (some ⟨fb, 4, none⟩)] w.drew fun e w' => e = .returned (.tuple #[]) ∧ R w') (hR : ∀ w', R w' → w'.cell? ⟨fb, 12, none⟩ = some (.iface HT (.pointer (some ⟨hb, 0, none⟩)))) :
    Calls Try.prog 49 #[.pointer (some ⟨fb, 0, none⟩)] w fun e w' => e = .returned (.tuple #[]) ∧ R w' := by
  have HC : Hid ((fun w' : World => w'.cell? ⟨fb, 12, none⟩ = some (.iface HT (.pointer (some ⟨hb, 0, none⟩)))) w.drew) := Lib.hid hc
  have HK := Lib.hid hk
  have HR := Lib.hid hR
  clear hc hk hR
  go_enter Try.func49, Try.ntmps49
  go_wp2_with fail
  refine wp_region_plS (fun w' : World => w'.cell? ⟨fb, 12, none⟩ = some (.iface HT (.pointer (some ⟨hb, 0, none⟩)))) (.free 0 (.free 1 (.free 2 (.free 3 (.free 4 (.free 5 (.free 6 (.free 7 (.free 8 (.free 9 (.one 10 .nil))))))))))) (by kernel_rfl) (by kernel_rfl) (by kernel_rfl) (by kernel_rfl) ?_
  refine plS_val (v := ?_) rfl rfl HC.out (fun w' hw' => ?_) ?_; rotate_left; (· have q : w'.cell? ⟨fb, 12, none⟩ = some (.iface HT (.pointer (some ⟨hb, 0, none⟩))) := hw'; go_simp; try with_reducible rfl); simp only [Act.put, List.setIfInBounds_toArray, List.set_cons_zero, List.set_cons_succ]
  refine plS_val (v := ?_) rfl rfl HC.out (fun w' hw' => ?_) ?_; rotate_left; (· have q : w'.cell? ⟨fb, 12, none⟩ = some (.iface HT (.pointer (some ⟨hb, 0, none⟩))) := hw'; go_simp; try with_reducible rfl); simp only [Act.put, List.setIfInBounds_toArray, List.set_cons_zero, List.set_cons_succ]
  refine plS_val (v := ?_) rfl rfl HC.out (fun w' hw' => ?_) ?_; rotate_left; (· have q : w'.cell? ⟨fb, 12, none⟩ = some (.iface HT (.pointer (some ⟨hb, 0, none⟩))) := hw'; go_simp; try with_reducible rfl); simp only [Act.put, List.setIfInBounds_toArray, List.set_cons_zero, List.set_cons_succ]
  refine plS_val (v := ?_) rfl rfl HC.out (fun w' hw' => ?_) ?_; rotate_left; (· have q : w'.cell? ⟨fb, 12, none⟩ = some (.iface HT (.pointer (some ⟨hb, 0, none⟩))) := hw'; go_simp; try with_reducible rfl); simp only [Act.put, List.setIfInBounds_toArray, List.set_cons_zero, List.set_cons_succ]
  refine plS_val (v := ?_) rfl rfl HC.out (fun w' hw' => ?_) ?_; rotate_left; (· have q : w'.cell? ⟨fb, 12, none⟩ = some (.iface HT (.pointer (some ⟨hb, 0, none⟩))) := hw'; go_simp; try with_reducible rfl); simp only [Act.put, List.setIfInBounds_toArray, List.set_cons_zero, List.set_cons_succ]
  refine plS_val (v := ?_) rfl rfl HC.out (fun w' hw' => ?_) ?_; rotate_left; (· have q : w'.cell? ⟨fb, 12, none⟩ = some (.iface HT (.pointer (some ⟨hb, 0, none⟩))) := hw'; go_simp; try with_reducible rfl); simp only [Act.put, List.setIfInBounds_toArray, List.set_cons_zero, List.set_cons_succ]
  refine plS_val (v := ?_) rfl rfl HC.out (fun w' hw' => ?_) ?_; rotate_left; (· have q : w'.cell? ⟨fb, 12, none⟩ = some (.iface HT (.pointer (some ⟨hb, 0, none⟩))) := hw'; go_simp; try with_reducible rfl); simp only [Act.put, List.setIfInBounds_toArray, List.set_cons_zero, List.set_cons_succ]
  refine plS_val (v := ?_) rfl rfl HC.out (fun w' hw' => ?_) ?_; rotate_left; (· have q : w'.cell? ⟨fb, 12, none⟩ = some (.iface HT (.pointer (some ⟨hb, 0, none⟩))) := hw'; go_simp; try with_reducible rfl); simp only [Act.put, List.setIfInBounds_toArray, List.set_cons_zero, List.set_cons_succ]
  refine plS_val (v := ?_) rfl rfl HC.out (fun w' hw' => ?_) ?_; rotate_left; (· have q : w'.cell? ⟨fb, 12, none⟩ = some (.iface HT (.pointer (some ⟨hb, 0, none⟩))) := hw'; go_simp; try with_reducible rfl); simp only [Act.put, List.setIfInBounds_toArray, List.set_cons_zero, List.set_cons_succ]
  refine plS_val (v := ?_) rfl rfl HC.out (fun w' hw' => ?_) ?_; rotate_left; (· have q : w'.cell? ⟨fb, 12, none⟩ = some (.iface HT (.pointer (some ⟨hb, 0, none⟩))) := hw'; go_simp; try with_reducible rfl); simp only [Act.put, List.setIfInBounds_toArray, List.set_cons_zero, List.set_cons_succ]
  refine plS_call m #[.pointer (some ⟨hb, 0, none⟩), .pointer (some ⟨fb, 4, none⟩)] rfl rfl (by go_simp) ?_
  refine HK.out.mono ?_
  rintro e w1 ⟨rfl, h2⟩
  refine ⟨_, rfl, HR.out _ h2, ?_⟩
  simp only [Act.put, List.setIfInBounds_toArray, List.set_cons_zero, List.set_cons_succ]
  refine plS_done ?_
  go_wp2_with fail
  go_end0
  exact ⟨rfl, h2⟩
set_option maxRecDepth 20000 in
theorem fmg_8 (fb hb : Nat) (HT : TypeId) (m : FuncId) (w : World) (R : World → Prop) (hc : w.cell? ⟨fb, 12, none⟩ = some (.iface HT (.pointer (some ⟨hb, 0, none⟩))))
    (mm : ∀ v w, (Go.method 226 HT v "truchman/calls.data").run Try.prog w = .ok (m, v) w)
    (mc : ∀ args w, (callFunc m args).run Try.prog w = .ok (Next.enter m args) w)
    (hk : Calls Try.prog m #[.pointer (some ⟨hb, 0, none⟩), .pointer (some ⟨fb, 11, none⟩)] w.drew fun e w' => e = .returned (.tuple #[]) ∧ R w') (hR : ∀ w', R w' → w'.cell? ⟨fb, 12, none⟩ = some (.iface HT (.pointer (some ⟨hb, 0, none⟩)))) :
    Calls Try.prog 50 #[.pointer (some ⟨fb, 0, none⟩)] w fun e w' => e = .returned (.tuple #[]) ∧ R w' := by
  have HC : Hid ((fun w' : World => w'.cell? ⟨fb, 12, none⟩ = some (.iface HT (.pointer (some ⟨hb, 0, none⟩)))) w.drew) := Lib.hid hc
  have HK := Lib.hid hk
  have HR := Lib.hid hR
  clear hc hk hR
  go_enter Try.func50, Try.ntmps50
  go_wp2_with fail
  refine wp_region_plS (fun w' : World => w'.cell? ⟨fb, 12, none⟩ = some (.iface HT (.pointer (some ⟨hb, 0, none⟩)))) (.free 0 (.free 1 (.free 2 (.free 3 (.free 4 (.free 5 (.free 6 (.free 7 (.free 8 (.free 9 (.one 10 .nil))))))))))) (by kernel_rfl) (by kernel_rfl) (by kernel_rfl) (by kernel_rfl) ?_
  refine plS_val (v := ?_) rfl rfl HC.out (fun w' hw' => ?_) ?_; rotate_left; (· have q : w'.cell? ⟨fb, 12, none⟩ = some (.iface HT (.pointer (some ⟨hb, 0, none⟩))) := hw'; go_simp; try with_reducible rfl); simp only [Act.put, List.setIfInBounds_toArray, List.set_cons_zero, List.set_cons_succ]
  refine plS_val (v := ?_) rfl rfl HC.out (fun w' hw' => ?_) ?_; rotate_left; (· have q : w'.cell? ⟨fb, 12, none⟩ = some (.iface HT (.pointer (some ⟨hb, 0, none⟩))) := hw'; go_simp; try with_reducible rfl); simp only [Act.put, List.setIfInBounds_toArray, List.set_cons_zero, List.set_cons_succ]
  refine plS_val (v := ?_) rfl rfl HC.out (fun w' hw' => ?_) ?_; rotate_left; (· have q : w'.cell? ⟨fb, 12, none⟩ = some (.iface HT (.pointer (some ⟨hb, 0, none⟩))) := hw'; go_simp; try with_reducible rfl); simp only [Act.put, List.setIfInBounds_toArray, List.set_cons_zero, List.set_cons_succ]
  refine plS_val (v := ?_) rfl rfl HC.out (fun w' hw' => ?_) ?_; rotate_left; (· have q : w'.cell? ⟨fb, 12, none⟩ = some (.iface HT (.pointer (some ⟨hb, 0, none⟩))) := hw'; go_simp; try with_reducible rfl); simp only [Act.put, List.setIfInBounds_toArray, List.set_cons_zero, List.set_cons_succ]
  refine plS_val (v := ?_) rfl rfl HC.out (fun w' hw' => ?_) ?_; rotate_left; (· have q : w'.cell? ⟨fb, 12, none⟩ = some (.iface HT (.pointer (some ⟨hb, 0, none⟩))) := hw'; go_simp; try with_reducible rfl); simp only [Act.put, List.setIfInBounds_toArray, List.set_cons_zero, List.set_cons_succ]
  refine plS_val (v := ?_) rfl rfl HC.out (fun w' hw' => ?_) ?_; rotate_left; (· have q : w'.cell? ⟨fb, 12, none⟩ = some (.iface HT (.pointer (some ⟨hb, 0, none⟩))) := hw'; go_simp; try with_reducible rfl); simp only [Act.put, List.setIfInBounds_toArray, List.set_cons_zero, List.set_cons_succ]
  refine plS_val (v := ?_) rfl rfl HC.out (fun w' hw' => ?_) ?_; rotate_left; (· have q : w'.cell? ⟨fb, 12, none⟩ = some (.iface HT (.pointer (some ⟨hb, 0, none⟩))) := hw'; go_simp; try with_reducible rfl); simp only [Act.put, List.setIfInBounds_toArray, List.set_cons_zero, List.set_cons_succ]
  refine plS_val (v := ?_) rfl rfl HC.out (fun w' hw' => ?_) ?_; rotate_left; (· have q : w'.cell? ⟨fb, 12, none⟩ = some (.iface HT (.pointer (some ⟨hb, 0, none⟩))) := hw'; go_simp; try with_reducible rfl); simp only [Act.put, List.setIfInBounds_toArray, List.set_cons_zero, List.set_cons_succ]
  refine plS_val (v := ?_) rfl rfl HC.out (fun w' hw' => ?_) ?_; rotate_left; (· have q : w'.cell? ⟨fb, 12, none⟩ = some (.iface HT (.pointer (some ⟨hb, 0, none⟩))) := hw'; go_simp; try with_reducible rfl); simp only [Act.put, List.setIfInBounds_toArray, List.set_cons_zero, List.set_cons_succ]
  refine plS_val (v := ?_) rfl rfl HC.out (fun w' hw' => ?_) ?_; rotate_left; (· have q : w'.cell? ⟨fb, 12, none⟩ = some (.iface HT (.pointer (some ⟨hb, 0, none⟩))) := hw'; go_simp; try with_reducible rfl); simp only [Act.put, List.setIfInBounds_toArray, List.set_cons_zero, List.set_cons_succ]
  refine plS_call m #[.pointer (some ⟨hb, 0, none⟩), .pointer (some ⟨fb, 11, none⟩)] rfl rfl (by go_simp) ?_
  refine HK.out.mono ?_
  rintro e w1 ⟨rfl, h2⟩
  refine ⟨_, rfl, HR.out _ h2, ?_⟩
  simp only [Act.put, List.setIfInBounds_toArray, List.set_cons_zero, List.set_cons_succ]
  refine plS_done ?_
  go_wp2_with fail
  go_end0
  exact ⟨rfl, h2⟩
set_option maxRecDepth 20000 in
set_option maxHeartbeats 4000000 in
/-- The frame goes through all fields with its hand: what holds of k fields (St k) is what the hand's ways leave. -/
theorem pass_gen (fb : Nat) (pr : Int) (w : World) (S : Nat → Prop) (St : Nat → World → Prop) (c0 : w.cell? ⟨fb, 0, none⟩ = some (.int .i64 pr)) (hS : ∀ k, S k → k < w.heap.size)
    (h0 : ∀ w', Ext w w' → St 0 w')
    (hstep : ∀ k g w1, (fl pr)[k]? = some g → St k w1 → Calls Try.prog (fmF g) #[.pointer (some ⟨fb, 0, none⟩)] w1 fun e w' => e = .returned (.tuple #[]) ∧ St (k + 1) w' ∧ OnP S w1 w') :
    Calls Try.prog 29 #[.pointer (some ⟨fb, 0, none⟩)] w fun e w' => e = .returned (.tuple #[]) ∧ St (fl pr).length w' ∧ OnP S w w' := by
  have hmm := @run_makeMap Try.prog
  have hk := Try.underlying84
  have ht := Try.underlying85
  have hn : 10 < maxLen := by unfold maxLen; omega
  obtain ⟨mb, hmb⟩ : ∃ mb, w.heap.size = mb := ⟨_, rfl⟩
  have hSm : ¬ S mb := fun e => by have := hS _ e; omega
  have m0 := MapL.made Try.prog w 84 .i64
  have x0 : Ext w (w.alloc (.map #[] 0)) := (Ext.refl w).alloc _
  rw [hmb] at m0
  obtain ⟨w1, run1, m1, gr1⟩ := m0.put hk ht (by omega) 0 (.func (.func 42) #[.pointer (some ⟨fb, 0, none⟩)] #[]) rfl
  have x1 : Ext w w1 := x0.grown gr1 (fun k hk => by injection hk with hk; omega)
  obtain ⟨w2, run2, m2, gr2⟩ := m1.put hk ht (by omega) 1 (.func (.func 43) #[.pointer (some ⟨fb, 0, none⟩)] #[]) rfl
  have x2 : Ext w w2 := x1.grown gr2 (fun k hk => by injection hk with hk; omega)
  obtain ⟨w3, run3, m3, gr3⟩ := m2.put hk ht (by omega) 2 (.func (.func 44) #[.pointer (some ⟨fb, 0, none⟩)] #[]) rfl
  have x3 : Ext w w3 := x2.grown gr3 (fun k hk => by injection hk with hk; omega)
  obtain ⟨w4, run4, m4, gr4⟩ := m3.put hk ht (by omega) 3 (.func (.func 45) #[.pointer (some ⟨fb, 0, none⟩)] #[]) rfl
  have x4 : Ext w w4 := x3.grown gr4 (fun k hk => by injection hk with hk; omega)
  obtain ⟨w5, run5, m5, gr5⟩ := m4.put hk ht (by omega) 4 (.func (.func 46) #[.pointer (some ⟨fb, 0, none⟩)] #[]) rfl
  have x5 : Ext w w5 := x4.grown gr5 (fun k hk => by injection hk with hk; omega)
  obtain ⟨w6, run6, m6, gr6⟩ := m5.put hk ht (by omega) 5 (.func (.func 47) #[.pointer (some ⟨fb, 0, none⟩)] #[]) rfl
  have x6 : Ext w w6 := x5.grown gr6 (fun k hk => by injection hk with hk; omega)
  obtain ⟨w7, run7, m7, gr7⟩ := m6.put hk ht (by omega) 6 (.func (.func 48) #[.pointer (some ⟨fb, 0, none⟩)] #[]) rfl
  have x7 : Ext w w7 := x6.grown gr7 (fun k hk => by injection hk with hk; omega)
  obtain ⟨w8, run8, m8, gr8⟩ := m7.put hk ht (by omega) 7 (.func (.func 49) #[.pointer (some ⟨fb, 0, none⟩)] #[]) rfl
  have x8 : Ext w w8 := x7.grown gr8 (fun k hk => by injection hk with hk; omega)
  obtain ⟨w9, run9, m9, gr9⟩ := m8.put hk ht (by omega) 8 (.func (.func 50) #[.pointer (some ⟨fb, 0, none⟩)] #[]) rfl
  have x9 : Ext w w9 := x8.grown gr9 (fun k hk => by injection hk with hk; omega)
  have hL : MapL Try.prog w9 84 .i64 mb 9 (clos fb) := m9
  have HM := Lib.hid hL
  have X9 := Lib.hid x9
  have HH0 := Lib.hid h0
  have HST := Lib.hid hstep
  have HSS := Lib.hid hS
  have HSM := Lib.hid hSm
  have HFL := Lib.hid (fl_le pr)
  have c9 := x9.cell c0
  have HFD := Lib.hid (fields_any pr w9)
  obtain ⟨l, hl⟩ : ∃ l, fl pr = l := ⟨_, rfl⟩
  rw [hl] at HFL HFD HST ⊢
  have hl4 : l.length ≤ 4 := HFL.out.1
  clear h0 hstep hS hSm c0 hL m0 m1 m2 m3 m4 m5 m6 m7 m8 m9 gr1 gr2 gr3 gr4 gr5 gr6 gr7 gr8 gr9 x0 x1 x2 x3 x4 x5 x6 x7 x8 x9 hl
  go_enter Try.func29, Try.ntmps29
  go_wp2_with fail
  refine HFD.out.mono ?_
  rintro e w10 ⟨A, rfl, seeA, e10, hge⟩
  have SEEA := Lib.hid seeA
  have HGE := Lib.hid hge
  have X10 := Lib.hid (X9.out.trans e10)
  have HM10 := Lib.hid (HM.out.ext e10)
  clear seeA e10 hge c9 run1 run2 run3 run4 run5 run6 run7 run8 run9
  go_wp2_with fail
  go_loopw [32] (fun i wr => ∃ k : Nat, k ≤ l.length ∧ i = .int .i64 k ∧ St k wr ∧ OnP S w10 wr) (fun i _ => l.length - (intOf i).toNat)
  case atStart => exact ⟨0, by omega, rfl, HH0.out _ X10.out, OnP.refl _ _⟩
  case round =>
    obtain ⟨k, hk', rfl, hst, on⟩ := hrel
    have HSTk := Lib.hid hst
    have ON := Lib.hid on
    clear hst on
    by_cases hkl : k < l.length
    · obtain ⟨b, off, u, rfl, hu, hc, hbl⟩ := SEEA.out.at_ hkl
      obtain ⟨f, hf, rfl⟩ := fv_get l k u hu
      have hf8 : f ≤ 8 := HFL.out.2 f (List.mem_of_getElem? hf)
      have hcr : wr.cell? ⟨b, off + k, none⟩ = some (.int .i64 (f : Int)) := by
        have hlt : b < w10.heap.size := hbl
        have hge : w.heap.size ≤ b := Nat.le_trans X9.out.size (HGE.out _ rfl)
        rw [World.cell?_of_block (ON.out.block b hlt (fun e => by have := HSS.out _ e; omega))]
        exact hc
      have hmr : MapL Try.prog wr 84 .i64 mb 9 (clos fb) := HM10.out.keep (ON.out.block mb HM10.out.lt HSM.out)
      have HL := Lib.hid (fun x hx => hmr.look1 (z := .nilFunc) hk ht (by kernel_rfl) x hx)
      have HCALL := Lib.hid (HST.out k f)
      have HFK := Lib.hid hf
      clear hf hu hc hmr
      have hf9 : f = 0 ∨ f = 1 ∨ f = 2 ∨ f = 3 ∨ f = 4 ∨ f = 5 ∨ f = 6 ∨ f = 7 ∨ f = 8 := by omega
      clear hf8
      rcases hf9 with rfl | rfl | rfl | rfl | rfl | rfl | rfl | rfl | rfl
      · have hlk : (Instr.lookup 85 (.map (some mb)) (.int .i64 0) false).run Try.prog wr = .ok (.func (.func 42) #[.pointer (some ⟨fb, 0, none⟩)] #[]) wr := HL.out 0 rfl
        have hcr' : wr.cell? ⟨b, off + k, none⟩ = some (.int .i64 0) := hcr
        clear hcr
        go_wp2_with fail
        refine (HCALL.out _ HFK.out HSTk.out).mono ?_
        rintro e w11 ⟨rfl, hst, on⟩
        have H11 := Lib.hid hst
        have O11 := Lib.hid (ON.out.trans on)
        clear hst on hlk hcr'
        go_wp2_with fail
        go_roundw
        case rel => exact ⟨k + 1, by omega, by go_num, H11.out, O11.out⟩
        case measure => simp [intOf]; omega
      · have hlk : (Instr.lookup 85 (.map (some mb)) (.int .i64 1) false).run Try.prog wr = .ok (.func (.func 43) #[.pointer (some ⟨fb, 0, none⟩)] #[]) wr := HL.out 1 rfl
        have hcr' : wr.cell? ⟨b, off + k, none⟩ = some (.int .i64 1) := hcr
        clear hcr
        go_wp2_with fail
        refine (HCALL.out _ HFK.out HSTk.out).mono ?_
        rintro e w11 ⟨rfl, hst, on⟩
        have H11 := Lib.hid hst
        have O11 := Lib.hid (ON.out.trans on)
        clear hst on hlk hcr'
        go_wp2_with fail
        go_roundw
        case rel => exact ⟨k + 1, by omega, by go_num, H11.out, O11.out⟩
        case measure => simp [intOf]; omega
      · have hlk : (Instr.lookup 85 (.map (some mb)) (.int .i64 2) false).run Try.prog wr = .ok (.func (.func 44) #[.pointer (some ⟨fb, 0, none⟩)] #[]) wr := HL.out 2 rfl
        have hcr' : wr.cell? ⟨b, off + k, none⟩ = some (.int .i64 2) := hcr
        clear hcr
        go_wp2_with fail
        refine (HCALL.out _ HFK.out HSTk.out).mono ?_
        rintro e w11 ⟨rfl, hst, on⟩
        have H11 := Lib.hid hst
        have O11 := Lib.hid (ON.out.trans on)
        clear hst on hlk hcr'
        go_wp2_with fail
        go_roundw
        case rel => exact ⟨k + 1, by omega, by go_num, H11.out, O11.out⟩
        case measure => simp [intOf]; omega
      · have hlk : (Instr.lookup 85 (.map (some mb)) (.int .i64 3) false).run Try.prog wr = .ok (.func (.func 45) #[.pointer (some ⟨fb, 0, none⟩)] #[]) wr := HL.out 3 rfl
        have hcr' : wr.cell? ⟨b, off + k, none⟩ = some (.int .i64 3) := hcr
        clear hcr
        go_wp2_with fail
        refine (HCALL.out _ HFK.out HSTk.out).mono ?_
        rintro e w11 ⟨rfl, hst, on⟩
        have H11 := Lib.hid hst
        have O11 := Lib.hid (ON.out.trans on)
        clear hst on hlk hcr'
        go_wp2_with fail
        go_roundw
        case rel => exact ⟨k + 1, by omega, by go_num, H11.out, O11.out⟩
        case measure => simp [intOf]; omega
      · have hlk : (Instr.lookup 85 (.map (some mb)) (.int .i64 4) false).run Try.prog wr = .ok (.func (.func 46) #[.pointer (some ⟨fb, 0, none⟩)] #[]) wr := HL.out 4 rfl
        have hcr' : wr.cell? ⟨b, off + k, none⟩ = some (.int .i64 4) := hcr
        clear hcr
        go_wp2_with fail
        refine (HCALL.out _ HFK.out HSTk.out).mono ?_
        rintro e w11 ⟨rfl, hst, on⟩
        have H11 := Lib.hid hst
        have O11 := Lib.hid (ON.out.trans on)
        clear hst on hlk hcr'
        go_wp2_with fail
        go_roundw
        case rel => exact ⟨k + 1, by omega, by go_num, H11.out, O11.out⟩
        case measure => simp [intOf]; omega
      · have hlk : (Instr.lookup 85 (.map (some mb)) (.int .i64 5) false).run Try.prog wr = .ok (.func (.func 47) #[.pointer (some ⟨fb, 0, none⟩)] #[]) wr := HL.out 5 rfl
        have hcr' : wr.cell? ⟨b, off + k, none⟩ = some (.int .i64 5) := hcr
        clear hcr
        go_wp2_with fail
        refine (HCALL.out _ HFK.out HSTk.out).mono ?_
        rintro e w11 ⟨rfl, hst, on⟩
        have H11 := Lib.hid hst
        have O11 := Lib.hid (ON.out.trans on)
        clear hst on hlk hcr'
        go_wp2_with fail
        go_roundw
        case rel => exact ⟨k + 1, by omega, by go_num, H11.out, O11.out⟩
        case measure => simp [intOf]; omega
      · have hlk : (Instr.lookup 85 (.map (some mb)) (.int .i64 6) false).run Try.prog wr = .ok (.func (.func 48) #[.pointer (some ⟨fb, 0, none⟩)] #[]) wr := HL.out 6 rfl
        have hcr' : wr.cell? ⟨b, off + k, none⟩ = some (.int .i64 6) := hcr
        clear hcr
        go_wp2_with fail
        refine (HCALL.out _ HFK.out HSTk.out).mono ?_
        rintro e w11 ⟨rfl, hst, on⟩
        have H11 := Lib.hid hst
        have O11 := Lib.hid (ON.out.trans on)
        clear hst on hlk hcr'
        go_wp2_with fail
        go_roundw
        case rel => exact ⟨k + 1, by omega, by go_num, H11.out, O11.out⟩
        case measure => simp [intOf]; omega
      · have hlk : (Instr.lookup 85 (.map (some mb)) (.int .i64 7) false).run Try.prog wr = .ok (.func (.func 49) #[.pointer (some ⟨fb, 0, none⟩)] #[]) wr := HL.out 7 rfl
        have hcr' : wr.cell? ⟨b, off + k, none⟩ = some (.int .i64 7) := hcr
        clear hcr
        go_wp2_with fail
        refine (HCALL.out _ HFK.out HSTk.out).mono ?_
        rintro e w11 ⟨rfl, hst, on⟩
        have H11 := Lib.hid hst
        have O11 := Lib.hid (ON.out.trans on)
        clear hst on hlk hcr'
        go_wp2_with fail
        go_roundw
        case rel => exact ⟨k + 1, by omega, by go_num, H11.out, O11.out⟩
        case measure => simp [intOf]; omega
      · have hlk : (Instr.lookup 85 (.map (some mb)) (.int .i64 8) false).run Try.prog wr = .ok (.func (.func 50) #[.pointer (some ⟨fb, 0, none⟩)] #[]) wr := HL.out 8 rfl
        have hcr' : wr.cell? ⟨b, off + k, none⟩ = some (.int .i64 8) := hcr
        clear hcr
        go_wp2_with fail
        refine (HCALL.out _ HFK.out HSTk.out).mono ?_
        rintro e w11 ⟨rfl, hst, on⟩
        have H11 := Lib.hid hst
        have O11 := Lib.hid (ON.out.trans on)
        clear hst on hlk hcr'
        go_wp2_with fail
        go_roundw
        case rel => exact ⟨k + 1, by omega, by go_num, H11.out, O11.out⟩
        case measure => simp [intOf]; omega
    · obtain rfl : k = l.length := by omega
      go_wp2_with fail
      go_end0
      exact ⟨rfl, HSTk.out, (OnP.of_ext X10.out).trans ON.out⟩
end Go.Proofs.Ytpjigdfllbhknaa
