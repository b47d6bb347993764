/-
  Layer 6: a header that is read: its numbers, the first fault of them.
-/
import Derived.Test.YtdoijbjmhnncdaaDoorRpcC
import Derived.Test.YtdoijbjmhnncdaaDoorDmA
namespace Go.Proofs.YtdoijbjmhnncdaaDoor
open Go Go.RowKit
set_option linter.unusedVariables false
set_option linter.unusedSimpArgs false
theorem num4_be (x : Int) (t : List UInt8) (h0 : 0 ≤ x) (h1 : x < 4294967296) : num4 (be4 x ++ t) = x := by
  simp only [num4, be4, List.cons_append, List.getD_cons_zero, List.getD_cons_succ, List.nil_append]
  rw [u8_of _ (by omega) (by omega), u8_of _ (by omega) (by omega), u8_of _ (by omega) (by omega), u8_of _ (by omega) (by omega)]
  omega
def FP (w : World) (hb rb : Nat) (fp : Option Addr) (F : Option (Int × Int)) : Prop := match F with
  | none => fp = none
  | some (x, a) => ∃ fb, fp = some ⟨fb, 0, none⟩ ∧ w.heap[fb]? = some (.cells #[.int .i64 x, .int .i64 a] 48 (0, 0)) ∧ ¬ fb = hb ∧ ¬ fb = rb
def HdS (w : World) (hb rb : Nat) (e : Int) (l : List UInt8) (at_ : Nat) (F : Option (Int × Int)) : Prop :=
  ∃ fp, w.heap[hb]? = some (.cells #[.pointer (some ⟨rb, 0, none⟩), .int .i64 (at_ : Int), .pointer fp] 61 (0, 0)) ∧ Rdr w rb e l ∧ ¬ hb = rb ∧ FP w hb rb fp F
/-- Others than two blocks are as they were. -/
abbrev TwoH (hb rb : Nat) : Nat → Prop := fun k => ¬ k = hb ∧ ¬ k = rb
theorem kp_onl {hb rb g : Nat} {w w' : World} (h : Onl g w w') (hg : g = hb ∨ g = rb) : Kp (TwoH hb rb) w w' :=
  ⟨h.os, h.tape, h.output, h.size, fun k hk hlt => h.block k hlt (fun e => by injection e with e; rcases hg with q | q <;> simp only [TwoH] at hk <;> omega)⟩
theorem FP.kept {w w' : World} {hb rb : Nat} {fp : Option Addr} {F : Option (Int × Int)} (h : FP w hb rb fp F) (hk : Kp (TwoH hb rb) w w') : FP w' hb rb fp F := by
  cases F with
  | none => exact h
  | some p =>
    obtain ⟨x, a⟩ := p
    obtain ⟨fb, h1, h2, h3, h4⟩ := h
    exact ⟨fb, h1, hk.heap h2 ⟨h3, h4⟩, h3, h4⟩
theorem HdS.lt {w : World} {hb rb at_ : Nat} {e : Int} {l : List UInt8} {F : Option (Int × Int)} (h : HdS w hb rb e l at_ F) : hb < w.heap.size ∧ rb < w.heap.size ∧ ¬ hb = rb := by
  obtain ⟨fp, h1, h2, h3, _⟩ := h
  exact ⟨(Array.getElem?_eq_some_iff.1 h1).1, h2.lt, h3⟩
theorem HdS.ext {w w' : World} {hb rb at_ : Nat} {e : Int} {l : List UInt8} {F : Option (Int × Int)} (h : HdS w hb rb e l at_ F) (he : Ext w w') : HdS w' hb rb e l at_ F := by
  obtain ⟨fp, h1, h2, h3, h4⟩ := h
  exact ⟨fp, he.heap h1, h2.ext he, h3, h4.kept (Kp.of_ext he)⟩
/-- The first of faults. -/
def orF (F : Option (Int × Int)) (x a : Int) : Option (Int × Int) := match F with
  | none => some (x, a)
  | some p => some p
theorem rdr_setOther {w : World} {hb rb i : Nat} {e : Int} {l : List UInt8} {v : Value} (h : Rdr w rb e l) (hne : ¬ hb = rb) (hp : ∃ a b c t, w.heap[hb]? = some (.cells #[.pointer a, .int .i64 b, .pointer c] t (0, 0))) : Rdr (w.setCell ⟨hb, i, none⟩ v) rb e l := by
  obtain ⟨A, n, c, h1, h2⟩ := h
  refine ⟨A, n, c, (heap_setCell_other _ _ _ _ (fun e => hne e.symm)).trans h1, ?_⟩
  obtain ⟨a, b, c', t, hp⟩ := hp
  refine ⟨h2.1, h2.2.1, h2.2.2.1, h2.2.2.2.1, fun hn => ?_⟩
  obtain ⟨g, off, hA, hc⟩ := h2.2.2.2.2 hn
  refine ⟨g, off, hA, fun j u hu => ?_⟩
  have hcu := hc j u hu
  have hne2 : ¬ g = hb := fun q => by
    subst q
    rw [cell_of_row w g (off + j) _ _ _ hp] at hcu
    obtain ⟨hj, rfl⟩ := bs_get l j u hu
    match off + j, hcu with
    | 0, hcu => simp at hcu
    | 1, hcu => simp at hcu
    | 2, hcu => simp at hcu
    | k + 3, hcu => simp at hcu
  rw [World.cell?_of_block (w := w) (w' := w.setCell ⟨hb, i, none⟩ v) (heap_setCell_other _ _ _ _ (by simpa using hne2))]
  exact hcu
theorem hfail_any (hb rb at_ : Nat) (e : Int) (l : List UInt8) (F : Option (Int × Int)) (x a : Int) (w : World) (h : HdS w hb rb e l at_ F) :
    Calls Tryd.prog 28 #[.pointer (some ⟨hb, 0, none⟩), .int .i64 x, .int .i64 a] w fun r w' => r = .returned (.tuple #[]) ∧ HdS w' hb rb e l at_ (orF F x a) ∧ Kp (TwoH hb rb) w w' := by
  obtain ⟨fp, h1, h2, h3, h4⟩ := h
  have c2 := cell_of_row w hb 2 _ _ _ h1
  simp at c2
  cases F with
  | some p =>
    obtain ⟨fb, rfl, h5⟩ := h4
    have HX : Hid (HdS w hb rb e l at_ (some p)) := Lib.hid ⟨_, h1, h2, h3, ⟨fb, rfl, h5⟩⟩
    clear h1 h2 h3 h5
    go_enter Tryd.func28, Tryd.ntmps28
    go_wp2
    go_end0
    exact ⟨rfl, HX.out, Kp.refl _ _⟩
  | none =>
    obtain rfl : fp = none := h4
    have hlt := (Array.getElem?_eq_some_iff.1 h1).1
    have hltr := h2.lt
    obtain ⟨w1, hw1⟩ : ∃ w1, w.alloc (.cells #[.int .i64 x, .int .i64 a] 48) = w1 := ⟨_, rfl⟩
    have e1 : Ext w w1 := by rw [← hw1]; exact (Ext.refl w).alloc _
    have hf1 : w1.heap[w.heap.size]? = some (.cells #[.int .i64 x, .int .i64 a] 48 (0, 0)) := by rw [← hw1]; exact heap_alloc_new w _
    have hb1 := e1.heap h1
    have d2 := cell_of_row w1 hb 2 _ _ _ hb1
    simp at d2
    have f2 := Lib.frozen_of_heap hb1 2
    have HFIN : Hid (HdS (w1.setCell ⟨hb, 2, none⟩ (.pointer (some ⟨w.heap.size, 0, none⟩))) hb rb e l at_ (some (x, a)) ∧ Kp (TwoH hb rb) w (w1.setCell ⟨hb, 2, none⟩ (.pointer (some ⟨w.heap.size, 0, none⟩)))) := Lib.hid ⟨⟨some ⟨w.heap.size, 0, none⟩, by simpa using heap_setCell_same w1 hb 2 _ _ (.pointer (some ⟨w.heap.size, 0, none⟩)) hb1, rdr_setOther (h2.ext e1) h3 ⟨_, _, _, _, hb1⟩, h3, w.heap.size, rfl, (heap_setCell_other _ _ _ _ (by simp only; omega)).trans hf1, by omega, by omega⟩,
      (Kp.of_ext e1).set hb 2 _ (fun q => q.1 rfl)⟩
    clear h1 h2 h3 hf1 hb1 e1
    go_enter Tryd.func28, Tryd.ntmps28
    go_wp2
    go_end0
    exact ⟨rfl, HFIN.out⟩
def numN (l : List UInt8) : Int := if 4 ≤ l.length then num4 l else 0
def numL (l : List UInt8) : List UInt8 := if 4 ≤ l.length then l.drop 4 else []
end Go.Proofs.YtdoijbjmhnncdaaDoor
