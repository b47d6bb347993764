/-
  Layer 14: whether two are the same; whether a number is a procedure's.
-/
import Derived.Test.YtpjigdfllbhknaaCalC
import Derived.Test.YtpjigdfllbhknaaBytEq
namespace Go.Proofs.Ytpjigdfllbhknaa
open Go Go.RowKit
set_option linter.unusedVariables false
set_option linter.unusedSimpArgs false
def cEq (t u : AR) (l r : List UInt8) : Bool := t.pr == u.pr && (t.off == u.off && (t.ct == u.ct && (t.sz == u.sz && (t.md == u.md && ((t.h1 == u.h1 && t.h2 == u.h2) && ((t.g1 == u.g1 && t.g2 == u.g2) && (t.nm == u.nm && (t.n2 == u.n2 && l == r))))))))
def kn (k : Int) : Bool := decide (0 < (fl k).length)
theorem known_any (k : Int) (w : World) : Calls Try.prog 30 #[.int .i64 k] w fun e w' => e = .returned (.bool (kn k)) ∧ Ext w w' := by
  have HF := Lib.hid (fields_any k w)
  have HL := Lib.hid (fl_le k)
  unfold kn
  generalize fl k = l at *
  have hl := HL.out.1
  by_cases h : 0 < l.length
  · have h2 : decide (0 < l.length) = true := by simpa using h
    rw [h2]
    go_enter Try.func30, Try.ntmps30
    go_wp2_with fail
    refine HF.out.mono ?_
    rintro e w1 ⟨A, rfl, see, e1, _⟩
    go_wp2_with fail
    go_ret
    exact ⟨rfl, e1⟩
  · have h2 : decide (0 < l.length) = false := by simpa using h
    rw [h2]
    obtain ⟨n, hn⟩ : ∃ n, l.length = n := ⟨_, rfl⟩
    rw [hn] at HF h
    obtain rfl : n = 0 := by omega
    go_enter Try.func30, Try.ntmps30
    go_wp2_with fail
    refine HF.out.mono ?_
    rintro e w1 ⟨A, rfl, see, e1, _⟩
    go_wp2_with fail
    go_ret
    exact ⟨rfl, e1⟩
set_option maxRecDepth 20000 in
set_option maxHeartbeats 4000000 in
theorem csame_any (t u : AR) (l r : List UInt8) (w : World) (ht : Sees w t.dA t.dn t.dk (bs l)) (hu : Sees w u.dA u.dn u.dk (bs r)) :
    Calls Try.prog 23 #[.agg t.cs, .agg u.cs] w fun e w' => e = .returned (.bool (cEq t u l r)) ∧ Ext w w' := by
  obtain ⟨w1, hw1⟩ : ∃ w1, (w.alloc (.cells t.cs 26)).alloc (.cells u.cs 26) = w1 := ⟨_, rfl⟩
  have e1 : Ext w w1 := by rw [← hw1]; exact ((Ext.refl w).alloc _).alloc _
  have hb1 : w1.heap[w.heap.size]? = some (.cells t.cs 26 (0, 0)) := by rw [← hw1]; exact ((Ext.refl _).alloc _).heap (heap_alloc_new w _)
  have hb2 : w1.heap[w.heap.size + 1]? = some (.cells u.cs 26 (0, 0)) := by rw [← hw1]; exact heap_alloc2_new w _ _
  have HB := Lib.hid (bequal_any t.dA t.dn t.dk l u.dA u.dn u.dk r w1 (ht.ext e1) (hu.ext e1))
  have E1 := Lib.hid e1
  have x0 := cell_of_row w1 w.heap.size 0 _ _ _ hb1
  have z0 := cell_of_row w1 (w.heap.size + 1) 0 _ _ _ hb2
  have x1 := cell_of_row w1 w.heap.size 1 _ _ _ hb1
  have z1 := cell_of_row w1 (w.heap.size + 1) 1 _ _ _ hb2
  have x2 := cell_of_row w1 w.heap.size 2 _ _ _ hb1
  have z2 := cell_of_row w1 (w.heap.size + 1) 2 _ _ _ hb2
  have x3 := cell_of_row w1 w.heap.size 3 _ _ _ hb1
  have z3 := cell_of_row w1 (w.heap.size + 1) 3 _ _ _ hb2
  have x4 := cell_of_row w1 w.heap.size 4 _ _ _ hb1
  have z4 := cell_of_row w1 (w.heap.size + 1) 4 _ _ _ hb2
  have x5 := cell_of_row w1 w.heap.size 5 _ _ _ hb1
  have z5 := cell_of_row w1 (w.heap.size + 1) 5 _ _ _ hb2
  have x6 := cell_of_row w1 w.heap.size 6 _ _ _ hb1
  have z6 := cell_of_row w1 (w.heap.size + 1) 6 _ _ _ hb2
  have x7 := cell_of_row w1 w.heap.size 7 _ _ _ hb1
  have z7 := cell_of_row w1 (w.heap.size + 1) 7 _ _ _ hb2
  have x8 := cell_of_row w1 w.heap.size 8 _ _ _ hb1
  have z8 := cell_of_row w1 (w.heap.size + 1) 8 _ _ _ hb2
  have x9 := cell_of_row w1 w.heap.size 9 _ _ _ hb1
  have z9 := cell_of_row w1 (w.heap.size + 1) 9 _ _ _ hb2
  have x10 := cell_of_row w1 w.heap.size 10 _ _ _ hb1
  have z10 := cell_of_row w1 (w.heap.size + 1) 10 _ _ _ hb2
  have x11 := cell_of_row w1 w.heap.size 11 _ _ _ hb1
  have z11 := cell_of_row w1 (w.heap.size + 1) 11 _ _ _ hb2
  simp [AR.cs] at x0 x1 x2 x3 x4 x5 x6 x7 x8 x9 x10 x11 z0 z1 z2 z3 z4 z5 z6 z7 z8 z9 z10 z11
  clear hb1 hb2 e1 ht hu
  go_enter Try.func23, Try.ntmps23
  go_wp2_with fail
  · refine HB.out.mono ?_
    rintro e w3 ⟨rfl, rfl⟩
    rcases Bool.eq_false_or_eq_true (l == r) with g9 | g9
    · rw [g9]
      go_wp2_with fail
      all_goals (go_ret; exact ⟨congrArg (fun b => Ending.returned (Value.bool b)) (by simp [cEq, *]), E1.out⟩)
    · rw [g9]
      go_wp2_with fail
      go_ret
      exact ⟨congrArg (fun b => Ending.returned (Value.bool b)) (by simp [cEq, *]), E1.out⟩
  all_goals (go_ret; exact ⟨congrArg (fun b => Ending.returned (Value.bool b)) (by simp [cEq, *]), E1.out⟩)
end Go.Proofs.Ytpjigdfllbhknaa
