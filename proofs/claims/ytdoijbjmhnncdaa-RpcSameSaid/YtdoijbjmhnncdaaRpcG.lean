/-
  Layer 6: whether two messages are the same.
-/
import Derived.Test.YtdoijbjmhnncdaaRpcF
namespace Go.Proofs.Ytdoijbjmhnncdaa
open Go Go.RowKit
set_option linter.unusedVariables false
set_option linter.unusedSimpArgs false
/-- bytes.Equal, of bytes that are there. -/
theorem bequal_any (A : Option Addr) (n c : Nat) (l : List UInt8) (B : Option Addr) (m d : Nat) (r : List UInt8) (w : World) (hs : Sees w A n c (bs l)) (ht : Sees w B m d (bs r)) :
    Calls Try.prog 19 #[.slice A n c, .slice B m d] w fun e w' => e = .returned (.bool (l == r)) ∧ w = w' := by
  have x1 := str_of hs
  have x2 := str_of ht
  clear hs ht
  go_enter Try.func19, Try.ntmps19
  go_wp2
  go_ret
  exact ⟨rfl, rfl⟩
def mEq (ra rb : Bool) (xa xb pa pb : Int) (l r : List UInt8) : Bool := ra == rb && (xa == xb && (pa == pb && l == r))
set_option maxHeartbeats 1000000 in
theorem rsame_any (ra rb : Bool) (xa xb pa pb : Int) (A : Option Addr) (n c : Nat) (l : List UInt8) (B : Option Addr) (m d : Nat) (r : List UInt8) (w : World) (hs : Sees w A n c (bs l)) (ht : Sees w B m d (bs r)) :
    Calls Try.prog 12 #[.agg #[.bool ra, .int .u32 xa, .int .u32 pa, .slice A n c], .agg #[.bool rb, .int .u32 xb, .int .u32 pb, .slice B m d]] w fun e w' => e = .returned (.bool (mEq ra rb xa xb pa pb l r)) ∧ Ext w w' := by
  obtain ⟨w1, hw1⟩ : ∃ w1, (w.alloc (.cells #[.bool ra, .int .u32 xa, .int .u32 pa, .slice A n c] 29)).alloc (.cells #[.bool rb, .int .u32 xb, .int .u32 pb, .slice B m d] 29) = w1 := ⟨_, rfl⟩
  have e1 : Ext w w1 := by rw [← hw1]; exact ((Ext.refl w).alloc _).alloc _
  have hb1 : w1.heap[w.heap.size]? = some (.cells #[.bool ra, .int .u32 xa, .int .u32 pa, .slice A n c] 29 (0, 0)) := by rw [← hw1]; exact ((Ext.refl _).alloc _).heap (heap_alloc_new w _)
  have hb2 : w1.heap[w.heap.size + 1]? = some (.cells #[.bool rb, .int .u32 xb, .int .u32 pb, .slice B m d] 29 (0, 0)) := by rw [← hw1]; exact heap_alloc2_new w _ _
  have HB := Lib.hid (bequal_any A n c l B m d r w1 (hs.ext e1) (ht.ext e1))
  have E1 := Lib.hid e1
  have x0 := cell_of_row w1 w.heap.size 0 _ _ _ hb1
  have x1 := cell_of_row w1 w.heap.size 1 _ _ _ hb1
  have x2 := cell_of_row w1 w.heap.size 2 _ _ _ hb1
  have x3 := cell_of_row w1 w.heap.size 3 _ _ _ hb1
  have z0 := cell_of_row w1 (w.heap.size + 1) 0 _ _ _ hb2
  have z1 := cell_of_row w1 (w.heap.size + 1) 1 _ _ _ hb2
  have z2 := cell_of_row w1 (w.heap.size + 1) 2 _ _ _ hb2
  have z3 := cell_of_row w1 (w.heap.size + 1) 3 _ _ _ hb2
  simp at x0 x1 x2 x3 z0 z1 z2 z3
  clear hb1 hb2 e1 hs ht
  have hM : mEq ra rb xa xb pa pb l r = (ra == rb && (xa == xb && (pa == pb && l == r))) := rfl
  rcases Bool.eq_false_or_eq_true (ra == rb) with g0 | g0
  · rcases Bool.eq_false_or_eq_true (xa == xb) with g1 | g1
    · rcases Bool.eq_false_or_eq_true (pa == pb) with g2 | g2
      · have hM2 : mEq ra rb xa xb pa pb l r = (l == r) := by rw [hM, g0, g1, g2]; rfl
        rw [hM2]
        clear hM hM2
        go_enter Try.func12, Try.ntmps12
        go_wp2_with fail
        refine HB.out.mono ?_
        rintro e w2 ⟨rfl, rfl⟩
        go_wp2_with fail
        go_ret
        exact ⟨rfl, E1.out⟩
      · have hM2 : mEq ra rb xa xb pa pb l r = false := by rw [hM, g0, g1, g2]; rfl
        rw [hM2]
        clear hM hM2
        go_enter Try.func12, Try.ntmps12
        go_wp2_with fail
        go_ret
        exact ⟨rfl, E1.out⟩
    · have hM2 : mEq ra rb xa xb pa pb l r = false := by rw [hM, g0, g1]; rfl
      rw [hM2]
      clear hM hM2
      go_enter Try.func12, Try.ntmps12
      go_wp2_with fail
      go_ret
      exact ⟨rfl, E1.out⟩
  · have hM2 : mEq ra rb xa xb pa pb l r = false := by rw [hM, g0]; rfl
    rw [hM2]
    clear hM hM2
    go_enter Try.func12, Try.ntmps12
    go_wp2_with fail
    go_ret
    exact ⟨rfl, E1.out⟩
end Go.Proofs.Ytdoijbjmhnncdaa
