/-
  Layer 6: the document's bytes of a message; a message as the document, and the program, has it; the document's example.
-/
import Derived.Test.YtdoijbjmhnncdaaDoorRpcA
import Derived.Test.YtdoijbjmhnncdaaDoorRwb
namespace Go.Proofs.YtdoijbjmhnncdaaDoor
open Go Go.RowKit
set_option linter.unusedVariables false
set_option linter.unusedSimpArgs false
theorem infoM : (Tryd.prog.info? 25).map (·.size) = some 4 := by kernel_rfl
theorem infoMsg : (Tryd.prog.info? 32).map (·.size) = some 4 := by kernel_rfl
theorem short_any (l : List UInt8) (k : Nat) (K : Int) (hK : K = (k : Int)) (w : World) (hl : l.length ≤ 9223372036854775807) :
    Calls Tryd.prog 6 #[.string ⟨l.toArray⟩, .int .i64 K] w fun e w' => e = .returned (.string ⟨(l.take k).toArray⟩) ∧ w = w' := by
  subst hK
  by_cases h : k < l.length
  · have h2 : (k : Int) < (l.length : Int) := by omega
    have hx : (ByteArray.mk l.toArray).extract 0 k = ⟨(l.take k).toArray⟩ := by
      apply ByteArray.ext
      simp
    have h3 : k ≤ l.length := by omega
    go_enter Tryd.func6, Tryd.ntmps6
    go_wp2
    go_ret
    exact ⟨rfl, rfl⟩
  · have h2 : ¬ (k : Int) < (l.length : Int) := by omega
    have hx : l.take k = l := List.take_of_length_le (by omega)
    rw [hx]
    clear hx
    go_enter Tryd.func6, Tryd.ntmps6
    go_wp2
    go_ret
    exact ⟨rfl, rfl⟩
def OfRes (w : World) (rep : Bool) (xid proc : Int) (body : List UInt8) (e : Ending) (w' : World) : Prop :=
  ∃ A n c, e = .returned (.agg #[.bool rep, .int .u32 xid, .int .u32 proc, .slice A n c]) ∧ Sees w' A n c (bs body) ∧ Ext w w'
def AsRes (w : World) (rep : Bool) (xid proc : Int) (body : List UInt8) (e : Ending) (w' : World) : Prop := e = .returned (.agg #[.bool rep, .int .u32 xid, .int .u32 proc, .string ⟨body.toArray⟩]) ∧ Ext w w'
theorem as_any (rep : Bool) (xid proc : Int) (A : Option Addr) (n c : Nat) (body : List UInt8) (w : World) (hs : Sees w A n c (bs body)) :
    Calls Tryd.prog 12 #[.agg #[.bool rep, .int .u32 xid, .int .u32 proc, .slice A n c]] w (AsRes w rep xid proc body) := by
  have HZ := Lib.hid infoM
  obtain ⟨w1, hw1⟩ : ∃ w1, w.alloc (.cells #[.bool rep, .int .u32 xid, .int .u32 proc, .slice A n c] 32) = w1 := ⟨_, rfl⟩
  have e1 : Ext w w1 := by rw [← hw1]; exact (Ext.refl w).alloc _
  obtain ⟨w2, hw2⟩ : ∃ w2, w1.alloc (.cells #[.bool false, .int .u32 0, .int .u32 0, .string ⟨#[]⟩] 25) = w2 := ⟨_, rfl⟩
  have e2 : Ext w1 w2 := by rw [← hw2]; exact (Ext.refl w1).alloc _
  have hb1 : w2.heap[w.heap.size]? = some (.cells #[.bool rep, .int .u32 xid, .int .u32 proc, .slice A n c] 32 (0, 0)) := e2.heap (by rw [← hw1]; exact heap_alloc_new w _)
  have hg2 : w2.heap[w1.heap.size]? = some (.cells #[.bool false, .int .u32 0, .int .u32 0, .string ⟨#[]⟩] 25 (0, 0)) := by rw [← hw2]; exact heap_alloc_new w1 _
  have hsz1 : w.heap.size < w1.heap.size := by rw [← hw1]; simp
  have ts := str_of (hs.ext (e1.trans e2))
  have x0 := cell_of_row w2 w.heap.size 0 _ _ _ hb1
  have x1 := cell_of_row w2 w.heap.size 1 _ _ _ hb1
  have x2 := cell_of_row w2 w.heap.size 2 _ _ _ hb1
  have x3 := cell_of_row w2 w.heap.size 3 _ _ _ hb1
  have z0 := cell_of_row w2 w1.heap.size 0 _ _ _ hg2
  have z1 := cell_of_row w2 w1.heap.size 1 _ _ _ hg2
  have z2 := cell_of_row w2 w1.heap.size 2 _ _ _ hg2
  have z3 := cell_of_row w2 w1.heap.size 3 _ _ _ hg2
  simp at x0 x1 x2 x3 z0 z1 z2 z3
  have q0 := Lib.frozen_of_heap hg2 0
  have q1 := Lib.frozen_of_heap hg2 1
  have q2 := Lib.frozen_of_heap hg2 2
  have q3 := Lib.frozen_of_heap hg2 3
  have E2 := Lib.hid (e1.trans e2)
  have HG2 := Lib.hid hg2
  clear hb1 hg2 e1 e2 hs
  go_enter Tryd.func12, Tryd.ntmps12
  go_wp2
  have hset : ((((w2.setCell ⟨w1.heap.size, 0, none⟩ (.bool rep)).setCell ⟨w1.heap.size, 1, none⟩ (.int .u32 xid)).setCell ⟨w1.heap.size, 2, none⟩ (.int .u32 proc)).setCell ⟨w1.heap.size, 3, none⟩ (.string ⟨body.toArray⟩)).heap[w1.heap.size]? = some (.cells #[.bool rep, .int .u32 xid, .int .u32 proc, .string ⟨body.toArray⟩] 25 (0, 0)) := by
    have h1 := set_blk HG2.out 0 (.bool rep)
    have h2 := set_blk h1 1 (.int .u32 xid)
    have h3 := set_blk h2 2 (.int .u32 proc)
    have h4 := set_blk h3 3 (.string ⟨body.toArray⟩)
    simpa using h4
  refine bodyPost_ret (results_cell_row rfl _ _ w1.heap.size _ _ (0, 0) _ rfl hset Tryd.underlying25 rfl HZ.out) rfl ?_
  exact ⟨rfl, E2.out.onl ((((Onl.set w2 0 _).trans (Onl.set _ 1 _)).trans (Onl.set _ 2 _)).trans (Onl.set _ 3 _)) (by omega)⟩
theorem ex_msg : (msgB false 7 3 []).length = 24 ∧ (msgB false 7 3 []).getD 3 0 = 7 ∧ (msgB false 7 3 []).getD 23 0 = 3 := by decide
set_option maxRecDepth 20000 in
theorem lives6 (w : World) : Calls Tryd.prog 15 #[] w fun e w' => e = .returned (.bool true) ∧ Ext w w' := by
  have HW := Lib.hid (rwrite_any false 7 3 none 0 0 [] w (by omega) (by omega) (by simpa [bs] using Sees.nil w) (by omega))
  go_enter Tryd.func15, Tryd.ntmps15
  go_wp2_with fail
  refine HW.out.mono ?_
  rintro e w1 ⟨A, n, c, rfl, hown, e1⟩
  obtain ⟨A', c', hv, hs⟩ := own_sh hown
  injection hv with p1 _ p2
  subst p1 p2
  have hl := hs.len
  rw [bs_length, ex_msg.1] at hl
  subst hl
  obtain ⟨b, off, u, hA, hu, hc, _⟩ := hs.at_ (show 3 < 24 by omega)
  obtain ⟨b', off', u', hA', hu', hc', _⟩ := hs.at_ (show 23 < 24 by omega)
  subst hA
  injection hA' with hA'
  injection hA' with q1 q2
  subst q1 q2
  obtain rfl : u = .int .u8 7 := by
    have : (bs (msgB false 7 3 []))[3]? = some (.int .u8 7) := by kernel_rfl
    rw [this] at hu
    exact (Option.some.inj hu).symm
  obtain rfl : u' = .int .u8 3 := by
    have : (bs (msgB false 7 3 []))[23]? = some (.int .u8 3) := by kernel_rfl
    rw [this] at hu'
    exact (Option.some.inj hu').symm
  have hcl := hs.le
  have E1 := Lib.hid e1
  clear hown hs hu hu' e1
  go_wp2
  go_ret
  exact ⟨rfl, E1.out⟩
end Go.Proofs.YtdoijbjmhnncdaaDoor
