/-
  Layer 20: a number that stands for one comes to stand for another.
-/
import Derived.Test.YtabcmhiobfddnaaFidB
namespace Go.Proofs.Ytabcmhiobfddnaa
open Go Go.RowKit
set_option linter.unusedVariables false
set_option linter.unusedSimpArgs false
theorem len_put_has {L : List (Int × Value)} {k : Int} (v : Value) (hr : RisL L) (h : hasL L k = true) : (putL L k v).length = L.length := by
  unfold putL
  rw [len_ins]
  have := len_del_has hr h
  omega
def FSet (w : World) (tb mb most : Nat) (L : List (Int × Value)) (n : Int) (v : Value) (e : Ending) (w' : World) : Prop :=
  e = .returned (.int .i64 0) ∧ FidT w' tb mb most (putL L n v) ∧ Onm tb mb w w'
set_option maxRecDepth 20000 in
set_option maxHeartbeats 1000000 in
theorem fset_ok (tb mb most : Nat) (L : List (Int × Value)) (n : Int) (a b c d : Int) (s : ByteArray) (x y : Bool) (m f t : Int) (hb : hasL L n = true) (h0 : -9223372036854775808 ≤ n) (h1 : n ≤ 9223372036854775807) (w : World) (h : FidT w tb mb most L) :
    Calls Try.prog 13 #[.pointer (some ⟨tb, 0, none⟩), .int .i64 n, .agg #[.int .i64 a, .int .i64 b, .int .i64 c, .int .i64 d, .string s, .bool x, .bool y, .int .i64 m, .int .i64 f, .int .i64 t]] w (FSet w tb mb most L n (.agg #[.int .i64 a, .int .i64 b, .int .i64 c, .int .i64 d, .string s, .bool x, .bool y, .int .i64 m, .int .i64 f, .int .i64 t])) := by
  obtain ⟨a2, b2, c2, d2, s2, x2, y2, m2, f2, t2, hv⟩ := h.2.2.2.1.at_ n
  have he : Ext w (w.alloc (.cells #[.int .i64 a, .int .i64 b, .int .i64 c, .int .i64 d, .string s, .bool x, .bool y, .int .i64 m, .int .i64 f, .int .i64 t] 37)) := (Ext.refl w).alloc _
  have hh := h.ext he
  have c1 := cell_of_row _ tb 1 _ _ _ hh.1
  simp at c1
  have hl := hh.2.1.look (t := 58) (e := 37) Try.underlying3 Try.underlying58 (zeroFid _) n (i64_wf h0 h1)
  rw [hv, hb] at hl
  have hlt0 := h.lt
  have e2 : Ext w ((w.alloc (.cells #[.int .i64 a, .int .i64 b, .int .i64 c, .int .i64 d, .string s, .bool x, .bool y, .int .i64 m, .int .i64 f, .int .i64 t] 37)).alloc (.cells #[.int .i64 a2, .int .i64 b2, .int .i64 c2, .int .i64 d2, .string s2, .bool x2, .bool y2, .int .i64 m2, .int .i64 f2, .int .i64 t2] 37)).drew := (he.alloc _).drew
  have hbx : ((w.alloc (.cells #[.int .i64 a, .int .i64 b, .int .i64 c, .int .i64 d, .string s, .bool x, .bool y, .int .i64 m, .int .i64 f, .int .i64 t] 37)).alloc (.cells #[.int .i64 a2, .int .i64 b2, .int .i64 c2, .int .i64 d2, .string s2, .bool x2, .bool y2, .int .i64 m2, .int .i64 f2, .int .i64 t2] 37)).drew.heap[w.heap.size]? = some (.cells #[.int .i64 a, .int .i64 b, .int .i64 c, .int .i64 d, .string s, .bool x, .bool y, .int .i64 m, .int .i64 f, .int .i64 t] 37 (0, 0)) := ((Ext.refl _).alloc _).heap (heap_alloc_new w _)
  obtain ⟨wr, hwr⟩ : ∃ wr, ((w.alloc (.cells #[.int .i64 a, .int .i64 b, .int .i64 c, .int .i64 d, .string s, .bool x, .bool y, .int .i64 m, .int .i64 f, .int .i64 t] 37)).alloc (.cells #[.int .i64 a2, .int .i64 b2, .int .i64 c2, .int .i64 d2, .string s2, .bool x2, .bool y2, .int .i64 m2, .int .i64 f2, .int .i64 t2] 37)).drew = wr := ⟨_, rfl⟩
  rw [hwr] at e2 hbx
  have hm := h.ext e2
  have hlt := hm.lt
  obtain ⟨w2, hrun, hm2, hg2⟩ := hm.2.1.put (t := 58) (e := 37) Try.underlying3 Try.underlying58 (by have := hm.2.2.2.2.1; have := hm.2.2.2.2.2; unfold maxLen; omega) n (.agg #[.int .i64 a, .int .i64 b, .int .i64 c, .int .i64 d, .string s, .bool x, .bool y, .int .i64 m, .int .i64 f, .int .i64 t]) (i64_wf h0 h1)
  have hlx : w.heap.size < wr.heap.size := (Array.getElem?_eq_some_iff.1 hbx).1
  have hbx2 : w2.heap[w.heap.size]? = _ := (hg2.block w.heap.size hlx (fun e => by injection e; omega)).trans hbx
  have hb2 : w2.heap[tb]? = _ := (hg2.block tb hlt.1 (fun e => hm.2.2.1 (by injection e))).trans hm.1
  have HX : Hid (FidT w2 tb mb most (putL L n (.agg #[.int .i64 a, .int .i64 b, .int .i64 c, .int .i64 d, .string s, .bool x, .bool y, .int .i64 m, .int .i64 f, .int .i64 t])) ∧ Onm tb mb w w2) := Lib.hid ⟨⟨hb2, hm2.tight, hm.2.2.1, hm.2.2.2.1.put _ ⟨a, b, c, d, s, x, y, m, f, t, rfl⟩, hm.2.2.2.2.1, by rw [len_put_has _ hm.2.1.2 hb]; exact hm.2.2.2.2.2⟩, Onm.grown (tb := tb) e2 hg2⟩
  have HS1 : Hid ((fun w' : World => w'.heap[tb]? = some (.cells #[.int .i64 (most : Int), .map (some mb)] 60 (0, 0)) ∧ w'.heap[w.heap.size]? = some (.cells #[.int .i64 a, .int .i64 b, .int .i64 c, .int .i64 d, .string s, .bool x, .bool y, .int .i64 m, .int .i64 f, .int .i64 t] 37 (0, 0))) wr) := Lib.hid ⟨hm.1, hbx⟩
  have HS2 : Hid ((fun w' : World => w'.heap[tb]? = some (.cells #[.int .i64 (most : Int), .map (some mb)] 60 (0, 0)) ∧ w'.heap[w.heap.size]? = some (.cells #[.int .i64 a, .int .i64 b, .int .i64 c, .int .i64 d, .string s, .bool x, .bool y, .int .i64 m, .int .i64 f, .int .i64 t] 37 (0, 0))) w2) := Lib.hid ⟨hb2, hbx2⟩
  have HWR := Lib.hid hwr
  clear hm hlt hm2 hg2 hbx hlx hbx2 hb2 h hh he e2 hb hv hlt0 hwr
  go_enter Try.func13, Try.ntmps13
  go_wp2
  refine wp_region_plS (fun w' : World => w'.heap[tb]? = some (.cells #[.int .i64 (most : Int), .map (some mb)] 60 (0, 0)) ∧ w'.heap[w.heap.size]? = some (.cells #[.int .i64 a, .int .i64 b, .int .i64 c, .int .i64 d, .string s, .bool x, .bool y, .int .i64 m, .int .i64 f, .int .i64 t] 37 (0, 0))) (.free 0 (.free 1 (.free 2 (.free 3 (.free 4 (.free 5 (.one 6 .nil))))))) (by kernel_rfl) (by kernel_rfl) (by kernel_rfl) (by kernel_rfl) ?_
  rw [HWR.out]
  clear c1 hl
  iterate 5 (refine plS_val (v := ?_) rfl rfl HS1.out (fun w' hw' => ?_) ?_; rotate_left; (· have c1 := cell_of_row w' tb 1 _ _ _ hw'.1; simp at c1; go_simp; try with_reducible rfl); simp only [Act.put, List.setIfInBounds_toArray, List.set_cons_zero, List.set_cons_succ])
  refine plS_val (v := .agg #[.int .i64 a, .int .i64 b, .int .i64 c, .int .i64 d, .string s, .bool x, .bool y, .int .i64 m, .int .i64 f, .int .i64 t]) rfl rfl HS1.out (fun w' hw' => ?_) ?_
  · have q := fun i => cell_of_row w' w.heap.size i _ _ _ hw'.2
    have q0 := q 0; have q1 := q 1; have q2 := q 2; have q3 := q 3; have q4 := q 4; have q5 := q 5; have q6 := q 6; have q7 := q 7; have q8 := q 8; have q9 := q 9
    simp at q0 q1 q2 q3 q4 q5 q6 q7 q8 q9
    clear q
    go_simp
    try with_reducible rfl
  simp only [Act.put, List.setIfInBounds_toArray, List.set_cons_zero, List.set_cons_succ]
  refine plS_void (w' := w2) rfl rfl (exec_upd (.tmp 23) (.tmp 24) (.tmp 25) _ rfl _ _ _ rfl rfl rfl hrun) HS2.out ?_
  simp only [Act.put, List.setIfInBounds_toArray, List.set_cons_zero, List.set_cons_succ]
  refine plS_done ?_
  go_wp2
  go_ret
  exact ⟨rfl, HX.out⟩
end Go.Proofs.Ytabcmhiobfddnaa
