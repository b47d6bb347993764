/-
  Layer 20: a number that comes to stand for a fid, is asked, changed, dropped.
-/
import Derived.Test.YtabcmhiobfddnaaFidA
import Derived.Test.YtabcmhiobfddnaaInoA
namespace Go.Proofs.Ytabcmhiobfddnaa
open Go Go.RowKit
set_option linter.unusedVariables false
set_option linter.unusedSimpArgs false
theorem exec_upd {P : Program} {w w' : World} {o : Oper} {a : Act} (m x v : Operand) (t : TypeId) (ho : o.op = Op.mapUpdate t m x v) (mv xv vv : Value) (hm : a.eval m = mv) (hx : a.eval x = xv) (hv : a.eval v = vv) (hrun : (Instr.mapUpdate t mv xv vv).run P w = .ok () w') : (execOp a.eval o).run P w = .ok .skip w' := by
  simp [execOp, ho, hm, hx, hv, hrun, Result.andThen]
theorem fadd_busy (tb mb most : Nat) (L : List (Int × Value)) (n : Int) (a b c d : Int) (s : ByteArray) (x y : Bool) (m f t : Int) (hb : hasL L n = true) (h0 : -9223372036854775808 ≤ n) (h1 : n ≤ 9223372036854775807) (w : World) (h : FidT w tb mb most L) :
    Calls Try.prog 20 #[.pointer (some ⟨tb, 0, none⟩), .int .i64 n, .agg #[.int .i64 a, .int .i64 b, .int .i64 c, .int .i64 d, .string s, .bool x, .bool y, .int .i64 m, .int .i64 f, .int .i64 t]] w fun e w' => e = .returned (.int .i64 18) ∧ Ext w w' := by
  have he : Ext w (w.alloc (.cells #[.int .i64 a, .int .i64 b, .int .i64 c, .int .i64 d, .string s, .bool x, .bool y, .int .i64 m, .int .i64 f, .int .i64 t] 37)) := (Ext.refl w).alloc _
  have HC := Lib.hid (ffree_busy tb mb most L n hb h0 h1 (w.alloc (.cells #[.int .i64 a, .int .i64 b, .int .i64 c, .int .i64 d, .string s, .bool x, .bool y, .int .i64 m, .int .i64 f, .int .i64 t] 37)) (h.ext he))
  have HE := Lib.hid he
  clear h he
  go_enter Try.func20, Try.ntmps20
  go_wp2_with fail
  refine (HC.out).mono ?_
  rintro e w1 ⟨rfl, e1⟩
  have E1 := Lib.hid (HE.out.trans e1)
  clear e1
  go_wp2
  go_ret
  exact ⟨rfl, E1.out⟩
theorem fadd_full (tb mb most : Nat) (L : List (Int × Value)) (n : Int) (a b c d : Int) (s : ByteArray) (x y : Bool) (m f t : Int) (hb : hasL L n = false) (hf : L.length = most) (h0 : -9223372036854775808 ≤ n) (h1 : n ≤ 9223372036854775807) (w : World) (h : FidT w tb mb most L) :
    Calls Try.prog 20 #[.pointer (some ⟨tb, 0, none⟩), .int .i64 n, .agg #[.int .i64 a, .int .i64 b, .int .i64 c, .int .i64 d, .string s, .bool x, .bool y, .int .i64 m, .int .i64 f, .int .i64 t]] w fun e w' => e = .returned (.int .i64 5) ∧ Ext w w' := by
  have he : Ext w (w.alloc (.cells #[.int .i64 a, .int .i64 b, .int .i64 c, .int .i64 d, .string s, .bool x, .bool y, .int .i64 m, .int .i64 f, .int .i64 t] 37)) := (Ext.refl w).alloc _
  have HC := Lib.hid (ffree_full tb mb most L n hb hf h0 h1 (w.alloc (.cells #[.int .i64 a, .int .i64 b, .int .i64 c, .int .i64 d, .string s, .bool x, .bool y, .int .i64 m, .int .i64 f, .int .i64 t] 37)) (h.ext he))
  have HE := Lib.hid he
  clear h he
  go_enter Try.func20, Try.ntmps20
  go_wp2_with fail
  refine (HC.out).mono ?_
  rintro e w1 ⟨rfl, e1⟩
  have E1 := Lib.hid (HE.out.trans e1)
  clear e1
  go_wp2
  go_ret
  exact ⟨rfl, E1.out⟩
def FAdd (w : World) (tb mb most : Nat) (L : List (Int × Value)) (n : Int) (v : Value) (e : Ending) (w' : World) : Prop :=
  e = .returned (.int .i64 0) ∧ FidT w' tb mb most (putL L n v) ∧ Onm tb mb w w'
set_option maxRecDepth 20000 in
set_option maxHeartbeats 1000000 in
theorem fadd_ok (tb mb most : Nat) (L : List (Int × Value)) (n : Int) (a b c d : Int) (s : ByteArray) (x y : Bool) (m f t : Int) (hb : hasL L n = false) (hf : L.length < most) (h0 : -9223372036854775808 ≤ n) (h1 : n ≤ 9223372036854775807) (w : World) (h : FidT w tb mb most L) :
    Calls Try.prog 20 #[.pointer (some ⟨tb, 0, none⟩), .int .i64 n, .agg #[.int .i64 a, .int .i64 b, .int .i64 c, .int .i64 d, .string s, .bool x, .bool y, .int .i64 m, .int .i64 f, .int .i64 t]] w (FAdd w tb mb most L n (.agg #[.int .i64 a, .int .i64 b, .int .i64 c, .int .i64 d, .string s, .bool x, .bool y, .int .i64 m, .int .i64 f, .int .i64 t])) := by
  have he : Ext w (w.alloc (.cells #[.int .i64 a, .int .i64 b, .int .i64 c, .int .i64 d, .string s, .bool x, .bool y, .int .i64 m, .int .i64 f, .int .i64 t] 37)) := (Ext.refl w).alloc _
  have HC := Lib.hid (ffree_ok tb mb most L n hb hf h0 h1 (w.alloc (.cells #[.int .i64 a, .int .i64 b, .int .i64 c, .int .i64 d, .string s, .bool x, .bool y, .int .i64 m, .int .i64 f, .int .i64 t] 37)) (h.ext he))
  have HE := Lib.hid he
  have HM := Lib.hid h
  have HB := Lib.hid hb
  have HF := Lib.hid hf
  have HBX := Lib.hid (heap_alloc_new w (.cells #[.int .i64 a, .int .i64 b, .int .i64 c, .int .i64 d, .string s, .bool x, .bool y, .int .i64 m, .int .i64 f, .int .i64 t] 37))
  clear h he hb hf
  go_enter Try.func20, Try.ntmps20
  go_wp2_with fail
  refine (HC.out).mono ?_
  rintro e w1 ⟨rfl, e1⟩
  have E1 := Lib.hid (HE.out.trans e1)
  have hbx := e1.heap HBX.out
  have HBX1 := Lib.hid (show w1.heap[w.heap.size]? = _ from hbx)
  clear e1 hbx
  go_wp2_with fail
  have hm := HM.out.ext E1.out.drew
  have hlt := hm.lt
  obtain ⟨w2, hrun, hm2, hg2⟩ := hm.2.1.put (t := 58) (e := 37) Try.underlying3 Try.underlying58 (by have := hm.2.2.2.2.1; have := hm.2.2.2.2.2; unfold maxLen; omega) n (.agg #[.int .i64 a, .int .i64 b, .int .i64 c, .int .i64 d, .string s, .bool x, .bool y, .int .i64 m, .int .i64 f, .int .i64 t]) (i64_wf h0 h1)
  have hbx : w1.drew.heap[w.heap.size]? = _ := HBX1.out
  have hlx : w.heap.size < w1.drew.heap.size := (Array.getElem?_eq_some_iff.1 hbx).1
  have hmw := HM.out.lt
  have hbx2 : w2.heap[w.heap.size]? = _ := (hg2.block w.heap.size hlx (fun e => by injection e; omega)).trans hbx
  have hb2 : w2.heap[tb]? = _ := (hg2.block tb hlt.1 (fun e => hm.2.2.1 (by injection e))).trans hm.1
  have HX : Hid (FidT w2 tb mb most (putL L n (.agg #[.int .i64 a, .int .i64 b, .int .i64 c, .int .i64 d, .string s, .bool x, .bool y, .int .i64 m, .int .i64 f, .int .i64 t])) ∧ Onm tb mb w w2) := Lib.hid ⟨⟨hb2, hm2.tight, hm.2.2.1, hm.2.2.2.1.put _ ⟨a, b, c, d, s, x, y, m, f, t, rfl⟩, hm.2.2.2.2.1, by rw [len_put_new _ HB.out]; exact HF.out⟩, Onm.grown (tb := tb) E1.out.drew hg2⟩
  have HS1 : Hid ((fun w' : World => w'.heap[tb]? = some (.cells #[.int .i64 (most : Int), .map (some mb)] 60 (0, 0)) ∧ w'.heap[w.heap.size]? = some (.cells #[.int .i64 a, .int .i64 b, .int .i64 c, .int .i64 d, .string s, .bool x, .bool y, .int .i64 m, .int .i64 f, .int .i64 t] 37 (0, 0))) w1.drew) := Lib.hid ⟨hm.1, hbx⟩
  have HS2 : Hid ((fun w' : World => w'.heap[tb]? = some (.cells #[.int .i64 (most : Int), .map (some mb)] 60 (0, 0)) ∧ w'.heap[w.heap.size]? = some (.cells #[.int .i64 a, .int .i64 b, .int .i64 c, .int .i64 d, .string s, .bool x, .bool y, .int .i64 m, .int .i64 f, .int .i64 t] 37 (0, 0))) w2) := Lib.hid ⟨hb2, hbx2⟩
  clear hm hlt hm2 hg2 hbx hlx hmw hbx2 hb2
  refine wp_region_plS (fun w' : World => w'.heap[tb]? = some (.cells #[.int .i64 (most : Int), .map (some mb)] 60 (0, 0)) ∧ w'.heap[w.heap.size]? = some (.cells #[.int .i64 a, .int .i64 b, .int .i64 c, .int .i64 d, .string s, .bool x, .bool y, .int .i64 m, .int .i64 f, .int .i64 t] 37 (0, 0))) (.free 0 (.free 1 (.free 2 (.free 3 (.free 4 (.free 5 (.one 6 .nil))))))) (by kernel_rfl) (by kernel_rfl) (by kernel_rfl) (by kernel_rfl) ?_
  iterate 5 (refine plS_val (v := ?_) rfl rfl HS1.out (fun w' hw' => ?_) ?_; rotate_left; (· have c1 := cell_of_row w' tb 1 _ _ _ hw'.1; simp at c1; go_simp; try with_reducible rfl); simp only [Act.put, List.setIfInBounds_toArray, List.set_cons_zero, List.set_cons_succ])
  refine plS_val (v := .agg #[.int .i64 a, .int .i64 b, .int .i64 c, .int .i64 d, .string s, .bool x, .bool y, .int .i64 m, .int .i64 f, .int .i64 t]) rfl rfl HS1.out (fun w' hw' => ?_) ?_
  · have q := fun i => cell_of_row w' w.heap.size i _ _ _ hw'.2
    have q0 := q 0; have q1 := q 1; have q2 := q 2; have q3 := q 3; have q4 := q 4; have q5 := q 5; have q6 := q 6; have q7 := q 7; have q8 := q 8; have q9 := q 9
    simp at q0 q1 q2 q3 q4 q5 q6 q7 q8 q9
    clear q
    go_simp
    try with_reducible rfl
  simp only [Act.put, List.setIfInBounds_toArray, List.set_cons_zero, List.set_cons_succ]
  refine plS_void (w' := w2) rfl rfl (exec_upd (.tmp 17) (.tmp 18) (.tmp 19) _ rfl _ _ _ rfl rfl rfl hrun) HS2.out ?_
  simp only [Act.put, List.setIfInBounds_toArray, List.set_cons_zero, List.set_cons_succ]
  refine plS_done ?_
  go_wp2
  go_ret
  exact ⟨rfl, HX.out⟩
theorem fdrop_no (tb mb most : Nat) (L : List (Int × Value)) (n : Int) (hb : hasL L n = false) (h0 : -9223372036854775808 ≤ n) (h1 : n ≤ 9223372036854775807) (w : World) (h : FidT w tb mb most L) :
    Calls Try.prog 15 #[.pointer (some ⟨tb, 0, none⟩), .int .i64 n] w fun e w' => e = .returned (.int .i64 17) ∧ Ext w w' := by
  have c1 := cell_of_row w tb 1 _ _ _ h.1
  simp at c1
  have hl := h.2.1.look (t := 58) (e := 37) Try.underlying3 Try.underlying58 (zeroFid w) n (i64_wf h0 h1)
  obtain ⟨a, b, c, d, s, x, y, m, f, t, hv⟩ := h.2.2.2.1.at_ n
  rw [hv, hb] at hl
  clear h hv hb
  go_enter Try.func15, Try.ntmps15
  go_wp2
  go_ret
  exact ⟨rfl, (Ext.refl w).alloc _⟩
theorem fget_no (tb mb most : Nat) (L : List (Int × Value)) (n : Int) (hb : hasL L n = false) (h0 : -9223372036854775808 ≤ n) (h1 : n ≤ 9223372036854775807) (w : World) (h : FidT w tb mb most L) :
    Calls Try.prog 10 #[.pointer (some ⟨tb, 0, none⟩), .int .i64 n] w fun e w' => e = .returned (.tuple #[.agg #[.int .i64 0, .int .i64 0, .int .i64 0, .int .i64 0, .string ByteArray.empty, .bool false, .bool false, .int .i64 0, .int .i64 0, .int .i64 0], .int .i64 17]) ∧ Ext w w' := by
  have he : Ext w (w.alloc (.cells #[.int .i64 0, .int .i64 0, .int .i64 0, .int .i64 0, .string ⟨#[]⟩, .bool false, .bool false, .int .i64 0, .int .i64 0, .int .i64 0] 37)) := (Ext.refl w).alloc _
  have hh := h.ext he
  have c1 := cell_of_row _ tb 1 _ _ _ hh.1
  simp at c1
  have hl := hh.2.1.look (t := 58) (e := 37) Try.underlying3 Try.underlying58 (zeroFid _) n (i64_wf h0 h1)
  obtain ⟨a, b, c, d, s, x, y, m, f, t, hv⟩ := h.2.2.2.1.at_ n
  rw [hv, hb] at hl
  have HZ : Hid ((Try.prog.info? 37).map (·.size) = some (10 : Nat)) := Lib.hid (by kernel_rfl)
  clear h hv hb he hh
  go_enter Try.func10, Try.ntmps10
  go_wp2
  refine bodyPost_ret (results_cell_tmp rfl _ _ w.heap.size _ _ (0, 0) _ (.int .i64 17) rfl rfl (((Ext.refl _).alloc _).heap (heap_alloc_new w _)) Try.underlying37 rfl HZ.out) rfl ?_
  exact ⟨rfl, ((Ext.refl w).alloc _).alloc _⟩
theorem fget_ok (tb mb most : Nat) (L : List (Int × Value)) (n : Int) (a b c d : Int) (s : ByteArray) (x y : Bool) (m f t : Int) (hb : lkL L n = some (.agg #[.int .i64 a, .int .i64 b, .int .i64 c, .int .i64 d, .string s, .bool x, .bool y, .int .i64 m, .int .i64 f, .int .i64 t])) (h0 : -9223372036854775808 ≤ n) (h1 : n ≤ 9223372036854775807) (w : World) (h : FidT w tb mb most L) :
    Calls Try.prog 10 #[.pointer (some ⟨tb, 0, none⟩), .int .i64 n] w fun e w' => e = .returned (.tuple #[.agg #[.int .i64 a, .int .i64 b, .int .i64 c, .int .i64 d, .string s, .bool x, .bool y, .int .i64 m, .int .i64 f, .int .i64 t], .int .i64 0]) ∧ Ext w w' := by
  have he : Ext w (w.alloc (.cells #[.int .i64 0, .int .i64 0, .int .i64 0, .int .i64 0, .string ⟨#[]⟩, .bool false, .bool false, .int .i64 0, .int .i64 0, .int .i64 0] 37)) := (Ext.refl w).alloc _
  have hh := h.ext he
  have c1 := cell_of_row _ tb 1 _ _ _ hh.1
  simp at c1
  have hl := hh.2.1.look (t := 58) (e := 37) Try.underlying3 Try.underlying58 (zeroFid _) n (i64_wf h0 h1)
  rw [show hasL L n = true by unfold hasL; rw [hb]; rfl, hb] at hl
  simp only [Option.getD_some] at hl
  have HZ : Hid ((Try.prog.info? 37).map (·.size) = some (10 : Nat)) := Lib.hid (by kernel_rfl)
  clear h hb he hh
  go_enter Try.func10, Try.ntmps10
  go_wp2
  refine bodyPost_ret (results_cell_tmp rfl _ _ w.heap.size _ _ (0, 0) _ (.int .i64 0) rfl rfl (((Ext.refl _).alloc _).heap (heap_alloc_new w _)) Try.underlying37 rfl HZ.out) rfl ?_
  exact ⟨rfl, ((Ext.refl w).alloc _).alloc _⟩
def FDrop (w : World) (tb mb most : Nat) (L : List (Int × Value)) (n : Int) (e : Ending) (w' : World) : Prop :=
  e = .returned (.int .i64 0) ∧ FidT w' tb mb most (delL L n) ∧ Onm tb mb w w'
set_option maxRecDepth 20000 in
set_option maxHeartbeats 1000000 in
theorem fdrop_ok (tb mb most : Nat) (L : List (Int × Value)) (n : Int) (hb : hasL L n = true) (h0 : -9223372036854775808 ≤ n) (h1 : n ≤ 9223372036854775807) (w : World) (h : FidT w tb mb most L) :
    Calls Try.prog 15 #[.pointer (some ⟨tb, 0, none⟩), .int .i64 n] w (FDrop w tb mb most L n) := by
  have c1 := cell_of_row w tb 1 _ _ _ h.1
  simp at c1
  have hl := h.2.1.look (t := 58) (e := 37) Try.underlying3 Try.underlying58 (zeroFid w) n (i64_wf h0 h1)
  obtain ⟨a, b, c, d, s, x, y, m, f, t, hv⟩ := h.2.2.2.1.at_ n
  rw [hv, hb] at hl
  have e1 : Ext w (w.alloc (.cells #[.int .i64 a, .int .i64 b, .int .i64 c, .int .i64 d, .string s, .bool x, .bool y, .int .i64 m, .int .i64 f, .int .i64 t] 37)) := (Ext.refl w).alloc _
  have h' := h.ext e1
  obtain ⟨w2, hrun, hm2, hg2⟩ := h'.2.1.drop (t := 58) (e := 37) Try.underlying3 Try.underlying58 n (i64_wf h0 h1) 0
  have hlt := h'.lt
  have hb2 : w2.heap[tb]? = _ := (hg2.block tb hlt.1 (fun e => h.2.2.1 (by injection e))).trans h'.1
  have HM : Hid (FidT w2 tb mb most (delL L n) ∧ Onm tb mb w w2) := Lib.hid ⟨⟨hb2, hm2.tight, h.2.2.1, h.2.2.2.1.del n, h.2.2.2.2.1, by have := len_del_has h.2.1.2 hb; have := h.2.2.2.2.2; omega⟩, Onm.grown (tb := tb) e1 hg2⟩
  have c1' := cell_of_row _ tb 1 _ _ _ h'.1
  simp at c1'
  clear h h' hv hb hm2 hg2 hb2 hlt e1
  go_enter Try.func15, Try.ntmps15
  go_wp2_with (first | (at_delete; refine wpList_delete_run rfl (.tmp 21) (.tmp 22) _ _ rfl _ _ rfl rfl w2 hrun ?_) | fail)
  go_ret
  exact ⟨rfl, HM.out⟩
set_option maxRecDepth 20000 in
set_option maxHeartbeats 2000000 in
theorem flives_any (w : World) : Calls Try.prog 22 #[] w fun e w' => e = .returned (.bool true) ∧ Ext w w' := by
  go_enter Try.func22, Try.ntmps22
  go_wp2_with fail
  refine (fnew_ok 1 1 rfl w (by omega) (by omega)).mono ?_
  rintro e w1 ⟨tb, mb, rfl, hm, ht, hb, e1⟩
  have HM := Lib.hid hm
  have E1 := Lib.hid e1
  clear hm e1
  go_wp2_with fail
  refine (fadd_ok tb mb 1 [] 7 0 0 0 0 ⟨#[]⟩ false false 0 0 0 rfl (by simp) (by omega) (by omega) w1 HM.out).mono ?_
  rintro e w2 ⟨rfl, hm2, o2⟩
  have HM2 := Lib.hid hm2
  have E2 := Lib.hid (o2.ext E1.out ht hb)
  clear hm2 o2
  go_wp2_with fail
  refine (fadd_full tb mb 1 _ 8 0 0 0 0 ⟨#[]⟩ false false 0 0 0 (by rfl) (by rfl) (by omega) (by omega) w2 HM2.out).mono ?_
  rintro e w3 ⟨rfl, e3⟩
  have HM3 := Lib.hid (HM2.out.ext e3)
  have E3 := Lib.hid (E2.out.trans e3)
  clear e3
  go_wp2_with fail
  refine (fadd_busy tb mb 1 _ 7 0 0 0 0 ⟨#[]⟩ false false 0 0 0 (by rfl) (by omega) (by omega) w3 HM3.out).mono ?_
  rintro e w4 ⟨rfl, e4⟩
  have E4 := Lib.hid (E3.out.trans e4)
  clear e4
  go_wp2
  go_ret
  exact ⟨rfl, E4.out⟩
end Go.Proofs.Ytabcmhiobfddnaa
