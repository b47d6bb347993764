/-
  The statement RpcWrites: its walk.
-/
import Derived.Test.YtdoijbjmhnncdaaRpcF
import Derived.Test.YtdoijbjmhnncdaaPln
namespace Go.Proofs.Ytdoijbjmhnncdaa
open Go Go.RowKit
set_option linter.unusedVariables false
set_option linter.unusedSimpArgs false
theorem numE_be (e x : Int) (t : List UInt8) : numE e (be4 x ++ t) = e := by
  rw [numE, if_pos (by rw [List.length_append, be4_length]; omega)]
theorem numL_be (x : Int) (t : List UInt8) : numL (be4 x ++ t) = t := by
  rw [numL, if_pos (by rw [List.length_append, be4_length]; omega)]
  rfl
theorem numN_be (x : Int) (t : List UInt8) (h : 0 ≤ x ∧ x < 4294967296) : numN (be4 x ++ t) = x := by
  rw [numN, if_pos (by rw [List.length_append, be4_length]; omega), num4_be x t h.1 h.2]
theorem nx_be (x : Int) (t : List UInt8) (k : Nat) : nx (0, be4 x ++ t, none) k = (0, t, none) := by
  simp only [nx, numE_be, numL_be, numF, if_true]
theorem cx_be (x : Int) (t : List UInt8) (zs : List Int) (k : Nat) (h : 0 ≤ x ∧ x < 4294967296) (hx : x ∈ zs) : cx (0, be4 x ++ t, none) zs k = (0, t, none) := by
  simp only [cx, numE_be, numL_be, numF, if_true, numN_be x t h, choF, if_pos hx]
theorem msg_back (rep : Bool) (xid proc : Int) (body : List UInt8) (h1 : 0 ≤ xid ∧ xid < 4294967296) (h2 : 0 ≤ proc ∧ proc < 4294967296) :
    (rd4 (msgB rep xid proc body)).2.2 = none ∧ rdR (msgB rep xid proc body) = rep ∧ numN (msgB rep xid proc body) = xid ∧ numN (rd3 (msgB rep xid proc body)).2.1 = proc ∧ (msgB rep xid proc body).drop (rdA (msgB rep xid proc body)) = body ∧ rdA (msgB rep xid proc body) ≤ (msgB rep xid proc body).length ∧ (msgB rep xid proc body).length ≤ 24 + body.length := by
  cases rep with
  | true =>
    have e : msgB true xid proc body = be4 xid ++ (be4 1 ++ (be4 0 ++ (be4 proc ++ body))) := by simp [msgB, numsB, headZ]
    rw [e]
    have r1 : rd1 (be4 xid ++ (be4 1 ++ (be4 0 ++ (be4 proc ++ body)))) = (0, be4 1 ++ (be4 0 ++ (be4 proc ++ body)), none) := nx_be _ _ _
    have rR : rdR (be4 xid ++ (be4 1 ++ (be4 0 ++ (be4 proc ++ body)))) = true := by rw [rdR, r1]; simp only [numN_be 1 _ ⟨by omega, by omega⟩]; rfl
    have r2 : rd2 (be4 xid ++ (be4 1 ++ (be4 0 ++ (be4 proc ++ body)))) = (0, be4 0 ++ (be4 proc ++ body), none) := by rw [rd2, r1]; exact cx_be _ _ _ _ ⟨by omega, by omega⟩ (by simp)
    have r3 : rd3 (be4 xid ++ (be4 1 ++ (be4 0 ++ (be4 proc ++ body)))) = (0, be4 proc ++ body, none) := by rw [rd3, rR, if_pos rfl, r2]; exact cx_be _ _ _ _ ⟨by omega, by omega⟩ (by simp)
    have rA : rdA (be4 xid ++ (be4 1 ++ (be4 0 ++ (be4 proc ++ body)))) = 16 := by rw [rdA, rR]; rfl
    refine ⟨by rw [rd4, r3, nx_be], rR, numN_be _ _ h1, by rw [r3]; exact numN_be _ _ h2, by rw [rA]; rfl, by rw [rA]; simp only [List.length_append, be4_length]; omega, by simp only [List.length_append, be4_length]; omega⟩
  | false =>
    have e : msgB false xid proc body = be4 xid ++ (be4 0 ++ (be4 2 ++ (be4 536870913 ++ (be4 1 ++ (be4 proc ++ body))))) := by simp [msgB, numsB, headZ]
    rw [e]
    have r1 : rd1 (be4 xid ++ (be4 0 ++ (be4 2 ++ (be4 536870913 ++ (be4 1 ++ (be4 proc ++ body)))))) = (0, be4 0 ++ (be4 2 ++ (be4 536870913 ++ (be4 1 ++ (be4 proc ++ body)))), none) := nx_be _ _ _
    have rR : rdR (be4 xid ++ (be4 0 ++ (be4 2 ++ (be4 536870913 ++ (be4 1 ++ (be4 proc ++ body)))))) = false := by rw [rdR, r1]; simp only [numN_be 0 _ ⟨by omega, by omega⟩]; rfl
    have r2 : rd2 (be4 xid ++ (be4 0 ++ (be4 2 ++ (be4 536870913 ++ (be4 1 ++ (be4 proc ++ body)))))) = (0, be4 2 ++ (be4 536870913 ++ (be4 1 ++ (be4 proc ++ body))), none) := by rw [rd2, r1]; exact cx_be _ _ _ _ ⟨by omega, by omega⟩ (by simp)
    have r3 : rd3 (be4 xid ++ (be4 0 ++ (be4 2 ++ (be4 536870913 ++ (be4 1 ++ (be4 proc ++ body)))))) = (0, be4 proc ++ body, none) := by
      rw [rd3, rR, if_neg (by decide), r2, cx_be 2 _ _ _ ⟨by omega, by omega⟩ (by simp), cx_be 536870913 _ _ _ ⟨by omega, by omega⟩ (by simp), cx_be 1 _ _ _ ⟨by omega, by omega⟩ (by simp)]
    have rA : rdA (be4 xid ++ (be4 0 ++ (be4 2 ++ (be4 536870913 ++ (be4 1 ++ (be4 proc ++ body)))))) = 24 := by rw [rdA, rR]; rfl
    refine ⟨by rw [rd4, r3, nx_be], rR, numN_be _ _ h1, by rw [r3]; exact numN_be _ _ h2, by rw [rA]; rfl, by rw [rA]; simp only [List.length_append, be4_length]; omega, by simp only [List.length_append, be4_length]; omega⟩
set_option maxRecDepth 20000 in
set_option maxHeartbeats 1000000 in
theorem rwrites_walk (rep : Bool) (xid proc : Int) (s : ByteArray) (w : World) (h1 : 0 ≤ xid ∧ xid < 4294967296) (h2 : 0 ≤ proc ∧ proc < 4294967296) (hs : s.size ≤ maxLen) :
    Calls Try.prog 3 #[.agg #[.bool rep, .int .u32 xid, .int .u32 proc, .string s]] w fun e w' => e = .returned (.bool true) ∧ Ext w w' := by
  obtain ⟨l, rfl⟩ : ∃ l : List UInt8, s = ⟨l.toArray⟩ := ⟨s.data.toList, by simp⟩
  have hl : l.length ≤ 9223372036854775807 := by simpa [maxLen, ByteArray.size] using hs
  clear hs
  have H1 := Lib.hid h1
  have H2 := Lib.hid h2
  obtain ⟨b, hb⟩ : ∃ b, l.take 40 = b := ⟨_, rfl⟩
  have hbl : b.length ≤ 40 := by rw [← hb, List.length_take]; omega
  obtain ⟨w1, hw1⟩ : ∃ w1, w.alloc (.cells #[.bool rep, .int .u32 xid, .int .u32 proc, .string ⟨l.toArray⟩] 24) = w1 := ⟨_, rfl⟩
  have e1 : Ext w w1 := by rw [← hw1]; exact (Ext.refl w).alloc _
  have hm1 : w1.heap[w.heap.size]? = some (.cells #[.bool rep, .int .u32 xid, .int .u32 proc, .string ⟨l.toArray⟩] 24 (0, 0)) := by rw [← hw1]; exact heap_alloc_new w _
  have x3 := cell_of_row w1 w.heap.size 3 _ _ _ hm1
  simp at x3
  have f3 := Lib.frozen_of_heap hm1 3
  have HSH := Lib.hid (short_any l 40 40 rfl w1 hl)
  rw [hb] at HSH
  obtain ⟨w2, hw2⟩ : ∃ w2, w1.setCell ⟨w.heap.size, 3, none⟩ (.string ⟨b.toArray⟩) = w2 := ⟨_, rfl⟩
  have hm2 : w2.heap[w.heap.size]? = some (.cells #[.bool rep, .int .u32 xid, .int .u32 proc, .string ⟨b.toArray⟩] 24 (0, 0)) := by rw [← hw2]; simpa using heap_setCell_same w1 w.heap.size 3 _ _ (.string ⟨b.toArray⟩) hm1
  have e2 : Ext w w2 := by rw [← hw2]; exact ((Kp.of_ext (X := fun k => k < w.heap.size) e1).set w.heap.size 3 _ (by omega)).to_ext (fun k hk => hk)
  have y0 := cell_of_row w2 w.heap.size 0 _ _ _ hm2
  have y1 := cell_of_row w2 w.heap.size 1 _ _ _ hm2
  have y2 := cell_of_row w2 w.heap.size 2 _ _ _ hm2
  have y3 := cell_of_row w2 w.heap.size 3 _ _ _ hm2
  simp at y0 y1 y2 y3
  have HM2 := Lib.hid hm2
  have E2 := Lib.hid e2
  have HOF := Lib.hid (of_any rep xid proc b w2 (by omega))
  clear e1 hm1 hm2 e2 h1 h2 hb
  go_enter Try.func3, Try.ntmps3
  go_wp2_with fail
  refine HSH.out.mono ?_
  rintro e wq ⟨rfl, rfl⟩
  go_wp2_with fail
  refine HOF.out.mono ?_
  rintro e w3 ⟨A3, n3, c3, rfl, hs3, e3⟩
  have hn3 : n3 ≤ 40 := by have := hs3.len; rw [bs_length] at this; omega
  have HW := Lib.hid (rwrite_any rep xid proc A3 n3 c3 b w3 H1.out H2.out hs3 (by omega))
  have E3 := Lib.hid (E2.out.trans e3)
  have HM3 := Lib.hid (e3.heap HM2.out)
  clear hs3 e3 hw1 hw2 x3 f3 y0 y1 y2 y3
  go_wp2_with fail
  refine HW.out.mono ?_
  rintro e w4 ⟨A4, n4, c4, rfl, hown4, e4⟩
  obtain ⟨A4', c4', hv4, hs4⟩ := own_sh hown4
  injection hv4 with q1 q2 q3
  subst q1 q3
  obtain ⟨m1, m2, m3, m4, m5, m6, m7⟩ := msg_back rep xid proc b H1.out H2.out
  have hn4 : (msgB rep xid proc b).length = n4 := by have := hs4.len; rwa [bs_length] at this
  have HRD := Lib.hid (rread_ok A4 n4 c4 (msgB rep xid proc b) w4 hs4 (by omega) m1 (by omega))
  unfold RRes at HRD
  rw [m2, m3, m4, m5] at HRD
  have E4 := Lib.hid (E3.out.trans e4)
  have HM4 := Lib.hid (e4.heap HM3.out)
  have HS4 := Lib.hid hs4
  have hs4l := hs4.le
  have hs4m := hs4.max
  unfold maxLen at hs4m
  clear hown4 e4 hs4 m1 m2 m3 m4 m5 m6 m7 hn4
  go_wp2_with fail
  refine HRD.out.mono ?_
  rintro e w5 ⟨A5, n5, c5, rfl, hs5, e5⟩
  go_wp2_with fail
  generalize hw6 : w5.alloc (.cells #[.bool rep, .int .u32 xid, .int .u32 proc, .slice A5 n5 c5] 29) = w6
  obtain ⟨xb, hxb⟩ : ∃ xb, w5.heap.size = xb := ⟨_, rfl⟩
  rw [hxb]
  have e6 : Ext w5 w6 := by rw [← hw6]; exact (Ext.refl w5).alloc _
  have hx6 : w6.heap[xb]? = some (.cells #[.bool rep, .int .u32 xid, .int .u32 proc, .slice A5 n5 c5] 29 (0, 0)) := by rw [← hw6, ← hxb]; exact heap_alloc_new w5 _
  have HX6 := Lib.hid hx6
  have HM6 := Lib.hid ((e5.trans e6).heap HM4.out)
  have HS6 := Lib.hid (HS4.out.ext (e5.trans e6))
  have HS5 := Lib.hid (hs5.ext e6)
  have E6 := Lib.hid (E4.out.trans (e5.trans e6))
  clear hw6 hxb e6 hx6 hs5 e5
  refine wp_region_pl (.free 0 (.free 1 (.free 2 (.one 3 (.free 4 (.free 5 (.free 6 (.free 7 (.free 8 (.free 9 (.free 10 (.free 11 (.free 13 (.one 12 (.free 14 (.free 15 (.free 16 (.one 17 (.free 18 (.free 19 .nil)))))))))))))))))))) (by kernel_rfl) (by kernel_rfl) (by kernel_rfl) (by kernel_rfl) ?_
  refine pl_val (v := ?_) rfl rfl (fun w' hw' => ?_) ?_; rotate_left; (· skip; go_simp; try with_reducible rfl); simp only [Act.put, List.setIfInBounds_toArray, List.set_cons_zero, List.set_cons_succ]
  refine pl_val (v := ?_) rfl rfl (fun w' hw' => ?_) ?_; rotate_left; (· have ts := str_of (HS6.out.ext ((Ext.refl w6).drew.trans hw')); go_simp; try with_reducible rfl); simp only [Act.put, List.setIfInBounds_toArray, List.set_cons_zero, List.set_cons_succ]
  refine pl_val (v := ?_) rfl rfl (fun w' hw' => ?_) ?_; rotate_left; (· have hh := ((Ext.refl w6).drew.trans hw').heap HM6.out; have v0 := cell_of_row w' w.heap.size 0 _ _ _ hh; have v1 := cell_of_row w' w.heap.size 1 _ _ _ hh; have v2 := cell_of_row w' w.heap.size 2 _ _ _ hh; have v3 := cell_of_row w' w.heap.size 3 _ _ _ hh; simp at v0 v1 v2 v3; go_simp; try with_reducible rfl); simp only [Act.put, List.setIfInBounds_toArray, List.set_cons_zero, List.set_cons_succ]
  refine pl_call 9 #[.agg #[.bool rep, .int .u32 xid, .int .u32 proc, .string ⟨b.toArray⟩]] rfl rfl (by go_simp) ?_
  refine (rbytes_any rep xid proc b _ H1.out H2.out (by omega)).mono ?_
  rintro e w7 ⟨A7, n7, c7, rfl, hown7, e7⟩
  refine ⟨_, rfl, e7, ?_⟩
  simp only [Act.put, List.setIfInBounds_toArray, List.set_cons_zero, List.set_cons_succ]
  obtain ⟨A7', c7', hv7, hs7⟩ := own_sh hown7
  injection hv7 with q1 q2 q3
  subst q1 q3
  have HS7 := Lib.hid hs7
  have hx7 := (Ext.refl w6).drew.trans e7
  have HX7 := Lib.hid (hx7.heap HX6.out)
  have HM7 := Lib.hid (hx7.heap HM6.out)
  have HS57 := Lib.hid (HS5.out.ext hx7)
  have E7 := Lib.hid (E6.out.trans hx7)
  clear hown7 hs7 hx7 e7
  refine pl_val (v := ?_) rfl rfl (fun w' hw' => ?_) ?_; rotate_left; (· have ts := str_of (HS7.out.ext hw'); go_simp; try with_reducible rfl); simp only [Act.put, List.setIfInBounds_toArray, List.set_cons_zero, List.set_cons_succ]
  refine pl_val (v := ?_) rfl rfl (fun w' hw' => ?_) ?_; rotate_left; (· skip; go_simp; try with_reducible rfl); simp only [Act.put, List.setIfInBounds_toArray, List.set_cons_zero, List.set_cons_succ]
  refine pl_val (v := ?_) rfl rfl (fun w' hw' => ?_) ?_; rotate_left; (· skip; go_simp; try with_reducible rfl); simp only [Act.put, List.setIfInBounds_toArray, List.set_cons_zero, List.set_cons_succ]
  refine pl_val (v := ?_) rfl rfl (fun w' hw' => ?_) ?_; rotate_left; (· skip; go_simp; try with_reducible rfl); simp only [Act.put, List.setIfInBounds_toArray, List.set_cons_zero, List.set_cons_succ]
  refine pl_val (v := ?_) rfl rfl (fun w' hw' => ?_) ?_; rotate_left; (· skip; go_simp; try with_reducible rfl); simp only [Act.put, List.setIfInBounds_toArray, List.set_cons_zero, List.set_cons_succ]
  refine pl_val (v := ?_) rfl rfl (fun w' hw' => ?_) ?_; rotate_left; (· skip; go_simp; try with_reducible rfl); simp only [Act.put, List.setIfInBounds_toArray, List.set_cons_zero, List.set_cons_succ]
  refine pl_val (v := ?_) rfl rfl (fun w' hw' => ?_) ?_; rotate_left; (· skip; go_simp; try with_reducible rfl); simp only [Act.put, List.setIfInBounds_toArray, List.set_cons_zero, List.set_cons_succ]
  refine pl_val (v := ?_) rfl rfl (fun w' hw' => ?_) ?_; rotate_left; (· have hh := hw'.heap HX7.out; have v0 := cell_of_row w' xb 0 _ _ _ hh; have v1 := cell_of_row w' xb 1 _ _ _ hh; have v2 := cell_of_row w' xb 2 _ _ _ hh; have v3 := cell_of_row w' xb 3 _ _ _ hh; simp at v0 v1 v2 v3; go_simp; try with_reducible rfl); simp only [Act.put, List.setIfInBounds_toArray, List.set_cons_zero, List.set_cons_succ]
  refine pl_val (v := ?_) rfl rfl (fun w' hw' => ?_) ?_; rotate_left; (· have hh := hw'.heap HM7.out; have v0 := cell_of_row w' w.heap.size 0 _ _ _ hh; have v1 := cell_of_row w' w.heap.size 1 _ _ _ hh; have v2 := cell_of_row w' w.heap.size 2 _ _ _ hh; have v3 := cell_of_row w' w.heap.size 3 _ _ _ hh; simp at v0 v1 v2 v3; go_simp; try with_reducible rfl); simp only [Act.put, List.setIfInBounds_toArray, List.set_cons_zero, List.set_cons_succ]
  refine pl_call 10 #[.agg #[.bool rep, .int .u32 xid, .int .u32 proc, .slice A5 n5 c5]] rfl rfl (by go_simp) ?_
  refine (as_any rep xid proc A5 n5 c5 b w7 HS57.out).mono ?_
  rintro e w8 ⟨rfl, e8⟩
  refine ⟨_, rfl, e8, ?_⟩
  simp only [Act.put, List.setIfInBounds_toArray, List.set_cons_zero, List.set_cons_succ]
  refine pl_val (v := ?_) rfl rfl (fun w' hw' => ?_) ?_; rotate_left; (· skip; go_simp; try with_reducible rfl); simp only [Act.put, List.setIfInBounds_toArray, List.set_cons_zero, List.set_cons_succ]
  refine pl_val (v := ?_) rfl rfl (fun w' hw' => ?_) ?_; rotate_left; (· skip; go_simp; try with_reducible rfl); simp only [Act.put, List.setIfInBounds_toArray, List.set_cons_zero, List.set_cons_succ]
  refine pl_val (v := ?_) rfl rfl (fun w' hw' => ?_) ?_; rotate_left; (· skip; go_simp; try with_reducible rfl); simp only [Act.put, List.setIfInBounds_toArray, List.set_cons_zero, List.set_cons_succ]
  refine pl_call 11 #[] rfl rfl (by go_simp) ?_
  refine (lives6 w8).mono ?_
  rintro e w9 ⟨rfl, e9⟩
  refine ⟨_, rfl, e9, ?_⟩
  simp only [Act.put, List.setIfInBounds_toArray, List.set_cons_zero, List.set_cons_succ]
  refine pl_val (v := ?_) rfl rfl (fun w' hw' => ?_) ?_; rotate_left; (· skip; go_simp; try with_reducible rfl); simp only [Act.put, List.setIfInBounds_toArray, List.set_cons_zero, List.set_cons_succ]
  refine pl_val (v := ?_) rfl rfl (fun w' hw' => ?_) ?_; rotate_left; (· skip; go_simp; try with_reducible rfl); simp only [Act.put, List.setIfInBounds_toArray, List.set_cons_zero, List.set_cons_succ]
  refine pl_done ?_
  go_wp2_with fail
  go_ret
  exact ⟨rfl, E7.out.trans (e8.trans e9)⟩
end Go.Proofs.Ytdoijbjmhnncdaa
