/-
  The statement RpcReads: its walk.
-/
import Derived.Test.YtdoijbjmhnncdaaDoorRpcM
import Derived.Test.YtdoijbjmhnncdaaDoorRws
namespace Go.Proofs.YtdoijbjmhnncdaaDoor
open Go Go.RowKit
set_option linter.unusedVariables false
set_option linter.unusedSimpArgs false
set_option maxRecDepth 20000 in
set_option maxHeartbeats 2000000 in
theorem rreads_walk (B : Option Addr) (nb cb : Nat) (bl : List UInt8) (rep : Bool) (xid proc : Int) (s : ByteArray) (cut : Int) (u : UInt8) (w : World) (hsB : Sees w B nb cb (bs bl)) (h1 : 0 ≤ xid ∧ xid < 4294967296) (h2 : 0 ≤ proc ∧ proc < 4294967296) (hs : s.size ≤ maxLen) (h3 : -9223372036854775808 ≤ cut) (h4 : cut ≤ 9223372036854775807) :
    Calls Tryd.prog 3 #[.slice B nb cb, .agg #[.bool rep, .int .u32 xid, .int .u32 proc, .string s], .int .i64 cut, .int .u8 (u.toNat : Int)] w fun e w' => e = .returned (.bool true) ∧ Ext w w' := by
  obtain ⟨l, rfl⟩ : ∃ l : List UInt8, s = ⟨l.toArray⟩ := ⟨s.data.toList, by simp⟩
  have hl : l.length ≤ 9223372036854775807 := by simpa [maxLen, ByteArray.size] using hs
  have H1 := Lib.hid h1
  have H2 := Lib.hid h2
  have H3 := Lib.hid h3
  have H4 := Lib.hid h4
  have HSB := Lib.hid hsB
  clear hs h1 h2 h3 h4 hsB
  obtain ⟨b, hb⟩ : ∃ b, l.take 12 = b := ⟨_, rfl⟩
  have hbl : b.length ≤ 12 := by rw [← hb, List.length_take]; omega
  obtain ⟨uz, huz⟩ : ∃ uz : Int, (u.toNat : Int) = uz := ⟨_, rfl⟩
  have HUZ := Lib.hid huz
  rw [huz]
  obtain ⟨w1, hw1⟩ : ∃ w1, w.alloc (.cells #[.bool rep, .int .u32 xid, .int .u32 proc, .string ⟨l.toArray⟩] 25) = w1 := ⟨_, rfl⟩
  have e1 : Ext w w1 := by rw [← hw1]; exact (Ext.refl w).alloc _
  have hm1 : w1.heap[w.heap.size]? = some (.cells #[.bool rep, .int .u32 xid, .int .u32 proc, .string ⟨l.toArray⟩] 25 (0, 0)) := by rw [← hw1]; exact heap_alloc_new w _
  have x3 := cell_of_row w1 w.heap.size 3 _ _ _ hm1
  simp at x3
  have f3 := Lib.frozen_of_heap hm1 3
  have HSH := Lib.hid (short_any l 12 12 rfl w1 hl)
  rw [hb] at HSH
  obtain ⟨w2, hw2⟩ : ∃ w2, w1.setCell ⟨w.heap.size, 3, none⟩ (.string ⟨b.toArray⟩) = w2 := ⟨_, rfl⟩
  have hm2 : w2.heap[w.heap.size]? = some (.cells #[.bool rep, .int .u32 xid, .int .u32 proc, .string ⟨b.toArray⟩] 25 (0, 0)) := by rw [← hw2]; simpa using heap_setCell_same w1 w.heap.size 3 _ _ (.string ⟨b.toArray⟩) hm1
  have e2 : Ext w w2 := by rw [← hw2]; exact ((Kp.of_ext (X := fun k => k < w.heap.size) e1).set w.heap.size 3 _ (by omega)).to_ext (fun k hk => hk)
  have y0 := cell_of_row w2 w.heap.size 0 _ _ _ hm2
  have y1 := cell_of_row w2 w.heap.size 1 _ _ _ hm2
  have y2 := cell_of_row w2 w.heap.size 2 _ _ _ hm2
  have y3 := cell_of_row w2 w.heap.size 3 _ _ _ hm2
  simp at y0 y1 y2 y3
  have E2 := Lib.hid e2
  have HBY := Lib.hid (rbytes_any rep xid proc b w2 H1.out H2.out (by omega))
  clear e1 hm1 hm2 e2 hb huz
  go_enter Tryd.func3, Tryd.ntmps3
  go_wp2_with fail
  refine HSH.out.mono ?_
  rintro e wq ⟨rfl, rfl⟩
  go_wp2_with fail
  refine HBY.out.mono ?_
  rintro e w3 ⟨A3, n3, c3, rfl, hown3, ex3⟩
  obtain ⟨A3', c3', hv, hs3⟩ := own_sh hown3
  injection hv with q1 q2 q3
  subst q1 q3
  obtain ⟨L, hL⟩ : ∃ L, msgB rep xid proc b = L := ⟨_, rfl⟩
  have hLn : L.length = n3 := by have := hs3.len; rw [bs_length, hL] at this; exact this
  have hn3 : 16 ≤ n3 ∧ n3 ≤ 36 := by
    rw [← hLn, ← hL]
    cases rep <;> simp [msgB, numsB, headZ, be4_length] <;> omega
  rw [hL] at hs3
  have hs3l := hs3.le
  have hs3m := hs3.max
  unfold maxLen at hs3m
  have E3 := Lib.hid (E2.out.trans ex3)
  have HS3 := Lib.hid hs3
  have hbd := aroundZ_bound cut n3 (by omega)
  obtain ⟨k, hk⟩ : ∃ k : Nat, aroundZ cut n3 = (k : Int) := ⟨(aroundZ cut n3).toNat, by omega⟩
  have HA := Lib.hid (around_any cut n3 w3 H3.out H4.out (by omega) (by omega))
  rw [hk] at HA hbd
  have hkn : k < n3 := by omega
  have hkc : k ≤ c3 := by omega
  have HLN := Lib.hid hLn
  have HFW := Lib.hid (few_nat A3 n3 c3 60 60 (bs L) w3 hs3 (bs_one _) (by omega) (by omega) rfl)
  rw [show min n3 60 = n3 from by omega, List.take_of_length_le (by rw [bs_length]; omega)] at HFW
  clear hown3 ex3 hs3 hbd hk hL hLn hw1 hw2 x3 f3 y0 y1 y2 y3 HBY HSH
  go_wp2_with fail
  refine HA.out.mono ?_
  rintro e wq ⟨rfl, rfl⟩
  go_wp2_with fail
  refine HFW.out.mono ?_
  rintro e w4 ⟨v4, rfl, hown4, ex4⟩
  obtain ⟨g, cap, cur, rfl, hg3, hncap, hcapm, hrow4, hcur⟩ := own_some hown4 (by omega)
  unfold maxLen at hcapm
  obtain ⟨ov, hov⟩ : ∃ ov, w4.cell? ⟨g, k, none⟩ = some ov := ⟨cur[k]'(by omega), by rw [cell_of_row w4 g k _ _ _ hrow4]; exact Array.getElem?_eq_getElem _⟩
  have fov := Lib.frozen_of_heap hrow4 k
  obtain ⟨w5, hw5⟩ : ∃ w5, w4.setCell ⟨g, k, none⟩ (.int .u8 uz) = w5 := ⟨_, rfl⟩
  have hown5 : w5.ownsRow w3.heap.size 5 1 (.slice (some ⟨g, 0, none⟩) n3 cap) n3 (bs (L.set k u)) := by
    rw [← hw5, ← HUZ.out, ← bs_setM]
    exact own_set hown4 k hkn _
  have ex5 : Ext w3 w5 := by rw [← hw5]; exact ((Kp.of_ext (X := fun k => k < w3.heap.size) ex4).set g k _ (by omega)).to_ext (fun k hk => hk)
  obtain ⟨_, _, hv5, hs5⟩ := own_sh hown5
  injection hv5 with q1 q2 q3
  subst q1 q3
  have HS5 := Lib.hid hs5
  have EX5 := Lib.hid ex5
  have HFW2 := Lib.hid (few_nat A3 n3 c3 60 60 (bs L) w5 (HS3.out.ext ex5) (bs_one _) (by omega) (by omega) rfl)
  rw [show min n3 60 = n3 from by omega, List.take_of_length_le (by rw [bs_length, HLN.out]; omega)] at HFW2
  clear hown4 ex4 hrow4 hcur hown5 ex5 hs5 HFW HA
  go_wp2_with fail
  refine HFW2.out.mono ?_
  rintro e w6 ⟨v6, rfl, hown6, ex6⟩
  obtain ⟨A6, c6, rfl, _⟩ := own_sh hown6
  have hal : Ext w6 (w6.alloc (.cells #[.int .u8 uz] 5)) := (Ext.refl w6).alloc _
  have hsn : Sees (w6.alloc (.cells #[.int .u8 uz] 5)) (some ⟨w6.heap.size, 0, none⟩) 1 1 (bs [u]) := by
    have h := sees_new w6 5 #[.int .u8 uz] (by simp [maxLen])
    rw [← HUZ.out] at h ⊢
    exact h
  obtain ⟨A7, c7, w7, hrun7, hown7, hb7⟩ := own_bytesR (own_ext hown6 hal) hsn (by have := ex6.size; have := hal.size; omega) (by omega)
  have ex7 : Ext w5 w7 := (ex6.trans hal).thenB hb7 (Nat.le_refl _)
  obtain ⟨_, _, hv7, hs7⟩ := own_sh hown7
  injection hv7 with q1 q2 q3
  subst q1 q3
  have HS7 := Lib.hid hs7
  have EX7 := Lib.hid ex7
  clear hown6 ex6 hal hsn hown7 hb7 ex7 hs7 HFW2
  go_wp2_with (first | (at_builtin; refine wpList_append_run rfl (.tmp 35) (.tmp 37) _ rfl _ _ rfl rfl _ w7 hrun7 ?_) | fail)
  refine wp_region_pl (.free 0 (.free 2 (.free 3 (.free 4 (.free 5 (.free 6 (.free 7 (.one 1 (.one 8 (.free 9 .nil)))))))))) (by kernel_rfl) (by kernel_rfl) (by kernel_rfl) (by kernel_rfl) ?_
  refine pl_val (v := ?_) rfl rfl (fun w' hw' => ?_) ?_; rotate_left; (· skip; go_simp; try with_reducible rfl); simp only [Act.put, List.setIfInBounds_toArray, List.set_cons_zero, List.set_cons_succ]
  refine pl_val (v := ?_) rfl rfl (fun w' hw' => ?_) ?_; rotate_left; (· skip; go_simp; try with_reducible rfl); simp only [Act.put, List.setIfInBounds_toArray, List.set_cons_zero, List.set_cons_succ]
  refine pl_val (v := ?_) rfl rfl (fun w' hw' => ?_) ?_; rotate_left; (· skip; go_simp; try with_reducible rfl); simp only [Act.put, List.setIfInBounds_toArray, List.set_cons_zero, List.set_cons_succ]
  refine pl_val (v := ?_) rfl rfl (fun w' hw' => ?_) ?_; rotate_left; (· skip; go_simp; try with_reducible rfl); simp only [Act.put, List.setIfInBounds_toArray, List.set_cons_zero, List.set_cons_succ]
  refine pl_val (v := ?_) rfl rfl (fun w' hw' => ?_) ?_; rotate_left; (· skip; go_simp; try with_reducible rfl); simp only [Act.put, List.setIfInBounds_toArray, List.set_cons_zero, List.set_cons_succ]
  refine pl_val (v := ?_) rfl rfl (fun w' hw' => ?_) ?_; rotate_left; (· skip; go_simp; try with_reducible rfl); simp only [Act.put, List.setIfInBounds_toArray, List.set_cons_zero, List.set_cons_succ]
  refine pl_val (v := ?_) rfl rfl (fun w' hw' => ?_) ?_; rotate_left; (· skip; go_simp; try with_reducible rfl); simp only [Act.put, List.setIfInBounds_toArray, List.set_cons_zero, List.set_cons_succ]
  refine pl_call 9 #[.slice B nb cb, .int .i64 60] rfl rfl (by go_simp) ?_
  refine (few_nat B nb cb 60 60 (bs bl) _ (HSB.out.ext (E3.out.trans (EX5.out.trans (EX7.out.trans (Ext.refl w7).drew)))) (bs_one _) (by omega) (by omega) rfl).mono ?_
  rintro e w8 ⟨v8, rfl, hown8, ex8⟩
  refine ⟨_, rfl, ex8, ?_⟩
  simp only [Act.put, List.setIfInBounds_toArray, List.set_cons_zero, List.set_cons_succ]
  obtain ⟨A8, c8, rfl, hs8⟩ := own_sh (l := bl.take 60) (by rw [bs_take] at hown8; exact hown8)
  obtain ⟨n8, hn8⟩ : ∃ n8, min nb 60 = n8 := ⟨_, rfl⟩
  rw [hn8] at hs8 ⊢
  have hn8b : n8 ≤ 60 := by omega
  have ex78 : Ext w7 w8 := (Ext.refl w7).drew.trans ex8
  refine pl_run (w' := w8.alloc (.cells #[.slice A8 n8 c8, .slice A3 n3 c3, .slice (some ⟨g, 0, none⟩) n3 cap, .slice A3 k c3, .slice A7 (n3 + 1) c7] 22)) (v := .slice (some ⟨w8.heap.size, 0, none⟩) 5 5) rfl rfl (by go_simp) ((Ext.refl w8).alloc _) ?_
  simp only [Act.put, List.setIfInBounds_toArray, List.set_cons_zero, List.set_cons_succ]
  refine pl_val (v := ?_) rfl rfl (fun w' hw' => ?_) ?_; rotate_left; (· skip; go_simp; try with_reducible rfl); simp only [Act.put, List.setIfInBounds_toArray, List.set_cons_zero, List.set_cons_succ]
  refine pl_done ?_
  generalize hw9 : w8.alloc (.cells #[.slice A8 n8 c8, .slice A3 n3 c3, .slice (some ⟨g, 0, none⟩) n3 cap, .slice A3 k c3, .slice A7 (n3 + 1) c7] 22) = w9
  obtain ⟨ab, hab⟩ : ∃ ab, w8.heap.size = ab := ⟨_, rfl⟩
  rw [hab]
  have ex89 : Ext w8 w9 := by rw [← hw9]; exact (Ext.refl w8).alloc _
  have hrow9 : w9.heap[ab]? = some (.cells #[.slice A8 n8 c8, .slice A3 n3 c3, .slice (some ⟨g, 0, none⟩) n3 cap, .slice A3 k c3, .slice A7 (n3 + 1) c7] 22 (0, 0)) := by rw [← hw9, ← hab]; exact heap_alloc_new w8 _
  have ex79 := ex78.trans ex89
  have ex59 := EX7.out.trans ex79
  have ex39 := EX5.out.trans ex59
  have HROWS : Hid (∀ i, i < 5 → ∃ A n c r, n ≤ 100 ∧ w9.cell? ⟨ab, i, none⟩ = some (.slice A n c) ∧ Sees w9 A n c (bs r)) := Lib.hid fun i hi => by
    match i, hi with
    | 0, _ => exact ⟨A8, n8, c8, bl.take 60, by omega, cell_of_row w9 ab 0 _ _ _ hrow9, hs8.ext ex89⟩
    | 1, _ => exact ⟨A3, n3, c3, L, by omega, cell_of_row w9 ab 1 _ _ _ hrow9, HS3.out.ext ex39⟩
    | 2, _ => exact ⟨_, n3, cap, L.set k u, by omega, cell_of_row w9 ab 2 _ _ _ hrow9, HS5.out.ext ex59⟩
    | 3, _ => exact ⟨A3, k, c3, L.take k, by omega, cell_of_row w9 ab 3 _ _ _ hrow9, by rw [← bs_take]; exact (HS3.out.ext ex39).take k (by omega)⟩
    | 4, _ => exact ⟨A7, n3 + 1, c7, L ++ [u], by omega, cell_of_row w9 ab 4 _ _ _ hrow9, HS7.out.ext ex79⟩
    | m + 5, h => omega
  have E9 := Lib.hid (E3.out.trans ex39)
  clear hw9 hab ex89 hrow9 ex79 ex59 ex39 hown8 ex8 hs8 ex78 hn8 hw5 hov fov
  go_wp2_with fail
  go_loopw [14] (fun iv wr => ∃ i : Nat, i ≤ 5 ∧ iv = .int .i64 (i : Int) ∧ Ext w9 wr) (fun iv _ => 5 - (intOf iv).toNat)
  case atStart => exact ⟨0, by omega, rfl, Ext.refl _⟩
  case round =>
    obtain ⟨i, hi, rfl, exti⟩ := hrel
    have EXI := Lib.hid exti
    clear exti
    by_cases hlt : i < 5
    · obtain ⟨A, n, c, r, hn, hc9, hs9⟩ := HROWS.out i hlt
      have hc := EXI.out.cell hc9
      have HS := Lib.hid (hs9.ext EXI.out)
      have hrn : r.length = n := by have := hs9.len; rwa [bs_length] at this
      have HC9 := Lib.hid hc9
      clear hc9 hs9
      cases hF : (rd4 r).2.2 with
      | none =>
        have HRD := Lib.hid (rread_ok A n c r wr HS.out (by omega) hF (by have := rd_le hF; omega))
        obtain ⟨R, hR⟩ : ∃ R, rdR r = R := ⟨_, rfl⟩
        obtain ⟨X, hX⟩ : ∃ X, numN r = X := ⟨_, rfl⟩
        obtain ⟨P, hP⟩ : ∃ P, numN (rd3 r).2.1 = P := ⟨_, rfl⟩
        obtain ⟨D, hD⟩ : ∃ D, r.drop (rdA r) = D := ⟨_, rfl⟩
        unfold RRes at HRD
        rw [hR, hX, hP, hD] at HRD
        have HXR : ∀ w', Sees w' A n c (bs r) → Hid (Calls Tryd.prog 11 #[.slice A n c] w' fun e w'' => e = .returned (.agg #[.bool R, .int .u32 X, .int .u32 P, .string ⟨D.toArray⟩, .int .i64 0, .int .i64 (-1)]) ∧ Ext w' w'') := fun w' hs' => Lib.hid ((xread_any A n c r w' hs' (by omega)).mono (by
          rintro e w'' ⟨h1, h2⟩
          rw [hF] at h2
          simp only at h2
          rw [hR, hX, hP, hD] at h2
          exact ⟨h2, h1⟩))
        clear hF hR hX hP hD
        go_wp2_with fail
        refine HRD.out.mono ?_
        rintro e wa ⟨Aa, na, ca, rfl, hsa, exa⟩
        have hc' := (exa.trans ((Ext.refl wa).alloc (.cells #[.bool R, .int .u32 X, .int .u32 P, .slice Aa na ca] 32))).cell hc
        go_wp2_with fail
        generalize hwb : wa.alloc (.cells #[.bool R, .int .u32 X, .int .u32 P, .slice Aa na ca] 32) = wb
        obtain ⟨mb, hmb⟩ : ∃ mb, wa.heap.size = mb := ⟨_, rfl⟩
        rw [hmb]
        have exb : Ext wa wb := by rw [← hwb]; exact (Ext.refl wa).alloc _
        have hmrow : wb.heap[mb]? = some (.cells #[.bool R, .int .u32 X, .int .u32 P, .slice Aa na ca] 32 (0, 0)) := by rw [← hwb, ← hmb]; exact heap_alloc_new wa _
        clear hwb hmb hc'
        refine (HXR wb (HS.out.ext (exa.trans exb))).out.mono ?_
        rintro e wc ⟨rfl, exc⟩
        go_wp2_with fail
        generalize hwd : wc.alloc (.cells #[.bool R, .int .u32 X, .int .u32 P, .string ⟨D.toArray⟩, .int .i64 0, .int .i64 (-1)] 39) = wd
        obtain ⟨xb, hxb⟩ : ∃ xb, wc.heap.size = xb := ⟨_, rfl⟩
        rw [hxb]
        have exd : Ext wc wd := by rw [← hwd]; exact (Ext.refl wc).alloc _
        have HXROW : Hid (wd.heap[xb]? = some (.cells #[.bool R, .int .u32 X, .int .u32 P, .string ⟨D.toArray⟩, .int .i64 0, .int .i64 (-1)] 39 (0, 0))) := Lib.hid (by rw [← hwd, ← hxb]; exact heap_alloc_new wc _)
        have HMROW := Lib.hid ((exc.trans exd).heap hmrow)
        have EXD := Lib.hid (EXI.out.trans (exa.trans (exb.trans (exc.trans exd))))
        have HSA := Lib.hid (hsa.ext (exb.trans (exc.trans exd)))
        clear hsa
        clear hwd hxb exd exc exb exa hmrow hc
        refine wp_region_pl (.free 0 (.free 2 (.free 3 (.one 1 (.free 4 (.free 5 (.free 6 (.free 8 (.free 9 (.one 7 (.free 10 (.free 11 (.free 12 (.free 13 (.free 15 (.free 16 (.one 14 (.free 17 (.free 18 (.free 19 (.free 20 (.free 21 (.free 22 (.free 23 (.free 24 (.free 25 (.free 26 .nil))))))))))))))))))))))))))) (by kernel_rfl) (by kernel_rfl) (by kernel_rfl) (by kernel_rfl) ?_
        refine pl_val (v := ?_) rfl rfl (fun w' hw' => ?_) ?_; rotate_left; (· have hh := ((Ext.refl wd).drew.trans hw').heap HMROW.out; have v0 := cell_of_row w' mb 0 _ _ _ hh; have v1 := cell_of_row w' mb 1 _ _ _ hh; have v2 := cell_of_row w' mb 2 _ _ _ hh; have v3 := cell_of_row w' mb 3 _ _ _ hh; simp at v0 v1 v2 v3; go_simp; try with_reducible rfl); simp only [Act.put, List.setIfInBounds_toArray, List.set_cons_zero, List.set_cons_succ]
        refine pl_val (v := ?_) rfl rfl (fun w' hw' => ?_) ?_; rotate_left; (· skip; go_simp; try with_reducible rfl); simp only [Act.put, List.setIfInBounds_toArray, List.set_cons_zero, List.set_cons_succ]
        refine pl_val (v := ?_) rfl rfl (fun w' hw' => ?_) ?_; rotate_left; (· have hh := ((Ext.refl wd).drew.trans hw').heap HXROW.out; have v0 := cell_of_row w' xb 0 _ _ _ hh; have v1 := cell_of_row w' xb 1 _ _ _ hh; have v2 := cell_of_row w' xb 2 _ _ _ hh; have v3 := cell_of_row w' xb 3 _ _ _ hh; have v4 := cell_of_row w' xb 4 _ _ _ hh; have v5 := cell_of_row w' xb 5 _ _ _ hh; simp at v0 v1 v2 v3 v4 v5; go_simp; try with_reducible rfl); simp only [Act.put, List.setIfInBounds_toArray, List.set_cons_zero, List.set_cons_succ]
        refine pl_call 12 #[.agg #[.bool R, .int .u32 X, .int .u32 P, .slice Aa na ca]] rfl rfl (by go_simp) ?_
        refine (as_any R X P Aa na ca D _ (HSA.out.ext (Ext.refl wd).drew)).mono ?_
        rintro e we ⟨rfl, exe⟩
        refine ⟨_, rfl, exe, ?_⟩
        simp only [Act.put, List.setIfInBounds_toArray, List.set_cons_zero, List.set_cons_succ]
        have exe2 := (Ext.refl wd).drew.trans exe
        refine pl_val (v := ?_) rfl rfl (fun w' hw' => ?_) ?_; rotate_left; (· skip; go_simp; try with_reducible rfl); simp only [Act.put, List.setIfInBounds_toArray, List.set_cons_zero, List.set_cons_succ]
        refine pl_val (v := ?_) rfl rfl (fun w' hw' => ?_) ?_; rotate_left; (· skip; go_simp; try with_reducible rfl); simp only [Act.put, List.setIfInBounds_toArray, List.set_cons_zero, List.set_cons_succ]
        refine pl_val (v := ?_) rfl rfl (fun w' hw' => ?_) ?_; rotate_left; (· skip; go_simp; try with_reducible rfl); simp only [Act.put, List.setIfInBounds_toArray, List.set_cons_zero, List.set_cons_succ]
        refine pl_val (v := ?_) rfl rfl (fun w' hw' => ?_) ?_; rotate_left; (· skip; go_simp; try with_reducible rfl); simp only [Act.put, List.setIfInBounds_toArray, List.set_cons_zero, List.set_cons_succ]
        refine pl_val (v := ?_) rfl rfl (fun w' hw' => ?_) ?_; rotate_left; (· have hh := (exe2.trans hw').heap HXROW.out; have v0 := cell_of_row w' xb 0 _ _ _ hh; have v1 := cell_of_row w' xb 1 _ _ _ hh; have v2 := cell_of_row w' xb 2 _ _ _ hh; have v3 := cell_of_row w' xb 3 _ _ _ hh; have v4 := cell_of_row w' xb 4 _ _ _ hh; have v5 := cell_of_row w' xb 5 _ _ _ hh; simp at v0 v1 v2 v3 v4 v5; go_simp; try with_reducible rfl); simp only [Act.put, List.setIfInBounds_toArray, List.set_cons_zero, List.set_cons_succ]
        refine pl_call 13 #[.nilIface] rfl rfl (by go_simp) ?_
        refine (number_nil we).mono ?_
        rintro e wf ⟨rfl, exnum⟩
        refine ⟨_, rfl, exnum, ?_⟩
        simp only [Act.put, List.setIfInBounds_toArray, List.set_cons_zero, List.set_cons_succ]
        refine pl_val (v := ?_) rfl rfl (fun w' hw' => ?_) ?_; rotate_left; (· skip; go_simp; try with_reducible rfl); simp only [Act.put, List.setIfInBounds_toArray, List.set_cons_zero, List.set_cons_succ]
        refine pl_val (v := ?_) rfl rfl (fun w' hw' => ?_) ?_; rotate_left; (· skip; go_simp; try with_reducible rfl); simp only [Act.put, List.setIfInBounds_toArray, List.set_cons_zero, List.set_cons_succ]
        refine pl_val (v := ?_) rfl rfl (fun w' hw' => ?_) ?_; rotate_left; (· skip; go_simp; try with_reducible rfl); simp only [Act.put, List.setIfInBounds_toArray, List.set_cons_zero, List.set_cons_succ]
        refine pl_val (v := ?_) rfl rfl (fun w' hw' => ?_) ?_; rotate_left; (· skip; go_simp; try with_reducible rfl); simp only [Act.put, List.setIfInBounds_toArray, List.set_cons_zero, List.set_cons_succ]
        refine pl_val (v := ?_) rfl rfl (fun w' hw' => ?_) ?_; rotate_left; (· skip; go_simp; try with_reducible rfl); simp only [Act.put, List.setIfInBounds_toArray, List.set_cons_zero, List.set_cons_succ]
        refine pl_val (v := ?_) rfl rfl (fun w' hw' => ?_) ?_; rotate_left; (· have hh := (exe2.trans (exnum.trans hw')).heap HXROW.out; have v0 := cell_of_row w' xb 0 _ _ _ hh; have v1 := cell_of_row w' xb 1 _ _ _ hh; have v2 := cell_of_row w' xb 2 _ _ _ hh; have v3 := cell_of_row w' xb 3 _ _ _ hh; have v4 := cell_of_row w' xb 4 _ _ _ hh; have v5 := cell_of_row w' xb 5 _ _ _ hh; simp at v0 v1 v2 v3 v4 v5; go_simp; try with_reducible rfl); simp only [Act.put, List.setIfInBounds_toArray, List.set_cons_zero, List.set_cons_succ]
        refine pl_call 14 #[.nilIface] rfl rfl (by go_simp) ?_
        refine (place_nil wf).mono ?_
        rintro e wg ⟨rfl, expl⟩
        refine ⟨_, rfl, expl, ?_⟩
        simp only [Act.put, List.setIfInBounds_toArray, List.set_cons_zero, List.set_cons_succ]
        refine pl_val (v := ?_) rfl rfl (fun w' hw' => ?_) ?_; rotate_left; (· skip; go_simp; try with_reducible rfl); simp only [Act.put, List.setIfInBounds_toArray, List.set_cons_zero, List.set_cons_succ]
        refine pl_val (v := ?_) rfl rfl (fun w' hw' => ?_) ?_; rotate_left; (· skip; go_simp; try with_reducible rfl); simp only [Act.put, List.setIfInBounds_toArray, List.set_cons_zero, List.set_cons_succ]
        refine pl_val (v := ?_) rfl rfl (fun w' hw' => ?_) ?_; rotate_left; (· skip; go_simp; try with_reducible rfl); simp only [Act.put, List.setIfInBounds_toArray, List.set_cons_zero, List.set_cons_succ]
        refine pl_val (v := ?_) rfl rfl (fun w' hw' => ?_) ?_; rotate_left; (· skip; go_simp; try with_reducible rfl); simp only [Act.put, List.setIfInBounds_toArray, List.set_cons_zero, List.set_cons_succ]
        refine pl_val (v := ?_) rfl rfl (fun w' hw' => ?_) ?_; rotate_left; (· skip; go_simp; try with_reducible rfl); simp only [Act.put, List.setIfInBounds_toArray, List.set_cons_zero, List.set_cons_succ]
        refine pl_val (v := ?_) rfl rfl (fun w' hw' => ?_) ?_; rotate_left; (· skip; go_simp; try with_reducible rfl); simp only [Act.put, List.setIfInBounds_toArray, List.set_cons_zero, List.set_cons_succ]
        refine pl_val (v := ?_) rfl rfl (fun w' hw' => ?_) ?_; rotate_left; (· have hh := (exe2.trans (exnum.trans (expl.trans hw'))).heap HXROW.out; have v0 := cell_of_row w' xb 0 _ _ _ hh; have v1 := cell_of_row w' xb 1 _ _ _ hh; have v2 := cell_of_row w' xb 2 _ _ _ hh; have v3 := cell_of_row w' xb 3 _ _ _ hh; have v4 := cell_of_row w' xb 4 _ _ _ hh; have v5 := cell_of_row w' xb 5 _ _ _ hh; simp at v0 v1 v2 v3 v4 v5; go_simp; try with_reducible rfl); simp only [Act.put, List.setIfInBounds_toArray, List.set_cons_zero, List.set_cons_succ]
        refine pl_val (v := ?_) rfl rfl (fun w' hw' => ?_) ?_; rotate_left; (· skip; go_simp; try with_reducible rfl); simp only [Act.put, List.setIfInBounds_toArray, List.set_cons_zero, List.set_cons_succ]
        refine pl_val (v := ?_) rfl rfl (fun w' hw' => ?_) ?_; rotate_left; (· skip; go_simp; try with_reducible rfl); simp only [Act.put, List.setIfInBounds_toArray, List.set_cons_zero, List.set_cons_succ]
        refine pl_val (v := ?_) rfl rfl (fun w' hw' => ?_) ?_; rotate_left; (· skip; go_simp; try with_reducible rfl); simp only [Act.put, List.setIfInBounds_toArray, List.set_cons_zero, List.set_cons_succ]
        refine pl_done ?_
        have HRF := Lib.hid (EXD.out.trans (exe2.trans (exnum.trans expl)))
        go_wp2_with fail
        go_roundw
        case rel => exact ⟨i + 1, by omega, by go_num, HRF.out⟩
        case measure => simp [intOf]; omega
      | some p =>
        obtain ⟨x, a⟩ := p
        have hx0 := rd_fault hF
        have HRD := Lib.hid (rread_bad x a A n c r wr HS.out (by omega) hF)
        unfold RBad at HRD
        have HXR : ∀ w', Sees w' A n c (bs r) → Hid (Calls Tryd.prog 11 #[.slice A n c] w' fun e w'' => e = .returned (.agg #[.bool false, .int .u32 0, .int .u32 0, .string ⟨#[]⟩, .int .i64 x, .int .i64 a]) ∧ Ext w' w'') := fun w' hs' => Lib.hid ((xread_any A n c r w' hs' (by omega)).mono (by
          rintro e w'' ⟨h1, h2⟩
          rw [hF] at h2
          exact ⟨h2, h1⟩))
        clear hF
        have hx0' : (x == 0) = false := by simpa using hx0
        go_wp2_with fail
        refine HRD.out.mono ?_
        rintro e wa ⟨fb, rfl, hfb, exa⟩
        have hc' := (exa.trans ((Ext.refl wa).alloc (.cells #[.bool false, .int .u32 0, .int .u32 0, .slice none 0 0] 32))).cell hc
        go_wp2_with fail
        generalize hwb : wa.alloc (.cells #[.bool false, .int .u32 0, .int .u32 0, .slice none 0 0] 32) = wb
        obtain ⟨mb, hmb⟩ : ∃ mb, wa.heap.size = mb := ⟨_, rfl⟩
        rw [hmb]
        have exb : Ext wa wb := by rw [← hwb]; exact (Ext.refl wa).alloc _
        have hmrow : wb.heap[mb]? = some (.cells #[.bool false, .int .u32 0, .int .u32 0, .slice none 0 0] 32 (0, 0)) := by rw [← hwb, ← hmb]; exact heap_alloc_new wa _
        clear hwb hmb hc'
        refine (HXR wb (HS.out.ext (exa.trans exb))).out.mono ?_
        rintro e wc ⟨rfl, exc⟩
        go_wp2_with fail
        generalize hwd : wc.alloc (.cells #[.bool false, .int .u32 0, .int .u32 0, .string ⟨#[]⟩, .int .i64 x, .int .i64 a] 39) = wd
        obtain ⟨xb, hxb⟩ : ∃ xb, wc.heap.size = xb := ⟨_, rfl⟩
        rw [hxb]
        have exd : Ext wc wd := by rw [← hwd]; exact (Ext.refl wc).alloc _
        have HXROW : Hid (wd.heap[xb]? = some (.cells #[.bool false, .int .u32 0, .int .u32 0, .string ⟨#[]⟩, .int .i64 x, .int .i64 a] 39 (0, 0))) := Lib.hid (by rw [← hwd, ← hxb]; exact heap_alloc_new wc _)
        have HMROW := Lib.hid ((exc.trans exd).heap hmrow)
        have EXD := Lib.hid (EXI.out.trans (exa.trans (exb.trans (exc.trans exd))))
        have HFB := Lib.hid ((exb.trans (exc.trans exd)).heap hfb)
        clear hfb
        clear hwd hxb exd exc exb exa hmrow hc
        refine wp_region_pl (.free 0 (.free 2 (.free 3 (.one 1 (.free 4 (.free 5 (.free 6 (.free 8 (.free 9 (.one 7 (.free 10 (.free 11 (.free 12 (.free 13 (.free 15 (.free 16 (.one 14 (.free 17 (.free 18 (.free 19 (.free 20 (.free 21 (.free 22 (.free 23 (.free 24 (.free 25 (.free 26 .nil))))))))))))))))))))))))))) (by kernel_rfl) (by kernel_rfl) (by kernel_rfl) (by kernel_rfl) ?_
        refine pl_val (v := ?_) rfl rfl (fun w' hw' => ?_) ?_; rotate_left; (· have hh := ((Ext.refl wd).drew.trans hw').heap HMROW.out; have v0 := cell_of_row w' mb 0 _ _ _ hh; have v1 := cell_of_row w' mb 1 _ _ _ hh; have v2 := cell_of_row w' mb 2 _ _ _ hh; have v3 := cell_of_row w' mb 3 _ _ _ hh; simp at v0 v1 v2 v3; go_simp; try with_reducible rfl); simp only [Act.put, List.setIfInBounds_toArray, List.set_cons_zero, List.set_cons_succ]
        refine pl_val (v := ?_) rfl rfl (fun w' hw' => ?_) ?_; rotate_left; (· skip; go_simp; try with_reducible rfl); simp only [Act.put, List.setIfInBounds_toArray, List.set_cons_zero, List.set_cons_succ]
        refine pl_val (v := ?_) rfl rfl (fun w' hw' => ?_) ?_; rotate_left; (· have hh := ((Ext.refl wd).drew.trans hw').heap HXROW.out; have v0 := cell_of_row w' xb 0 _ _ _ hh; have v1 := cell_of_row w' xb 1 _ _ _ hh; have v2 := cell_of_row w' xb 2 _ _ _ hh; have v3 := cell_of_row w' xb 3 _ _ _ hh; have v4 := cell_of_row w' xb 4 _ _ _ hh; have v5 := cell_of_row w' xb 5 _ _ _ hh; simp at v0 v1 v2 v3 v4 v5; go_simp; try with_reducible rfl); simp only [Act.put, List.setIfInBounds_toArray, List.set_cons_zero, List.set_cons_succ]
        refine pl_call 12 #[.agg #[.bool false, .int .u32 0, .int .u32 0, .slice none 0 0]] rfl rfl (by go_simp) ?_
        refine (as_any false 0 0 none 0 0 [] _ (Sees.nil _)).mono ?_
        rintro e we ⟨rfl, exe⟩
        refine ⟨_, rfl, exe, ?_⟩
        simp only [Act.put, List.setIfInBounds_toArray, List.set_cons_zero, List.set_cons_succ]
        have exe2 := (Ext.refl wd).drew.trans exe
        refine pl_val (v := ?_) rfl rfl (fun w' hw' => ?_) ?_; rotate_left; (· skip; go_simp; try with_reducible rfl); simp only [Act.put, List.setIfInBounds_toArray, List.set_cons_zero, List.set_cons_succ]
        refine pl_val (v := ?_) rfl rfl (fun w' hw' => ?_) ?_; rotate_left; (· skip; go_simp; try with_reducible rfl); simp only [Act.put, List.setIfInBounds_toArray, List.set_cons_zero, List.set_cons_succ]
        refine pl_val (v := ?_) rfl rfl (fun w' hw' => ?_) ?_; rotate_left; (· skip; go_simp; try with_reducible rfl); simp only [Act.put, List.setIfInBounds_toArray, List.set_cons_zero, List.set_cons_succ]
        refine pl_val (v := ?_) rfl rfl (fun w' hw' => ?_) ?_; rotate_left; (· skip; go_simp; try with_reducible rfl); simp only [Act.put, List.setIfInBounds_toArray, List.set_cons_zero, List.set_cons_succ]
        refine pl_val (v := ?_) rfl rfl (fun w' hw' => ?_) ?_; rotate_left; (· have hh := (exe2.trans hw').heap HXROW.out; have v0 := cell_of_row w' xb 0 _ _ _ hh; have v1 := cell_of_row w' xb 1 _ _ _ hh; have v2 := cell_of_row w' xb 2 _ _ _ hh; have v3 := cell_of_row w' xb 3 _ _ _ hh; have v4 := cell_of_row w' xb 4 _ _ _ hh; have v5 := cell_of_row w' xb 5 _ _ _ hh; simp at v0 v1 v2 v3 v4 v5; go_simp; try with_reducible rfl); simp only [Act.put, List.setIfInBounds_toArray, List.set_cons_zero, List.set_cons_succ]
        refine pl_call 13 #[.iface 46 (.pointer (some ⟨fb, 0, none⟩))] rfl rfl (by go_simp) ?_
        refine (number_fault fb x a we (exe2.heap HFB.out)).mono ?_
        rintro e wf ⟨rfl, rfl⟩
        refine ⟨_, rfl, Ext.refl _, ?_⟩
        simp only [Act.put, List.setIfInBounds_toArray, List.set_cons_zero, List.set_cons_succ]
        refine pl_val (v := ?_) rfl rfl (fun w' hw' => ?_) ?_; rotate_left; (· skip; go_simp; try with_reducible rfl); simp only [Act.put, List.setIfInBounds_toArray, List.set_cons_zero, List.set_cons_succ]
        refine pl_val (v := ?_) rfl rfl (fun w' hw' => ?_) ?_; rotate_left; (· skip; go_simp; try with_reducible rfl); simp only [Act.put, List.setIfInBounds_toArray, List.set_cons_zero, List.set_cons_succ]
        refine pl_val (v := ?_) rfl rfl (fun w' hw' => ?_) ?_; rotate_left; (· skip; go_simp; try with_reducible rfl); simp only [Act.put, List.setIfInBounds_toArray, List.set_cons_zero, List.set_cons_succ]
        refine pl_val (v := ?_) rfl rfl (fun w' hw' => ?_) ?_; rotate_left; (· skip; go_simp; try with_reducible rfl); simp only [Act.put, List.setIfInBounds_toArray, List.set_cons_zero, List.set_cons_succ]
        refine pl_val (v := ?_) rfl rfl (fun w' hw' => ?_) ?_; rotate_left; (· skip; go_simp; try with_reducible rfl); simp only [Act.put, List.setIfInBounds_toArray, List.set_cons_zero, List.set_cons_succ]
        refine pl_val (v := ?_) rfl rfl (fun w' hw' => ?_) ?_; rotate_left; (· have hh := (exe2.trans ((Ext.refl we).trans hw')).heap HXROW.out; have v0 := cell_of_row w' xb 0 _ _ _ hh; have v1 := cell_of_row w' xb 1 _ _ _ hh; have v2 := cell_of_row w' xb 2 _ _ _ hh; have v3 := cell_of_row w' xb 3 _ _ _ hh; have v4 := cell_of_row w' xb 4 _ _ _ hh; have v5 := cell_of_row w' xb 5 _ _ _ hh; simp at v0 v1 v2 v3 v4 v5; go_simp; try with_reducible rfl); simp only [Act.put, List.setIfInBounds_toArray, List.set_cons_zero, List.set_cons_succ]
        refine pl_call 14 #[.iface 46 (.pointer (some ⟨fb, 0, none⟩))] rfl rfl (by go_simp) ?_
        refine (place_fault fb x a we (exe2.heap HFB.out)).mono ?_
        rintro e wg ⟨rfl, rfl⟩
        refine ⟨_, rfl, Ext.refl _, ?_⟩
        simp only [Act.put, List.setIfInBounds_toArray, List.set_cons_zero, List.set_cons_succ]
        refine pl_val (v := ?_) rfl rfl (fun w' hw' => ?_) ?_; rotate_left; (· skip; go_simp; try with_reducible rfl); simp only [Act.put, List.setIfInBounds_toArray, List.set_cons_zero, List.set_cons_succ]
        refine pl_val (v := ?_) rfl rfl (fun w' hw' => ?_) ?_; rotate_left; (· skip; go_simp; try with_reducible rfl); simp only [Act.put, List.setIfInBounds_toArray, List.set_cons_zero, List.set_cons_succ]
        refine pl_val (v := ?_) rfl rfl (fun w' hw' => ?_) ?_; rotate_left; (· skip; go_simp; try with_reducible rfl); simp only [Act.put, List.setIfInBounds_toArray, List.set_cons_zero, List.set_cons_succ]
        refine pl_val (v := ?_) rfl rfl (fun w' hw' => ?_) ?_; rotate_left; (· skip; go_simp; try with_reducible rfl); simp only [Act.put, List.setIfInBounds_toArray, List.set_cons_zero, List.set_cons_succ]
        refine pl_val (v := ?_) rfl rfl (fun w' hw' => ?_) ?_; rotate_left; (· skip; go_simp; try with_reducible rfl); simp only [Act.put, List.setIfInBounds_toArray, List.set_cons_zero, List.set_cons_succ]
        refine pl_val (v := ?_) rfl rfl (fun w' hw' => ?_) ?_; rotate_left; (· skip; go_simp; try with_reducible rfl); simp only [Act.put, List.setIfInBounds_toArray, List.set_cons_zero, List.set_cons_succ]
        refine pl_val (v := ?_) rfl rfl (fun w' hw' => ?_) ?_; rotate_left; (· have hh := (exe2.trans ((Ext.refl we).trans ((Ext.refl we).trans hw'))).heap HXROW.out; have v0 := cell_of_row w' xb 0 _ _ _ hh; have v1 := cell_of_row w' xb 1 _ _ _ hh; have v2 := cell_of_row w' xb 2 _ _ _ hh; have v3 := cell_of_row w' xb 3 _ _ _ hh; have v4 := cell_of_row w' xb 4 _ _ _ hh; have v5 := cell_of_row w' xb 5 _ _ _ hh; simp at v0 v1 v2 v3 v4 v5; go_simp; try with_reducible rfl); simp only [Act.put, List.setIfInBounds_toArray, List.set_cons_zero, List.set_cons_succ]
        refine pl_val (v := ?_) rfl rfl (fun w' hw' => ?_) ?_; rotate_left; (· skip; go_simp; try with_reducible rfl); simp only [Act.put, List.setIfInBounds_toArray, List.set_cons_zero, List.set_cons_succ]
        refine pl_val (v := ?_) rfl rfl (fun w' hw' => ?_) ?_; rotate_left; (· skip; go_simp; try with_reducible rfl); simp only [Act.put, List.setIfInBounds_toArray, List.set_cons_zero, List.set_cons_succ]
        refine pl_val (v := ?_) rfl rfl (fun w' hw' => ?_) ?_; rotate_left; (· skip; go_simp; try with_reducible rfl); simp only [Act.put, List.setIfInBounds_toArray, List.set_cons_zero, List.set_cons_succ]
        refine pl_done ?_
        have HRF := Lib.hid (EXD.out.trans (exe2.trans ((Ext.refl we).trans (Ext.refl we))))
        go_wp2_with fail
        go_roundw
        case rel => exact ⟨i + 1, by omega, by go_num, HRF.out⟩
        case measure => simp [intOf]; omega
    · obtain rfl : i = 5 := by omega
      go_wp2_with fail
      refine (lives6 _).mono ?_
      rintro e w9' ⟨rfl, ex9⟩
      go_wp2_with fail
      go_ret
      exact ⟨rfl, E9.out.trans (EXI.out.trans ex9)⟩
end Go.Proofs.YtdoijbjmhnncdaaDoor
