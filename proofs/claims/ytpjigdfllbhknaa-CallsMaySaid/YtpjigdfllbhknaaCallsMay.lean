/-
  Layer 14: what may be, and its bytes: the program against the document.
-/
import Derived.Test.YtpjigdfllbhknaaCalX
import Derived.Test.YtpjigdfllbhknaaIsArgs
import Derived.Test.YtpjigdfllbhknaaCallsSame
namespace Go.Proofs.Ytpjigdfllbhknaa
open Go Go.RowKit
set_option linter.unusedVariables false
set_option linter.unusedSimpArgs false
def sh70 (a : AR) (A : Option Addr) (n c : Nat) : AR := { a with nm := a.nm.take 70, n2 := a.n2.take 70, dA := A, dn := n, dk := c }
theorem sh70_rng {a : AR} (h : a.rng) (A : Option Addr) (n c : Nat) : (sh70 a A n c).rng := by
  obtain ⟨h0, h1, h2, h3, h4, h5, h6, h7, h8, h9, h10⟩ := h
  exact ⟨h0, h1, h2, h3, h4, h5, h6, h7, h8, by show (a.nm.take 70).length ≤ _; rw [List.length_take]; omega, by show (a.n2.take 70).length ≤ _; rw [List.length_take]; omega⟩
set_option maxRecDepth 20000 in
set_option maxHeartbeats 4000000 in
theorem cm_walk (a0 : Value) (wh n : Int) (s : ByteArray) (w : World) (w0 : Is_args w a0) (hw : I64 wh) (hn : I64 n) (hs : s.size ≤ maxLen) :
    Calls Try.prog 3 #[a0, .int .i64 wh, .int .i64 n, .string s] w fun e w' => e = .returned (.bool true) ∧ Ext w w' := by
  obtain ⟨a, l, rfl, ha, sa⟩ := args_open w0
  obtain ⟨t, rfl⟩ : ∃ l : List UInt8, s = ⟨l.toArray⟩ := ⟨s.data.toList, by simp⟩
  have ht : t.length ≤ 9223372036854775807 := by simpa [maxLen, ByteArray.size] using hs
  obtain ⟨ab, hab⟩ : ∃ ab, w.heap.size = ab := ⟨_, rfl⟩
  obtain ⟨w5, hw5⟩ : ∃ w5, w.alloc (.cells a.cs 26) = w5 := ⟨_, rfl⟩
  have e5 : Ext w w5 := by rw [← hw5]; exact (Ext.refl w).alloc _
  have b5 : w5.heap[ab]? = some (.cells a.cs 26 (0, 0)) := by rw [← hw5, ← hab]; exact heap_alloc_new w _
  have HA := Lib.hid ha
  have HT := Lib.hid ht
  have HW := Lib.hid hw
  have E5 := Lib.hid e5
  have HX5 := Lib.hid b5
  have HSA := Lib.hid (sa.ext e5)
  have HI := Lib.hid (fun b : AR => arg_info b)
  have y9 : w5.cell? ⟨ab, 9, none⟩ = some (.string ⟨a.nm.toArray⟩) := (cell_of_row _ ab 9 _ _ _ b5).trans rfl
  have f9 := blk_freeC b5 9
  clear ha ht hw hn hs w0 sa e5 b5
  have W6 : Hid (On2 ab ab w5 (w5.setCell ⟨ab, 9, none⟩ (.string ⟨(a.nm.take 70).toArray⟩))) := Lib.hid (On2.set _ _ _ (.inl rfl))
  have HX6 : Hid ((w5.setCell ⟨ab, 9, none⟩ (.string ⟨(a.nm.take 70).toArray⟩)).heap[ab]? = some (.cells ({ a with nm := a.nm.take 70 } : AR).cs 26 (0, 0))) := Lib.hid (set_blkC HX5.out 9 _)
  obtain ⟨w6, hw6⟩ : ∃ w6, w5.setCell ⟨ab, 9, none⟩ (.string ⟨(a.nm.take 70).toArray⟩) = w6 := ⟨_, rfl⟩
  rw [hw6] at W6 HX6
  have HS6 := Lib.hid (sees_offB HSA.out HX5.out (AR.noB _) W6.out)
  have y10 : w6.cell? ⟨ab, 10, none⟩ = some (.string ⟨a.n2.toArray⟩) := (cell_of_row _ ab 10 _ _ _ HX6.out).trans rfl
  have f10 := blk_freeC HX6.out 10
  have W7 : Hid (On2 ab ab w6 (w6.setCell ⟨ab, 10, none⟩ (.string ⟨(a.n2.take 70).toArray⟩))) := Lib.hid (On2.set _ _ _ (.inl rfl))
  have HX7 : Hid ((w6.setCell ⟨ab, 10, none⟩ (.string ⟨(a.n2.take 70).toArray⟩)).heap[ab]? = some (.cells ({ a with nm := a.nm.take 70, n2 := a.n2.take 70 } : AR).cs 26 (0, 0))) := Lib.hid (set_blkC HX6.out 10 _)
  obtain ⟨w7, hw7⟩ : ∃ w7, w6.setCell ⟨ab, 10, none⟩ (.string ⟨(a.n2.take 70).toArray⟩) = w7 := ⟨_, rfl⟩
  rw [hw7] at W7 HX7
  have HS7 := Lib.hid (sees_offB HS6.out HX6.out (AR.noB _) W7.out)
  have y11 : w7.cell? ⟨ab, 11, none⟩ = some (.slice a.dA a.dn a.dk) := (cell_of_row _ ab 11 _ _ _ HX7.out).trans rfl
  have E7 : Hid (Ext w w7) := Lib.hid ((W6.out.trans W7.out).ext E5.out (by omega) (by omega))
  go_enter Try.func3, Try.ntmps3
  go_wp2_with fail
  refine (short_any a.nm 70 70 rfl _ HA.out.nm).mono ?_
  rintro e _ ⟨rfl, rfl⟩
  go_wp2_with fail
  refine (short_any a.n2 70 70 rfl _ HA.out.n2).mono ?_
  rintro e _ ⟨rfl, rfl⟩
  go_wp2_with fail
  refine (few_nat a.dA a.dn a.dk 70 70 (bs l) _ HS7.out (fun u hu => bs_one l u hu) (by omega) (by omega) rfl).mono ?_
  rintro e w8 ⟨v, rfl, own, e8⟩
  obtain ⟨A, c, rfl, see⟩ := Sees.of_own own
  have HX8 := Lib.hid (e8.heap HX7.out)
  have E8 := Lib.hid (E7.out.trans e8)
  have SE8 := Lib.hid see
  have x11 : w8.cell? ⟨ab, 11, none⟩ = some (.slice a.dA a.dn a.dk) := (cell_of_row _ ab 11 _ _ _ HX8.out).trans rfl
  have f11 := blk_freeC HX8.out 11
  have W9 : Hid (On2 ab ab w8 (w8.setCell ⟨ab, 11, none⟩ (.slice A (min a.dn 70) c))) := Lib.hid (On2.set _ _ _ (.inl rfl))
  have HX9 : Hid ((w8.setCell ⟨ab, 11, none⟩ (.slice A (min a.dn 70) c)).heap[ab]? = some (.cells (sh70 a A (min a.dn 70) c).cs 26 (0, 0))) := Lib.hid (set_blkC HX8.out 11 _)
  have SE9 : Hid (Sees (w8.setCell ⟨ab, 11, none⟩ (.slice A (min a.dn 70) c)) A (min a.dn 70) c (bs (l.take 70))) := Lib.hid (sees_offB (by rw [← bs_take]; exact SE8.out) HX8.out (AR.noB _) W9.out)
  have E9 : Hid (Ext w (w8.setCell ⟨ab, 11, none⟩ (.slice A (min a.dn 70) c))) := Lib.hid (W9.out.ext E8.out (by omega) (by omega))
  obtain ⟨w9, hw9⟩ : ∃ w9, w8.setCell ⟨ab, 11, none⟩ (.slice A (min a.dn 70) c) = w9 := ⟨_, rfl⟩
  clear see own e8
  rw [hw9] at W9 HX9 SE9 E9
  go_wp2_with fail
  obtain ⟨G, hG⟩ : ∃ G, sh70 a A (min a.dn 70) c = G := ⟨_, rfl⟩
  have HGR : Hid G.rng := Lib.hid (by rw [← hG]; exact sh70_rng HA.out _ _ _)
  rw [hG] at HX9
  have SG : Hid (Sees w9.drew G.dA G.dn G.dk (bs (l.take 70))) := Lib.hid (by rw [← hG]; exact SE9.out.ext (Ext.refl w9).drew)
  have BA : Hid (w9.drew.heap[ab]? = some (.cells G.cs 26 (0, 0))) := Lib.hid HX9.out
  clear hw9 hG hw6 hw7 hw5
  refine wp_region_pl (.free 0 (.free 1 (.free 3 (.free 4 (.free 5 (.free 6 (.one 2 (.one 7 (.one 8 (.free 9 .nil)))))))))) (by kernel_rfl) (by kernel_rfl) (by kernel_rfl) (by kernel_rfl) ?_
  refine pl_val (v := .agg G.cs) rfl rfl (fun w' hw' => exec_loadSub 26 _ rfl ab 0 rfl 26 _ _ _ _ (hw'.heap BA.out) (fun j v h => by rw [Nat.zero_add]; exact h) Try.underlying26 rfl (HI.out _)) ?_; simp only [Act.put, List.setIfInBounds_toArray, List.set_cons_zero, List.set_cons_succ]
  refine pl_val (v := .agg G.cs) rfl rfl (fun w' hw' => exec_loadSub 26 _ rfl ab 0 rfl 26 _ _ _ _ (hw'.heap BA.out) (fun j v h => by rw [Nat.zero_add]; exact h) Try.underlying26 rfl (HI.out _)) ?_; simp only [Act.put, List.setIfInBounds_toArray, List.set_cons_zero, List.set_cons_succ]
  refine pl_val (v := .agg G.cs) rfl rfl (fun w' hw' => exec_loadSub 26 _ rfl ab 0 rfl 26 _ _ _ _ (hw'.heap BA.out) (fun j v h => by rw [Nat.zero_add]; exact h) Try.underlying26 rfl (HI.out _)) ?_; simp only [Act.put, List.setIfInBounds_toArray, List.set_cons_zero, List.set_cons_succ]
  refine pl_val (v := ?_) rfl rfl (fun w' hw' => ?_) ?_; rotate_left; (· skip; go_simp; try with_reducible rfl); simp only [Act.put, List.setIfInBounds_toArray, List.set_cons_zero, List.set_cons_succ]
  refine pl_val (v := ?_) rfl rfl (fun w' hw' => ?_) ?_; rotate_left; (· skip; go_simp; try with_reducible rfl); simp only [Act.put, List.setIfInBounds_toArray, List.set_cons_zero, List.set_cons_succ]
  refine pl_val (v := ?_) rfl rfl (fun w' hw' => ?_) ?_; rotate_left; (· skip; go_simp; try with_reducible rfl); simp only [Act.put, List.setIfInBounds_toArray, List.set_cons_zero, List.set_cons_succ]
  refine pl_call 12 #[.agg G.cs] rfl rfl (by go_simp) ?_
  refine (good14 G (l.take 70) _ HGR.out SG.out).mono ?_
  rintro e w3 ⟨A1, n1, c1, rfl, s1, e3⟩
  refine ⟨_, rfl, e3, ?_⟩; simp only [Act.put, List.setIfInBounds_toArray, List.set_cons_zero, List.set_cons_succ]
  refine pl_call 13 #[.agg G.cs, .int .i64 wh, .int .i64 n, .string ⟨t.toArray⟩] rfl rfl (by go_simp) ?_
  refine (odd14 G (l.take 70) wh n t _ HGR.out (SG.out.ext e3) HW.out HT.out).mono ?_
  rintro e w4 ⟨A2, n2, c2, rfl, s2, e4⟩
  refine ⟨_, rfl, e4, ?_⟩; simp only [Act.put, List.setIfInBounds_toArray, List.set_cons_zero, List.set_cons_succ]
  obtain ⟨Q, hQ⟩ : ∃ P, gdA G A1 n1 c1 = P := ⟨_, rfl⟩
  obtain ⟨R, hR⟩ : ∃ P, odA (gdA G A2 n2 c2) n t (aroundZ wh 10).toNat = P := ⟨_, rfl⟩
  have z1 : Sees w3 Q.dA Q.dn Q.dk (bs (gdL G (l.take 70))) := by rw [← hQ]; exact sees_gdA s1
  have z2 : Sees w4 R.dA R.dn R.dk (bs (gdL G (l.take 70))) := by
    obtain ⟨q1, q2, q3⟩ := odA_data (gdA G A2 n2 c2) n t (aroundZ wh 10).toNat
    rw [← hR, q1, q2, q3]
    exact s2
  rw [hQ, hR]
  obtain ⟨pb, hpb⟩ : ∃ pb, w4.heap.size = pb := ⟨_, rfl⟩
  obtain ⟨wp, hwp⟩ : ∃ wp, w4.alloc (.cells (cs3 G Q R) 26) = wp := ⟨_, rfl⟩
  have ep : Ext w4 wp := by rw [← hwp]; exact (Ext.refl w4).alloc _
  refine pl_run (w' := wp) (.slice (some ⟨pb, 0, none⟩) 3 3) rfl rfl ?hv ep ?_
  case hv =>
    obtain ⟨ie, hie, hsz⟩ := Option.map_eq_some_iff.1 arg_zero
    injection hsz with hsz hz
    rw [← hwp, ← hpb]
    refine exec_buildSlice 31 26 3 _ rfl _ ie (.agg #[.int .i64 0, .int .i64 0, .int .i64 0, .int .i64 0, .int .i64 0, .int .i64 0, .int .i64 0, .int .i64 0, .int .i64 0, .string ⟨#[]⟩, .string ⟨#[]⟩, .slice none 0 0]) (by kernel_rfl) hie hz (by rw [hsz]; omega) (by rw [hsz]; omega) ?_
    rw [hsz]
    kernel_rfl
  simp only [Act.put, List.setIfInBounds_toArray, List.set_cons_zero, List.set_cons_succ]
  have HP6 : Hid (wp.heap[pb]? = some (.cells (cs3 G Q R) 26 (0, 0))) := Lib.hid (by rw [← hwp, ← hpb]; exact heap_alloc_new _ _)
  have HS6 : Hid (∀ j, Sees wp (R3 G Q R j).dA (R3 G Q R j).dn (R3 G Q R j).dk (bs (D3 (l.take 70) (gdL G (l.take 70)) (gdL G (l.take 70)) j))) := Lib.hid fun j => by
    rcases j with _ | _ | j
    · exact SG.out.ext (e3.trans (e4.trans ep))
    · exact z1.ext (e4.trans ep)
    · exact z2.ext ep
  have E6 := Lib.hid (E9.out.trans (((Ext.refl w9).drew).trans (e3.trans (e4.trans ep))))
  clear hwp hQ hR z1 z2 s1 s2 e3 e4 ep
  refine pl_val (v := ?_) rfl rfl (fun w' hw' => ?_) ?_; rotate_left; (· skip; go_simp; try with_reducible rfl); simp only [Act.put, List.setIfInBounds_toArray, List.set_cons_zero, List.set_cons_succ]
  refine pl_done ?_
  generalize D3 (l.take 70) (gdL G (l.take 70)) (gdL G (l.take 70)) = DD at HS6
  go_wp2_with fail
  go_loopw [10] (fun iv wr => ∃ i : Nat, i ≤ 3 ∧ iv = .int .i64 (i : Int) ∧ Ext wp wr) (fun iv _ => 3 - (intOf iv).toNat)
  case atStart => exact ⟨0, by omega, rfl, Ext.refl _⟩
  case round =>
    obtain ⟨i, hi, rfl, exti⟩ := hrel
    obtain ⟨wq, hwq⟩ : ∃ wq, wq = wr := ⟨_, rfl⟩
    subst hwq
    have EXI := Lib.hid exti
    clear exti
    by_cases hlt : i < 3
    · have HPr := Lib.hid (EXI.out.heap HP6.out)
      have HSr := Lib.hid ((HS6.out i).ext EXI.out)
      have HAT := Lib.hid (cs3_at G Q R i hlt)
      obtain ⟨x, hx⟩ : ∃ x, R3 G Q R i = x := ⟨_, rfl⟩
      obtain ⟨d, hd⟩ : ∃ d, DD i = d := ⟨_, rfl⟩
      rw [hx] at HSr HAT
      rw [hd] at HSr
      have hdl : d.length = x.dn := by have h9 := HSr.out.len; rwa [bs_length] at h9
      have HEQ := Lib.hid (may_eq x d hdl)
      clear hx hd hdl
      obtain ⟨off, hoff⟩ : ∃ off, i * 12 = off := ⟨_, rfl⟩
      rw [hoff] at HAT
      go_wp2_with (first | (with_reducible refine wpList_load_sub rfl 26 (.tmp 41) rfl pb off rfl 26 _ _ _ _ HPr.out HAT.out Try.underlying26 rfl (HI.out _) ?_) | fail)
      refine (rmay14 x d _ HSr.out).mono ?_
      rintro e w11 ⟨rfl, e11⟩
      have E11 := Lib.hid e11
      have HP11 := Lib.hid (e11.heap HPr.out)
      have HS11 := Lib.hid (HSr.out.ext e11)
      clear e11
      rcases Bool.eq_false_or_eq_true (mayR x d) with m | m
      · rw [m]
        rw [m] at HEQ
        obtain ⟨xok, _⟩ := may_ok m
        have XOK := Lib.hid xok
        have HWR := Lib.hid (cwrite_ok x d w11 HS11.out m)
        have HDN : Hid (d.length ≤ 2048) := Lib.hid (by have h9 := HS11.out.len; rw [bs_length] at h9; have := xok.dn; omega)
        clear m xok
        go_wp2_with (first | (with_reducible refine wpList_load_sub rfl 26 (.tmp 47) rfl pb off rfl 26 _ _ _ _ HP11.out HAT.out Try.underlying26 rfl (HI.out _) ?_) | fail)
        refine HWR.out.mono ?_
        rintro e w12 ⟨A3, n3, c3, rfl, s3, e12⟩
        have E12 := Lib.hid e12
        have HP12 := Lib.hid (e12.heap HP11.out)
        have HS12 := Lib.hid (HS11.out.ext e12)
        have S3 := Lib.hid s3
        clear e12 s3
        go_wp2_with (first | (with_reducible refine wpList_load_sub rfl 26 (.tmp 54) rfl pb off rfl 26 _ _ _ _ HP12.out HAT.out Try.underlying26 rfl (HI.out _) ?_) | fail)
        refine (cmay_any x d _ HS12.out).mono ?_
        rintro e w13 ⟨rfl, e13⟩
        rw [HEQ.out]
        have E13 := Lib.hid e13
        have HP13 : Hid (w13.drew.heap[pb]? = _) := Lib.hid (e13.heap HP12.out)
        have HS13 := Lib.hid ((HS12.out.ext e13).ext (Ext.refl w13).drew)
        have S13 := Lib.hid ((S3.out.ext e13).ext (Ext.refl w13).drew)
        clear e13
        go_wp2_with fail
        refine wp_region_pl (.free 0 (.free 1 (.free 2 (.free 3 (.free 4 (.free 5 (.free 6 (.free 7 (.one 8 (.free 9 (.free 10 (.free 11 .nil)))))))))))) (by kernel_rfl) (by kernel_rfl) (by kernel_rfl) (by kernel_rfl) ?_
        refine pl_val (v := ?_) rfl rfl (fun w' hw' => ?_) ?_; rotate_left; (· skip; go_simp; try with_reducible rfl); simp only [Act.put, List.setIfInBounds_toArray, List.set_cons_zero, List.set_cons_succ]
        refine pl_val (v := ?_) rfl rfl (fun w' hw' => ?_) ?_; rotate_left; (· skip; go_simp; try with_reducible rfl); simp only [Act.put, List.setIfInBounds_toArray, List.set_cons_zero, List.set_cons_succ]
        refine pl_val (v := ?_) rfl rfl (fun w' hw' => ?_) ?_; rotate_left; (· skip; go_simp; try with_reducible rfl); simp only [Act.put, List.setIfInBounds_toArray, List.set_cons_zero, List.set_cons_succ]
        refine pl_val (v := .string ⟨(bytesB x d (fld x.pr)).toArray⟩) rfl rfl (fun w' hw' => by have q := str_of (S13.out.ext hw'); go_simp) ?_; simp only [Act.put, List.setIfInBounds_toArray, List.set_cons_zero, List.set_cons_succ]
        refine pl_val (v := ?_) rfl rfl (fun w' hw' => ?_) ?_; rotate_left; (· skip; go_simp; try with_reducible rfl); simp only [Act.put, List.setIfInBounds_toArray, List.set_cons_zero, List.set_cons_succ]
        refine pl_val (v := ?_) rfl rfl (fun w' hw' => ?_) ?_; rotate_left; (· skip; go_simp; try with_reducible rfl); simp only [Act.put, List.setIfInBounds_toArray, List.set_cons_zero, List.set_cons_succ]
        refine pl_val (v := .pointer (some ⟨pb, off, none⟩)) rfl rfl (fun w' hw' => by go_simp; try rfl) ?_; simp only [Act.put, List.setIfInBounds_toArray, List.set_cons_zero, List.set_cons_succ]
        refine pl_val (v := .agg x.cs) rfl rfl (fun w' hw' => exec_loadSub 26 _ rfl pb off rfl 26 _ _ _ _ (hw'.heap HP13.out) HAT.out Try.underlying26 rfl (HI.out _)) ?_; simp only [Act.put, List.setIfInBounds_toArray, List.set_cons_zero, List.set_cons_succ]
        refine pl_call 17 #[.agg x.cs] rfl rfl (by go_simp) ?_
        refine (bytes14 x d _ XOK.out HDN.out HS13.out).mono ?_
        rintro e w14 ⟨v4, rfl, own4, e14⟩
        obtain ⟨A4, c4, rfl, see4⟩ := Sees.of_own own4
        refine ⟨_, rfl, e14, ?_⟩; simp only [Act.put, List.setIfInBounds_toArray, List.set_cons_zero, List.set_cons_succ]
        refine pl_val (v := .string ⟨(bytesB x d (fld x.pr)).toArray⟩) rfl rfl (fun w' hw' => by have q := str_of (see4.ext hw'); go_simp) ?_; simp only [Act.put, List.setIfInBounds_toArray, List.set_cons_zero, List.set_cons_succ]
        refine pl_val (v := .bool false) rfl rfl (fun w' hw' => by go_simp) ?_; simp only [Act.put, List.setIfInBounds_toArray, List.set_cons_zero, List.set_cons_succ]
        refine pl_val (v := ?_) rfl rfl (fun w' hw' => ?_) ?_; rotate_left; (· skip; go_simp; try with_reducible rfl); simp only [Act.put, List.setIfInBounds_toArray, List.set_cons_zero, List.set_cons_succ]
        refine pl_done ?_
        have HRF := Lib.hid (EXI.out.trans (E11.out.trans (E12.out.trans (E13.out.trans ((Ext.refl w13).drew.trans e14)))))
        clear own4 see4 e14
        go_wp2_with fail
        go_roundw
        case rel => exact ⟨i + 1, by omega, by go_num, HRF.out⟩
        case measure => simp [intOf]; omega
      · rw [m]
        rw [m] at HEQ
        have HWR := Lib.hid (cwrite_no x d w11 HS11.out m)
        clear m
        go_wp2_with (first | (with_reducible refine wpList_load_sub rfl 26 (.tmp 47) rfl pb off rfl 26 _ _ _ _ HP11.out HAT.out Try.underlying26 rfl (HI.out _) ?_) | fail)
        refine HWR.out.mono ?_
        rintro e w12 ⟨rfl, e12⟩
        have E12 := Lib.hid e12
        have HP12 := Lib.hid (e12.heap HP11.out)
        have HS12 := Lib.hid (HS11.out.ext e12)
        clear e12
        go_wp2_with (first | (with_reducible refine wpList_load_sub rfl 26 (.tmp 54) rfl pb off rfl 26 _ _ _ _ HP12.out HAT.out Try.underlying26 rfl (HI.out _) ?_) | fail)
        refine (cmay_any x d _ HS12.out).mono ?_
        rintro e w13 ⟨rfl, e13⟩
        rw [HEQ.out]
        have E13 := Lib.hid e13
        clear e13
        go_wp2_with fail
        refine wp_region_pl (.free 0 (.free 1 (.free 2 (.free 3 (.free 4 (.free 5 (.free 6 (.free 7 (.one 8 (.free 9 (.free 10 (.free 11 .nil)))))))))))) (by kernel_rfl) (by kernel_rfl) (by kernel_rfl) (by kernel_rfl) ?_
        refine pl_val (v := ?_) rfl rfl (fun w' hw' => ?_) ?_; rotate_left; (· skip; go_simp; try with_reducible rfl); simp only [Act.put, List.setIfInBounds_toArray, List.set_cons_zero, List.set_cons_succ]
        refine pl_val (v := ?_) rfl rfl (fun w' hw' => ?_) ?_; rotate_left; (· skip; go_simp; try with_reducible rfl); simp only [Act.put, List.setIfInBounds_toArray, List.set_cons_zero, List.set_cons_succ]
        iterate 6 (refine pl_skip rfl rfl ?_; simp only [Act.put, List.setIfInBounds_toArray, List.set_cons_zero, List.set_cons_succ])
        refine pl_skip1 rfl rfl ?_; simp only [Act.put, List.setIfInBounds_toArray, List.set_cons_zero, List.set_cons_succ]
        iterate 2 (refine pl_skip rfl rfl ?_; simp only [Act.put, List.setIfInBounds_toArray, List.set_cons_zero, List.set_cons_succ])
        refine pl_val (v := ?_) rfl rfl (fun w' hw' => ?_) ?_; rotate_left; (· skip; go_simp; try with_reducible rfl); simp only [Act.put, List.setIfInBounds_toArray, List.set_cons_zero, List.set_cons_succ]
        refine pl_done ?_
        have HRF := Lib.hid (EXI.out.trans (E11.out.trans (E12.out.trans (E13.out.trans (Ext.refl w13).drew))))
        go_wp2_with fail
        go_roundw
        case rel => exact ⟨i + 1, by omega, by go_num, HRF.out⟩
        case measure => simp [intOf]; omega
    · obtain rfl : i = 3 := by omega
      go_wp2_with fail
      refine (lives14 _).mono ?_
      rintro e w9 ⟨rfl, e9⟩
      go_wp2_with fail
      go_ret
      exact ⟨rfl, E6.out.trans (EXI.out.trans e9)⟩
end Go.Proofs.Ytpjigdfllbhknaa
