/-
  Layer 14: whether two are the same: the program against the document, over three, each with each.
-/
import Derived.Test.YtpjigdfllbhknaaCalQ
import Derived.Test.YtpjigdfllbhknaaIsArgs
namespace Go.Proofs.Ytpjigdfllbhknaa
open Go Go.RowKit
set_option linter.unusedVariables false
set_option linter.unusedSimpArgs false
theorem len_max {z : ByteArray} (h : z.size ≤ maxLen) : z.data.toList.length ≤ 9223372036854775807 := by
  have e : z.data.toList.length = z.size := Array.length_toList
  rw [e]
  exact Nat.le_trans h (by unfold maxLen; omega)
theorem args_open {w : World} {v : Value} (h : Is_args w v) : ∃ (a : AR) (l : List UInt8), v = .agg a.cs ∧ a.rng ∧ Sees w a.dA a.dn a.dk (bs l) := by
  obtain ⟨cs, rfl, z0, z1, z2, z3, z4, z5, z6, z7, z8, z9, z10, A, n, c, l, rfl, h0, h1, h2, h3, h4, h5, h6, h7, h8, h9, h10, hs⟩ := h
  refine ⟨⟨z0, z1, z2, z3, z4, z5, z6, z7, z8, z9.data.toList, z10.data.toList, A, n, c⟩, l, by simp [AR.cs], ?_, hs⟩
  exact ⟨bounds_i64 h0, bounds_i64 h1, bounds_i64 h2, bounds_i64 h3, bounds_i64 h4, bounds_i64 h5, bounds_i64 h6, bounds_i64 h7, bounds_i64 h8, len_max h9, len_max h10⟩
/-- Three, one behind the other. -/
def R3 (p q r : AR) : Nat → AR
  | 0 => p
  | 1 => q
  | _ => r
def D3 (p q r : List UInt8) : Nat → List UInt8
  | 0 => p
  | 1 => q
  | _ => r
def cs3 (p q r : AR) : Array Value := (p.cs.toList ++ (q.cs.toList ++ r.cs.toList)).toArray
theorem cs3_at (p q r : AR) (j : Nat) (hj : j < 3) (i : Nat) (v : Value) (h : (R3 p q r j).cs[i]? = some v) : (cs3 p q r)[j * 12 + i]? = some v := by
  have hi : i < 12 := (Array.getElem?_eq_some_iff.1 h).1
  have hp : p.cs.toList.length = 12 := rfl
  have hq : q.cs.toList.length = 12 := rfl
  unfold cs3
  rw [List.getElem?_toArray]
  match j, hj with
  | 0, _ => rw [Nat.zero_mul, Nat.zero_add, List.getElem?_append_left (by omega)]; simpa [R3] using h
  | 1, _ => rw [List.getElem?_append_right (by omega), List.getElem?_append_left (by omega), show 1 * 12 + i - p.cs.toList.length = i from by omega]; simpa [R3] using h
  | 2, _ => rw [List.getElem?_append_right (by omega), List.getElem?_append_right (by omega), show 2 * 12 + i - p.cs.toList.length - q.cs.toList.length = i from by omega]; simpa [R3] using h
theorem arg_zero : (Try.prog.info? 26).map (fun i => (i.size, i.zero)) = some (12, some (.agg #[.int .i64 0, .int .i64 0, .int .i64 0, .int .i64 0, .int .i64 0, .int .i64 0, .int .i64 0, .int .i64 0, .int .i64 0, .string ⟨#[]⟩, .string ⟨#[]⟩, .slice none 0 0])) := by kernel_rfl
set_option maxRecDepth 20000 in
set_option maxHeartbeats 4000000 in
theorem cs_walk (a0 a1 : Value) (wh n : Int) (s : ByteArray) (w : World) (w0 : Is_args w a0) (w1 : Is_args w a1) (hw : I64 wh) (hn : I64 n) (hs : s.size ≤ maxLen) :
    Calls Try.prog 7 #[a0, a1, .int .i64 wh, .int .i64 n, .string s] w fun e w' => e = .returned (.bool true) ∧ Ext w w' := by
  obtain ⟨a, l, rfl, ha, sa⟩ := args_open w0
  obtain ⟨b, r, rfl, hb, sb⟩ := args_open w1
  obtain ⟨t, rfl⟩ : ∃ l : List UInt8, s = ⟨l.toArray⟩ := ⟨s.data.toList, by simp⟩
  have ht : t.length ≤ 9223372036854775807 := by simpa [maxLen, ByteArray.size] using hs
  obtain ⟨ab, hab⟩ : ∃ ab, w.heap.size = ab := ⟨_, rfl⟩
  obtain ⟨w2, hw2⟩ : ∃ w2, (w.alloc (.cells a.cs 26)).alloc (.cells b.cs 26) = w2 := ⟨_, rfl⟩
  have e2 : Ext w w2 := by rw [← hw2]; exact ((Ext.refl w).alloc _).alloc _
  have ba : w2.heap[ab]? = some (.cells a.cs 26 (0, 0)) := by rw [← hw2, ← hab]; exact ((Ext.refl _).alloc _).heap (heap_alloc_new w _)
  have bb : w2.heap[ab + 1]? = some (.cells b.cs 26 (0, 0)) := by rw [← hw2, ← hab]; exact heap_alloc2_new w _ _
  have HA := Lib.hid ha
  have HB := Lib.hid hb
  have HT := Lib.hid ht
  have HW := Lib.hid hw
  have HSA := Lib.hid (sa.ext e2)
  have HSB := Lib.hid (sb.ext e2)
  have E2 := Lib.hid e2
  have BA : Hid (w2.drew.heap[ab]? = some (.cells a.cs 26 (0, 0))) := Lib.hid ba
  have BB : Hid (w2.drew.heap[ab + 1]? = some (.cells b.cs 26 (0, 0))) := Lib.hid bb
  have HI := Lib.hid (fun b : AR => arg_info b)
  clear ha hb ht hw hn hs w0 w1 sa sb e2 ba bb
  go_enter Try.func7, Try.ntmps7
  go_wp2_with fail
  refine wp_region_pl (.free 0 (.free 2 (.free 4 (.free 5 (.free 6 (.free 7 (.one 1 (.one 3 (.one 8 (.one 9 (.free 10 .nil))))))))))) (by kernel_rfl) (by kernel_rfl) (by kernel_rfl) (by kernel_rfl) ?_
  refine pl_val (v := .agg a.cs) rfl rfl (fun w' hw' => exec_loadSub 26 _ rfl ab 0 rfl 26 _ _ _ _ (hw'.heap BA.out) (fun j v h => by rw [Nat.zero_add]; exact h) Try.underlying26 rfl (HI.out _)) ?_; simp only [Act.put, List.setIfInBounds_toArray, List.set_cons_zero, List.set_cons_succ]
  refine pl_val (v := .agg b.cs) rfl rfl (fun w' hw' => exec_loadSub 26 _ rfl (ab + 1) 0 rfl 26 _ _ _ _ (hw'.heap BB.out) (fun j v h => by rw [Nat.zero_add]; exact h) Try.underlying26 rfl (HI.out _)) ?_; simp only [Act.put, List.setIfInBounds_toArray, List.set_cons_zero, List.set_cons_succ]
  refine pl_val (v := .agg a.cs) rfl rfl (fun w' hw' => exec_loadSub 26 _ rfl ab 0 rfl 26 _ _ _ _ (hw'.heap BA.out) (fun j v h => by rw [Nat.zero_add]; exact h) Try.underlying26 rfl (HI.out _)) ?_; simp only [Act.put, List.setIfInBounds_toArray, List.set_cons_zero, List.set_cons_succ]
  refine pl_val (v := ?_) rfl rfl (fun w' hw' => ?_) ?_; rotate_left; (· skip; go_simp; try with_reducible rfl); simp only [Act.put, List.setIfInBounds_toArray, List.set_cons_zero, List.set_cons_succ]
  refine pl_val (v := ?_) rfl rfl (fun w' hw' => ?_) ?_; rotate_left; (· skip; go_simp; try with_reducible rfl); simp only [Act.put, List.setIfInBounds_toArray, List.set_cons_zero, List.set_cons_succ]
  refine pl_val (v := ?_) rfl rfl (fun w' hw' => ?_) ?_; rotate_left; (· skip; go_simp; try with_reducible rfl); simp only [Act.put, List.setIfInBounds_toArray, List.set_cons_zero, List.set_cons_succ]
  refine pl_call 12 #[.agg a.cs] rfl rfl (by go_simp) ?_
  refine (good14 a l _ HA.out (HSA.out.ext (Ext.refl w2).drew)).mono ?_
  rintro e w3 ⟨A0, n0, c0, rfl, s0, e3⟩
  refine ⟨_, rfl, e3, ?_⟩; simp only [Act.put, List.setIfInBounds_toArray, List.set_cons_zero, List.set_cons_succ]
  refine pl_call 12 #[.agg b.cs] rfl rfl (by go_simp) ?_
  refine (good14 b r _ HB.out (HSB.out.ext ((Ext.refl w2).drew.trans e3))).mono ?_
  rintro e w4 ⟨A1, n1, c1, rfl, s1, e4⟩
  refine ⟨_, rfl, e4, ?_⟩; simp only [Act.put, List.setIfInBounds_toArray, List.set_cons_zero, List.set_cons_succ]
  refine pl_call 13 #[.agg a.cs, .int .i64 wh, .int .i64 n, .string ⟨t.toArray⟩] rfl rfl (by go_simp) ?_
  refine (odd14 a l wh n t _ HA.out (HSA.out.ext ((Ext.refl w2).drew.trans (e3.trans e4))) HW.out HT.out).mono ?_
  rintro e w5 ⟨A2, n2, c2, rfl, s2, e5⟩
  refine ⟨_, rfl, e5, ?_⟩; simp only [Act.put, List.setIfInBounds_toArray, List.set_cons_zero, List.set_cons_succ]
  obtain ⟨P, hP⟩ : ∃ P, gdA a A0 n0 c0 = P := ⟨_, rfl⟩
  obtain ⟨Q, hQ⟩ : ∃ P, gdA b A1 n1 c1 = P := ⟨_, rfl⟩
  obtain ⟨R, hR⟩ : ∃ P, odA (gdA a A2 n2 c2) n t (aroundZ wh 10).toNat = P := ⟨_, rfl⟩
  have z0 : Sees w3 P.dA P.dn P.dk (bs (gdL a l)) := by rw [← hP]; exact sees_gdA s0
  have z1 : Sees w4 Q.dA Q.dn Q.dk (bs (gdL b r)) := by rw [← hQ]; exact sees_gdA s1
  have z2 : Sees w5 R.dA R.dn R.dk (bs (gdL a l)) := by
    obtain ⟨q1, q2, q3⟩ := odA_data (gdA a A2 n2 c2) n t (aroundZ wh 10).toNat
    rw [← hR, q1, q2, q3]
    exact s2
  rw [hP, hQ, hR]
  obtain ⟨pb, hpb⟩ : ∃ pb, w5.heap.size = pb := ⟨_, rfl⟩
  obtain ⟨w6, hw6⟩ : ∃ w6, w5.alloc (.cells (cs3 P Q R) 26) = w6 := ⟨_, rfl⟩
  have e6 : Ext w5 w6 := by rw [← hw6]; exact (Ext.refl w5).alloc _
  refine pl_run (w' := w6) (.slice (some ⟨pb, 0, none⟩) 3 3) rfl rfl ?hv e6 ?_
  case hv =>
    obtain ⟨ie, hie, hsz⟩ := Option.map_eq_some_iff.1 arg_zero
    injection hsz with hsz hz
    rw [← hw6, ← hpb]
    refine exec_buildSlice 31 26 3 _ rfl _ ie (.agg #[.int .i64 0, .int .i64 0, .int .i64 0, .int .i64 0, .int .i64 0, .int .i64 0, .int .i64 0, .int .i64 0, .int .i64 0, .string ⟨#[]⟩, .string ⟨#[]⟩, .slice none 0 0]) (by kernel_rfl) hie hz (by rw [hsz]; omega) (by rw [hsz]; omega) ?_
    rw [hsz]
    kernel_rfl
  simp only [Act.put, List.setIfInBounds_toArray, List.set_cons_zero, List.set_cons_succ]
  have HP6 : Hid (w6.heap[pb]? = some (.cells (cs3 P Q R) 26 (0, 0))) := Lib.hid (by rw [← hw6, ← hpb]; exact heap_alloc_new _ _)
  have HS6 : Hid (∀ j, Sees w6 (R3 P Q R j).dA (R3 P Q R j).dn (R3 P Q R j).dk (bs (D3 (gdL a l) (gdL b r) (gdL a l) j))) := Lib.hid fun j => by
    rcases j with _ | _ | j
    · exact z0.ext (e4.trans (e5.trans e6))
    · exact z1.ext (e5.trans e6)
    · exact z2.ext e6
  have E6 := Lib.hid (E2.out.trans (((Ext.refl w2).drew).trans (e3.trans (e4.trans (e5.trans e6)))))
  clear hw6 hP hQ hR z0 z1 z2 s0 s1 s2 e3 e4 e5 e6
  refine pl_val (v := ?_) rfl rfl (fun w' hw' => ?_) ?_; rotate_left; (· skip; go_simp; try with_reducible rfl); simp only [Act.put, List.setIfInBounds_toArray, List.set_cons_zero, List.set_cons_succ]
  refine pl_done ?_
  go_wp2_with fail
  go_loopw [12] (fun iv wr => ∃ i : Nat, i ≤ 3 ∧ iv = .int .i64 (i : Int) ∧ Ext w6 wr) (fun iv _ => 3 - (intOf iv).toNat)
  case atStart => exact ⟨0, by omega, rfl, Ext.refl _⟩
  case round =>
    obtain ⟨i, hi, rfl, exti⟩ := hrel
    obtain ⟨wq, hwq⟩ : ∃ wq, wq = wr := ⟨_, rfl⟩
    subst hwq
    have EXI := Lib.hid exti
    clear exti
    by_cases hlt : i < 3
    · go_wp2_with fail
      go_loopw [13] (fun kv wr => ∃ k : Nat, k ≤ 3 ∧ kv = .int .i64 (k : Int) ∧ Ext w6 wr) (fun kv _ => 3 - (intOf kv).toNat)
      case atStart => exact ⟨0, by omega, rfl, EXI.out⟩
      case round =>
        obtain ⟨k, hk, rfl, extk⟩ := hrel
        have EXK := Lib.hid extk
        clear extk
        by_cases hlk : k < 3
        · go_wp2_with fail
          refine wp_region_pl (.free 0 (.free 1 (.free 2 (.free 3 (.free 4 (.free 5 (.free 6 (.free 7 (.free 9 (.free 10 (.free 11 (.free 12 (.free 13 (.free 14 (.free 15 (.free 16 (.one 8 (.one 17 (.free 18 .nil))))))))))))))))))) (by kernel_rfl) (by kernel_rfl) (by kernel_rfl) (by kernel_rfl) ?_
          refine pl_val (v := ?_) rfl rfl (fun w' hw' => ?_) ?_; rotate_left; (· skip; go_simp; try with_reducible rfl); simp only [Act.put, List.setIfInBounds_toArray, List.set_cons_zero, List.set_cons_succ]
          refine pl_val (v := ?_) rfl rfl (fun w' hw' => ?_) ?_; rotate_left; (· skip; go_simp; try with_reducible rfl); simp only [Act.put, List.setIfInBounds_toArray, List.set_cons_zero, List.set_cons_succ]
          refine pl_val (v := ?_) rfl rfl (fun w' hw' => ?_) ?_; rotate_left; (· skip; go_simp; try with_reducible rfl); simp only [Act.put, List.setIfInBounds_toArray, List.set_cons_zero, List.set_cons_succ]
          refine pl_val (v := .agg (R3 P Q R i).cs) rfl rfl (fun w' hw' => exec_loadSub 26 _ rfl pb (i * 12) rfl 26 _ _ _ _ ((EXK.out.trans ((Ext.refl wr).drew.trans hw')).heap HP6.out) (fun j v h => cs3_at P Q R i hlt j v h) Try.underlying26 rfl (HI.out _)) ?_; simp only [Act.put, List.setIfInBounds_toArray, List.set_cons_zero, List.set_cons_succ]
          refine pl_val (v := ?_) rfl rfl (fun w' hw' => ?_) ?_; rotate_left; (· skip; go_simp; try with_reducible rfl); simp only [Act.put, List.setIfInBounds_toArray, List.set_cons_zero, List.set_cons_succ]
          refine pl_val (v := ?_) rfl rfl (fun w' hw' => ?_) ?_; rotate_left; (· skip; go_simp; try with_reducible rfl); simp only [Act.put, List.setIfInBounds_toArray, List.set_cons_zero, List.set_cons_succ]
          refine pl_val (v := ?_) rfl rfl (fun w' hw' => ?_) ?_; rotate_left; (· skip; go_simp; try with_reducible rfl); simp only [Act.put, List.setIfInBounds_toArray, List.set_cons_zero, List.set_cons_succ]
          refine pl_val (v := .agg (R3 P Q R k).cs) rfl rfl (fun w' hw' => exec_loadSub 26 _ rfl pb (k * 12) rfl 26 _ _ _ _ ((EXK.out.trans ((Ext.refl wr).drew.trans hw')).heap HP6.out) (fun j v h => cs3_at P Q R k hlk j v h) Try.underlying26 rfl (HI.out _)) ?_; simp only [Act.put, List.setIfInBounds_toArray, List.set_cons_zero, List.set_cons_succ]
          refine pl_val (v := ?_) rfl rfl (fun w' hw' => ?_) ?_; rotate_left; (· skip; go_simp; try with_reducible rfl); simp only [Act.put, List.setIfInBounds_toArray, List.set_cons_zero, List.set_cons_succ]
          refine pl_val (v := ?_) rfl rfl (fun w' hw' => ?_) ?_; rotate_left; (· skip; go_simp; try with_reducible rfl); simp only [Act.put, List.setIfInBounds_toArray, List.set_cons_zero, List.set_cons_succ]
          refine pl_val (v := ?_) rfl rfl (fun w' hw' => ?_) ?_; rotate_left; (· skip; go_simp; try with_reducible rfl); simp only [Act.put, List.setIfInBounds_toArray, List.set_cons_zero, List.set_cons_succ]
          refine pl_val (v := .agg (R3 P Q R i).cs) rfl rfl (fun w' hw' => exec_loadSub 26 _ rfl pb (i * 12) rfl 26 _ _ _ _ ((EXK.out.trans ((Ext.refl wr).drew.trans hw')).heap HP6.out) (fun j v h => cs3_at P Q R i hlt j v h) Try.underlying26 rfl (HI.out _)) ?_; simp only [Act.put, List.setIfInBounds_toArray, List.set_cons_zero, List.set_cons_succ]
          refine pl_val (v := ?_) rfl rfl (fun w' hw' => ?_) ?_; rotate_left; (· skip; go_simp; try with_reducible rfl); simp only [Act.put, List.setIfInBounds_toArray, List.set_cons_zero, List.set_cons_succ]
          refine pl_val (v := ?_) rfl rfl (fun w' hw' => ?_) ?_; rotate_left; (· skip; go_simp; try with_reducible rfl); simp only [Act.put, List.setIfInBounds_toArray, List.set_cons_zero, List.set_cons_succ]
          refine pl_val (v := ?_) rfl rfl (fun w' hw' => ?_) ?_; rotate_left; (· skip; go_simp; try with_reducible rfl); simp only [Act.put, List.setIfInBounds_toArray, List.set_cons_zero, List.set_cons_succ]
          refine pl_val (v := .agg (R3 P Q R k).cs) rfl rfl (fun w' hw' => exec_loadSub 26 _ rfl pb (k * 12) rfl 26 _ _ _ _ ((EXK.out.trans ((Ext.refl wr).drew.trans hw')).heap HP6.out) (fun j v h => cs3_at P Q R k hlk j v h) Try.underlying26 rfl (HI.out _)) ?_; simp only [Act.put, List.setIfInBounds_toArray, List.set_cons_zero, List.set_cons_succ]
          refine pl_call 23 #[.agg (R3 P Q R i).cs, .agg (R3 P Q R k).cs] rfl rfl (by go_simp) ?_
          refine (csame_any (R3 P Q R i) (R3 P Q R k) _ _ _ ((HS6.out i).ext (EXK.out.trans (Ext.refl wr).drew)) ((HS6.out k).ext (EXK.out.trans (Ext.refl wr).drew))).mono ?_
          rintro e w7 ⟨rfl, e7⟩
          refine ⟨_, rfl, e7, ?_⟩; simp only [Act.put, List.setIfInBounds_toArray, List.set_cons_zero, List.set_cons_succ]
          refine pl_call 22 #[.agg (R3 P Q R i).cs, .agg (R3 P Q R k).cs] rfl rfl (by go_simp) ?_
          refine (rsame14 (R3 P Q R i) (R3 P Q R k) _ _ _ ((HS6.out i).ext (EXK.out.trans ((Ext.refl wr).drew.trans e7))) ((HS6.out k).ext (EXK.out.trans ((Ext.refl wr).drew.trans e7)))).mono ?_
          rintro e w8 ⟨rfl, e8⟩
          refine ⟨_, rfl, e8, ?_⟩; simp only [Act.put, List.setIfInBounds_toArray, List.set_cons_zero, List.set_cons_succ]
          refine pl_val (v := ?_) rfl rfl (fun w' hw' => ?_) ?_; rotate_left; (· skip; go_simp; try with_reducible rfl); simp only [Act.put, List.setIfInBounds_toArray, List.set_cons_zero, List.set_cons_succ]
          refine pl_done ?_
          have HRF := Lib.hid (EXK.out.trans ((Ext.refl wr).drew.trans (e7.trans e8)))
          clear e7 e8
          go_wp2_with fail
          go_roundw
          case rel => exact ⟨k + 1, by omega, by go_num, HRF.out⟩
          case measure => simp [intOf]; omega
        · obtain rfl : k = 3 := by omega
          go_wp2_with fail
          go_roundw
          case rel => exact ⟨i + 1, by omega, by go_num, EXK.out⟩
          case measure => simp [intOf]; omega
    · obtain rfl : i = 3 := by omega
      go_wp2_with fail
      refine (lives14 _).mono ?_
      rintro e w9 ⟨rfl, e9⟩
      go_wp2_with fail
      go_ret
      exact ⟨rfl, E6.out.trans (EXI.out.trans e9)⟩
end Go.Proofs.Ytpjigdfllbhknaa
