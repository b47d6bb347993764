/-
  Layer 18: whether two replies are the same: the program against the document, over three, each with each.
-/
import Derived.Test.YtihiclnbbpablaaTelO
import Derived.Test.YtihiclnbbpablaaTellR
import Derived.Test.YtihiclnbbpablaaTellH
import Derived.Test.YtihiclnbbpablaaIsTell
import Derived.Great.BuildSlice
namespace Go.Proofs.Ytihiclnbbpablaa
open Go Go.RowKit
set_option linter.unusedVariables false
set_option linter.unusedSimpArgs false
theorem len_max {z : ByteArray} (h : z.size ≤ maxLen) : z.data.toList.length ≤ 9223372036854775807 := by
  have e : z.data.toList.length = z.size := Array.length_toList
  rw [e]
  exact Nat.le_trans h (by unfold maxLen; omega)
theorem rows_qids {W : World} : ∀ rs : List (List Value), (∀ r ∈ rs, r.length = 3 ∧ Le_qid W r) → ∃ ql : List (Bool × Int × Int), rs = ql.map qc ∧ ∀ q ∈ ql, RQ q
  | [], _ => ⟨[], rfl, by simp⟩
  | r :: rs, h => by
    obtain ⟨ql, e, hq⟩ := rows_qids rs (fun x hx => h x (by simp [hx]))
    obtain ⟨_, z0, z1, z2, rfl, h1, h2⟩ := h r (by simp)
    refine ⟨(z0, z1, z2) :: ql, by rw [e]; rfl, fun q hq' => ?_⟩
    rcases List.mem_cons.1 hq' with rfl | hq'
    · exact ⟨bounds_i64 h1, bounds_i64 h2⟩
    · exact hq q hq'
theorem tell_open {w : World} {v : Value} (h : Is_tell w v) : ∃ t : TL, v = .agg t.cs ∧ t.rng ∧ t.Ok w := by
  obtain ⟨cs, rfl, z0, z1, z2, z3, z4, z5, z6, z7, z8, z9, A10, n10, c10, r10, A11, n11, c11, l11, z12, z13, z14, z15, z16, z17, rfl, h0, h1, h2, h3, h4, h5, h6, h8, h9, ⟨hr1, hr2, hr3⟩, hs, h13, h14, h15, h16, h17⟩ := h
  obtain ⟨ql, rfl, hq⟩ := rows_qids r10 hr3
  refine ⟨⟨z0, z1, z2, z3, z4, z5, z6.data.toList, (z7, z8, z9), A10, n10, c10, ql, A11, n11, c11, l11, (z12, z13, z14), z15, z16, z17.data.toList⟩, by simp [TL.cs], ?_, ?_⟩
  · exact ⟨bounds_i64 h0, bounds_i64 h1, bounds_i64 h2, bounds_i64 h3, bounds_i64 h4, bounds_i64 h5, len_max h6, ⟨bounds_i64 h8, bounds_i64 h9⟩, hq, ⟨bounds_i64 h13, bounds_i64 h14⟩, bounds_i64 h15, bounds_i64 h16, len_max h17⟩
  · exact ⟨⟨by simpa using hr1, by simpa [List.flatMap_map] using hr2⟩, hs⟩
theorem tEq_rEq (t u : TL) : tEq t u (t.ql == u.ql) = rEq t u := by
  unfold tEq rEq fEq
  cases hq : (t.ql == u.ql) <;> cases hd : (t.dl == u.dl) <;> simp
def R3 (p q r : TL) : Nat → TL
  | 0 => p
  | 1 => q
  | _ => r
def cs3 (p q r : TL) : Array Value := (p.cs.toList ++ (q.cs.toList ++ r.cs.toList)).toArray
theorem cs3_at (p q r : TL) (j : Nat) (hj : j < 3) (i : Nat) (v : Value) (h : (R3 p q r j).cs[i]? = some v) : (cs3 p q r)[j * 18 + i]? = some v := by
  have hi : i < 18 := (Array.getElem?_eq_some_iff.1 h).1
  have hp : p.cs.toList.length = 18 := rfl
  have hq : q.cs.toList.length = 18 := rfl
  unfold cs3
  rw [List.getElem?_toArray]
  match j, hj with
  | 0, _ => rw [Nat.zero_mul, Nat.zero_add, List.getElem?_append_left (by omega)]; simpa [R3] using h
  | 1, _ => rw [List.getElem?_append_right (by omega), List.getElem?_append_left (by omega), show 1 * 18 + i - p.cs.toList.length = i from by omega]; simpa [R3] using h
  | 2, _ => rw [List.getElem?_append_right (by omega), List.getElem?_append_right (by omega), show 2 * 18 + i - p.cs.toList.length - q.cs.toList.length = i from by omega]; simpa [R3] using h
theorem tell_zero : (Try.prog.info? 29).map (fun i => (i.size, i.zero)) = some (18, some (.agg #[.int .i64 0, .int .i64 0, .int .i64 0, .int .i64 0, .int .i64 0, .int .i64 0, .string ⟨#[]⟩, .bool false, .int .i64 0, .int .i64 0, .slice none 0 0, .slice none 0 0, .bool false, .int .i64 0, .int .i64 0, .int .i64 0, .int .i64 0, .string ⟨#[]⟩])) := by kernel_rfl
set_option maxRecDepth 20000 in
set_option maxHeartbeats 4000000 in
theorem ts_walk (a0 a1 : Value) (wh n : Int) (s : ByteArray) (w : World) (w0 : Is_tell w a0) (w1 : Is_tell w a1) (hw : I64 wh) (hs : s.size ≤ maxLen) :
    Calls Try.prog 8 #[a0, a1, .int .i64 wh, .int .i64 n, .string s] w fun e w' => e = .returned (.bool true) ∧ Ext w w' := by
  obtain ⟨a, rfl, ha, sa⟩ := tell_open w0
  obtain ⟨b, rfl, hb, sb⟩ := tell_open w1
  obtain ⟨t, rfl⟩ : ∃ l : List UInt8, s = ⟨l.toArray⟩ := ⟨s.data.toList, by simp⟩
  have ht : t.length ≤ 9223372036854775807 := len_max hs
  obtain ⟨ab, hab⟩ : ∃ ab, w.heap.size = ab := ⟨_, rfl⟩
  obtain ⟨w2, hw2⟩ : ∃ w2, (w.alloc (.cells a.cs 29)).alloc (.cells b.cs 29) = w2 := ⟨_, rfl⟩
  have e2 : Ext w w2 := by rw [← hw2]; exact ((Ext.refl w).alloc _).alloc _
  have ba : w2.heap[ab]? = some (.cells a.cs 29 (0, 0)) := by rw [← hw2, ← hab]; exact ((Ext.refl _).alloc _).heap (heap_alloc_new w _)
  have bb : w2.heap[ab + 1]? = some (.cells b.cs 29 (0, 0)) := by rw [← hw2, ← hab]; exact heap_alloc2_new w _ _
  have HA := Lib.hid ha
  have HB := Lib.hid hb
  have HT := Lib.hid ht
  have HW := Lib.hid hw
  have HSA := Lib.hid (sa.ext e2)
  have HSB := Lib.hid (sb.ext e2)
  have E2 := Lib.hid e2
  have BA : Hid (w2.drew.heap[ab]? = some (.cells a.cs 29 (0, 0))) := Lib.hid ba
  have BB : Hid (w2.drew.heap[ab + 1]? = some (.cells b.cs 29 (0, 0))) := Lib.hid bb
  have HI := Lib.hid (fun b : TL => tl_info b)
  clear ha hb ht hw hs w0 w1 sa sb e2 ba bb
  go_enter Try.func8, Try.ntmps8
  go_wp2_with fail
  refine wp_region_pl (.free 0 (.free 2 (.free 4 (.free 5 (.free 6 (.free 7 (.one 1 (.one 3 (.one 8 (.one 9 (.free 10 .nil))))))))))) (by kernel_rfl) (by kernel_rfl) (by kernel_rfl) (by kernel_rfl) ?_
  refine pl_val (v := .agg a.cs) rfl rfl (fun w' hw' => exec_loadSub 29 _ rfl ab 0 rfl 29 _ _ _ _ (hw'.heap BA.out) (fun j v h => by rw [Nat.zero_add]; exact h) Try.underlying29 rfl (HI.out _)) ?_; simp only [Act.put, List.setIfInBounds_toArray, List.set_cons_zero, List.set_cons_succ]
  refine pl_val (v := .agg b.cs) rfl rfl (fun w' hw' => exec_loadSub 29 _ rfl (ab + 1) 0 rfl 29 _ _ _ _ (hw'.heap BB.out) (fun j v h => by rw [Nat.zero_add]; exact h) Try.underlying29 rfl (HI.out _)) ?_; simp only [Act.put, List.setIfInBounds_toArray, List.set_cons_zero, List.set_cons_succ]
  refine pl_val (v := .agg a.cs) rfl rfl (fun w' hw' => exec_loadSub 29 _ rfl ab 0 rfl 29 _ _ _ _ (hw'.heap BA.out) (fun j v h => by rw [Nat.zero_add]; exact h) Try.underlying29 rfl (HI.out _)) ?_; simp only [Act.put, List.setIfInBounds_toArray, List.set_cons_zero, List.set_cons_succ]
  refine pl_val (v := ?_) rfl rfl (fun w' hw' => ?_) ?_; rotate_left; (· skip; go_simp; try with_reducible rfl); simp only [Act.put, List.setIfInBounds_toArray, List.set_cons_zero, List.set_cons_succ]
  refine pl_val (v := ?_) rfl rfl (fun w' hw' => ?_) ?_; rotate_left; (· skip; go_simp; try with_reducible rfl); simp only [Act.put, List.setIfInBounds_toArray, List.set_cons_zero, List.set_cons_succ]
  refine pl_val (v := ?_) rfl rfl (fun w' hw' => ?_) ?_; rotate_left; (· skip; go_simp; try with_reducible rfl); simp only [Act.put, List.setIfInBounds_toArray, List.set_cons_zero, List.set_cons_succ]
  refine pl_call 11 #[.agg a.cs] rfl rfl (by go_simp) ?_
  refine (good18_mine a _ HA.out (HSA.out.ext (Ext.refl w2).drew)).mono ?_
  rintro e w3 ⟨P, rfl, m0, p8, e3⟩
  refine ⟨_, rfl, e3, ?_⟩; simp only [Act.put, List.setIfInBounds_toArray, List.set_cons_zero, List.set_cons_succ]
  refine pl_call 11 #[.agg b.cs] rfl rfl (by go_simp) ?_
  refine (good18_mine b _ HB.out (HSB.out.ext ((Ext.refl w2).drew.trans e3))).mono ?_
  rintro e w4 ⟨Q, rfl, m1, q8, e4⟩
  refine ⟨_, rfl, e4, ?_⟩; simp only [Act.put, List.setIfInBounds_toArray, List.set_cons_zero, List.set_cons_succ]
  refine pl_call 12 #[.agg a.cs, .int .i64 wh, .int .i64 n, .string ⟨t.toArray⟩] rfl rfl (by go_simp) ?_
  refine (odd18 a wh n t _ HA.out (HSA.out.ext ((Ext.refl w2).drew.trans (e3.trans e4))) HW.out HT.out).mono ?_
  rintro e w5 ⟨R, rfl, k2, r9, e5⟩
  refine ⟨_, rfl, e5, ?_⟩; simp only [Act.put, List.setIfInBounds_toArray, List.set_cons_zero, List.set_cons_succ]
  have k0 := m0.ok
  have k1 := m1.ok
  obtain ⟨pb, hpb⟩ : ∃ pb, w5.heap.size = pb := ⟨_, rfl⟩
  obtain ⟨w6, hw6⟩ : ∃ w6, w5.alloc (.cells (cs3 P Q R) 29) = w6 := ⟨_, rfl⟩
  have e6 : Ext w5 w6 := by rw [← hw6]; exact (Ext.refl w5).alloc _
  refine pl_run (w' := w6) (.slice (some ⟨pb, 0, none⟩) 3 3) rfl rfl ?hv e6 ?_
  case hv =>
    obtain ⟨ie, hie, hsz⟩ := Option.map_eq_some_iff.1 tell_zero
    injection hsz with hsz hz
    rw [← hw6, ← hpb]
    refine exec_buildSlice 32 29 3 _ rfl _ ie (.agg #[.int .i64 0, .int .i64 0, .int .i64 0, .int .i64 0, .int .i64 0, .int .i64 0, .string ⟨#[]⟩, .bool false, .int .i64 0, .int .i64 0, .slice none 0 0, .slice none 0 0, .bool false, .int .i64 0, .int .i64 0, .int .i64 0, .int .i64 0, .string ⟨#[]⟩]) (by kernel_rfl) hie hz (by rw [hsz]; omega) (by rw [hsz]; omega) ?_
    rw [hsz]
    kernel_rfl
  simp only [Act.put, List.setIfInBounds_toArray, List.set_cons_zero, List.set_cons_succ]
  have HP6 : Hid (w6.heap[pb]? = some (.cells (cs3 P Q R) 29 (0, 0))) := Lib.hid (by rw [← hw6, ← hpb]; exact heap_alloc_new _ _)
  have HS6 : Hid (∀ j, (R3 P Q R j).Ok w6) := Lib.hid fun j => by
    rcases j with _ | _ | j
    · exact k0.ext (e4.trans (e5.trans e6))
    · exact k1.ext (e5.trans e6)
    · exact k2.ext e6
  have HN6 : Hid (∀ j, (R3 P Q R j).qn ≤ 9) := Lib.hid fun j => by
    rcases j with _ | _ | j
    · exact Nat.le_succ_of_le p8
    · exact Nat.le_succ_of_le q8
    · exact r9
  have E6 := Lib.hid (E2.out.trans (((Ext.refl w2).drew).trans (e3.trans (e4.trans (e5.trans e6)))))
  clear hw6 k0 k1 k2 m0 m1 p8 q8 r9 e3 e4 e5 e6
  refine pl_val (v := ?_) rfl rfl (fun w' hw' => ?_) ?_; rotate_left; (· skip; go_simp; try with_reducible rfl); simp only [Act.put, List.setIfInBounds_toArray, List.set_cons_zero, List.set_cons_succ]
  refine pl_done ?_
  go_wp2_with fail
  go_loopw [12] (fun iv wr => ∃ i : Nat, i ≤ 3 ∧ iv = .int .i64 (i : Int) ∧ Ext w6 wr) (fun iv _ => 3 - (intOf iv).toNat)
  case atStart => exact ⟨0, by omega, rfl, Ext.refl _⟩
  case round =>
    obtain ⟨i, hi, rfl, exti⟩ := hrel
    obtain ⟨wq, hwq⟩ : ∃ wq, wq = wr := ⟨_, rfl⟩
    subst hwq
    have EXI := Lib.hid exti
    clear exti
    by_cases hlt : i < 3
    · have hlt' : (i : Int) < 3 := by omega
      go_wp2_with fail
      go_loopw [13] (fun kv wr => ∃ k : Nat, k ≤ 3 ∧ kv = .int .i64 (k : Int) ∧ Ext w6 wr) (fun kv _ => 3 - (intOf kv).toNat)
      case atStart => exact ⟨0, by omega, rfl, EXI.out⟩
      case round =>
        obtain ⟨k, hk, rfl, extk⟩ := hrel
        have EXK := Lib.hid extk
        clear extk
        by_cases hlk : k < 3
        · have hlk' : (k : Int) < 3 := by omega
          go_wp2_with fail
          refine wp_region_pl (.free 0 (.free 1 (.free 2 (.free 3 (.free 4 (.free 5 (.free 6 (.free 7 (.free 9 (.free 10 (.free 11 (.free 12 (.free 13 (.free 14 (.free 15 (.free 16 (.one 8 (.one 17 (.free 18 .nil))))))))))))))))))) (by kernel_rfl) (by kernel_rfl) (by kernel_rfl) (by kernel_rfl) ?_
          refine pl_val (v := ?_) rfl rfl (fun w' hw' => ?_) ?_; rotate_left; (· skip; go_simp; try with_reducible rfl); simp only [Act.put, List.setIfInBounds_toArray, List.set_cons_zero, List.set_cons_succ]
          refine pl_val (v := ?_) rfl rfl (fun w' hw' => ?_) ?_; rotate_left; (· skip; go_simp; try with_reducible rfl); simp only [Act.put, List.setIfInBounds_toArray, List.set_cons_zero, List.set_cons_succ]
          refine pl_val (v := ?_) rfl rfl (fun w' hw' => ?_) ?_; rotate_left; (· skip; go_simp; try with_reducible rfl); simp only [Act.put, List.setIfInBounds_toArray, List.set_cons_zero, List.set_cons_succ]
          refine pl_val (v := .agg (R3 P Q R i).cs) rfl rfl (fun w' hw' => exec_loadSub 29 _ rfl pb (i * 18) rfl 29 _ _ _ _ ((EXK.out.trans ((Ext.refl wr).drew.trans hw')).heap HP6.out) (fun j v h => cs3_at P Q R i hlt j v h) Try.underlying29 rfl (HI.out _)) ?_; simp only [Act.put, List.setIfInBounds_toArray, List.set_cons_zero, List.set_cons_succ]
          refine pl_val (v := ?_) rfl rfl (fun w' hw' => ?_) ?_; rotate_left; (· skip; go_simp; try with_reducible rfl); simp only [Act.put, List.setIfInBounds_toArray, List.set_cons_zero, List.set_cons_succ]
          refine pl_val (v := ?_) rfl rfl (fun w' hw' => ?_) ?_; rotate_left; (· skip; go_simp; try with_reducible rfl); simp only [Act.put, List.setIfInBounds_toArray, List.set_cons_zero, List.set_cons_succ]
          refine pl_val (v := ?_) rfl rfl (fun w' hw' => ?_) ?_; rotate_left; (· skip; go_simp; try with_reducible rfl); simp only [Act.put, List.setIfInBounds_toArray, List.set_cons_zero, List.set_cons_succ]
          refine pl_val (v := .agg (R3 P Q R k).cs) rfl rfl (fun w' hw' => exec_loadSub 29 _ rfl pb (k * 18) rfl 29 _ _ _ _ ((EXK.out.trans ((Ext.refl wr).drew.trans hw')).heap HP6.out) (fun j v h => cs3_at P Q R k hlk j v h) Try.underlying29 rfl (HI.out _)) ?_; simp only [Act.put, List.setIfInBounds_toArray, List.set_cons_zero, List.set_cons_succ]
          refine pl_val (v := ?_) rfl rfl (fun w' hw' => ?_) ?_; rotate_left; (· skip; go_simp; try with_reducible rfl); simp only [Act.put, List.setIfInBounds_toArray, List.set_cons_zero, List.set_cons_succ]
          refine pl_val (v := ?_) rfl rfl (fun w' hw' => ?_) ?_; rotate_left; (· skip; go_simp; try with_reducible rfl); simp only [Act.put, List.setIfInBounds_toArray, List.set_cons_zero, List.set_cons_succ]
          refine pl_val (v := ?_) rfl rfl (fun w' hw' => ?_) ?_; rotate_left; (· skip; go_simp; try with_reducible rfl); simp only [Act.put, List.setIfInBounds_toArray, List.set_cons_zero, List.set_cons_succ]
          refine pl_val (v := .agg (R3 P Q R i).cs) rfl rfl (fun w' hw' => exec_loadSub 29 _ rfl pb (i * 18) rfl 29 _ _ _ _ ((EXK.out.trans ((Ext.refl wr).drew.trans hw')).heap HP6.out) (fun j v h => cs3_at P Q R i hlt j v h) Try.underlying29 rfl (HI.out _)) ?_; simp only [Act.put, List.setIfInBounds_toArray, List.set_cons_zero, List.set_cons_succ]
          refine pl_val (v := ?_) rfl rfl (fun w' hw' => ?_) ?_; rotate_left; (· skip; go_simp; try with_reducible rfl); simp only [Act.put, List.setIfInBounds_toArray, List.set_cons_zero, List.set_cons_succ]
          refine pl_val (v := ?_) rfl rfl (fun w' hw' => ?_) ?_; rotate_left; (· skip; go_simp; try with_reducible rfl); simp only [Act.put, List.setIfInBounds_toArray, List.set_cons_zero, List.set_cons_succ]
          refine pl_val (v := ?_) rfl rfl (fun w' hw' => ?_) ?_; rotate_left; (· skip; go_simp; try with_reducible rfl); simp only [Act.put, List.setIfInBounds_toArray, List.set_cons_zero, List.set_cons_succ]
          refine pl_val (v := .agg (R3 P Q R k).cs) rfl rfl (fun w' hw' => exec_loadSub 29 _ rfl pb (k * 18) rfl 29 _ _ _ _ ((EXK.out.trans ((Ext.refl wr).drew.trans hw')).heap HP6.out) (fun j v h => cs3_at P Q R k hlk j v h) Try.underlying29 rfl (HI.out _)) ?_; simp only [Act.put, List.setIfInBounds_toArray, List.set_cons_zero, List.set_cons_succ]
          refine pl_call 23 #[.agg (R3 P Q R i).cs, .agg (R3 P Q R k).cs] rfl rfl (by go_simp) ?_
          refine (tsame_any (R3 P Q R i) (R3 P Q R k) ((R3 P Q R i).ql == (R3 P Q R k).ql) _ ((HS6.out i).ext (EXK.out.trans (Ext.refl wr).drew)) ((HS6.out k).ext (EXK.out.trans (Ext.refl wr).drew)) (fun w' he => qeq_any _ _ _ _ _ _ _ _ w' ((HS6.out i).ext (EXK.out.trans ((Ext.refl wr).drew.trans he))).1 ((HS6.out k).ext (EXK.out.trans ((Ext.refl wr).drew.trans he))).1)).mono ?_
          rintro e w7 ⟨rfl, e7⟩
          rw [tEq_rEq]
          refine ⟨_, rfl, e7, ?_⟩; simp only [Act.put, List.setIfInBounds_toArray, List.set_cons_zero, List.set_cons_succ]
          refine pl_call 22 #[.agg (R3 P Q R i).cs, .agg (R3 P Q R k).cs] rfl rfl (by go_simp) ?_
          refine (rsame_any (R3 P Q R i) (R3 P Q R k) _ ((HS6.out i).ext (EXK.out.trans ((Ext.refl wr).drew.trans e7))) ((HS6.out k).ext (EXK.out.trans ((Ext.refl wr).drew.trans e7))) (by have := HN6.out i; omega)).mono ?_
          rintro e w8 ⟨rfl, e8⟩
          refine ⟨_, rfl, e8, ?_⟩; simp only [Act.put, List.setIfInBounds_toArray, List.set_cons_zero, List.set_cons_succ]
          refine pl_val (v := ?_) rfl rfl (fun w' hw' => ?_) ?_; rotate_left; (· skip; go_simp; try with_reducible rfl); simp only [Act.put, List.setIfInBounds_toArray, List.set_cons_zero, List.set_cons_succ]
          refine pl_done ?_
          have HRF := Lib.hid (EXK.out.trans ((Ext.refl wr).drew.trans (e7.trans e8)))
          clear e7 e8
          go_wp2_with fail
          go_roundw
          case rel => exact ⟨k + 1, by omega, by go_num, HRF.out⟩
          case measure => simp [intOf]; omega
        · obtain rfl : k = 3 := by omega
          go_wp2_with fail
          go_roundw
          case rel => exact ⟨i + 1, by omega, by go_num, EXK.out⟩
          case measure => simp [intOf]; omega
    · obtain rfl : i = 3 := by omega
      go_wp2_with fail
      refine (tlives_any _).mono ?_
      rintro e w9 ⟨rfl, e9⟩
      go_wp2_with fail
      go_ret
      exact ⟨rfl, E6.out.trans (EXI.out.trans e9)⟩
end Go.Proofs.Ytihiclnbbpablaa
