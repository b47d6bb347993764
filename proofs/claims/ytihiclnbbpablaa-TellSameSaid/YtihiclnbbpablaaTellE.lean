/-
  Layer 18: what is laid of a field.
-/
import Derived.Test.YtihiclnbbpablaaTellD
import Derived.Test.YtihiclnbbpablaaPln
namespace Go.Proofs.Ytihiclnbbpablaa
open Go Go.RowKit
set_option linter.unusedVariables false
set_option linter.unusedSimpArgs false
theorem bi_nat {x m : Int} (h : bi x m = true) : ((x.toNat : Nat) : Int) = x ∧ x ≤ m ∧ 0 ≤ x := by
  simp only [bi, Bool.and_eq_true, decide_eq_true_eq] at h
  omega
def qb (q : Bool × Int × Int) : List UInt8 := le 1 (if q.1 then 128 else 0) ++ le 4 q.2.1.toNat ++ le 8 q.2.2.toNat
theorem qb_length (q : Bool × Int × Int) : (qb q).length = 13 := by simp [qb, le_length]
theorem own_sees {w : World} {base : Nat} {v : Value} {n m : Nat} {xs : List Value} (h : w.ownsRow base 5 1 v n xs) (hm : n = m) : ∃ A c, v = .slice A m c ∧ Sees w A m c xs := by
  subst hm
  exact Sees.of_own h
theorem lqid_true (A : Option Addr) (n c : Nat) (l : List UInt8) (v p : Int) (w : World) (hs : Sees w A n c (bs l)) (hn : n ≤ 900000) (hq : bq (true, v, p) = true) :
    Calls Try.prog 58 #[.slice A n c, .agg #[.bool true, .int .i64 v, .int .i64 p]] w fun e w' => ∃ A' c', e = .returned (.slice A' (n + 13) c') ∧ Sees w' A' (n + 13) c' (bs (l ++ qb (true, v, p))) ∧ Ext w w' := by
  simp only [bq, Bool.and_eq_true] at hq
  obtain ⟨v1, v2, v3⟩ := bi_nat hq.1
  obtain ⟨p1, p2, p3⟩ := bi_nat hq.2
  have HV : Hid (IntKind.u32.wrap v = ((v.toNat : Nat) : Int)) := Lib.hid (by show v % 4294967296 = _; omega)
  have HP : Hid (IntKind.u64.wrap p = ((p.toNat : Nat) : Int)) := Lib.hid (by show p % 18446744073709551616 = _; omega)
  have HVB : Hid (v.toNat < 4294967296) := Lib.hid (by omega)
  have HPB : Hid (p.toNat < 18446744073709551616) := Lib.hid (by omega)
  obtain ⟨w1, hw1⟩ : ∃ w1, w.alloc (.cells #[.bool true, .int .i64 v, .int .i64 p] 23) = w1 := ⟨_, rfl⟩
  have e1 : Ext w w1 := by rw [← hw1]; exact (Ext.refl w).alloc _
  have hb : w1.heap[w.heap.size]? = some (.cells #[.bool true, .int .i64 v, .int .i64 p] 23 (0, 0)) := by rw [← hw1]; exact heap_alloc_new w _
  have x0 := cell_of_row w1 w.heap.size 0 _ _ _ hb
  have x1 := cell_of_row w1 w.heap.size 1 _ _ _ hb
  have x2 := cell_of_row w1 w.heap.size 2 _ _ _ hb
  simp at x0 x1 x2
  have HC : Hid (∀ w', Ext w1.drew w' → w'.cell? ⟨w.heap.size, 1, none⟩ = some (.int .i64 v) ∧ w'.cell? ⟨w.heap.size, 2, none⟩ = some (.int .i64 p)) := Lib.hid fun w' h => ⟨h.cell x1, h.cell x2⟩
  have HS := Lib.hid (hs.ext (e1.drew))
  have E1 := Lib.hid (e1.drew)
  clear hb x1 x2 e1 hs hq v1 v2 v3 p1 p2 p3
  go_enter Try.func58, Try.ntmps58
  go_wp2_with fail
  refine wp_region_pl (.free 0 (.free 1 (.free 3 (.free 4 (.free 5 (.free 7 (.free 8 (.free 9 (.one 2 (.one 6 (.one 10 (.free 11 .nil)))))))))))) (by kernel_rfl) (by kernel_rfl) (by kernel_rfl) (by kernel_rfl) ?_
  refine pl_val (v := ?_) rfl rfl (fun w' hw' => ?_) ?_; rotate_left; (· skip; go_simp; try with_reducible rfl); simp only [Act.put, List.setIfInBounds_toArray, List.set_cons_zero, List.set_cons_succ]
  refine pl_val (v := ?_) rfl rfl (fun w' hw' => ?_) ?_; rotate_left; (· skip; go_simp; try with_reducible rfl); simp only [Act.put, List.setIfInBounds_toArray, List.set_cons_zero, List.set_cons_succ]
  refine pl_val (v := ?_) rfl rfl (fun w' hw' => ?_) ?_; rotate_left; (· skip; go_simp; try with_reducible rfl); simp only [Act.put, List.setIfInBounds_toArray, List.set_cons_zero, List.set_cons_succ]
  refine pl_val (v := ?_) rfl rfl (fun w' hw' => ?_) ?_; rotate_left; (· have hh := HC.out w' hw'; have v0 := hh.1; have v1 := hh.2; go_simp; try with_reducible rfl); simp only [Act.put, List.setIfInBounds_toArray, List.set_cons_zero, List.set_cons_succ]
  refine pl_val (v := ?_) rfl rfl (fun w' hw' => ?_) ?_; rotate_left; (· skip; go_simp; try with_reducible rfl); simp only [Act.put, List.setIfInBounds_toArray, List.set_cons_zero, List.set_cons_succ]
  refine pl_val (v := ?_) rfl rfl (fun w' hw' => ?_) ?_; rotate_left; (· skip; go_simp; try with_reducible rfl); simp only [Act.put, List.setIfInBounds_toArray, List.set_cons_zero, List.set_cons_succ]
  refine pl_val (v := ?_) rfl rfl (fun w' hw' => ?_) ?_; rotate_left; (· have hh := HC.out w' hw'; have v0 := hh.1; have v1 := hh.2; go_simp; try with_reducible rfl); simp only [Act.put, List.setIfInBounds_toArray, List.set_cons_zero, List.set_cons_succ]
  refine pl_val (v := ?_) rfl rfl (fun w' hw' => ?_) ?_; rotate_left; (· skip; go_simp; try with_reducible rfl); simp only [Act.put, List.setIfInBounds_toArray, List.set_cons_zero, List.set_cons_succ]
  rw [HV.out, HP.out]
  refine pl_call 63 #[.slice A n c, .int .u8 ((128 : Nat) : Int)] rfl rfl (by go_simp) ?_
  refine (lu_u8 A n c 128 l _ HS.out (by omega) (by omega)).mono ?_
  rintro e w2 ⟨u2, rfl, own2, e2⟩
  obtain ⟨A2, c2, rfl, see2⟩ := own_sees own2 rfl
  refine ⟨_, rfl, e2, ?_⟩
  clear own2
  simp only [Act.put, List.setIfInBounds_toArray, List.set_cons_zero, List.set_cons_succ]
  refine pl_call 56 #[.slice A2 (n + 1) c2, .int .u32 ((v.toNat : Nat) : Int)] rfl rfl (by go_simp) ?_
  refine (lu_u32 A2 _ c2 v.toNat _ _ see2 (by omega) HVB.out).mono ?_
  rintro e w3 ⟨u3, rfl, own3, e3⟩
  obtain ⟨A3, c3, rfl, see3⟩ := own_sees own3 rfl
  refine ⟨_, rfl, e3, ?_⟩
  clear own3
  simp only [Act.put, List.setIfInBounds_toArray, List.set_cons_zero, List.set_cons_succ]
  refine pl_call 87 #[.slice A3 (n + 1 + 4) c3, .int .u64 ((p.toNat : Nat) : Int)] rfl rfl (by go_simp) ?_
  refine (lu_u64 A3 _ c3 p.toNat _ _ see3 (by omega) HPB.out).mono ?_
  rintro e w4 ⟨u4, rfl, own4, e4⟩
  obtain ⟨A4, c4, rfl, see4⟩ := own_sees own4 rfl
  refine ⟨_, rfl, e4, ?_⟩
  clear own4
  simp only [Act.put, List.setIfInBounds_toArray, List.set_cons_zero, List.set_cons_succ]
  refine pl_val (v := ?_) rfl rfl (fun w' hw' => ?_) ?_; rotate_left; (· skip; go_simp; try with_reducible rfl); simp only [Act.put, List.setIfInBounds_toArray, List.set_cons_zero, List.set_cons_succ]
  refine pl_done ?_
  go_wp2_with fail
  go_ret
  exact ⟨_, _, rfl, by simpa [qb, List.append_assoc] using see4, ((E1.out.trans e2).trans e3).trans e4⟩
theorem lqid_false (A : Option Addr) (n c : Nat) (l : List UInt8) (v p : Int) (w : World) (hs : Sees w A n c (bs l)) (hn : n ≤ 900000) (hq : bq (false, v, p) = true) :
    Calls Try.prog 58 #[.slice A n c, .agg #[.bool false, .int .i64 v, .int .i64 p]] w fun e w' => ∃ A' c', e = .returned (.slice A' (n + 13) c') ∧ Sees w' A' (n + 13) c' (bs (l ++ qb (false, v, p))) ∧ Ext w w' := by
  simp only [bq, Bool.and_eq_true] at hq
  obtain ⟨v1, v2, v3⟩ := bi_nat hq.1
  obtain ⟨p1, p2, p3⟩ := bi_nat hq.2
  have HV : Hid (IntKind.u32.wrap v = ((v.toNat : Nat) : Int)) := Lib.hid (by show v % 4294967296 = _; omega)
  have HP : Hid (IntKind.u64.wrap p = ((p.toNat : Nat) : Int)) := Lib.hid (by show p % 18446744073709551616 = _; omega)
  have HVB : Hid (v.toNat < 4294967296) := Lib.hid (by omega)
  have HPB : Hid (p.toNat < 18446744073709551616) := Lib.hid (by omega)
  obtain ⟨w1, hw1⟩ : ∃ w1, w.alloc (.cells #[.bool false, .int .i64 v, .int .i64 p] 23) = w1 := ⟨_, rfl⟩
  have e1 : Ext w w1 := by rw [← hw1]; exact (Ext.refl w).alloc _
  have hb : w1.heap[w.heap.size]? = some (.cells #[.bool false, .int .i64 v, .int .i64 p] 23 (0, 0)) := by rw [← hw1]; exact heap_alloc_new w _
  have x0 := cell_of_row w1 w.heap.size 0 _ _ _ hb
  have x1 := cell_of_row w1 w.heap.size 1 _ _ _ hb
  have x2 := cell_of_row w1 w.heap.size 2 _ _ _ hb
  simp at x0 x1 x2
  have HC : Hid (∀ w', Ext w1.drew w' → w'.cell? ⟨w.heap.size, 1, none⟩ = some (.int .i64 v) ∧ w'.cell? ⟨w.heap.size, 2, none⟩ = some (.int .i64 p)) := Lib.hid fun w' h => ⟨h.cell x1, h.cell x2⟩
  have HS := Lib.hid (hs.ext (e1.drew))
  have E1 := Lib.hid (e1.drew)
  clear hb x1 x2 e1 hs hq v1 v2 v3 p1 p2 p3
  go_enter Try.func58, Try.ntmps58
  go_wp2_with fail
  refine wp_region_pl (.free 0 (.free 1 (.free 3 (.free 4 (.free 5 (.free 7 (.free 8 (.free 9 (.one 2 (.one 6 (.one 10 (.free 11 .nil)))))))))))) (by kernel_rfl) (by kernel_rfl) (by kernel_rfl) (by kernel_rfl) ?_
  refine pl_val (v := ?_) rfl rfl (fun w' hw' => ?_) ?_; rotate_left; (· skip; go_simp; try with_reducible rfl); simp only [Act.put, List.setIfInBounds_toArray, List.set_cons_zero, List.set_cons_succ]
  refine pl_val (v := ?_) rfl rfl (fun w' hw' => ?_) ?_; rotate_left; (· skip; go_simp; try with_reducible rfl); simp only [Act.put, List.setIfInBounds_toArray, List.set_cons_zero, List.set_cons_succ]
  refine pl_val (v := ?_) rfl rfl (fun w' hw' => ?_) ?_; rotate_left; (· skip; go_simp; try with_reducible rfl); simp only [Act.put, List.setIfInBounds_toArray, List.set_cons_zero, List.set_cons_succ]
  refine pl_val (v := ?_) rfl rfl (fun w' hw' => ?_) ?_; rotate_left; (· have hh := HC.out w' hw'; have v0 := hh.1; have v1 := hh.2; go_simp; try with_reducible rfl); simp only [Act.put, List.setIfInBounds_toArray, List.set_cons_zero, List.set_cons_succ]
  refine pl_val (v := ?_) rfl rfl (fun w' hw' => ?_) ?_; rotate_left; (· skip; go_simp; try with_reducible rfl); simp only [Act.put, List.setIfInBounds_toArray, List.set_cons_zero, List.set_cons_succ]
  refine pl_val (v := ?_) rfl rfl (fun w' hw' => ?_) ?_; rotate_left; (· skip; go_simp; try with_reducible rfl); simp only [Act.put, List.setIfInBounds_toArray, List.set_cons_zero, List.set_cons_succ]
  refine pl_val (v := ?_) rfl rfl (fun w' hw' => ?_) ?_; rotate_left; (· have hh := HC.out w' hw'; have v0 := hh.1; have v1 := hh.2; go_simp; try with_reducible rfl); simp only [Act.put, List.setIfInBounds_toArray, List.set_cons_zero, List.set_cons_succ]
  refine pl_val (v := ?_) rfl rfl (fun w' hw' => ?_) ?_; rotate_left; (· skip; go_simp; try with_reducible rfl); simp only [Act.put, List.setIfInBounds_toArray, List.set_cons_zero, List.set_cons_succ]
  rw [HV.out, HP.out]
  refine pl_call 63 #[.slice A n c, .int .u8 ((0 : Nat) : Int)] rfl rfl (by go_simp) ?_
  refine (lu_u8 A n c 0 l _ HS.out (by omega) (by omega)).mono ?_
  rintro e w2 ⟨u2, rfl, own2, e2⟩
  obtain ⟨A2, c2, rfl, see2⟩ := own_sees own2 rfl
  refine ⟨_, rfl, e2, ?_⟩
  clear own2
  simp only [Act.put, List.setIfInBounds_toArray, List.set_cons_zero, List.set_cons_succ]
  refine pl_call 56 #[.slice A2 (n + 1) c2, .int .u32 ((v.toNat : Nat) : Int)] rfl rfl (by go_simp) ?_
  refine (lu_u32 A2 _ c2 v.toNat _ _ see2 (by omega) HVB.out).mono ?_
  rintro e w3 ⟨u3, rfl, own3, e3⟩
  obtain ⟨A3, c3, rfl, see3⟩ := own_sees own3 rfl
  refine ⟨_, rfl, e3, ?_⟩
  clear own3
  simp only [Act.put, List.setIfInBounds_toArray, List.set_cons_zero, List.set_cons_succ]
  refine pl_call 87 #[.slice A3 (n + 1 + 4) c3, .int .u64 ((p.toNat : Nat) : Int)] rfl rfl (by go_simp) ?_
  refine (lu_u64 A3 _ c3 p.toNat _ _ see3 (by omega) HPB.out).mono ?_
  rintro e w4 ⟨u4, rfl, own4, e4⟩
  obtain ⟨A4, c4, rfl, see4⟩ := own_sees own4 rfl
  refine ⟨_, rfl, e4, ?_⟩
  clear own4
  simp only [Act.put, List.setIfInBounds_toArray, List.set_cons_zero, List.set_cons_succ]
  refine pl_val (v := ?_) rfl rfl (fun w' hw' => ?_) ?_; rotate_left; (· skip; go_simp; try with_reducible rfl); simp only [Act.put, List.setIfInBounds_toArray, List.set_cons_zero, List.set_cons_succ]
  refine pl_done ?_
  go_wp2_with fail
  go_ret
  exact ⟨_, _, rfl, by simpa [qb, List.append_assoc] using see4, ((E1.out.trans e2).trans e3).trans e4⟩
theorem lqid_any (A : Option Addr) (n c : Nat) (l : List UInt8) (q : Bool × Int × Int) (w : World) (hs : Sees w A n c (bs l)) (hn : n ≤ 900000) (hq : bq q = true) :
    Calls Try.prog 58 #[.slice A n c, .agg #[.bool q.1, .int .i64 q.2.1, .int .i64 q.2.2]] w fun e w' => ∃ A' c', e = .returned (.slice A' (n + 13) c') ∧ Sees w' A' (n + 13) c' (bs (l ++ qb q)) ∧ Ext w w' := by
  obtain ⟨d, v, p⟩ := q
  cases d
  · exact lqid_false A n c l v p w hs hn hq
  · exact lqid_true A n c l v p w hs hn hq
def sb (t : TL) : List UInt8 := qb t.s ++ le 4 t.sm.toNat ++ le 8 t.sz.toNat ++ le 2 t.sn.length ++ t.sn
theorem lstat_any (A : Option Addr) (n c : Nat) (l : List UInt8) (t : TL) (w : World) (hs : Sees w A n c (bs l)) (hn : n ≤ 800000) (hq : bst t = true) :
    Calls Try.prog 62 #[.slice A n c, .agg #[.bool t.s.1, .int .i64 t.s.2.1, .int .i64 t.s.2.2, .int .i64 t.sm, .int .i64 t.sz, .string ⟨t.sn.toArray⟩]] w fun e w' => ∃ A' c', e = .returned (.slice A' (n + (sb t).length) c') ∧ Sees w' A' (n + (sb t).length) c' (bs (l ++ sb t)) ∧ Ext w w' := by
  simp only [bst, Bool.and_eq_true, decide_eq_true_eq] at hq
  obtain ⟨hq0, hq1, hq2, hq3⟩ := hq
  obtain ⟨v1, v2, v3⟩ := bi_nat hq1
  obtain ⟨p1, p2, p3⟩ := bi_nat hq2
  have HV : Hid (IntKind.u32.wrap t.sm = ((t.sm.toNat : Nat) : Int)) := Lib.hid (by show t.sm % 4294967296 = _; omega)
  have HP : Hid (IntKind.u64.wrap t.sz = ((t.sz.toNat : Nat) : Int)) := Lib.hid (by show t.sz % 18446744073709551616 = _; omega)
  have HVB : Hid (t.sm.toNat < 4294967296) := Lib.hid (by omega)
  have HPB : Hid (t.sz.toNat < 18446744073709551616) := Lib.hid (by omega)
  have HNL : Hid (t.sn.length ≤ 60000) := Lib.hid (by omega)
  have HQQ := Lib.hid hq0
  obtain ⟨w1, hw1⟩ : ∃ w1, w.alloc (.cells #[.bool t.s.1, .int .i64 t.s.2.1, .int .i64 t.s.2.2, .int .i64 t.sm, .int .i64 t.sz, .string ⟨t.sn.toArray⟩] 27) = w1 := ⟨_, rfl⟩
  have e1 : Ext w w1 := by rw [← hw1]; exact (Ext.refl w).alloc _
  have hb : w1.heap[w.heap.size]? = some (.cells #[.bool t.s.1, .int .i64 t.s.2.1, .int .i64 t.s.2.2, .int .i64 t.sm, .int .i64 t.sz, .string ⟨t.sn.toArray⟩] 27 (0, 0)) := by rw [← hw1]; exact heap_alloc_new w _
  have HC : Hid (∀ w', Ext w1 w' → w'.cell? ⟨w.heap.size, 0, none⟩ = some (.bool t.s.1) ∧ w'.cell? ⟨w.heap.size, 1, none⟩ = some (.int .i64 t.s.2.1) ∧ w'.cell? ⟨w.heap.size, 2, none⟩ = some (.int .i64 t.s.2.2) ∧ w'.cell? ⟨w.heap.size, 3, none⟩ = some (.int .i64 t.sm) ∧ w'.cell? ⟨w.heap.size, 4, none⟩ = some (.int .i64 t.sz) ∧ w'.cell? ⟨w.heap.size, 5, none⟩ = some (.string ⟨t.sn.toArray⟩)) := Lib.hid fun w' h => by
    have hh := h.heap hb
    have q := fun i => cell_of_row w' w.heap.size i _ _ _ hh
    have q0 := q 0; have q1 := q 1; have q2 := q 2; have q3 := q 3; have q4 := q 4; have q5 := q 5
    simp at q0 q1 q2 q3 q4 q5
    exact ⟨q0, q1, q2, q3, q4, q5⟩
  have HS := Lib.hid (hs.ext (e1.drew))
  have E1 := Lib.hid (e1.drew)
  clear hb e1 hs hq0 hq1 hq2 hq3 v1 v2 v3 p1 p2 p3
  go_enter Try.func62, Try.ntmps62
  go_wp2_with fail
  refine wp_region_pl (.free 0 (.free 1 (.free 2 (.free 4 (.free 5 (.free 6 (.one 3 (.one 7 (.free 8 .nil))))))))) (by kernel_rfl) (by kernel_rfl) (by kernel_rfl) (by kernel_rfl) ?_
  refine pl_val (v := ?_) rfl rfl (fun w' hw' => ?_) ?_; rotate_left; (· skip; go_simp; try with_reducible rfl); simp only [Act.put, List.setIfInBounds_toArray, List.set_cons_zero, List.set_cons_succ]
  refine pl_val (v := ?_) rfl rfl (fun w' hw' => ?_) ?_; rotate_left; (· skip; go_simp; try with_reducible rfl); simp only [Act.put, List.setIfInBounds_toArray, List.set_cons_zero, List.set_cons_succ]
  refine pl_val (v := ?_) rfl rfl (fun w' hw' => ?_) ?_; rotate_left; (· obtain ⟨v0, v1, v2, v3, v4, v5⟩ := HC.out w' ((Ext.refl w1).drew.trans hw'); go_simp; try with_reducible rfl); simp only [Act.put, List.setIfInBounds_toArray, List.set_cons_zero, List.set_cons_succ]
  refine pl_val (v := ?_) rfl rfl (fun w' hw' => ?_) ?_; rotate_left; (· skip; go_simp; try with_reducible rfl); simp only [Act.put, List.setIfInBounds_toArray, List.set_cons_zero, List.set_cons_succ]
  refine pl_val (v := ?_) rfl rfl (fun w' hw' => ?_) ?_; rotate_left; (· obtain ⟨v0, v1, v2, v3, v4, v5⟩ := HC.out w' ((Ext.refl w1).drew.trans hw'); go_simp; try with_reducible rfl); simp only [Act.put, List.setIfInBounds_toArray, List.set_cons_zero, List.set_cons_succ]
  refine pl_val (v := ?_) rfl rfl (fun w' hw' => ?_) ?_; rotate_left; (· skip; go_simp; try with_reducible rfl); simp only [Act.put, List.setIfInBounds_toArray, List.set_cons_zero, List.set_cons_succ]
  rw [HV.out]
  refine pl_call 58 #[.slice A n c, .agg #[.bool t.s.1, .int .i64 t.s.2.1, .int .i64 t.s.2.2]] rfl rfl (by go_simp) ?_
  refine (lqid_any A n c l t.s _ HS.out (by omega) HQQ.out).mono ?_
  rintro e w2 ⟨A2, c2, rfl, see2, e2⟩
  refine ⟨_, rfl, e2, ?_⟩
  simp only [Act.put, List.setIfInBounds_toArray, List.set_cons_zero, List.set_cons_succ]
  refine pl_call 56 #[.slice A2 (n + 13) c2, .int .u32 ((t.sm.toNat : Nat) : Int)] rfl rfl (by go_simp) ?_
  refine (lu_u32 A2 _ c2 t.sm.toNat _ _ see2 (by omega) HVB.out).mono ?_
  rintro e w3 ⟨u3, rfl, own3, e3⟩
  obtain ⟨A3, c3, rfl, see3⟩ := own_sees own3 rfl
  refine ⟨_, rfl, e3, ?_⟩
  clear own3
  simp only [Act.put, List.setIfInBounds_toArray, List.set_cons_zero, List.set_cons_succ]
  refine pl_val (v := ?_) rfl rfl (fun w' hw' => ?_) ?_; rotate_left; (· skip; go_simp; try with_reducible rfl); simp only [Act.put, List.setIfInBounds_toArray, List.set_cons_zero, List.set_cons_succ]
  refine pl_done ?_
  have E3 := Lib.hid ((Ext.refl w1).drew.trans (e2.trans e3))
  have HS3 := Lib.hid (see3.ext (Ext.refl w3).drew)
  clear see3 see2 e2 e3
  have E13 := Lib.hid (E1.out)
  go_wp2_with fail
  refine wp_region_pl (.free 0 (.free 1 (.free 2 (.free 3 (.free 5 (.free 6 (.one 4 (.one 7 (.free 8 .nil))))))))) (by kernel_rfl) (by kernel_rfl) (by kernel_rfl) (by kernel_rfl) ?_
  refine pl_val (v := ?_) rfl rfl (fun w' hw' => ?_) ?_; rotate_left; (· skip; go_simp; try with_reducible rfl); simp only [Act.put, List.setIfInBounds_toArray, List.set_cons_zero, List.set_cons_succ]
  refine pl_val (v := ?_) rfl rfl (fun w' hw' => ?_) ?_; rotate_left; (· skip; go_simp; try with_reducible rfl); simp only [Act.put, List.setIfInBounds_toArray, List.set_cons_zero, List.set_cons_succ]
  refine pl_val (v := ?_) rfl rfl (fun w' hw' => ?_) ?_; rotate_left; (· obtain ⟨v0, v1, v2, v3, v4, v5⟩ := HC.out w' (E3.out.trans ((Ext.refl w3).drew.trans hw')); go_simp; try with_reducible rfl); simp only [Act.put, List.setIfInBounds_toArray, List.set_cons_zero, List.set_cons_succ]
  refine pl_val (v := ?_) rfl rfl (fun w' hw' => ?_) ?_; rotate_left; (· skip; go_simp; try with_reducible rfl); simp only [Act.put, List.setIfInBounds_toArray, List.set_cons_zero, List.set_cons_succ]
  refine pl_val (v := ?_) rfl rfl (fun w' hw' => ?_) ?_; rotate_left; (· skip; go_simp; try with_reducible rfl); simp only [Act.put, List.setIfInBounds_toArray, List.set_cons_zero, List.set_cons_succ]
  refine pl_val (v := ?_) rfl rfl (fun w' hw' => ?_) ?_; rotate_left; (· obtain ⟨v0, v1, v2, v3, v4, v5⟩ := HC.out w' (E3.out.trans ((Ext.refl w3).drew.trans hw')); go_simp; try with_reducible rfl); simp only [Act.put, List.setIfInBounds_toArray, List.set_cons_zero, List.set_cons_succ]
  rw [HP.out]
  refine pl_call 87 #[.slice A3 (n + 13 + 4) c3, .int .u64 ((t.sz.toNat : Nat) : Int)] rfl rfl (by go_simp) ?_
  refine (lu_u64 A3 _ c3 t.sz.toNat _ _ HS3.out (by omega) HPB.out).mono ?_
  rintro e w4 ⟨u4, rfl, own4, e4⟩
  obtain ⟨A4, c4, rfl, see4⟩ := own_sees own4 rfl
  refine ⟨_, rfl, e4, ?_⟩
  clear own4
  simp only [Act.put, List.setIfInBounds_toArray, List.set_cons_zero, List.set_cons_succ]
  refine pl_call 57 #[.slice A4 (n + 13 + 4 + 8) c4, .string ⟨t.sn.toArray⟩] rfl rfl (by go_simp) ?_
  refine (ltext_any A4 _ c4 _ t.sn _ see4 (by omega) HNL.out).mono ?_
  rintro e w5 ⟨u5, rfl, own5, e5⟩
  obtain ⟨A5, c5, rfl, see5⟩ := own_sees own5 (show n + 13 + 4 + 8 + 2 + t.sn.length = n + (sb t).length from by simp [sb, qb_length, le_length]; omega)
  refine ⟨_, rfl, e5, ?_⟩
  clear own5
  simp only [Act.put, List.setIfInBounds_toArray, List.set_cons_zero, List.set_cons_succ]
  refine pl_val (v := ?_) rfl rfl (fun w' hw' => ?_) ?_; rotate_left; (· skip; go_simp; try with_reducible rfl); simp only [Act.put, List.setIfInBounds_toArray, List.set_cons_zero, List.set_cons_succ]
  refine pl_done ?_
  go_wp2_with fail
  go_ret
  refine ⟨_, _, rfl, by simpa [sb, List.append_assoc] using see5, ?_⟩
  have h0 : Ext w w1 := ⟨E1.out.os, E1.out.tape, E1.out.output, E1.out.size, E1.out.block⟩
  exact ((h0.trans E3.out).trans ((Ext.refl w3).drew.trans e4)).trans e5
end Go.Proofs.Ytihiclnbbpablaa
