/-
  The statement FidsApart: its walk.
-/
import Derived.Test.YtabcmhiobfddnaaFidC
import Derived.Test.YtabcmhiobfddnaaFlatX
namespace Go.Proofs.Ytabcmhiobfddnaa
open Go Go.RowKit
set_option linter.unusedVariables false
set_option linter.unusedSimpArgs false
theorem xor1 (a : Int) (h0 : -9223372036854775808 ≤ a) (h1 : a ≤ 9223372036854775807) : ¬ a = bits .xor .i64 a 1 := by
  intro h
  have e : bits .xor .i64 a 1 = IntKind.i64.wrap ((BitVec.ofInt 64 a ^^^ BitVec.ofInt 64 1).toNat : Int) := rfl
  rw [e, IntKind.wrap_i64] at h
  have hx : ((BitVec.ofInt 64 a).toNat : Int) = a % 18446744073709551616 := by
    rw [BitVec.toNat_ofInt]
    omega
  have hl := (BitVec.ofInt 64 a ^^^ BitVec.ofInt 64 1).isLt
  have q : (BitVec.ofInt 64 a ^^^ BitVec.ofInt 64 1).toNat = (BitVec.ofInt 64 a).toNat := by omega
  have q2 := congrArg (BitVec.ofInt 64 a ^^^ ·) (BitVec.eq_of_toNat_eq q)
  simp only [← BitVec.xor_assoc, BitVec.xor_self, BitVec.zero_xor] at q2
  exact absurd q2 (by decide)
theorem cells10 {w : World} {g : Nat} {v0 v1 v2 v3 v4 v5 v6 v7 v8 v9 : Value} {t : TypeId} (h : w.heap[g]? = some (.cells #[v0, v1, v2, v3, v4, v5, v6, v7, v8, v9] t (0, 0))) :
    w.cell? ⟨g, 0, none⟩ = some v0 ∧ w.cell? ⟨g, 1, none⟩ = some v1 ∧ w.cell? ⟨g, 2, none⟩ = some v2 ∧ w.cell? ⟨g, 3, none⟩ = some v3 ∧ w.cell? ⟨g, 4, none⟩ = some v4 ∧ w.cell? ⟨g, 5, none⟩ = some v5 ∧ w.cell? ⟨g, 6, none⟩ = some v6 ∧ w.cell? ⟨g, 7, none⟩ = some v7 ∧ w.cell? ⟨g, 8, none⟩ = some v8 ∧ w.cell? ⟨g, 9, none⟩ = some v9 := by
  have q := fun i => cell_of_row w g i _ _ _ h
  have q0 := q 0; have q1 := q 1; have q2 := q 2; have q3 := q 3; have q4 := q 4; have q5 := q 5; have q6 := q 6; have q7 := q 7; have q8 := q 8; have q9 := q 9
  simp at q0 q1 q2 q3 q4 q5 q6 q7 q8 q9
  exact ⟨q0, q1, q2, q3, q4, q5, q6, q7, q8, q9⟩
/-- What is known of the four lists. -/
theorem lists4 (a b : Int) (h : ¬ a = b) (X Y : Value) : ∃ L1 L2 L3 L4 : List (Int × Value), putL [] a X = L1 ∧ putL L1 b Y = L2 ∧ putL L2 b X = L3 ∧ putL L3 b Y = L4 ∧
    (L1.length = 1 ∧ hasL L1 b = false ∧ hasL L2 b = true ∧ hasL L3 b = true ∧ hasL L4 b = true ∧ hasL (delL L4 b) b = false ∧ lkL (delL L4 b) a = some X) := by
  refine ⟨_, _, _, _, rfl, rfl, rfl, rfl, len_put_new (L := []) X rfl, ?_, has_put_same _ _ _, has_put_same _ _ _, has_put_same _ _ _, has_del_same _ _, ?_⟩
  · rw [has_put_other _ _ _ _ (fun e => h e.symm)]; rfl
  · rw [lk_del_other _ _ _ h, lk_put_other _ _ _ _ h, lk_put_other _ _ _ _ h, lk_put_other _ _ _ _ h, lk_put_same]
set_option maxRecDepth 20000 in
set_option maxHeartbeats 8000000 in
theorem fa_walk (a b : Int) (xa xb xc xd : Int) (xs : ByteArray) (xx xy : Bool) (xm xf xt : Int) (ya yb yc yd : Int) (ys : ByteArray) (yx yy : Bool) (ym yf yt : Int) (w : World) (a0 : -9223372036854775808 ≤ a) (a1 : a ≤ 9223372036854775807) (b0 : -9223372036854775808 ≤ b) (b1 : b ≤ 9223372036854775807) :
    Calls Try.prog 5 #[.int .i64 a, .int .i64 b, .agg #[.int .i64 xa, .int .i64 xb, .int .i64 xc, .int .i64 xd, .string xs, .bool xx, .bool xy, .int .i64 xm, .int .i64 xf, .int .i64 xt], .agg #[.int .i64 ya, .int .i64 yb, .int .i64 yc, .int .i64 yd, .string ys, .bool yx, .bool yy, .int .i64 ym, .int .i64 yf, .int .i64 yt]] w fun e w' => e = .returned (.bool true) ∧ Ext w w' := by
  have hx : ∀ w', Ext ((w.alloc (.cells #[.int .i64 xa, .int .i64 xb, .int .i64 xc, .int .i64 xd, .string xs, .bool xx, .bool xy, .int .i64 xm, .int .i64 xf, .int .i64 xt] 34)).alloc (.cells #[.int .i64 ya, .int .i64 yb, .int .i64 yc, .int .i64 yd, .string ys, .bool yx, .bool yy, .int .i64 ym, .int .i64 yf, .int .i64 yt] 34)) w' → w'.heap[w.heap.size]? = some (.cells #[.int .i64 xa, .int .i64 xb, .int .i64 xc, .int .i64 xd, .string xs, .bool xx, .bool xy, .int .i64 xm, .int .i64 xf, .int .i64 xt] 34 (0, 0)) ∧ w'.heap[w.heap.size + 1]? = some (.cells #[.int .i64 ya, .int .i64 yb, .int .i64 yc, .int .i64 yd, .string ys, .bool yx, .bool yy, .int .i64 ym, .int .i64 yf, .int .i64 yt] 34 (0, 0)) := fun w' e => ⟨e.heap (((Ext.refl _).alloc _).heap (heap_alloc_new w _)), e.heap (by simpa using heap_alloc_new (w.alloc (.cells #[.int .i64 xa, .int .i64 xb, .int .i64 xc, .int .i64 xd, .string xs, .bool xx, .bool xy, .int .i64 xm, .int .i64 xf, .int .i64 xt] 34)) (.cells #[.int .i64 ya, .int .i64 yb, .int .i64 yc, .int .i64 yd, .string ys, .bool yx, .bool yy, .int .i64 ym, .int .i64 yf, .int .i64 yt] 34))⟩
  have HX := Lib.hid hx
  have HE0 := Lib.hid (((Ext.refl w).alloc (.cells #[.int .i64 xa, .int .i64 xb, .int .i64 xc, .int .i64 xd, .string xs, .bool xx, .bool xy, .int .i64 xm, .int .i64 xf, .int .i64 xt] 34)).alloc (.cells #[.int .i64 ya, .int .i64 yb, .int .i64 yc, .int .i64 yd, .string ys, .bool yx, .bool yy, .int .i64 ym, .int .i64 yf, .int .i64 yt] 34))
  clear hx
  go_enter Try.func5, Try.ntmps5
  go_wp2_with fail
  obtain ⟨w0, hw0⟩ : ∃ w0, (w.alloc (.cells #[.int .i64 xa, .int .i64 xb, .int .i64 xc, .int .i64 xd, .string xs, .bool xx, .bool xy, .int .i64 xm, .int .i64 xf, .int .i64 xt] 34)).alloc (.cells #[.int .i64 ya, .int .i64 yb, .int .i64 yc, .int .i64 yd, .string ys, .bool yx, .bool yy, .int .i64 ym, .int .i64 yf, .int .i64 yt] 34) = w0 := ⟨_, rfl⟩
  rw [hw0] at HX HE0 ⊢
  clear hw0
  obtain ⟨z, hz⟩ : ∃ z, w.heap.size = z := ⟨_, rfl⟩
  rw [hz] at HX ⊢
  clear hz
  refine (fnew_ok 5 5 rfl w0 (by omega) (by omega)).mono ?_
  rintro e w1 ⟨tb, mb, rfl, hm, ht, hb, e1⟩
  have HM := Lib.hid hm
  have E1 := Lib.hid e1
  clear hm e1
  by_cases hab : a = b
  · subst hab
    have hxr := xor1 a a0 a1
    have hbd := bounds_i64 (wf_bits .xor .i64 a 1)
    obtain ⟨L1, L2, L3, L4, hL1, hL2, hL3, hL4, hF⟩ := lists4 a (bits .xor .i64 a 1) hxr (.agg #[.int .i64 xa, .int .i64 xb, .int .i64 xc, .int .i64 xd, .string xs, .bool xx, .bool xy, .int .i64 xm, .int .i64 xf, .int .i64 xt]) (.agg #[.int .i64 ya, .int .i64 yb, .int .i64 yc, .int .i64 yd, .string ys, .bool yx, .bool yy, .int .i64 ym, .int .i64 yf, .int .i64 yt])
    have HL1 := Lib.hid hL1
    have HL2 := Lib.hid hL2
    have HL3 := Lib.hid hL3
    have HL4 := Lib.hid hL4
    have HF := Lib.hid hF
    clear hL1 hL2 hL3 hL4 hF
    have HB := Lib.hid hbd
    clear hxr hbd
    have hx := (HX.out w1 E1.out).1
    have hy := (HX.out w1 E1.out).2
    obtain ⟨x0, x1, x2, x3, x4, x5, x6, x7, x8, x9⟩ := cells10 hx
    obtain ⟨y0, y1, y2, y3, y4, y5, y6, y7, y8, y9⟩ := cells10 hy
    clear hx hy
    go_wp2_with fail
    clear x0 x1 x2 x3 x4 x5 x6 x7 x8 x9 y0 y1 y2 y3 y4 y5 y6 y7 y8 y9
    refine (fadd_ok tb mb 5 [] a xa xb xc xd xs xx xy xm xf xt rfl (by simp) a0 a1 w1 HM.out).mono ?_
    rintro e w2 ⟨rfl, hm2, o2⟩
    rw [HL1.out] at hm2
    have HM2 := Lib.hid hm2
    have E2 := Lib.hid (o2.ext E1.out ht hb)
    clear hm2 o2
    have hx := (HX.out w2 E2.out).1
    have hy := (HX.out w2 E2.out).2
    obtain ⟨x0, x1, x2, x3, x4, x5, x6, x7, x8, x9⟩ := cells10 hx
    obtain ⟨y0, y1, y2, y3, y4, y5, y6, y7, y8, y9⟩ := cells10 hy
    clear hx hy
    go_wp2_with fail
    clear x0 x1 x2 x3 x4 x5 x6 x7 x8 x9 y0 y1 y2 y3 y4 y5 y6 y7 y8 y9
    refine (fadd_ok tb mb 5 L1 (bits .xor .i64 a 1) ya yb yc yd ys yx yy ym yf yt HF.out.2.1 (by rw [HF.out.1]; simp) HB.out.1 HB.out.2 w2 HM2.out).mono ?_
    rintro e w3 ⟨rfl, hm3, o3⟩
    rw [HL2.out] at hm3
    have HM3 := Lib.hid hm3
    have E3 := Lib.hid (o3.ext E2.out ht hb)
    clear hm3 o3
    have hx := (HX.out w3 E3.out).1
    have hy := (HX.out w3 E3.out).2
    obtain ⟨x0, x1, x2, x3, x4, x5, x6, x7, x8, x9⟩ := cells10 hx
    obtain ⟨y0, y1, y2, y3, y4, y5, y6, y7, y8, y9⟩ := cells10 hy
    clear hx hy
    go_wp2_with fail
    clear x0 x1 x2 x3 x4 x5 x6 x7 x8 x9 y0 y1 y2 y3 y4 y5 y6 y7 y8 y9
    refine (fset_ok tb mb 5 L2 (bits .xor .i64 a 1) xa xb xc xd xs xx xy xm xf xt HF.out.2.2.1 HB.out.1 HB.out.2 w3 HM3.out).mono ?_
    rintro e w4 ⟨rfl, hm4, o4⟩
    rw [HL3.out] at hm4
    have HM4 := Lib.hid hm4
    have E4 := Lib.hid (o4.ext E3.out ht hb)
    clear hm4 o4
    have hx := (HX.out w4 E4.out).1
    have hy := (HX.out w4 E4.out).2
    obtain ⟨x0, x1, x2, x3, x4, x5, x6, x7, x8, x9⟩ := cells10 hx
    obtain ⟨y0, y1, y2, y3, y4, y5, y6, y7, y8, y9⟩ := cells10 hy
    clear hx hy
    go_wp2_with fail
    clear x0 x1 x2 x3 x4 x5 x6 x7 x8 x9 y0 y1 y2 y3 y4 y5 y6 y7 y8 y9
    refine (fset_ok tb mb 5 L3 (bits .xor .i64 a 1) ya yb yc yd ys yx yy ym yf yt HF.out.2.2.2.1 HB.out.1 HB.out.2 w4 HM4.out).mono ?_
    rintro e w5 ⟨rfl, hm5, o5⟩
    rw [HL4.out] at hm5
    have HM5 := Lib.hid hm5
    have E5 := Lib.hid (o5.ext E4.out ht hb)
    clear hm5 o5
    go_wp2_with fail
    refine (fdrop_ok tb mb 5 L4 (bits .xor .i64 a 1) HF.out.2.2.2.2.1 HB.out.1 HB.out.2 w5 HM5.out).mono ?_
    rintro e w6 ⟨rfl, hm6, o6⟩
    have HM6 := Lib.hid hm6
    have E6 := Lib.hid (o6.ext E5.out ht hb)
    clear hm6 o6
    go_wp2_with fail
    refine (fdrop_no tb mb 5 _ (bits .xor .i64 a 1) HF.out.2.2.2.2.2.1 HB.out.1 HB.out.2 w6 HM6.out).mono ?_
    rintro e w7 ⟨rfl, e7⟩
    have HM7 := Lib.hid (HM6.out.ext e7)
    have E7 := Lib.hid (E6.out.trans e7)
    clear e7
    go_wp2_with fail
    refine (fget_ok tb mb 5 _ a xa xb xc xd xs xx xy xm xf xt HF.out.2.2.2.2.2.2 a0 a1 w7 HM7.out).mono ?_
    rintro e w8 ⟨rfl, e8⟩
    have HM8 := Lib.hid ((HM7.out.ext e8).ext ((Ext.refl _).alloc (.cells #[.int .i64 xa, .int .i64 xb, .int .i64 xc, .int .i64 xd, .string xs, .bool xx, .bool xy, .int .i64 xm, .int .i64 xf, .int .i64 xt] 37)))
    have E8 := Lib.hid ((E7.out.trans e8).alloc (.cells #[.int .i64 xa, .int .i64 xb, .int .i64 xc, .int .i64 xd, .string xs, .bool xx, .bool xy, .int .i64 xm, .int .i64 xf, .int .i64 xt] 37))
    have HZ8 := Lib.hid (heap_alloc_new w8 (.cells #[.int .i64 xa, .int .i64 xb, .int .i64 xc, .int .i64 xd, .string xs, .bool xx, .bool xy, .int .i64 xm, .int .i64 xf, .int .i64 xt] 37))
    clear e8
    go_wp2_with fail
    refine (fget_no tb mb 5 _ (bits .xor .i64 a 1) HF.out.2.2.2.2.2.1 HB.out.1 HB.out.2 _ HM8.out).mono ?_
    rintro e w9 ⟨rfl, e9⟩
    have E9 := Lib.hid ((E8.out.trans e9).alloc (.cells #[.int .i64 0, .int .i64 0, .int .i64 0, .int .i64 0, .string ByteArray.empty, .bool false, .bool false, .int .i64 0, .int .i64 0, .int .i64 0] 37))
    have hz9 := (e9.alloc (.cells #[.int .i64 0, .int .i64 0, .int .i64 0, .int .i64 0, .string ByteArray.empty, .bool false, .bool false, .int .i64 0, .int .i64 0, .int .i64 0] 37)).heap HZ8.out
    obtain ⟨z0, z1, z2, z3, z4, z5, z6, z7, z8, z9⟩ := cells10 hz9
    clear e9 hz9
    have hx := (HX.out _ E9.out).1
    have hy := (HX.out _ E9.out).2
    obtain ⟨x0, x1, x2, x3, x4, x5, x6, x7, x8, x9⟩ := cells10 hx
    obtain ⟨y0, y1, y2, y3, y4, y5, y6, y7, y8, y9⟩ := cells10 hy
    clear hx hy
    go_wp2_with fail
    refine (flives_any _).mono ?_
    rintro e w10 ⟨rfl, e10⟩
    go_wp2
    go_ret
    exact ⟨rfl, HE0.out.trans (E9.out.trans e10)⟩
  · have t1 : (a == b) = false := by simpa using hab
    obtain ⟨L1, L2, L3, L4, hL1, hL2, hL3, hL4, hF⟩ := lists4 a b hab (.agg #[.int .i64 xa, .int .i64 xb, .int .i64 xc, .int .i64 xd, .string xs, .bool xx, .bool xy, .int .i64 xm, .int .i64 xf, .int .i64 xt]) (.agg #[.int .i64 ya, .int .i64 yb, .int .i64 yc, .int .i64 yd, .string ys, .bool yx, .bool yy, .int .i64 ym, .int .i64 yf, .int .i64 yt])
    have HL1 := Lib.hid hL1
    have HL2 := Lib.hid hL2
    have HL3 := Lib.hid hL3
    have HL4 := Lib.hid hL4
    have HF := Lib.hid hF
    clear hL1 hL2 hL3 hL4 hF
    have hx := (HX.out w1 E1.out).1
    have hy := (HX.out w1 E1.out).2
    obtain ⟨x0, x1, x2, x3, x4, x5, x6, x7, x8, x9⟩ := cells10 hx
    obtain ⟨y0, y1, y2, y3, y4, y5, y6, y7, y8, y9⟩ := cells10 hy
    clear hx hy
    go_wp2_with fail
    clear x0 x1 x2 x3 x4 x5 x6 x7 x8 x9 y0 y1 y2 y3 y4 y5 y6 y7 y8 y9
    refine (fadd_ok tb mb 5 [] a xa xb xc xd xs xx xy xm xf xt rfl (by simp) a0 a1 w1 HM.out).mono ?_
    rintro e w2 ⟨rfl, hm2, o2⟩
    rw [HL1.out] at hm2
    have HM2 := Lib.hid hm2
    have E2 := Lib.hid (o2.ext E1.out ht hb)
    clear hm2 o2
    have hx := (HX.out w2 E2.out).1
    have hy := (HX.out w2 E2.out).2
    obtain ⟨x0, x1, x2, x3, x4, x5, x6, x7, x8, x9⟩ := cells10 hx
    obtain ⟨y0, y1, y2, y3, y4, y5, y6, y7, y8, y9⟩ := cells10 hy
    clear hx hy
    go_wp2_with fail
    clear x0 x1 x2 x3 x4 x5 x6 x7 x8 x9 y0 y1 y2 y3 y4 y5 y6 y7 y8 y9
    refine (fadd_ok tb mb 5 L1 b ya yb yc yd ys yx yy ym yf yt HF.out.2.1 (by rw [HF.out.1]; simp) b0 b1 w2 HM2.out).mono ?_
    rintro e w3 ⟨rfl, hm3, o3⟩
    rw [HL2.out] at hm3
    have HM3 := Lib.hid hm3
    have E3 := Lib.hid (o3.ext E2.out ht hb)
    clear hm3 o3
    have hx := (HX.out w3 E3.out).1
    have hy := (HX.out w3 E3.out).2
    obtain ⟨x0, x1, x2, x3, x4, x5, x6, x7, x8, x9⟩ := cells10 hx
    obtain ⟨y0, y1, y2, y3, y4, y5, y6, y7, y8, y9⟩ := cells10 hy
    clear hx hy
    go_wp2_with fail
    clear x0 x1 x2 x3 x4 x5 x6 x7 x8 x9 y0 y1 y2 y3 y4 y5 y6 y7 y8 y9
    refine (fset_ok tb mb 5 L2 b xa xb xc xd xs xx xy xm xf xt HF.out.2.2.1 b0 b1 w3 HM3.out).mono ?_
    rintro e w4 ⟨rfl, hm4, o4⟩
    rw [HL3.out] at hm4
    have HM4 := Lib.hid hm4
    have E4 := Lib.hid (o4.ext E3.out ht hb)
    clear hm4 o4
    have hx := (HX.out w4 E4.out).1
    have hy := (HX.out w4 E4.out).2
    obtain ⟨x0, x1, x2, x3, x4, x5, x6, x7, x8, x9⟩ := cells10 hx
    obtain ⟨y0, y1, y2, y3, y4, y5, y6, y7, y8, y9⟩ := cells10 hy
    clear hx hy
    go_wp2_with fail
    clear x0 x1 x2 x3 x4 x5 x6 x7 x8 x9 y0 y1 y2 y3 y4 y5 y6 y7 y8 y9
    refine (fset_ok tb mb 5 L3 b ya yb yc yd ys yx yy ym yf yt HF.out.2.2.2.1 b0 b1 w4 HM4.out).mono ?_
    rintro e w5 ⟨rfl, hm5, o5⟩
    rw [HL4.out] at hm5
    have HM5 := Lib.hid hm5
    have E5 := Lib.hid (o5.ext E4.out ht hb)
    clear hm5 o5
    go_wp2_with fail
    refine (fdrop_ok tb mb 5 L4 b HF.out.2.2.2.2.1 b0 b1 w5 HM5.out).mono ?_
    rintro e w6 ⟨rfl, hm6, o6⟩
    have HM6 := Lib.hid hm6
    have E6 := Lib.hid (o6.ext E5.out ht hb)
    clear hm6 o6
    go_wp2_with fail
    refine (fdrop_no tb mb 5 _ b HF.out.2.2.2.2.2.1 b0 b1 w6 HM6.out).mono ?_
    rintro e w7 ⟨rfl, e7⟩
    have HM7 := Lib.hid (HM6.out.ext e7)
    have E7 := Lib.hid (E6.out.trans e7)
    clear e7
    go_wp2_with fail
    refine (fget_ok tb mb 5 _ a xa xb xc xd xs xx xy xm xf xt HF.out.2.2.2.2.2.2 a0 a1 w7 HM7.out).mono ?_
    rintro e w8 ⟨rfl, e8⟩
    have HM8 := Lib.hid ((HM7.out.ext e8).ext ((Ext.refl _).alloc (.cells #[.int .i64 xa, .int .i64 xb, .int .i64 xc, .int .i64 xd, .string xs, .bool xx, .bool xy, .int .i64 xm, .int .i64 xf, .int .i64 xt] 37)))
    have E8 := Lib.hid ((E7.out.trans e8).alloc (.cells #[.int .i64 xa, .int .i64 xb, .int .i64 xc, .int .i64 xd, .string xs, .bool xx, .bool xy, .int .i64 xm, .int .i64 xf, .int .i64 xt] 37))
    have HZ8 := Lib.hid (heap_alloc_new w8 (.cells #[.int .i64 xa, .int .i64 xb, .int .i64 xc, .int .i64 xd, .string xs, .bool xx, .bool xy, .int .i64 xm, .int .i64 xf, .int .i64 xt] 37))
    clear e8
    go_wp2_with fail
    refine (fget_no tb mb 5 _ b HF.out.2.2.2.2.2.1 b0 b1 _ HM8.out).mono ?_
    rintro e w9 ⟨rfl, e9⟩
    have E9 := Lib.hid ((E8.out.trans e9).alloc (.cells #[.int .i64 0, .int .i64 0, .int .i64 0, .int .i64 0, .string ByteArray.empty, .bool false, .bool false, .int .i64 0, .int .i64 0, .int .i64 0] 37))
    have hz9 := (e9.alloc (.cells #[.int .i64 0, .int .i64 0, .int .i64 0, .int .i64 0, .string ByteArray.empty, .bool false, .bool false, .int .i64 0, .int .i64 0, .int .i64 0] 37)).heap HZ8.out
    obtain ⟨z0, z1, z2, z3, z4, z5, z6, z7, z8, z9⟩ := cells10 hz9
    clear e9 hz9
    have hx := (HX.out _ E9.out).1
    have hy := (HX.out _ E9.out).2
    obtain ⟨x0, x1, x2, x3, x4, x5, x6, x7, x8, x9⟩ := cells10 hx
    obtain ⟨y0, y1, y2, y3, y4, y5, y6, y7, y8, y9⟩ := cells10 hy
    clear hx hy
    go_wp2_with fail
    refine (flives_any _).mono ?_
    rintro e w10 ⟨rfl, e10⟩
    go_wp2
    go_ret
    exact ⟨rfl, HE0.out.trans (E9.out.trans e10)⟩
end Go.Proofs.Ytabcmhiobfddnaa
