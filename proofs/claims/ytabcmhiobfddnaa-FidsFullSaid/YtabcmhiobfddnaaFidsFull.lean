/-
  The statement FidsFull: its walk.
-/
import Derived.Test.YtabcmhiobfddnaaFidB
namespace Go.Proofs.Ytabcmhiobfddnaa
open Go Go.RowKit
set_option linter.unusedVariables false
set_option linter.unusedSimpArgs false
set_option maxRecDepth 20000 in
set_option maxHeartbeats 4000000 in
theorem ff_walk (a b c : Int) (w : World) (a0 : -9223372036854775808 ≤ a) (a1 : a ≤ 9223372036854775807) (b0 : -9223372036854775808 ≤ b) (b1 : b ≤ 9223372036854775807) (c0 : -9223372036854775808 ≤ c) (c1 : c ≤ 9223372036854775807) :
    Calls Try.prog 7 #[.int .i64 a, .int .i64 b, .int .i64 c] w fun e w' => e = .returned (.bool true) ∧ Ext w w' := by
  go_enter Try.func7, Try.ntmps7
  go_wp2_with fail
  refine (fnew_ok 2 2 rfl w (by omega) (by omega)).mono ?_
  rintro e w1 ⟨tb, mb, rfl, hm, ht, hb, e1⟩
  have HM := Lib.hid hm
  have E1 := Lib.hid e1
  clear hm e1
  have HSAME : Hid (∀ w1 : World, Ext w w1 → Calls Try.prog 22 #[] w1 fun e w' => e = .returned (.bool true) ∧ Ext w w') := Lib.hid fun w1 e1 => (flives_any w1).mono fun e w' h => ⟨h.1, e1.trans h.2⟩
  by_cases hab : a = b
  · have t1 : (a == b) = true := by simpa using hab
    go_wp2_with fail
    refine (HSAME.out _ E1.out).mono ?_
    rintro e w2 ⟨rfl, e2⟩
    go_wp2
    go_ret
    exact ⟨rfl, e2⟩
  have t1 : (a == b) = false := by simpa using hab
  by_cases hbc : b = c
  · have t2 : (b == c) = true := by simpa using hbc
    go_wp2_with fail
    refine (HSAME.out _ E1.out).mono ?_
    rintro e w2 ⟨rfl, e2⟩
    go_wp2
    go_ret
    exact ⟨rfl, e2⟩
  have t2 : (b == c) = false := by simpa using hbc
  by_cases hac : a = c
  · have t3 : (a == c) = true := by simpa using hac
    go_wp2_with fail
    refine (HSAME.out _ E1.out).mono ?_
    rintro e w2 ⟨rfl, e2⟩
    go_wp2
    go_ret
    exact ⟨rfl, e2⟩
  have t3 : (a == c) = false := by simpa using hac
  have hn1 : hasL [] a = false := rfl
  have hl1 := len_put_new (L := []) (.agg #[.int .i64 0, .int .i64 0, .int .i64 0, .int .i64 0, .string ⟨#[]⟩, .bool false, .bool false, .int .i64 0, .int .i64 0, .int .i64 0]) hn1
  have hn2 : hasL (putL [] a (.agg #[.int .i64 0, .int .i64 0, .int .i64 0, .int .i64 0, .string ⟨#[]⟩, .bool false, .bool false, .int .i64 0, .int .i64 0, .int .i64 0])) b = false := by rw [has_put_other _ _ _ _ (fun e => hab e.symm)]; rfl
  have hl2 := len_put_new (.agg #[.int .i64 0, .int .i64 0, .int .i64 0, .int .i64 0, .string ⟨#[]⟩, .bool false, .bool false, .int .i64 0, .int .i64 0, .int .i64 0]) hn2
  have hn3 : hasL (putL (putL [] a (.agg #[.int .i64 0, .int .i64 0, .int .i64 0, .int .i64 0, .string ⟨#[]⟩, .bool false, .bool false, .int .i64 0, .int .i64 0, .int .i64 0])) b (.agg #[.int .i64 0, .int .i64 0, .int .i64 0, .int .i64 0, .string ⟨#[]⟩, .bool false, .bool false, .int .i64 0, .int .i64 0, .int .i64 0])) c = false := by rw [has_put_other _ _ _ _ (fun e => hbc e.symm), has_put_other _ _ _ _ (fun e => hac e.symm)]; rfl
  have hy4 : hasL (putL (putL [] a (.agg #[.int .i64 0, .int .i64 0, .int .i64 0, .int .i64 0, .string ⟨#[]⟩, .bool false, .bool false, .int .i64 0, .int .i64 0, .int .i64 0])) b (.agg #[.int .i64 0, .int .i64 0, .int .i64 0, .int .i64 0, .string ⟨#[]⟩, .bool false, .bool false, .int .i64 0, .int .i64 0, .int .i64 0])) a = true := by rw [has_put_other _ _ _ _ hab]; exact has_put_same _ _ _
  have hy5 : hasL (putL (putL [] a (.agg #[.int .i64 0, .int .i64 0, .int .i64 0, .int .i64 0, .string ⟨#[]⟩, .bool false, .bool false, .int .i64 0, .int .i64 0, .int .i64 0])) b (.agg #[.int .i64 0, .int .i64 0, .int .i64 0, .int .i64 0, .string ⟨#[]⟩, .bool false, .bool false, .int .i64 0, .int .i64 0, .int .i64 0])) b = true := has_put_same _ _ _
  obtain ⟨L1, hL1⟩ : ∃ L1, putL [] a (.agg #[.int .i64 0, .int .i64 0, .int .i64 0, .int .i64 0, .string ⟨#[]⟩, .bool false, .bool false, .int .i64 0, .int .i64 0, .int .i64 0]) = L1 := ⟨_, rfl⟩
  rw [hL1] at hl1 hn2 hl2 hn3 hy4 hy5
  obtain ⟨L2, hL2⟩ : ∃ L2, putL L1 b (.agg #[.int .i64 0, .int .i64 0, .int .i64 0, .int .i64 0, .string ⟨#[]⟩, .bool false, .bool false, .int .i64 0, .int .i64 0, .int .i64 0]) = L2 := ⟨_, rfl⟩
  rw [hL2] at hl2 hn3 hy4 hy5
  have hn6 : hasL (delL L2 b) c = false := by rw [has_del_other _ _ _ (fun e => hbc e.symm)]; exact hn3
  have hg7 : lkL (putL (delL L2 b) c (.agg #[.int .i64 0, .int .i64 0, .int .i64 0, .int .i64 0, .string ⟨#[]⟩, .bool false, .bool false, .int .i64 0, .int .i64 1, .int .i64 0])) c = some (.agg #[.int .i64 0, .int .i64 0, .int .i64 0, .int .i64 0, .string ⟨#[]⟩, .bool false, .bool false, .int .i64 0, .int .i64 1, .int .i64 0]) := lk_put_same _ _ _
  have HF := Lib.hid (And.intro hl1 (And.intro hn2 (And.intro hl2 (And.intro hn3 (And.intro hy4 (And.intro hy5 (And.intro hn6 hg7)))))))
  have HL1 := Lib.hid hL1
  have HL2 := Lib.hid hL2
  clear hn1 hl1 hn2 hl2 hn3 hy4 hy5 hn6 hg7 hL1 hL2 hab hbc hac
  go_wp2_with fail
  refine (fadd_ok tb mb 2 [] a 0 0 0 0 ⟨#[]⟩ false false 0 0 0 rfl (by simp) a0 a1 w1 HM.out).mono ?_
  rintro e w2 ⟨rfl, hm2, o2⟩
  rw [HL1.out] at hm2
  have HM2 := Lib.hid hm2
  have E2 := Lib.hid (o2.ext E1.out ht hb)
  clear hm2 o2
  go_wp2_with fail
  refine (fadd_ok tb mb 2 L1 b 0 0 0 0 ⟨#[]⟩ false false 0 0 0 HF.out.2.1 (by rw [HF.out.1]; simp) b0 b1 w2 HM2.out).mono ?_
  rintro e w3 ⟨rfl, hm3, o3⟩
  rw [HL2.out] at hm3
  have HM3 := Lib.hid hm3
  have E3 := Lib.hid (o3.ext E2.out ht hb)
  clear hm3 o3
  go_wp2_with fail
  refine (fadd_full tb mb 2 L2 c 0 0 0 0 ⟨#[]⟩ false false 0 0 0 HF.out.2.2.2.1 (by rw [HF.out.2.2.1, HF.out.1]; rfl) c0 c1 w3 HM3.out).mono ?_
  rintro e w4 ⟨rfl, e4⟩
  have HM4 := Lib.hid (HM3.out.ext e4)
  have E4 := Lib.hid (E3.out.trans e4)
  clear e4
  go_wp2_with fail
  refine (fadd_busy tb mb 2 L2 a 0 0 0 0 ⟨#[]⟩ false false 0 0 0 HF.out.2.2.2.2.1 a0 a1 w4 HM4.out).mono ?_
  rintro e w5 ⟨rfl, e5⟩
  have HM5 := Lib.hid (HM4.out.ext e5)
  have E5 := Lib.hid (E4.out.trans e5)
  clear e5
  go_wp2_with fail
  refine (fdrop_ok tb mb 2 L2 b HF.out.2.2.2.2.2.1 b0 b1 w5 HM5.out).mono ?_
  rintro e w6 ⟨rfl, hm6, o6⟩
  have HM6 := Lib.hid hm6
  have E6 := Lib.hid (o6.ext E5.out ht hb)
  have hl6 := len_del_has HM5.out.2.1.2 HF.out.2.2.2.2.2.1
  have HL6 := Lib.hid (show (delL L2 b).length < 2 by have := HF.out.2.2.1; have := HF.out.1; simp at this; omega)
  clear hm6 o6 hl6
  go_wp2_with fail
  refine (fadd_ok tb mb 2 (delL L2 b) c 0 0 0 0 ⟨#[]⟩ false false 0 1 0 HF.out.2.2.2.2.2.2.1 HL6.out c0 c1 w6 HM6.out).mono ?_
  rintro e w7 ⟨rfl, hm7, o7⟩
  have HM7 := Lib.hid hm7
  have E7 := Lib.hid (o7.ext E6.out ht hb)
  clear hm7 o7
  go_wp2_with fail
  refine (fget_ok tb mb 2 _ c 0 0 0 0 ⟨#[]⟩ false false 0 1 0 HF.out.2.2.2.2.2.2.2 c0 c1 w7 HM7.out).mono ?_
  rintro e w8 ⟨rfl, e8⟩
  have E8 := Lib.hid (E7.out.trans e8)
  clear e8
  go_wp2_with fail
  refine (HSAME.out _ (E8.out.alloc _)).mono ?_
  rintro e w9 ⟨rfl, e9⟩
  go_wp2
  go_ret
  exact ⟨rfl, e9⟩
end Go.Proofs.Ytabcmhiobfddnaa
