/-
  The statement RpcCuts: its walk.
-/
import Derived.Test.YtdoijbjmhnncdaaDoorRpcI
namespace Go.Proofs.YtdoijbjmhnncdaaDoor
open Go Go.RowKit
set_option linter.unusedVariables false
set_option linter.unusedSimpArgs false
set_option maxRecDepth 20000 in
set_option maxHeartbeats 1000000 in
theorem rcuts_walk (rep : Bool) (xid proc : Int) (s : ByteArray) (cut : Int) (w : World) (h1 : 0 ≤ xid ∧ xid < 4294967296) (h2 : 0 ≤ proc ∧ proc < 4294967296) (h3 : -9223372036854775808 ≤ cut) (h4 : cut ≤ 9223372036854775807) :
    Calls Tryd.prog 5 #[.agg #[.bool rep, .int .u32 xid, .int .u32 proc, .string s], .int .i64 cut] w fun e w' => e = .returned (.bool true) ∧ Ext w w' := by
  have H1 := Lib.hid h1
  have H2 := Lib.hid h2
  have H3 := Lib.hid h3
  have H4 := Lib.hid h4
  clear h1 h2 h3 h4
  go_enter Tryd.func5, Tryd.ntmps5
  go_wp2_with fail
  generalize hw1 : w.alloc (.cells #[.bool rep, .int .u32 xid, .int .u32 proc, .string ⟨#[]⟩] 25) = w1
  have e1 : Ext w w1 := by rw [← hw1]; exact (Ext.refl w).alloc _
  have E1 := Lib.hid e1
  clear hw1 e1
  refine (rbytes_any rep xid proc [] w1 H1.out H2.out (by simp)).mono ?_
  rintro e w2 ⟨A, n, c, rfl, hown, e2⟩
  obtain ⟨A', c', hv, hs⟩ := own_sh hown
  injection hv with q1 q2 q3
  subst q1 q3
  have hn : n = (msgB rep xid proc []).length := by have := hs.len; rw [bs_length] at this; omega
  have hn24 : 16 ≤ n ∧ n ≤ 24 := by
    rw [hn]
    cases rep <;> simp [msgB, numsB, headZ, be4_length]
  have hsl := hs.le
  have hsm := hs.max
  unfold maxLen at hsm
  have E2 := Lib.hid (E1.out.trans e2)
  have HS := Lib.hid hs
  have hb := aroundZ_bound cut n (by omega)
  obtain ⟨k, hk⟩ : ∃ k : Nat, aroundZ cut n = (k : Int) := ⟨(aroundZ cut n).toNat, by omega⟩
  have HA := Lib.hid (around_any cut n w2 H3.out H4.out (by omega) (by omega))
  rw [hk] at HA hb
  have hkn : k < n := by omega
  have HC := Lib.hid (msg_cut rep xid proc k (by omega))
  clear hown e2 hs hn hb hk
  go_wp2_with fail
  refine HA.out.mono ?_
  rintro e w3 ⟨rfl, rfl⟩
  have hst := HS.out.take k (by omega)
  rw [bs_take] at hst
  have HRD := Lib.hid (rread_bad 3 _ A k c _ w2 hst (by omega) HC.out)
  clear hst HA
  go_wp2_with fail
  refine HRD.out.mono ?_
  rintro e w4 ⟨fb, rfl, hf, e4⟩
  have HFB := Lib.hid hf
  have E4 := Lib.hid (E2.out.trans e4)
  clear hf e4 HRD
  go_wp2_with fail
  have e5 : Ext w4 (w4.alloc (.cells #[.bool false, .int .u32 0, .int .u32 0, .slice none 0 0] 32)) := (Ext.refl w4).alloc _
  generalize w4.alloc (.cells #[.bool false, .int .u32 0, .int .u32 0, .slice none 0 0] 32) = w5 at e5 ⊢
  refine (as_any false 0 0 none 0 0 [] w5 (Sees.nil w5)).mono ?_
  rintro e w6 ⟨rfl, e6⟩
  have HF6 := Lib.hid ((e5.trans e6).heap HFB.out)
  have E6 := Lib.hid (E4.out.trans (e5.trans e6))
  clear e5 e6
  have hq : (k : Int).tdiv 4 * 4 = ((k / 4 * 4 : Nat) : Int) := by
    rw [Int.tdiv_eq_ediv_of_nonneg (by omega)]
    omega
  go_wp2_with fail
  refine (number_fault fb _ _ w6 HF6.out).mono ?_
  rintro e w7 ⟨rfl, rfl⟩
  go_wp2_with fail
  refine (place_fault fb _ _ w6 HF6.out).mono ?_
  rintro e w7 ⟨rfl, rfl⟩
  go_wp2_with fail
  refine (lives6 w6).mono ?_
  rintro e w8 ⟨rfl, e8⟩
  go_wp2_with fail
  go_ret
  exact ⟨rfl, E6.out.trans e8⟩
end Go.Proofs.YtdoijbjmhnncdaaDoor
