/-
  The statement MuxSkips: its walk.
-/
import Derived.Test.YtallbmobjhfhpaaMuxD
namespace Go.Proofs.Ytallbmobjhfhpaa
open Go Go.RowKit
set_option linter.unusedVariables false
set_option linter.unusedSimpArgs false
set_option maxRecDepth 20000 in
set_option maxHeartbeats 4000000 in
theorem ms_walk (first many back : Int) (w : World) (hm0 : -9223372036854775808 ≤ many) (hm1 : many ≤ 9223372036854775807) (hb0 : -9223372036854775808 ≤ back) (hb1 : back ≤ 9223372036854775807) (hf0 : 0 ≤ first) (hf1 : first < 4294967296) :
    Calls Try.prog 6 #[.int .u32 first, .int .i64 many, .int .i64 back] w fun e w' => e = .returned (.bool true) ∧ Ext w w' := by
  go_enter Try.func6, Try.ntmps6
  go_wp2_with fail
  refine (mnewI_ok first 7 7 rfl w (by omega) (by omega) hf0 hf1).mono ?_
  rintro e w1 ⟨tb, mb, rfl, hm, ht, hb, e1⟩
  have HM := Lib.hid hm
  have E1 := Lib.hid e1
  clear hm e1
  go_wp2_with fail
  refine (around_any many 6 w1 hm0 hm1 (by omega) (by omega)).mono ?_
  rintro e w2 ⟨rfl, rfl⟩
  have hr := aroundZ_bound many 6 (by omega)
  obtain ⟨r, hrr⟩ : ∃ r, aroundZ many 6 = r := ⟨_, rfl⟩
  rw [hrr] at hr ⊢
  obtain ⟨r0, r1⟩ := hr
  obtain ⟨n, rfl⟩ := Int.eq_ofNat_of_zero_le r0
  clear hrr r0
  go_wp2_with fail
  go_loopw [10] (fun i wr => ∃ j : Nat, j ≤ n ∧ i = .int .i64 (j : Int) ∧ MuxI wr tb mb 7 (nxt first j) (Lq first 1 j) ∧ Ext w wr) (fun i _ => n - (intOf i).toNat)
  case atStart => exact ⟨0, by omega, rfl, by rw [nxt_zero hf0 hf1]; exact HM.out, E1.out⟩
  case round =>
    obtain ⟨j, hj, rfl, hm, ext⟩ := hrel
    have HMr := Lib.hid hm
    have EX := Lib.hid ext
    clear hm ext
    by_cases hlt : j < n
    · go_wp2_with fail
      refine (mcallI_at tb mb 7 (nxt first j) (Lq first 1 j) 1 (by omega) (by omega) (j : Int) 0 (nxt first j) (nxt first (j + 1)) (free_zero (nxt_bound _ _).1 (nxt_bound _ _).2 (Lq_free _ _ _ (by omega))) (by omega) (nxt_zero (nxt_bound _ _).1 (nxt_bound _ _).2) (by rw [nxt_add]) wr HMr.out (by rw [Lq_len _ _ _ (by omega)]; omega)).mono ?_
      rintro e w3 ⟨rfl, hm3, o3⟩
      have HM3 := Lib.hid hm3
      have E3 := Lib.hid (o3.ext EX.out ht hb)
      have hw := wrap_nxt first j
      clear hm3 o3
      go_wp2
      go_roundw
      case rel => exact ⟨j + 1, by omega, by go_num, HM3.out, E3.out⟩
      case measure => simp [intOf]; omega
    · obtain rfl : n = j := by omega
      have hw := wrap_nxt first n
      go_wp2_with fail
      refine (around_any back 6 wr hb0 hb1 (by omega) (by omega)).mono ?_
      rintro e w2 ⟨rfl, rfl⟩
      have hr := aroundZ_bound back 6 (by omega)
      obtain ⟨r, hrr⟩ : ∃ r, aroundZ back 6 = r := ⟨_, rfl⟩
      rw [hrr] at hr ⊢
      obtain ⟨r0, r1'⟩ := hr
      obtain ⟨k, rfl⟩ := Int.eq_ofNat_of_zero_le r0
      clear hrr r0
      obtain ⟨s, hs⟩ : ∃ s, IntKind.u32.wrap (nxt first n - (k : Int)) = s := ⟨_, rfl⟩
      have hsb := wrap_bound (nxt first n - (k : Int))
      rw [hs] at hsb
      obtain ⟨hs0, hs1⟩ := hsb
      have HLE := Lib.hid (fun (q : k ≤ n) i => back_le first n k i q)
      have HGT := Lib.hid (fun (q : n < k) j hj => back_gt first n k j q (by omega) hj)
      rw [hs] at HLE HGT
      go_wp2_with fail
      refine (mseekI_any tb mb 7 (nxt first n) s (Lq first 1 n) hs0 hs1 wr HMr.out).mono ?_
      rintro e w4 ⟨rfl, hm4, o4⟩
      have HM4 := Lib.hid hm4
      have E4 := Lib.hid (o4.ext EX.out ht hb)
      clear hm4 o4
      have hlen := Lq_len first 1 n (by omega)
      have HLEN := Lib.hid hlen
      clear hlen
      by_cases hkn : n < k
      · have hkn' : (n : Int) < (k : Int) := by omega
        have hno := Lq_no first 1 s n (HGT.out hkn)
        have HNO := Lib.hid hno
        clear hno
        go_wp2_with fail
        refine (mcallI_at tb mb 7 s (Lq first 1 n) 2 (by omega) (by omega) 9 0 s (nxt s 1) (free_zero hs0 hs1 HNO.out) (by omega) (nxt_zero hs0 hs1) rfl w4 HM4.out (by rw [HLEN.out]; omega)).mono ?_
        rintro e w5 ⟨rfl, hm5, o5⟩
        have HM5 := Lib.hid hm5
        have E5 := Lib.hid (o5.ext E4.out ht hb)
        clear hm5 o5
        go_wp2_with fail
        refine (mmatchI_ok tb mb 7 _ _ s 2 (.int .i64 9) (lk_put_same _ _ _) hs0 hs1 w5 HM5.out).mono ?_
        rintro e w6 ⟨rfl, hm6, o6⟩
        have HM6 := Lib.hid hm6
        have E6 := Lib.hid (o6.ext E5.out ht hb)
        clear hm6 o6
        go_wp2_with fail
        refine (mlenI_any tb mb 7 _ _ w6 HM6.out).mono ?_
        rintro e w7 ⟨rfl, rfl⟩
        rw [put_del_len (Lq_ris first 1 n) s _ HNO.out, HLEN.out]
        go_wp2_with fail
        refine (mlives_any _).mono ?_
        rintro e w8 ⟨rfl, e8⟩
        go_wp2
        go_ret
        exact ⟨rfl, E6.out.trans e8⟩
      · have hkn' : ¬ (n : Int) < (k : Int) := by omega
        have hfree : FreeAt (Lq first 1 n) s k := ⟨fun i hi => by rw [HLE.out (by omega) i]; exact Lq_has first 1 _ n (by omega) (by omega), by rw [HLE.out (by omega) k, show n - k + k = n by omega]; exact Lq_free first 1 n (by omega)⟩
        have hres : nxt s k = nxt first n := by rw [HLE.out (by omega) k, show n - k + k = n by omega]
        have HFR := Lib.hid hfree
        have HRES := Lib.hid hres
        have hnb := nxt_bound first n
        have hnb0 := hnb.1
        have hnb1 := hnb.2
        clear hfree hres hnb
        go_wp2_with fail
        refine (mcallI_at tb mb 7 s (Lq first 1 n) 2 (by omega) (by omega) 9 k (nxt first n) (nxt s (k + 1)) HFR.out (by omega) HRES.out rfl w4 HM4.out (by rw [HLEN.out]; omega)).mono ?_
        rintro e w5 ⟨rfl, hm5, o5⟩
        have HM5 := Lib.hid hm5
        have E5 := Lib.hid (o5.ext E4.out ht hb)
        clear hm5 o5
        go_wp2_with fail
        refine (mmatchI_ok tb mb 7 _ _ (nxt first n) 2 (.int .i64 9) (lk_put_same _ _ _) hnb0 hnb1 w5 HM5.out).mono ?_
        rintro e w6 ⟨rfl, hm6, o6⟩
        have HM6 := Lib.hid hm6
        have E6 := Lib.hid (o6.ext E5.out ht hb)
        clear hm6 o6
        go_wp2_with fail
        refine (mlenI_any tb mb 7 _ _ w6 HM6.out).mono ?_
        rintro e w7 ⟨rfl, rfl⟩
        rw [put_del_len (Lq_ris first 1 n) (nxt first n) _ (Lq_free first 1 n (by omega)), HLEN.out]
        go_wp2_with fail
        refine (mlives_any _).mono ?_
        rintro e w8 ⟨rfl, e8⟩
        go_wp2
        go_ret
        exact ⟨rfl, E6.out.trans e8⟩
end Go.Proofs.Ytallbmobjhfhpaa
