/-
  The statement PipeFull: its walk.
-/
import Derived.Test.YtjdcbmelladceaaPipH
import Derived.Test.YtjdcbmelladceaaCopy
namespace Go.Proofs.Ytjdcbmelladceaa
open Go Go.RowKit
set_option linter.unusedVariables false
set_option linter.unusedSimpArgs false
def TT (m : Nat) : List (List UInt8) := (List.range m).map fun j => zeros (1 + j % 3)
theorem TT_succ (m : Nat) : TT (m + 1) = TT m ++ [zeros (1 + m % 3)] := by
  unfold TT
  rw [List.range_succ, List.map_append]
  rfl
theorem TT_len (m : Nat) : (TT m).length = m := by simp [TT]
theorem TT_flat : ∀ m, m ≤ (TT m).flatten.length ∧ (TT m).flatten.length ≤ 3 * m
  | 0 => by simp [TT]
  | m + 1 => by
    have := TT_flat m
    rw [TT_succ, flat_snoc, zeros_length]
    omega
theorem TT_cons (m : Nat) : TT (m + 1) = zeros 1 :: (List.range m).map (fun j => zeros (1 + (j + 1) % 3)) := by
  unfold TT
  rw [List.range_succ_eq_map, List.map_cons, List.map_map]
  rfl
theorem TT_cut (m s : Nat) (hs : 1 ≤ s) : (cutT s (TT (m + 1))).length ≤ m := by
  rw [TT_cons]
  unfold cutT
  rw [zeros_length, if_neg (by omega)]
  have := cutT_len ((List.range m).map (fun j => zeros (1 + (j + 1) % 3))) (s - 1)
  simpa using this
theorem TT_step (i : Nat) (h : i < 64) : TT (min (i + 1) 64) = TT (min i 64) ++ [zeros (1 + i % 3)] := by
  rw [Nat.min_eq_left (by omega), Nat.min_eq_left (by omega), TT_succ]
theorem szF_one (s : Nat) : szF [(s : Int)] 0 = s := by simp [szF]
set_option maxRecDepth 20000 in
set_option maxHeartbeats 4000000 in
theorem pfull_walk (n size : Int) (w : World) (hn0 : -9223372036854775808 ≤ n) (hn1 : n ≤ 9223372036854775807) (hs0 : -9223372036854775808 ≤ size) (hs1 : size ≤ 9223372036854775807) :
    Calls Try.prog 6 #[.int .i64 n, .int .i64 size] w fun e w' => e = .returned (.bool true) ∧ Ext w w' := by
  obtain ⟨r, hr⟩ : ∃ r, aroundZ size 4 = r := ⟨_, rfl⟩
  have hrb := aroundZ_bound size 4 (by omega)
  rw [hr] at hrb
  obtain ⟨s, hs⟩ := Int.eq_ofNat_of_zero_le (show 0 ≤ 1 + r by omega)
  have HA : ∀ w, Hid (Calls Try.prog 22 #[.int .i64 size, .int .i64 4] w fun e w' => e = .returned (.int .i64 r) ∧ w = w') := fun w => Lib.hid (by rw [← hr]; exact around_any size 4 w hs0 hs1 (by omega) (by omega))
  have HS := Lib.hid hs
  have hsb : 1 ≤ s ∧ s ≤ 4 := by omega
  obtain ⟨hsb0, hsb1⟩ := hsb
  obtain ⟨hr0, hr1⟩ := hrb
  clear hr
  go_enter Try.func6, Try.ntmps6
  go_wp2_with fail
  refine (HA w).out.mono ?_
  rintro e w0 ⟨rfl, rfl⟩
  have HN := Lib.hid (pnew_ok (some ⟨w.heap.size, 0, none⟩) 1 1 [(s : Int)] (w.alloc (.cells #[.int .i64 (s : Int)] 3)) (by simpa using sees_new w 3 #[.int .i64 (s : Int)] (by simp [maxLen])) (by simp) (by simp [okB, smB]; omega) (by intro x hx; simp at hx; omega) (by simp))
  go_wp2_with fail
  refine HN.out.mono ?_
  rintro e w1 ⟨tb, cb, rfl, hp, e1⟩
  have hsz0 := e1.size
  simp at hsz0
  have HT : Hid (w.heap.size ≤ tb ∧ w.heap.size ≤ cb) := Lib.hid (by have := hp.1.inF; simp at this; omega)
  have E1 := Lib.hid (((Ext.refl w).alloc _).trans e1)
  have HP1 : Hid (∃ F : Nat → Prop, Pip w1 F tb cb [] [(s : Int)] 0 ∧ (∀ k, F k → w.heap.size ≤ k ∧ k < w1.heap.size)) := Lib.hid ⟨_, hp, fun k q => by simp at q; omega⟩
  clear hp e1 hsz0 HN hs
  go_wp2_with fail
  refine (around_any n 11 w1 hn0 hn1 (by omega) (by omega)).mono ?_
  rintro e w2 ⟨rfl, rfl⟩
  have hnb := aroundZ_bound n 11 (by omega)
  obtain ⟨r2, hr2⟩ : ∃ r2, aroundZ n 11 = r2 := ⟨_, rfl⟩
  rw [hr2] at hnb ⊢
  obtain ⟨k, hk⟩ := Int.eq_ofNat_of_zero_le (show 0 ≤ 60 + r2 by omega)
  have hkb : 60 ≤ k ∧ k ≤ 70 := by omega
  obtain ⟨hkb0, hkb1⟩ := hkb
  clear hr2 hnb
  go_wp2_with fail
  clear hk
  go_loopw [8] (fun iv wr => ∃ (i : Nat) (F : Nat → Prop), i ≤ k ∧ iv = .int .i64 (i : Int) ∧ Pip wr F tb cb (TT (min i 64)) [(s : Int)] 0 ∧ (∀ j, F j → w.heap.size ≤ j ∧ j < wr.heap.size) ∧ Ext w wr) (fun iv _ => k - (intOf iv).toNat)
  case atStart =>
    obtain ⟨F, h1, h2⟩ := HP1.out
    exact ⟨0, F, by omega, rfl, by simpa [TT] using h1, h2, E1.out⟩
  case round =>
    obtain ⟨i, F, hik, rfl, hp, hF, ext⟩ := hrel
    have HP := Lib.hid hp
    have HF := Lib.hid hF
    have EX := Lib.hid ext
    clear hp hF ext HP1 E1
    by_cases hlt : i < k
    · obtain ⟨m, hm⟩ : ∃ m, 1 + i % 3 = m := ⟨_, rfl⟩
      have hm1 : (1 : Int) + (i : Int) % 3 = (m : Int) := by omega
      have hmb : 1 ≤ m ∧ m ≤ 3 := by omega
      obtain ⟨hmb0, hmb1⟩ := hmb
      have hmk := make_bytes m m (Nat.le_refl _) (by omega) wr
      have HM := Lib.hid hm
      clear hm
      obtain ⟨A0, c0, hv0, hs0'⟩ := Sees.of_own (own_made wr 0 m m (Nat.zero_le _) (Nat.le_refl _) (by omega))
      injection hv0 with q1 _ q2
      subst q1 q2
      have ea : Ext wr (wr.alloc (.cells (madeCells #[.int .u8 0] m) 5)) := (Ext.refl wr).alloc _
      obtain ⟨wa, hwa⟩ : ∃ wa, wr.alloc (.cells (madeCells #[.int .u8 0] m) 5) = wa := ⟨_, rfl⟩
      rw [hwa] at hmk hs0' ea
      have HS0 := Lib.hid hs0'
      have EA := Lib.hid ea
      have hsza := ea.size
      clear hwa hs0' ea
      by_cases h64 : i < 64
      · have hlen := TT_len (min i 64)
        have hfl := TT_flat (min i 64)
        have HSEND := Lib.hid (psend_ok F tb cb (TT (min i 64)) [(s : Int)] 0 _ m m (zeros m) wa (HP.out.keep (Kp.of_ext EA.out)) (fun j q => by have := HF.out j q; omega) HS0.out (by
          intro e
          have := congrArg List.length e
          rw [zeros_length] at this
          simp at this
          omega) (by omega) (by omega) (by rw [zeros_length]; omega))
        clear hlen hfl
        have hi64 : ((i : Int) < 64) := by omega
        go_wp2_with fail
        refine HSEND.out.mono ?_
        rintro e w3 ⟨rfl, hp3, hk3⟩
        have hsz3 := hk3.size
        have E3 := Lib.hid (ext_two (EX.out.trans EA.out) hk3 HT.out.1 HT.out.2)
        have HP3 : Hid (Pip w3 (Fresh F wa w3) tb cb (TT (min (i + 1) 64)) [(s : Int)] 0) := Lib.hid (by rw [TT_step i h64, HM.out]; exact hp3)
        have HF3 : Hid (∀ j, Fresh F wa w3 j → w.heap.size ≤ j ∧ j < w3.heap.size) := Lib.hid (fun j q => by
          have := EX.out.size
          rcases q with q | q
          · have := HF.out j q; omega
          · omega)
        clear hp3 hk3 hmk HSEND
        go_wp2_with fail
        refine (psend_nil _ _ _ _).mono ?_
        rintro e w4 ⟨rfl, rfl⟩
        go_wp2_with fail
        go_roundw
        case rel => exact ⟨i + 1, _, by omega, by go_num, HP3.out, HF3.out, E3.out⟩
        case measure => simp [intOf]; omega
      · have hm64 : min i 64 = 64 := by omega
        have hlen := TT_len (min i 64)
        have hfl := TT_flat (min i 64)
        have HSEND := Lib.hid (psend_full F tb cb (TT (min i 64)) [(s : Int)] 0 _ m m (zeros m) wa (HP.out.keep (Kp.of_ext EA.out)) HS0.out (by
          intro e
          have := congrArg List.length e
          rw [zeros_length] at this
          simp at this
          omega) (by omega) (by omega) (by rw [zeros_length]; omega))
        clear hlen hfl hm64
        have hi64 : ¬ ((i : Int) < 64) := by omega
        go_wp2_with fail
        refine HSEND.out.mono ?_
        rintro e w3 ⟨rfl, hp3, e3⟩
        have hsz3 := e3.size
        have E3 := Lib.hid ((EX.out.trans EA.out).trans e3)
        have HP3 : Hid (Pip w3 F tb cb (TT (min (i + 1) 64)) [(s : Int)] 0) := Lib.hid (by rw [show min (i + 1) 64 = min i 64 by omega]; exact hp3)
        have HF3 : Hid (∀ j, F j → w.heap.size ≤ j ∧ j < w3.heap.size) := Lib.hid (fun j q => by have := HF.out j q; omega)
        clear hp3 e3 hmk HSEND
        go_wp2_with fail
        refine (psend_nil _ _ _ _).mono ?_
        rintro e w4 ⟨rfl, rfl⟩
        go_wp2_with fail
        go_roundw
        case rel => exact ⟨i + 1, _, by omega, by go_num, HP3.out, HF3.out, E3.out⟩
        case measure => simp [intOf]; omega
    · obtain rfl : i = k := by omega
      obtain ⟨M, hM⟩ : ∃ M, min i 64 = M + 1 := ⟨min i 64 - 1, by omega⟩
      have hlen := TT_len (min i 64)
      have hfl := TT_flat (min i 64)
      have HMM := Lib.hid hM
      have hmi : (if (64 : Int) < (i : Int) then (64 : Int) else (i : Int)) = ((min i 64 : Nat) : Int) := by split <;> omega
      have HPN := Lib.hid (pnext_some F tb cb (TT (min i 64)) [(s : Int)] 0 s wr HP.out (fun j q => (HF.out j q).2) (by omega) (by omega) (by rw [szF_one]; omega))
      have HTX := Lib.hid (ptexts_any F tb cb (TT (min i 64)) [(s : Int)] 0 wr HP.out)
      rw [hlen] at HTX
      obtain ⟨mi, hmi2⟩ : ∃ mi, min i 64 = mi := ⟨_, rfl⟩
      rw [hmi2] at HTX hmi
      clear hlen hfl hM
      go_wp2_with fail
      refine HTX.out.mono ?_
      rintro e w3 ⟨rfl, rfl⟩
      go_wp2_with fail
      refine HPN.out.mono ?_
      rintro e w4 ⟨Ap, cp, rfl, hown, hp4, hk4⟩
      have hsz4 := hk4.size
      have E4 := Lib.hid (ext_two EX.out hk4 HT.out.1 HT.out.2)
      have HP4 := Lib.hid hp4
      have HF4 : Hid (∀ j, F j → j < w4.heap.size) := Lib.hid (fun j q => by have := HF.out j q; omega)
      have hcl := TT_cut M s hsb0
      rw [← HMM.out] at hcl
      clear hown hp4 hk4 HPN HTX
      go_wp2_with fail
      refine (HA w4).out.mono ?_
      rintro e w5 ⟨rfl, rfl⟩
      have hs := HS.out
      obtain ⟨q, hq⟩ : ∃ q, (cutT s (TT (min i 64))).length = q := ⟨_, rfl⟩
      have HTX := Lib.hid (ptexts_any F tb cb _ [(s : Int)] _ w4 HP4.out)
      have HMQ : Hid ((q : Int) < (mi : Int)) := Lib.hid (by have := HMM.out; rw [hmi2] at this; omega)
      rw [hq] at HTX
      go_wp2_with fail
      refine HTX.out.mono ?_
      rintro e w5 ⟨rfl, rfl⟩
      have hmq := HMQ.out
      have ea : Ext w4 (w4.alloc (.cells #[.int .u8 1] 5)) := (Ext.refl w4).alloc _
      have hfl : (cutT s (TT (min i 64))).flatten.length ≤ 3 * 64 := by
        rw [cutT_flat, List.length_drop]
        have := (TT_flat (min i 64)).2
        omega
      have HSD := Lib.hid (psend_ok F tb cb _ [(s : Int)] _ _ 1 1 [1] _ (HP4.out.keep (Kp.of_ext ea)) (fun j q => by have := HF4.out j q; simp; omega) (sees_new w4 5 #[.int .u8 1] (by simp [maxLen])) (by simp) (by rw [hq]; omega) (by omega) (by simp))
      have E5 := Lib.hid (E4.out.trans ea)
      clear ea hfl hq HTX
      go_wp2_with fail
      refine HSD.out.mono ?_
      rintro e w6 ⟨rfl, hp6, hk6⟩
      have E6 := Lib.hid (ext_two E5.out hk6 HT.out.1 HT.out.2)
      clear hp6 hk6 HSD
      go_wp2_with fail
      refine (lives5 w6).mono ?_
      rintro e w7 ⟨rfl, e7⟩
      go_wp2
      go_ret
      exact ⟨rfl, E6.out.trans e7⟩
end Go.Proofs.Ytjdcbmelladceaa
