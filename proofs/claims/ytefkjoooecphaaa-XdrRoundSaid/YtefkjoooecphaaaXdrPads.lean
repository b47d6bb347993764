/-
  The statement XdrPads: its walk.
-/
import Derived.Test.YtefkjoooecphaaaXdrS
import Derived.Test.YtefkjoooecphaaaXdrC
namespace Go.Proofs.Ytefkjoooecphaaa
open Go Go.RowKit
set_option linter.unusedVariables false
set_option linter.unusedSimpArgs false

theorem num4_be4 (x : Int) (t : List UInt8) (h0 : 0 ≤ x) (h1 : x < 4294967296) : num4 (be4 x ++ t) = x := by
  have e := fun k h0 h1 => u8_of k h0 h1
  simp only [num4, be4, List.cons_append, List.getD_cons_zero, List.getD_cons_succ]
  rw [e _ (by omega) (by omega), e _ (by omega) (by omega), e _ (by omega) (by omega), e _ (by omega) (by omega)]
  omega
theorem bs_set (l : List UInt8) (k : Nat) (u : UInt8) : (bs l).set k (.int .u8 (u.toNat : Int)) = bs (l.set k u) := by
  simp [bs, List.map_set]

/-- The bytes of a text in which the byte behind it is turned. -/
theorem odd_text (s : List UInt8) (R : Nat) (u : UInt8) (hN : s.length < 4294967296) (hR : R < pad s.length) (hu : u ≠ 0) :
    4 ≤ ((txt s).set (4 + s.length + R) u).length ∧ num4 ((txt s).set (4 + s.length + R) u) = (s.length : Int) ∧ s.length + pad s.length ≤ ((txt s).set (4 + s.length + R) u).length - 4 ∧
    (∀ k, k < R → (((txt s).set (4 + s.length + R) u).drop 4).getD (s.length + k) 0 = 0) ∧ (((txt s).set (4 + s.length + R) u).drop 4).getD (s.length + R) 0 ≠ 0 := by
  have hl : (txt s).length = 4 + s.length + pad s.length := by unfold txt; simp only [List.length_append, be4_length, zeros_length]
  have e : (txt s).set (4 + s.length + R) u = be4 s.length ++ (s ++ zeros (pad s.length)).set (s.length + R) u := by
    unfold txt
    rw [List.append_assoc, List.set_append_right _ _ (by rw [be4_length]; omega), be4_length]
    congr 2
    omega
  have ed : ((txt s).set (4 + s.length + R) u).drop 4 = (s ++ zeros (pad s.length)).set (s.length + R) u := by
    rw [e]
    rfl
  refine ⟨by rw [List.length_set]; omega, by rw [e]; exact num4_be4 _ _ (by omega) (by omega), by rw [List.length_set]; omega, fun k hk => ?_, ?_⟩
  · rw [ed, List.getD_eq_getElem?_getD, List.getElem?_set_ne (by omega), List.getElem?_append_right (by omega)]
    simp [zeros, List.getElem?_replicate]
    rw [if_pos (by omega)]
    rfl
  · rw [ed, List.getD_eq_getElem?_getD, List.getElem?_set_self (by simp [zeros]; omega)]
    exact hu

theorem cut_text (s : List UInt8) (J : Nat) (hN : s.length < 4294967296) (hJ : J < 4 + s.length + pad s.length) (h4 : 4 ≤ J) :
    4 ≤ ((txt s).take J).length ∧ num4 ((txt s).take J) = (s.length : Int) ∧ ((txt s).take J).length - 4 < s.length + pad s.length := by
  have hl : (txt s).length = 4 + s.length + pad s.length := by unfold txt; simp only [List.length_append, be4_length, zeros_length]
  have e : (txt s).take J = be4 s.length ++ (s ++ zeros (pad s.length)).take (J - 4) := by
    unfold txt
    rw [List.append_assoc, List.take_append, be4_length, List.take_of_length_le (by rw [be4_length]; omega)]
  exact ⟨by rw [List.length_take]; omega, by rw [e]; exact num4_be4 _ _ (by omega) (by omega), by rw [List.length_take]; omega⟩

def PadsEnd (w : World) : Ending → World → Prop := fun e w' => e = .returned (.bool true) ∧ Ext w w'

set_option maxHeartbeats 1000000 in
theorem pads_a (A : Option Addr) (n c : Nat) (l : List UInt8) (at_ cc cut : Int) (w : World) (hs : Sees w A n c (bs l)) (ha0 : -9223372036854775808 ≤ at_) (ha1 : at_ ≤ 9223372036854775807)
    (hu0 : -9223372036854775808 ≤ cut) (hu1 : cut ≤ 9223372036854775807) (hc0 : 0 < cc) (hc1 : cc ≤ 255) (hn4 : ¬ (min n 29) % 4 = 0) :
    Calls Try.prog 6 #[.slice A n c, .int .i64 at_, .int .u8 cc, .int .i64 cut] w (PadsEnd w) := by
  obtain ⟨i0, hi, hz0, hz1, hz2⟩ := info_parts infoB
  have hlen := hs.len
  rw [bs_length] at hlen
  have hn4' : (((min n 29 : Nat) : Int) % 4 == 0) = false := by simp; omega
  have hcz : (cc == 0) = false := by simp; omega
  go_enter Try.func6, Try.ntmps6
  go_wp2_with fail
  refine (few_nat A n c _ 29 _ _ hs (bs_one _) (by omega) (by omega) rfl).mono ?_
  rintro e w1 ⟨v1, rfl, own1, e1⟩
  rw [bs_take] at own1
  have hls : (l.take 29).length = min n 29 := by rw [List.length_take]; omega
  generalize l.take 29 = s at *
  generalize hN : min n 29 = N at *
  have hN29 : N ≤ 29 := by omega
  have HLS := Lib.hid hls
  have hN4 : ¬ N % 4 = 0 := hn4
  clear hls hlen hN hn4
  obtain ⟨A1, c1, rfl, see1⟩ := Sees.of_own own1
  clear own1
  have hp1 : 1 ≤ pad N := by unfold pad; omega
  have hp3 := pad_le N
  have hb : (txt s).length = 4 + N + pad N := by unfold txt; simp only [List.length_append, be4_length, zeros_length]; rw [HLS.out]
  have HB := Lib.hid hb
  clear hb
  go_wp2_with fail
  refine (ref_text A1 N c1 s _ see1 (by omega)).mono ?_
  rintro e w2 ⟨v2, rfl, own2, e2⟩
  rw [HB.out] at own2
  obtain ⟨Ab, cb, rfl, seeb⟩ := Sees.of_own own2
  have e02 := e1.trans e2
  clear own2 e1 e2 see1
  go_wp2_with fail
  refine (around_any at_ _ _ ha0 ha1 (by omega) (by omega)).mono ?_
  rintro e w3 ⟨rfl, rfl⟩
  have hr := aroundZ_bound at_ (pad N : Int) (by omega)
  have hmost : (4 + (N : Int) + (pad N : Int) - 4 - (N : Int)) = (pad N : Int) := by omega
  simp only [hmost]
  generalize aroundZ at_ (pad N : Int) = r at *
  obtain ⟨R, rfl⟩ := Int.eq_ofNat_of_zero_le hr.1
  have hR : R < pad N := by omega
  clear hmost hr
  go_wp2_with fail
  refine (few_nat Ab _ cb _ 60 _ _ seeb (bs_one _) (by omega) (by omega) rfl).mono ?_
  rintro e w3 ⟨v3, rfl, own3, e3⟩
  rw [Nat.min_eq_left (by omega), List.take_of_length_le (by rw [bs_length, HB.out]; omega)] at own3
  obtain ⟨go, co, rfl, hbo, hlo⟩ := own3.form (by omega)
  have hcell := own3.cellAt (4 + N + R) (by omega)
  have hsome : ∃ u, w3.cell? ⟨go, 4 + N + R, none⟩ = some u := by
    rw [hcell]
    exact ⟨_, List.getElem?_eq_getElem (by rw [bs_length, HB.out]; omega)⟩
  obtain ⟨u, hu⟩ := hsome
  have hfr := own3.frozenAt (4 + N + R)
  have hst := own3.stored (4 + N + R) (.int .u8 cc)
  have hcu : ((UInt8.ofNat (cc : Int).toNat).toNat : Int) = cc := u8_of _ (by omega) (by omega)
  have hcne : UInt8.ofNat (cc : Int).toNat ≠ 0 := fun h => by rw [h] at hcu; first | (simp at hcu; done) | (simp at hcu; omega)
  have own4 := hst.1
  rw [← hcu, bs_set, hcu] at own4
  have o4 : Onl go w3 (w3.setCell ⟨go, 4 + N + R, none⟩ (.int .u8 cc)) := hst.2
  have e24 : Ext w2 (w3.setCell ⟨go, 4 + N + R, none⟩ (.int .u8 cc)) := e3.onl o4 hbo
  have seeb4 := seeb.ext e24
  have e04 := e02.trans e24
  have hcO := own4.2
  obtain ⟨Ao, co', hAo, seeo⟩ := Sees.of_own own4
  obtain ⟨hA1, hA2, hA3⟩ : Ao = some ⟨go, 0, none⟩ ∧ True ∧ co' = co := by
    injection hAo with q1 q2 q3
    exact ⟨q1.symm, trivial, q3.symm⟩
  subst hA1 hA3
  have hodd := odd_text s R (UInt8.ofNat (cc : Int).toNat) (by rw [HLS.out]; omega) (by rw [HLS.out]; exact hR) hcne
  have hoddL : ((txt s).set (4 + s.length + R) (UInt8.ofNat (cc : Int).toNat)).length = 4 + N + pad N := by rw [List.length_set]; exact HB.out
  rw [HLS.out] at hodd hoddL
  clear hAo hcO own4 hst hcell hcu own3 e3 o4 e24 seeb e02
  generalize (txt s).set (4 + N + R) (UInt8.ofNat (cc : Int).toNat) = lo at *
  have HO := Lib.hid hodd
  have HOL := Lib.hid hoddL
  clear hodd hoddL hcne
  go_wp2_with fail
  refine (read_any _ _ _ lo _ seeo (by omega)).mono ?_
  rintro e w5 ⟨g, v5, rfl, hg, hbg, owng, e5⟩
  have rg := Rdr.of_read hbg owng
  have seeb5 := seeb4.ext e5
  have hgw : w.heap.size ≤ g := Nat.le_trans e04.size hg
  have e05 := e04.trans e5
  clear hbg owng seeb4 hu hfr seeo e04 e5 hbo hlo hg
  go_wp2_with fail
  refine (around_any cut _ _ hu0 hu1 (by omega) (by omega)).mono ?_
  rintro e w6 ⟨rfl, rfl⟩
  have hj := aroundZ_bound cut ((4 + N + pad N : Nat) : Int) (by omega)
  have hj' : aroundZ cut (4 + (N : Int) + (pad N : Int)) = aroundZ cut ((4 + N + pad N : Nat) : Int) := by congr 1
  rw [hj']
  generalize aroundZ cut ((4 + N + pad N : Nat) : Int) = j at *
  obtain ⟨J, rfl⟩ := Int.eq_ofNat_of_zero_le hj.1
  have hJ : J < 4 + N + pad N := by omega
  clear hj hj'
  have hcb := seeb5.le
  have hmb := seeb5.max
  unfold maxLen at hmb
  have seeJ := seeb5.take J (by omega)
  rw [bs_take] at seeJ
  go_wp2_with fail
  refine (read_any _ _ _ _ _ seeJ (by omega)).mono ?_
  rintro e w6 ⟨h, v6, rfl, hh, hbh, ownh, e6⟩
  have rh := Rdr.of_read hbh ownh
  have rg6 := rg.ext e6
  have hne : h ≠ g := by have := rg.lt; omega
  have hhw : w.heap.size ≤ h := Nat.le_trans e05.size hh
  have e06 := e05.trans e6
  clear hbh ownh seeJ rg e05 e6 seeb5 hcb hmb
  have hcut : J < 4 ∨ 4 ≤ J := by omega
  go_wp2_with fail
  refine (text_bad g 0 60 lo N R _ rg6 HO.out.1 HO.out.2.1 (by omega) HO.out.2.2.1 (by rw [HOL.out]; omega) hR HO.out.2.2.2.1 HO.out.2.2.2.2).mono ?_
  rintro e w7 ⟨A7, c7, rfl, see7, rg7, o7⟩
  have rh7 := rg6.onl rh o7 hne
  have e07 := e06.onl o7 hgw
  have hf7 : ferr 0 2 = 2 := rfl
  rw [hf7] at rg7
  clear hf7 rg6 rh o7 e06 see7
  have hq : Calls Try.prog 33 #[.pointer (some ⟨h, 0, none⟩), .int .i64 60] w7 fun x w' => ∃ A c, x = .returned (.slice A 0 c) ∧ Sees w' A 0 c (bs []) ∧ Rdr w' h (ferr 0 3) [] ∧ Onl h w7 w' := by
    rcases hcut with hJ4 | hJ4
    · exact text_few h 0 60 _ _ rh7 (by rw [List.length_take]; omega)
    · have := cut_text s J (by rw [HLS.out]; omega) (by rw [HLS.out]; exact hJ) hJ4
      rw [HLS.out] at this
      exact text_short h 0 60 _ N _ rh7 this.1 this.2.1 (by omega) this.2.2
  have HQ := Lib.hid hq
  clear hq hcut
  go_wp2_with fail
  refine (Calls.mono HQ.out ?_)
  rintro e w8 ⟨A8, c8, rfl, see8, rh8, o8⟩
  have rg8 := rh7.onl rg7 o8 (Ne.symm hne)
  have e08 := e07.onl o8 hhw
  have hf8 : ferr 0 3 = 3 := rfl
  rw [hf8] at rh8
  clear hf8 rg7 rh7 o8 e07 HQ see8
  go_wp2_with fail
  refine (errno_any g 2 [] _ rg8).mono ?_
  rintro e w9 ⟨rfl, rfl⟩
  go_wp2_with fail
  refine (u32_few g 2 [] _ rg8 (by simp)).mono ?_
  rintro e w9 ⟨rfl, rg9, o9⟩
  have rh9 := rg8.onl rh8 o9 hne
  have e09 := e08.onl o9 hgw
  have hf9 : ferr 2 3 = 2 := rfl
  rw [hf9] at rg9
  clear hf9 rg8 rh8 o9 e08
  go_wp2_with fail
  refine (errno_any g 2 [] _ rg9).mono ?_
  rintro e w10 ⟨rfl, rfl⟩
  go_wp2_with fail
  refine (errno_any h 3 [] _ rh9).mono ?_
  rintro e w10 ⟨rfl, rfl⟩
  go_wp2_with fail
  refine (left_any h 3 [] _ rh9).mono ?_
  rintro e w10 ⟨rfl, rfl⟩
  go_wp2_with fail
  refine (lives_any _).mono ?_
  rintro e w10 ⟨rfl, e10⟩
  go_wp2
  go_ret
  exact ⟨rfl, e09.trans e10⟩

set_option maxHeartbeats 1000000 in
theorem pads_b (A : Option Addr) (n c : Nat) (l : List UInt8) (at_ cut : Int) (w : World) (hs : Sees w A n c (bs l)) (ha0 : -9223372036854775808 ≤ at_) (ha1 : at_ ≤ 9223372036854775807)
    (hu0 : -9223372036854775808 ≤ cut) (hu1 : cut ≤ 9223372036854775807) (hn4 : ¬ (min n 29) % 4 = 0) :
    Calls Try.prog 6 #[.slice A n c, .int .i64 at_, .int .u8 0, .int .i64 cut] w (PadsEnd w) := by
  obtain ⟨i0, hi, hz0, hz1, hz2⟩ := info_parts infoB
  have hlen := hs.len
  rw [bs_length] at hlen
  have hn4' : (((min n 29 : Nat) : Int) % 4 == 0) = false := by simp; omega
  go_enter Try.func6, Try.ntmps6
  go_wp2_with fail
  refine (few_nat A n c _ 29 _ _ hs (bs_one _) (by omega) (by omega) rfl).mono ?_
  rintro e w1 ⟨v1, rfl, own1, e1⟩
  rw [bs_take] at own1
  have hls : (l.take 29).length = min n 29 := by rw [List.length_take]; omega
  generalize l.take 29 = s at *
  generalize hN : min n 29 = N at *
  have hN29 : N ≤ 29 := by omega
  have HLS := Lib.hid hls
  have hN4 : ¬ N % 4 = 0 := hn4
  clear hls hlen hN hn4
  obtain ⟨A1, c1, rfl, see1⟩ := Sees.of_own own1
  clear own1
  have hp1 : 1 ≤ pad N := by unfold pad; omega
  have hp3 := pad_le N
  have hb : (txt s).length = 4 + N + pad N := by unfold txt; simp only [List.length_append, be4_length, zeros_length]; rw [HLS.out]
  have HB := Lib.hid hb
  clear hb
  go_wp2_with fail
  refine (ref_text A1 N c1 s _ see1 (by omega)).mono ?_
  rintro e w2 ⟨v2, rfl, own2, e2⟩
  rw [HB.out] at own2
  obtain ⟨Ab, cb, rfl, seeb⟩ := Sees.of_own own2
  have e02 := e1.trans e2
  clear own2 e1 e2 see1
  go_wp2_with fail
  refine (around_any at_ _ _ ha0 ha1 (by omega) (by omega)).mono ?_
  rintro e w3 ⟨rfl, rfl⟩
  have hr := aroundZ_bound at_ (pad N : Int) (by omega)
  have hmost : (4 + (N : Int) + (pad N : Int) - 4 - (N : Int)) = (pad N : Int) := by omega
  simp only [hmost]
  generalize aroundZ at_ (pad N : Int) = r at *
  obtain ⟨R, rfl⟩ := Int.eq_ofNat_of_zero_le hr.1
  have hR : R < pad N := by omega
  clear hmost hr
  go_wp2_with fail
  refine (few_nat Ab _ cb _ 60 _ _ seeb (bs_one _) (by omega) (by omega) rfl).mono ?_
  rintro e w3 ⟨v3, rfl, own3, e3⟩
  rw [Nat.min_eq_left (by omega), List.take_of_length_le (by rw [bs_length, HB.out]; omega)] at own3
  obtain ⟨go, co, rfl, hbo, hlo⟩ := own3.form (by omega)
  have hcell := own3.cellAt (4 + N + R) (by omega)
  have hsome : ∃ u, w3.cell? ⟨go, 4 + N + R, none⟩ = some u := by
    rw [hcell]
    exact ⟨_, List.getElem?_eq_getElem (by rw [bs_length, HB.out]; omega)⟩
  obtain ⟨u, hu⟩ := hsome
  have hfr := own3.frozenAt (4 + N + R)
  have hst := own3.stored (4 + N + R) (.int .u8 1)
  have hcu : ((UInt8.ofNat (1 : Int).toNat).toNat : Int) = 1 := u8_of _ (by omega) (by omega)
  have hcne : UInt8.ofNat (1 : Int).toNat ≠ 0 := fun h => by rw [h] at hcu; first | (simp at hcu; done) | (simp at hcu; omega)
  have own4 := hst.1
  rw [← hcu, bs_set, hcu] at own4
  have o4 : Onl go w3 (w3.setCell ⟨go, 4 + N + R, none⟩ (.int .u8 1)) := hst.2
  have e24 : Ext w2 (w3.setCell ⟨go, 4 + N + R, none⟩ (.int .u8 1)) := e3.onl o4 hbo
  have seeb4 := seeb.ext e24
  have e04 := e02.trans e24
  have hcO := own4.2
  obtain ⟨Ao, co', hAo, seeo⟩ := Sees.of_own own4
  obtain ⟨hA1, hA2, hA3⟩ : Ao = some ⟨go, 0, none⟩ ∧ True ∧ co' = co := by
    injection hAo with q1 q2 q3
    exact ⟨q1.symm, trivial, q3.symm⟩
  subst hA1 hA3
  have hodd := odd_text s R (UInt8.ofNat (1 : Int).toNat) (by rw [HLS.out]; omega) (by rw [HLS.out]; exact hR) hcne
  have hoddL : ((txt s).set (4 + s.length + R) (UInt8.ofNat (1 : Int).toNat)).length = 4 + N + pad N := by rw [List.length_set]; exact HB.out
  rw [HLS.out] at hodd hoddL
  clear hAo hcO own4 hst hcell hcu own3 e3 o4 e24 seeb e02
  generalize (txt s).set (4 + N + R) (UInt8.ofNat (1 : Int).toNat) = lo at *
  have HO := Lib.hid hodd
  have HOL := Lib.hid hoddL
  clear hodd hoddL hcne
  go_wp2_with fail
  refine (read_any _ _ _ lo _ seeo (by omega)).mono ?_
  rintro e w5 ⟨g, v5, rfl, hg, hbg, owng, e5⟩
  have rg := Rdr.of_read hbg owng
  have seeb5 := seeb4.ext e5
  have hgw : w.heap.size ≤ g := Nat.le_trans e04.size hg
  have e05 := e04.trans e5
  clear hbg owng seeb4 hu hfr seeo e04 e5 hbo hlo hg
  go_wp2_with fail
  refine (around_any cut _ _ hu0 hu1 (by omega) (by omega)).mono ?_
  rintro e w6 ⟨rfl, rfl⟩
  have hj := aroundZ_bound cut ((4 + N + pad N : Nat) : Int) (by omega)
  have hj' : aroundZ cut (4 + (N : Int) + (pad N : Int)) = aroundZ cut ((4 + N + pad N : Nat) : Int) := by congr 1
  rw [hj']
  generalize aroundZ cut ((4 + N + pad N : Nat) : Int) = j at *
  obtain ⟨J, rfl⟩ := Int.eq_ofNat_of_zero_le hj.1
  have hJ : J < 4 + N + pad N := by omega
  clear hj hj'
  have hcb := seeb5.le
  have hmb := seeb5.max
  unfold maxLen at hmb
  have seeJ := seeb5.take J (by omega)
  rw [bs_take] at seeJ
  go_wp2_with fail
  refine (read_any _ _ _ _ _ seeJ (by omega)).mono ?_
  rintro e w6 ⟨h, v6, rfl, hh, hbh, ownh, e6⟩
  have rh := Rdr.of_read hbh ownh
  have rg6 := rg.ext e6
  have hne : h ≠ g := by have := rg.lt; omega
  have hhw : w.heap.size ≤ h := Nat.le_trans e05.size hh
  have e06 := e05.trans e6
  clear hbh ownh seeJ rg e05 e6 seeb5 hcb hmb
  have hcut : J < 4 ∨ 4 ≤ J := by omega
  go_wp2_with fail
  refine (text_bad g 0 60 lo N R _ rg6 HO.out.1 HO.out.2.1 (by omega) HO.out.2.2.1 (by rw [HOL.out]; omega) hR HO.out.2.2.2.1 HO.out.2.2.2.2).mono ?_
  rintro e w7 ⟨A7, c7, rfl, see7, rg7, o7⟩
  have rh7 := rg6.onl rh o7 hne
  have e07 := e06.onl o7 hgw
  have hf7 : ferr 0 2 = 2 := rfl
  rw [hf7] at rg7
  clear hf7 rg6 rh o7 e06 see7
  have hq : Calls Try.prog 33 #[.pointer (some ⟨h, 0, none⟩), .int .i64 60] w7 fun x w' => ∃ A c, x = .returned (.slice A 0 c) ∧ Sees w' A 0 c (bs []) ∧ Rdr w' h (ferr 0 3) [] ∧ Onl h w7 w' := by
    rcases hcut with hJ4 | hJ4
    · exact text_few h 0 60 _ _ rh7 (by rw [List.length_take]; omega)
    · have := cut_text s J (by rw [HLS.out]; omega) (by rw [HLS.out]; exact hJ) hJ4
      rw [HLS.out] at this
      exact text_short h 0 60 _ N _ rh7 this.1 this.2.1 (by omega) this.2.2
  have HQ := Lib.hid hq
  clear hq hcut
  go_wp2_with fail
  refine (Calls.mono HQ.out ?_)
  rintro e w8 ⟨A8, c8, rfl, see8, rh8, o8⟩
  have rg8 := rh7.onl rg7 o8 (Ne.symm hne)
  have e08 := e07.onl o8 hhw
  have hf8 : ferr 0 3 = 3 := rfl
  rw [hf8] at rh8
  clear hf8 rg7 rh7 o8 e07 HQ see8
  go_wp2_with fail
  refine (errno_any g 2 [] _ rg8).mono ?_
  rintro e w9 ⟨rfl, rfl⟩
  go_wp2_with fail
  refine (u32_few g 2 [] _ rg8 (by simp)).mono ?_
  rintro e w9 ⟨rfl, rg9, o9⟩
  have rh9 := rg8.onl rh8 o9 hne
  have e09 := e08.onl o9 hgw
  have hf9 : ferr 2 3 = 2 := rfl
  rw [hf9] at rg9
  clear hf9 rg8 rh8 o9 e08
  go_wp2_with fail
  refine (errno_any g 2 [] _ rg9).mono ?_
  rintro e w10 ⟨rfl, rfl⟩
  go_wp2_with fail
  refine (errno_any h 3 [] _ rh9).mono ?_
  rintro e w10 ⟨rfl, rfl⟩
  go_wp2_with fail
  refine (left_any h 3 [] _ rh9).mono ?_
  rintro e w10 ⟨rfl, rfl⟩
  go_wp2_with fail
  refine (lives_any _).mono ?_
  rintro e w10 ⟨rfl, e10⟩
  go_wp2
  go_ret
  exact ⟨rfl, e09.trans e10⟩

set_option maxHeartbeats 1000000 in
theorem pads_c (A : Option Addr) (n c : Nat) (l : List UInt8) (at_ cc cut : Int) (w : World) (hs : Sees w A n c (bs l)) (ha0 : -9223372036854775808 ≤ at_) (ha1 : at_ ≤ 9223372036854775807)
    (hu0 : -9223372036854775808 ≤ cut) (hu1 : cut ≤ 9223372036854775807) (hc0 : 0 < cc) (hc1 : cc ≤ 255) (hn4 : (min n 29) % 4 = 0) :
    Calls Try.prog 6 #[.slice A n c, .int .i64 at_, .int .u8 cc, .int .i64 cut] w (PadsEnd w) := by
  obtain ⟨i0, hi, hz0, hz1, hz2⟩ := info_parts infoB
  have hlen := hs.len
  rw [bs_length] at hlen
  have hn4' : (((min n 29 : Nat) : Int) % 4 == 0) = true := by simp; omega
  have hcz : (cc == 0) = false := by simp; omega
  go_enter Try.func6, Try.ntmps6
  go_wp2_with fail
  refine (few_nat A n c _ 29 _ _ hs (bs_one _) (by omega) (by omega) rfl).mono ?_
  rintro e w1 ⟨v1, rfl, own1, e1⟩
  rw [bs_take] at own1
  have hls : (l.take 29).length = min n 29 := by rw [List.length_take]; omega
  generalize l.take 29 = s at *
  generalize hN : min n 29 = N0 at *
  have hN29' : N0 ≤ 28 := by omega
  clear hlen hN
  obtain ⟨v2, w2, hrun, own2, hg2, hat2⟩ := run_append_sees (P := Try.prog) (w := w1.alloc (.cells #[.int .u8 1] 5)) w.heap.size 22 22 5 i0 _ 1 Try.underlying22 hi hz0 hz1 hz2 rfl _ _ _ (own1.alloc _)
    _ 1 1 _ (sees_new w1 5 #[.int .u8 1] (by simp [maxLen])) (by simp [Value.oneCell']) (by unfold maxLen; omega) (by omega) (by have := e1.size; simp; omega)
  have hx2 : Ext w w2 := (e1.alloc _).grown hg2 fun k hk => (own1.lt k hk).1
  have own2' : w2.ownsRow w.heap.size 5 1 v2 (N0 + 1) (bs (s ++ [1])) := by
    rw [bs_append]
    exact own2
  obtain ⟨A0, c0, rfl, see0⟩ := Sees.of_own own1
  have hc0' := see0.le
  obtain ⟨A1, c1, rfl, see1⟩ := Sees.of_own own2'
  clear own1 own2 hg2 hat2 own2' e1 see0
  go_wp2_with (first | (at_builtin; refine wpList_append_run rfl (.tmp 23) (.tmp 24) _ rfl _ _ rfl rfl _ w2 hrun ?_) | fail)
  have e1 := hx2
  have hls' : (s ++ [1]).length = N0 + 1 := by rw [List.length_append, hls]; rfl
  have hN29 : N0 + 1 ≤ 29 := by omega
  have hN4 : ¬ (N0 + 1) % 4 = 0 := by omega
  clear hrun hls hx2 hN29' hc0'
  generalize s ++ [1] = s at *
  generalize N0 + 1 = N at *
  have HLS := Lib.hid hls'
  clear hls'
  have hp1 : 1 ≤ pad N := by unfold pad; omega
  have hp3 := pad_le N
  have hb : (txt s).length = 4 + N + pad N := by unfold txt; simp only [List.length_append, be4_length, zeros_length]; rw [HLS.out]
  have HB := Lib.hid hb
  clear hb
  go_wp2_with fail
  refine (ref_text A1 N c1 s _ see1 (by omega)).mono ?_
  rintro e w2 ⟨v2, rfl, own2, e2⟩
  rw [HB.out] at own2
  obtain ⟨Ab, cb, rfl, seeb⟩ := Sees.of_own own2
  have e02 := e1.trans e2
  clear own2 e1 e2 see1
  go_wp2_with fail
  refine (around_any at_ _ _ ha0 ha1 (by omega) (by omega)).mono ?_
  rintro e w3 ⟨rfl, rfl⟩
  have hr := aroundZ_bound at_ (pad N : Int) (by omega)
  have hmost : (4 + (N : Int) + (pad N : Int) - 4 - (N : Int)) = (pad N : Int) := by omega
  simp only [hmost]
  generalize aroundZ at_ (pad N : Int) = r at *
  obtain ⟨R, rfl⟩ := Int.eq_ofNat_of_zero_le hr.1
  have hR : R < pad N := by omega
  clear hmost hr
  go_wp2_with fail
  refine (few_nat Ab _ cb _ 60 _ _ seeb (bs_one _) (by omega) (by omega) rfl).mono ?_
  rintro e w3 ⟨v3, rfl, own3, e3⟩
  rw [Nat.min_eq_left (by omega), List.take_of_length_le (by rw [bs_length, HB.out]; omega)] at own3
  obtain ⟨go, co, rfl, hbo, hlo⟩ := own3.form (by omega)
  have hcell := own3.cellAt (4 + N + R) (by omega)
  have hsome : ∃ u, w3.cell? ⟨go, 4 + N + R, none⟩ = some u := by
    rw [hcell]
    exact ⟨_, List.getElem?_eq_getElem (by rw [bs_length, HB.out]; omega)⟩
  obtain ⟨u, hu⟩ := hsome
  have hfr := own3.frozenAt (4 + N + R)
  have hst := own3.stored (4 + N + R) (.int .u8 cc)
  have hcu : ((UInt8.ofNat (cc : Int).toNat).toNat : Int) = cc := u8_of _ (by omega) (by omega)
  have hcne : UInt8.ofNat (cc : Int).toNat ≠ 0 := fun h => by rw [h] at hcu; first | (simp at hcu; done) | (simp at hcu; omega)
  have own4 := hst.1
  rw [← hcu, bs_set, hcu] at own4
  have o4 : Onl go w3 (w3.setCell ⟨go, 4 + N + R, none⟩ (.int .u8 cc)) := hst.2
  have e24 : Ext w2 (w3.setCell ⟨go, 4 + N + R, none⟩ (.int .u8 cc)) := e3.onl o4 hbo
  have seeb4 := seeb.ext e24
  have e04 := e02.trans e24
  have hcO := own4.2
  obtain ⟨Ao, co', hAo, seeo⟩ := Sees.of_own own4
  obtain ⟨hA1, hA2, hA3⟩ : Ao = some ⟨go, 0, none⟩ ∧ True ∧ co' = co := by
    injection hAo with q1 q2 q3
    exact ⟨q1.symm, trivial, q3.symm⟩
  subst hA1 hA3
  have hodd := odd_text s R (UInt8.ofNat (cc : Int).toNat) (by rw [HLS.out]; omega) (by rw [HLS.out]; exact hR) hcne
  have hoddL : ((txt s).set (4 + s.length + R) (UInt8.ofNat (cc : Int).toNat)).length = 4 + N + pad N := by rw [List.length_set]; exact HB.out
  rw [HLS.out] at hodd hoddL
  clear hAo hcO own4 hst hcell hcu own3 e3 o4 e24 seeb e02
  generalize (txt s).set (4 + N + R) (UInt8.ofNat (cc : Int).toNat) = lo at *
  have HO := Lib.hid hodd
  have HOL := Lib.hid hoddL
  clear hodd hoddL hcne
  go_wp2_with fail
  refine (read_any _ _ _ lo _ seeo (by omega)).mono ?_
  rintro e w5 ⟨g, v5, rfl, hg, hbg, owng, e5⟩
  have rg := Rdr.of_read hbg owng
  have seeb5 := seeb4.ext e5
  have hgw : w.heap.size ≤ g := Nat.le_trans e04.size hg
  have e05 := e04.trans e5
  clear hbg owng seeb4 hu hfr seeo e04 e5 hbo hlo hg
  go_wp2_with fail
  refine (around_any cut _ _ hu0 hu1 (by omega) (by omega)).mono ?_
  rintro e w6 ⟨rfl, rfl⟩
  have hj := aroundZ_bound cut ((4 + N + pad N : Nat) : Int) (by omega)
  have hj' : aroundZ cut (4 + (N : Int) + (pad N : Int)) = aroundZ cut ((4 + N + pad N : Nat) : Int) := by congr 1
  rw [hj']
  generalize aroundZ cut ((4 + N + pad N : Nat) : Int) = j at *
  obtain ⟨J, rfl⟩ := Int.eq_ofNat_of_zero_le hj.1
  have hJ : J < 4 + N + pad N := by omega
  clear hj hj'
  have hcb := seeb5.le
  have hmb := seeb5.max
  unfold maxLen at hmb
  have seeJ := seeb5.take J (by omega)
  rw [bs_take] at seeJ
  go_wp2_with fail
  refine (read_any _ _ _ _ _ seeJ (by omega)).mono ?_
  rintro e w6 ⟨h, v6, rfl, hh, hbh, ownh, e6⟩
  have rh := Rdr.of_read hbh ownh
  have rg6 := rg.ext e6
  have hne : h ≠ g := by have := rg.lt; omega
  have hhw : w.heap.size ≤ h := Nat.le_trans e05.size hh
  have e06 := e05.trans e6
  clear hbh ownh seeJ rg e05 e6 seeb5 hcb hmb
  have hcut : J < 4 ∨ 4 ≤ J := by omega
  go_wp2_with fail
  refine (text_bad g 0 60 lo N R _ rg6 HO.out.1 HO.out.2.1 (by omega) HO.out.2.2.1 (by rw [HOL.out]; omega) hR HO.out.2.2.2.1 HO.out.2.2.2.2).mono ?_
  rintro e w7 ⟨A7, c7, rfl, see7, rg7, o7⟩
  have rh7 := rg6.onl rh o7 hne
  have e07 := e06.onl o7 hgw
  have hf7 : ferr 0 2 = 2 := rfl
  rw [hf7] at rg7
  clear hf7 rg6 rh o7 e06 see7
  have hq : Calls Try.prog 33 #[.pointer (some ⟨h, 0, none⟩), .int .i64 60] w7 fun x w' => ∃ A c, x = .returned (.slice A 0 c) ∧ Sees w' A 0 c (bs []) ∧ Rdr w' h (ferr 0 3) [] ∧ Onl h w7 w' := by
    rcases hcut with hJ4 | hJ4
    · exact text_few h 0 60 _ _ rh7 (by rw [List.length_take]; omega)
    · have := cut_text s J (by rw [HLS.out]; omega) (by rw [HLS.out]; exact hJ) hJ4
      rw [HLS.out] at this
      exact text_short h 0 60 _ N _ rh7 this.1 this.2.1 (by omega) this.2.2
  have HQ := Lib.hid hq
  clear hq hcut
  go_wp2_with fail
  refine (Calls.mono HQ.out ?_)
  rintro e w8 ⟨A8, c8, rfl, see8, rh8, o8⟩
  have rg8 := rh7.onl rg7 o8 (Ne.symm hne)
  have e08 := e07.onl o8 hhw
  have hf8 : ferr 0 3 = 3 := rfl
  rw [hf8] at rh8
  clear hf8 rg7 rh7 o8 e07 HQ see8
  go_wp2_with fail
  refine (errno_any g 2 [] _ rg8).mono ?_
  rintro e w9 ⟨rfl, rfl⟩
  go_wp2_with fail
  refine (u32_few g 2 [] _ rg8 (by simp)).mono ?_
  rintro e w9 ⟨rfl, rg9, o9⟩
  have rh9 := rg8.onl rh8 o9 hne
  have e09 := e08.onl o9 hgw
  have hf9 : ferr 2 3 = 2 := rfl
  rw [hf9] at rg9
  clear hf9 rg8 rh8 o9 e08
  go_wp2_with fail
  refine (errno_any g 2 [] _ rg9).mono ?_
  rintro e w10 ⟨rfl, rfl⟩
  go_wp2_with fail
  refine (errno_any h 3 [] _ rh9).mono ?_
  rintro e w10 ⟨rfl, rfl⟩
  go_wp2_with fail
  refine (left_any h 3 [] _ rh9).mono ?_
  rintro e w10 ⟨rfl, rfl⟩
  go_wp2_with fail
  refine (lives_any _).mono ?_
  rintro e w10 ⟨rfl, e10⟩
  go_wp2
  go_ret
  exact ⟨rfl, e09.trans e10⟩

set_option maxHeartbeats 1000000 in
theorem pads_d (A : Option Addr) (n c : Nat) (l : List UInt8) (at_ cut : Int) (w : World) (hs : Sees w A n c (bs l)) (ha0 : -9223372036854775808 ≤ at_) (ha1 : at_ ≤ 9223372036854775807)
    (hu0 : -9223372036854775808 ≤ cut) (hu1 : cut ≤ 9223372036854775807) (hn4 : (min n 29) % 4 = 0) :
    Calls Try.prog 6 #[.slice A n c, .int .i64 at_, .int .u8 0, .int .i64 cut] w (PadsEnd w) := by
  obtain ⟨i0, hi, hz0, hz1, hz2⟩ := info_parts infoB
  have hlen := hs.len
  rw [bs_length] at hlen
  have hn4' : (((min n 29 : Nat) : Int) % 4 == 0) = true := by simp; omega
  go_enter Try.func6, Try.ntmps6
  go_wp2_with fail
  refine (few_nat A n c _ 29 _ _ hs (bs_one _) (by omega) (by omega) rfl).mono ?_
  rintro e w1 ⟨v1, rfl, own1, e1⟩
  rw [bs_take] at own1
  have hls : (l.take 29).length = min n 29 := by rw [List.length_take]; omega
  generalize l.take 29 = s at *
  generalize hN : min n 29 = N0 at *
  have hN29' : N0 ≤ 28 := by omega
  clear hlen hN
  obtain ⟨v2, w2, hrun, own2, hg2, hat2⟩ := run_append_sees (P := Try.prog) (w := w1.alloc (.cells #[.int .u8 1] 5)) w.heap.size 22 22 5 i0 _ 1 Try.underlying22 hi hz0 hz1 hz2 rfl _ _ _ (own1.alloc _)
    _ 1 1 _ (sees_new w1 5 #[.int .u8 1] (by simp [maxLen])) (by simp [Value.oneCell']) (by unfold maxLen; omega) (by omega) (by have := e1.size; simp; omega)
  have hx2 : Ext w w2 := (e1.alloc _).grown hg2 fun k hk => (own1.lt k hk).1
  have own2' : w2.ownsRow w.heap.size 5 1 v2 (N0 + 1) (bs (s ++ [1])) := by
    rw [bs_append]
    exact own2
  obtain ⟨A0, c0, rfl, see0⟩ := Sees.of_own own1
  have hc0' := see0.le
  obtain ⟨A1, c1, rfl, see1⟩ := Sees.of_own own2'
  clear own1 own2 hg2 hat2 own2' e1 see0
  go_wp2_with (first | (at_builtin; refine wpList_append_run rfl (.tmp 23) (.tmp 24) _ rfl _ _ rfl rfl _ w2 hrun ?_) | fail)
  have e1 := hx2
  have hls' : (s ++ [1]).length = N0 + 1 := by rw [List.length_append, hls]; rfl
  have hN29 : N0 + 1 ≤ 29 := by omega
  have hN4 : ¬ (N0 + 1) % 4 = 0 := by omega
  clear hrun hls hx2 hN29' hc0'
  generalize s ++ [1] = s at *
  generalize N0 + 1 = N at *
  have HLS := Lib.hid hls'
  clear hls'
  have hp1 : 1 ≤ pad N := by unfold pad; omega
  have hp3 := pad_le N
  have hb : (txt s).length = 4 + N + pad N := by unfold txt; simp only [List.length_append, be4_length, zeros_length]; rw [HLS.out]
  have HB := Lib.hid hb
  clear hb
  go_wp2_with fail
  refine (ref_text A1 N c1 s _ see1 (by omega)).mono ?_
  rintro e w2 ⟨v2, rfl, own2, e2⟩
  rw [HB.out] at own2
  obtain ⟨Ab, cb, rfl, seeb⟩ := Sees.of_own own2
  have e02 := e1.trans e2
  clear own2 e1 e2 see1
  go_wp2_with fail
  refine (around_any at_ _ _ ha0 ha1 (by omega) (by omega)).mono ?_
  rintro e w3 ⟨rfl, rfl⟩
  have hr := aroundZ_bound at_ (pad N : Int) (by omega)
  have hmost : (4 + (N : Int) + (pad N : Int) - 4 - (N : Int)) = (pad N : Int) := by omega
  simp only [hmost]
  generalize aroundZ at_ (pad N : Int) = r at *
  obtain ⟨R, rfl⟩ := Int.eq_ofNat_of_zero_le hr.1
  have hR : R < pad N := by omega
  clear hmost hr
  go_wp2_with fail
  refine (few_nat Ab _ cb _ 60 _ _ seeb (bs_one _) (by omega) (by omega) rfl).mono ?_
  rintro e w3 ⟨v3, rfl, own3, e3⟩
  rw [Nat.min_eq_left (by omega), List.take_of_length_le (by rw [bs_length, HB.out]; omega)] at own3
  obtain ⟨go, co, rfl, hbo, hlo⟩ := own3.form (by omega)
  have hcell := own3.cellAt (4 + N + R) (by omega)
  have hsome : ∃ u, w3.cell? ⟨go, 4 + N + R, none⟩ = some u := by
    rw [hcell]
    exact ⟨_, List.getElem?_eq_getElem (by rw [bs_length, HB.out]; omega)⟩
  obtain ⟨u, hu⟩ := hsome
  have hfr := own3.frozenAt (4 + N + R)
  have hst := own3.stored (4 + N + R) (.int .u8 1)
  have hcu : ((UInt8.ofNat (1 : Int).toNat).toNat : Int) = 1 := u8_of _ (by omega) (by omega)
  have hcne : UInt8.ofNat (1 : Int).toNat ≠ 0 := fun h => by rw [h] at hcu; first | (simp at hcu; done) | (simp at hcu; omega)
  have own4 := hst.1
  rw [← hcu, bs_set, hcu] at own4
  have o4 : Onl go w3 (w3.setCell ⟨go, 4 + N + R, none⟩ (.int .u8 1)) := hst.2
  have e24 : Ext w2 (w3.setCell ⟨go, 4 + N + R, none⟩ (.int .u8 1)) := e3.onl o4 hbo
  have seeb4 := seeb.ext e24
  have e04 := e02.trans e24
  have hcO := own4.2
  obtain ⟨Ao, co', hAo, seeo⟩ := Sees.of_own own4
  obtain ⟨hA1, hA2, hA3⟩ : Ao = some ⟨go, 0, none⟩ ∧ True ∧ co' = co := by
    injection hAo with q1 q2 q3
    exact ⟨q1.symm, trivial, q3.symm⟩
  subst hA1 hA3
  have hodd := odd_text s R (UInt8.ofNat (1 : Int).toNat) (by rw [HLS.out]; omega) (by rw [HLS.out]; exact hR) hcne
  have hoddL : ((txt s).set (4 + s.length + R) (UInt8.ofNat (1 : Int).toNat)).length = 4 + N + pad N := by rw [List.length_set]; exact HB.out
  rw [HLS.out] at hodd hoddL
  clear hAo hcO own4 hst hcell hcu own3 e3 o4 e24 seeb e02
  generalize (txt s).set (4 + N + R) (UInt8.ofNat (1 : Int).toNat) = lo at *
  have HO := Lib.hid hodd
  have HOL := Lib.hid hoddL
  clear hodd hoddL hcne
  go_wp2_with fail
  refine (read_any _ _ _ lo _ seeo (by omega)).mono ?_
  rintro e w5 ⟨g, v5, rfl, hg, hbg, owng, e5⟩
  have rg := Rdr.of_read hbg owng
  have seeb5 := seeb4.ext e5
  have hgw : w.heap.size ≤ g := Nat.le_trans e04.size hg
  have e05 := e04.trans e5
  clear hbg owng seeb4 hu hfr seeo e04 e5 hbo hlo hg
  go_wp2_with fail
  refine (around_any cut _ _ hu0 hu1 (by omega) (by omega)).mono ?_
  rintro e w6 ⟨rfl, rfl⟩
  have hj := aroundZ_bound cut ((4 + N + pad N : Nat) : Int) (by omega)
  have hj' : aroundZ cut (4 + (N : Int) + (pad N : Int)) = aroundZ cut ((4 + N + pad N : Nat) : Int) := by congr 1
  rw [hj']
  generalize aroundZ cut ((4 + N + pad N : Nat) : Int) = j at *
  obtain ⟨J, rfl⟩ := Int.eq_ofNat_of_zero_le hj.1
  have hJ : J < 4 + N + pad N := by omega
  clear hj hj'
  have hcb := seeb5.le
  have hmb := seeb5.max
  unfold maxLen at hmb
  have seeJ := seeb5.take J (by omega)
  rw [bs_take] at seeJ
  go_wp2_with fail
  refine (read_any _ _ _ _ _ seeJ (by omega)).mono ?_
  rintro e w6 ⟨h, v6, rfl, hh, hbh, ownh, e6⟩
  have rh := Rdr.of_read hbh ownh
  have rg6 := rg.ext e6
  have hne : h ≠ g := by have := rg.lt; omega
  have hhw : w.heap.size ≤ h := Nat.le_trans e05.size hh
  have e06 := e05.trans e6
  clear hbh ownh seeJ rg e05 e6 seeb5 hcb hmb
  have hcut : J < 4 ∨ 4 ≤ J := by omega
  go_wp2_with fail
  refine (text_bad g 0 60 lo N R _ rg6 HO.out.1 HO.out.2.1 (by omega) HO.out.2.2.1 (by rw [HOL.out]; omega) hR HO.out.2.2.2.1 HO.out.2.2.2.2).mono ?_
  rintro e w7 ⟨A7, c7, rfl, see7, rg7, o7⟩
  have rh7 := rg6.onl rh o7 hne
  have e07 := e06.onl o7 hgw
  have hf7 : ferr 0 2 = 2 := rfl
  rw [hf7] at rg7
  clear hf7 rg6 rh o7 e06 see7
  have hq : Calls Try.prog 33 #[.pointer (some ⟨h, 0, none⟩), .int .i64 60] w7 fun x w' => ∃ A c, x = .returned (.slice A 0 c) ∧ Sees w' A 0 c (bs []) ∧ Rdr w' h (ferr 0 3) [] ∧ Onl h w7 w' := by
    rcases hcut with hJ4 | hJ4
    · exact text_few h 0 60 _ _ rh7 (by rw [List.length_take]; omega)
    · have := cut_text s J (by rw [HLS.out]; omega) (by rw [HLS.out]; exact hJ) hJ4
      rw [HLS.out] at this
      exact text_short h 0 60 _ N _ rh7 this.1 this.2.1 (by omega) this.2.2
  have HQ := Lib.hid hq
  clear hq hcut
  go_wp2_with fail
  refine (Calls.mono HQ.out ?_)
  rintro e w8 ⟨A8, c8, rfl, see8, rh8, o8⟩
  have rg8 := rh7.onl rg7 o8 (Ne.symm hne)
  have e08 := e07.onl o8 hhw
  have hf8 : ferr 0 3 = 3 := rfl
  rw [hf8] at rh8
  clear hf8 rg7 rh7 o8 e07 HQ see8
  go_wp2_with fail
  refine (errno_any g 2 [] _ rg8).mono ?_
  rintro e w9 ⟨rfl, rfl⟩
  go_wp2_with fail
  refine (u32_few g 2 [] _ rg8 (by simp)).mono ?_
  rintro e w9 ⟨rfl, rg9, o9⟩
  have rh9 := rg8.onl rh8 o9 hne
  have e09 := e08.onl o9 hgw
  have hf9 : ferr 2 3 = 2 := rfl
  rw [hf9] at rg9
  clear hf9 rg8 rh8 o9 e08
  go_wp2_with fail
  refine (errno_any g 2 [] _ rg9).mono ?_
  rintro e w10 ⟨rfl, rfl⟩
  go_wp2_with fail
  refine (errno_any h 3 [] _ rh9).mono ?_
  rintro e w10 ⟨rfl, rfl⟩
  go_wp2_with fail
  refine (left_any h 3 [] _ rh9).mono ?_
  rintro e w10 ⟨rfl, rfl⟩
  go_wp2_with fail
  refine (lives_any _).mono ?_
  rintro e w10 ⟨rfl, e10⟩
  go_wp2
  go_ret
  exact ⟨rfl, e09.trans e10⟩

theorem pads_all (A : Option Addr) (n c : Nat) (l : List UInt8) (at_ cc cut : Int) (w : World) (hs : Sees w A n c (bs l)) (ha0 : -9223372036854775808 ≤ at_) (ha1 : at_ ≤ 9223372036854775807)
    (hu0 : -9223372036854775808 ≤ cut) (hu1 : cut ≤ 9223372036854775807) (hc0 : 0 ≤ cc) (hc1 : cc ≤ 255) :
    Calls Try.prog 6 #[.slice A n c, .int .i64 at_, .int .u8 cc, .int .i64 cut] w (PadsEnd w) := by
  by_cases h1 : cc = 0 <;> by_cases h2 : (min n 29) % 4 = 0
  · subst h1
    exact pads_d A n c l at_ cut w hs ha0 ha1 hu0 hu1 h2
  · subst h1
    exact pads_b A n c l at_ cut w hs ha0 ha1 hu0 hu1 h2
  · exact pads_c A n c l at_ cc cut w hs ha0 ha1 hu0 hu1 (by omega) hc1 h2
  · exact pads_a A n c l at_ cc cut w hs ha0 ha1 hu0 hu1 (by omega) hc1 h2
end Go.Proofs.Ytefkjoooecphaaa
