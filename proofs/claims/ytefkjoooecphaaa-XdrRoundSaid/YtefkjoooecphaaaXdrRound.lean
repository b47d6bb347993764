/-
  The statement XdrRound: its walk.
-/
import Derived.Test.YtefkjoooecphaaaRws
import Derived.Test.YtefkjoooecphaaaOrd
import Derived.Test.YtefkjoooecphaaaXdrPads
namespace Go.Proofs.Ytefkjoooecphaaa
open Go Go.RowKit
set_option linter.unusedVariables false
set_option linter.unusedSimpArgs false

theorem pre_onl (g : Nat) : Pre (Onl g) := ⟨Onl.refl g, fun _ _ _ h k => h.trans k⟩

theorem num8_be8 (m : Int) (t : List UInt8) (h0 : 0 ≤ m) (h1 : m < 18446744073709551616) : num8 (be8 m ++ t) = m := by
  unfold num8 be8
  rw [List.append_assoc, num4_be4 _ _ (by omega) (by omega)]
  have : (be4 (m / 4294967296) ++ (be4 (m % 4294967296) ++ t)).drop 4 = be4 (m % 4294967296) ++ t := rfl
  rw [this, num4_be4 _ _ (by omega) (by omega)]
  omega
theorem txt_read (s R : List UInt8) (hN : s.length < 4294967296) :
    4 ≤ (txt s ++ R).length ∧ num4 (txt s ++ R) = (s.length : Int) ∧ s.length + pad s.length ≤ (txt s ++ R).length - 4 ∧ (∀ k, k < pad s.length → ((txt s ++ R).drop 4).getD (s.length + k) 0 = 0) ∧
    ((txt s ++ R).drop 4).take s.length = s ∧ (txt s ++ R).drop (4 + (s.length + pad s.length)) = R := by
  have hl : (txt s).length = 4 + s.length + pad s.length := by unfold txt; simp only [List.length_append, be4_length, zeros_length]
  have e : txt s ++ R = be4 s.length ++ (s ++ (zeros (pad s.length) ++ R)) := by unfold txt; simp only [List.append_assoc]
  have ed : (txt s ++ R).drop 4 = s ++ (zeros (pad s.length) ++ R) := by rw [e]; rfl
  refine ⟨by rw [List.length_append]; omega, by rw [e]; exact num4_be4 _ _ (by omega) (by omega), by rw [List.length_append]; omega, fun k hk => ?_, ?_, ?_⟩
  · rw [ed, List.getD_eq_getElem?_getD, List.getElem?_append_right (by omega), List.getElem?_append_left (by rw [zeros_length]; omega)]
    simp [zeros, List.getElem?_replicate]
    rw [if_pos (by omega)]
    rfl
  · rw [ed, List.take_append_of_le_length (Nat.le_refl _), List.take_length]
  · rw [show 4 + (s.length + pad s.length) = (txt s).length from by omega]
    exact List.drop_left

theorem bool_is (g : Nat) (e : Int) (l : List UInt8) (is : Bool) (w : World) (h : Rdr w g e l) (hk : 4 ≤ l.length) (h1 : num4 l = if is then 1 else 0) :
    Calls Try.prog 31 #[.pointer (some ⟨g, 0, none⟩)] w fun x w' => x = .returned (.bool is) ∧ Rdr w' g e (l.drop 4) ∧ Onl g w w' := by
  have := bool_r g e l w h hk (by rw [h1]; split <;> omega)
  have e1 : (num4 l == 1) = is := by rw [h1]; cases is <;> rfl
  rw [e1] at this
  exact this
theorem u32_is (g : Nat) (e : Int) (l : List UInt8) (x : Int) (w : World) (h : Rdr w g e l) (hk : 4 ≤ l.length) (h1 : num4 l = x) :
    Calls Try.prog 27 #[.pointer (some ⟨g, 0, none⟩)] w fun y w' => y = .returned (.int .u32 x) ∧ Rdr w' g e (l.drop 4) ∧ Onl g w w' := by
  subst h1
  exact u32_ok g e l w h hk
theorem u64_is (g : Nat) (e : Int) (l : List UInt8) (x : Int) (w : World) (h : Rdr w g e l) (hk : 8 ≤ l.length) (h1 : num8 l = x) :
    Calls Try.prog 29 #[.pointer (some ⟨g, 0, none⟩)] w fun y w' => y = .returned (.int .u64 x) ∧ Rdr w' g e (l.drop 8) ∧ Onl g w w' := by
  subst h1
  exact u64_ok g e l w h hk

/-- Pieces one behind the other. -/
def cat (f : Nat → List UInt8) : Nat → List UInt8
  | 0 => []
  | n + 1 => cat f n ++ f n
def tl (f : Nat → List UInt8) : Nat → Nat → List UInt8
  | _, 0 => []
  | i, d + 1 => f i ++ tl f (i + 1) d
theorem cat_tl (f : Nat → List UInt8) : ∀ d i, cat f (i + d) = cat f i ++ tl f i d
  | 0, i => by simp [tl]
  | d + 1, i => by
    have := cat_tl f d (i + 1)
    rw [show i + (d + 1) = i + 1 + d from by omega, this]
    simp [cat, tl, List.append_assoc]
theorem cat_zero (f : Nat → List UInt8) (n : Nat) : cat f n = tl f 0 n := by
  have := cat_tl f n 0
  simpa [cat] using this
theorem txt_modR (s : List UInt8) : (txt s).length % 4 = 0 := by
  unfold txt pad
  simp only [List.length_append, be4_length, zeros_length]
  omega
/-- One record of the law's bytes. -/
def rcd (X : Nat → Int) (T : Nat → List UInt8) (is : Bool) (m : Int) (i : Nat) : List UInt8 := be4 (X i) ++ txt (T i) ++ be4 (if is then 1 else 0) ++ be8 m
theorem rcd_le (X : Nat → Int) (T : Nat → List UInt8) (is : Bool) (m : Int) (i : Nat) (h : (T i).length ≤ 20) : (rcd X T is m i).length ≤ 43 ∧ (rcd X T is m i).length % 4 = 0 := by
  have h1 := txt_le (T i)
  have h2 := txt_modR (T i)
  unfold rcd
  simp only [List.length_append, be4_length, be8_length]
  omega
theorem cat_le (X : Nat → Int) (T : Nat → List UInt8) (is : Bool) (m : Int) (h : ∀ i, (T i).length ≤ 20) : ∀ n, (cat (rcd X T is m) n).length ≤ 43 * n ∧ (cat (rcd X T is m) n).length % 4 = 0
  | 0 => by simp [cat]
  | n + 1 => by
    have h1 := cat_le X T is m h n
    have h2 := rcd_le X T is m n (h n)
    simp only [cat, List.length_append]
    omega

/-- CORE -/
def coreMark : Nat := 0
set_option maxHeartbeats 4000000 in
theorem round_a (A A2 : Option Addr) (n c n2 c2 : Nat) (m : Int) (is : Bool) (w : World) (X : Nat → Int) (T : Nat → List UInt8) (f : Nat → List UInt8) (hm0 : 0 ≤ m) (hm1 : m < 18446744073709551616)
    (hn : n ≤ c) (hm : c ≤ 2 ^ 63 - 1) (hn2 : n2 ≤ c2) (hm2 : c2 ≤ 2 ^ 63 - 1) (hc5 : n2 ≤ 5) (hcn : n ≤ n2)
    (HX : Hid (∀ i, i < n → 0 ≤ X i ∧ X i < 4294967296 ∧ ∃ b off, A = some ⟨b, off, none⟩ ∧ b < w.heap.size ∧ w.cell? ⟨b, off + i, none⟩ = some (.int .u32 (X i))))
    (HT0 : Hid (∀ i, (T i).length ≤ 20)) (HT : Hid (∀ i, i < n2 → ∃ b off A' N' c' t, A2 = some ⟨b, off, none⟩ ∧ b < w.heap.size ∧ w.cell? ⟨b, off + i, none⟩ = some (.slice A' N' c') ∧ Sees w A' N' c' (bs t) ∧ t.take 20 = T i))
    (hcl : Hid (∀ k, (cat f k).length ≤ 43 * k ∧ (cat f k).length % 4 = 0)) (HF : Hid (f = rcd X T is m)) :
    Calls Try.prog 5 #[.slice A n c, .slice A2 n2 c2, .int .u64 m, .bool is] w fun e w' => e = .returned (.bool true) ∧ Ext w w' := by
  have hlB : ∀ k, k ≤ n → (cat f k).length ≤ 215 := fun k hk => by have := (hcl.out k).1; omega
  have HLB := Lib.hid hlB
  clear hlB
  go_enter Try.func5, Try.ntmps5
  go_wp2_with fail
  go_loopw [9, 11] (fun b i wr => ∃ (k mB : Nat) (B : Option Addr) (cb : Nat), k ≤ n ∧ i = .int .i64 k ∧ b = .slice B mB cb ∧ Sees wr B mB cb (bs (cat f k)) ∧ Ext w wr) (fun _ i _ => n - (intOf i).toNat)
  case atStart => exact ⟨0, 0, none, 0, by omega, rfl, rfl, Sees.nil _, Ext.refl w⟩
  case round =>
    obtain ⟨k, mB, B, cb, hk, rfl, rfl, seeb, extk⟩ := hrel
    have hmB := seeb.len
    rw [bs_length] at hmB
    have hmb2 := HLB.out k hk
    rw [hmB] at hmb2
    have HMB := Lib.hid hmB
    clear hmB
    by_cases hlt : k < n
    · have hj1 : k < n := by omega
      have hj2 : k < n2 := by omega
      obtain ⟨hx0, hx1, b1, off1, hA, hb1, hcell⟩ := HX.out k (by omega)
      subst hA
      obtain ⟨b2, off2, A', N', c', t, hA2, hb2, hcell2, seet, ht⟩ := HT.out k (by omega)
      subst hA2
      have hcell := extk.cell hcell
      have HTk := Lib.hid ht
      clear ht
      go_wp2_with fail
      refine (xdr_u32 B mB cb (X k) (cat f k) _ seeb (by omega) (by omega) (by omega)).mono ?_
      rintro e w1 ⟨v1, rfl, own1, ext1⟩
      obtain ⟨B1, cb1, rfl, see1⟩ := Sees.of_own own1
      have ext01 := extk.trans ext1
      have hcell2' := ext01.cell hcell2
      have seet1 := seet.ext ext01
      clear own1 hcell seeb ext1 extk
      go_wp2_with fail
      refine (few_nat A' _ c' _ 20 _ _ seet1 (bs_one _) (by omega) (by omega) rfl).mono ?_
      rintro e w2 ⟨v2, rfl, own2, ext2⟩
      rw [bs_take, HTk.out] at own2
      obtain ⟨B2, cb2, rfl, see2⟩ := Sees.of_own own2
      have see1b := see1.ext ext2
      clear own2 see1 seet1 hcell2'
      go_wp2_with fail
      refine (text_any B1 (mB + 4) cb1 B2 _ cb2 _ (T k) _ see1b see2 (by omega) (by omega)).mono ?_
      rintro e w3 ⟨v3, rfl, own3, ext3⟩
      obtain ⟨B3, cb3, rfl, see3⟩ := Sees.of_own own3
      have htl := txt_le (T k)
      have htk := HT0.out k
      clear own3 see1b see2
      go_wp2_with fail
      refine (bool_any B3 _ cb3 is _ _ see3 (by omega)).mono ?_
      rintro e w4 ⟨v4, rfl, own4, ext4⟩
      obtain ⟨B4, cb4, rfl, see4⟩ := Sees.of_own own4
      clear own4 see3
      go_wp2_with fail
      refine (xdr_u64 B4 _ cb4 m _ _ see4 (by omega) hm0 hm1).mono ?_
      rintro e w5 ⟨v5, rfl, own5, ext5⟩
      have e5 : cat f k ++ be4 (X k) ++ txt (T k) ++ be4 (if is = true then 1 else 0) ++ be8 m = cat f (k + 1) := by
        rw [HF.out]
        simp only [cat, rcd, List.append_assoc]
      rw [e5] at own5
      obtain ⟨B5, cb5, rfl, see5⟩ := Sees.of_own own5
      have ext05 := ext01.trans (ext2.trans (ext3.trans (ext4.trans ext5)))
      clear own5 see4 e5 ext01 ext2 ext3 ext4 ext5
      go_wp2
      go_roundw
      case rel => exact ⟨k + 1, _, B5, cb5, by omega, by go_num, rfl, see5, ext05⟩
      case measure => simp [intOf]; omega
    · have hkK : k = n := by omega
      have hmod4 := (hcl.out k).2
      rw [HMB.out] at hmod4
      have HMod := Lib.hid hmod4
      clear hmod4
      go_wp2_with fail
      refine (read_any B mB cb _ _ seeb (by omega)).mono ?_
      rintro e w1 ⟨g, v1, rfl, hg, hbg, own1, ext1⟩
      have rg := Rdr.of_read hbg own1
      rw [cat_zero] at rg
      have hgw : w.heap.size ≤ g := Nat.le_trans extk.size hg
      have ext01 := extk.trans ext1
      clear hbg own1 seeb extk ext1 hg
      go_wp2_with fail
      go_loopw [13] (fun i wr => ∃ (j d : Nat), j + d = n ∧ i = .int .i64 j ∧ Rdr wr g 0 (tl f j d) ∧ Ext w wr) (fun i _ => n - (intOf i).toNat)
      case atStart => exact ⟨0, k, by omega, rfl, rg, ext01⟩
      case round =>
        clear rg ext01
        obtain ⟨j, d, hjd, rfl, rg, extj⟩ := hrel
        have HJ := Lib.hid hjd
        have hjk : j ≤ n := by omega
        by_cases hlt2 : j < n
        · have hj1 : j < n := by omega
          have hj2 : j < n2 := by omega
          obtain ⟨d, rfl⟩ : ∃ d', d = d' + 1 := ⟨d - 1, by omega⟩
          clear hjd
          have htj := HT0.out j
          have erem : tl f j (d + 1) = be4 (X j) ++ (txt (T j) ++ (be4 (if is then 1 else 0) ++ (be8 m ++ tl f (j + 1) d))) := by
            rw [HF.out]
            simp only [tl, rcd, List.append_assoc]
          rw [erem] at rg
          have hlen : (tl f j (d + 1)).length ≤ 215 := by
            have h1 := HLB.out (j + (d + 1)) (by have := HJ.out; omega)
            rw [cat_tl] at h1
            rw [List.length_append] at h1
            omega
          rw [erem] at hlen
          simp only [List.length_append, be4_length, be8_length] at hlen
          obtain ⟨hx0, hx1, b1, off1, hA, hb1, hcell⟩ := HX.out j (by omega)
          subst hA
          obtain ⟨b2, off2, A', N', c', t, hA2, hb2, hcell2, seet, ht⟩ := HT.out j (by omega)
          subst hA2
          have HTk := Lib.hid ht
          generalize hrest : tl f (j + 1) d = rest at *
          have HR := Lib.hid hrest
          have tr := txt_read (T j) (be4 (if is then 1 else 0) ++ (be8 m ++ rest)) (by omega)
          have HTR := Lib.hid tr
          clear ht erem hrest tr
          have hc1 : ∀ w', Onl g wr.drew w' → w'.cell? ⟨b1, off1 + j, none⟩ = some (.int .u32 (X j)) := fun w' hw => (hw.cell (extj.drew.cell hcell) (show b1 ≠ g by omega))
          have hc2 : ∀ w', Onl g wr.drew w' → w'.cell? ⟨b2, off2 + j, none⟩ = some (.slice A' N' c') := fun w' hw => (hw.cell (extj.drew.cell hcell2) (show b2 ≠ g by omega))
          have hst : Sees wr.drew A' N' c' (bs t) := seet.ext extj.drew
          have hbt : ∀ w', Onl g wr.drew w' → Sees w' A' N' c' (bs t) := fun w' hw => hst.onl (rg.ext (Ext.refl wr).drew) hw
          clear hcell hcell2 seet hst
          go_wp2_with fail
          refine wp_region_ordR (Onl g) [0, 2, 3, 4, 5, 1, 6, 7, 8, 11, 12, 13, 14, 9, 10, 15, 16, 17, 18, 19, 20, 22, 21, 23, 24, 25, 26, 28, 27, 29, 30] [5, 13, 15, 22, 28] (by kernel_rfl) (by kernel_rfl) rfl (by kernel_rfl) ?_
          repeat (refine lexR_val (pre_onl g) (v := ?_) rfl rfl (fun w' hw' => ?_) ?_; rotate_left; (· go_simp; try with_reducible rfl); simp only [Act.put, List.setIfInBounds_toArray, List.set_cons_zero, List.set_cons_succ])
          have rgD := rg.ext (Ext.refl wr).drew
          have extD := extj.drew
          clear rg
          refine lexR_call (pre_onl g) 27 #[.pointer (some ⟨g, 0, none⟩)] rfl rfl (by go_simp) ?_
          refine (u32_is g 0 _ (X j) _ rgD (by simp only [List.length_append, be4_length, be8_length]; omega) (num4_be4 _ _ hx0 hx1)).mono ?_
          rintro e w1 ⟨rfl, rg1, o1⟩
          refine ⟨_, rfl, o1, ?_⟩
          have rg1' : Rdr w1 g 0 (txt (T j) ++ (be4 (if is then 1 else 0) ++ (be8 m ++ rest))) := rg1
          have ext1 := extD.onl o1 hgw
          replace hc2 := fun w' (hw : Onl g w1 w') => hc2 w' (o1.trans hw)
          replace hbt := fun w' (hw : Onl g w1 w') => hbt w' (o1.trans hw)
          clear hc1 rg1 rgD o1 extD
          simp only [Act.put, List.setIfInBounds_toArray, List.set_cons_zero, List.set_cons_succ]
          repeat (refine lexR_val (pre_onl g) (v := ?_) rfl rfl (fun w' hw' => ?_) ?_; rotate_left; (· go_simp; try with_reducible rfl); simp only [Act.put, List.setIfInBounds_toArray, List.set_cons_zero, List.set_cons_succ])
          refine lexR_call (pre_onl g) 33 #[.pointer (some ⟨g, 0, none⟩), .int .i64 20] rfl rfl (by go_simp) ?_
          refine (text_ok g 0 20 _ (T j).length _ rg1' HTR.out.1 HTR.out.2.1 (by omega) HTR.out.2.2.1 (by simp only [List.length_append, be4_length, be8_length]; omega) HTR.out.2.2.2.1).mono ?_
          rintro e w2 ⟨A7, c7, rfl, see7, rg2, o2⟩
          rw [HTR.out.2.2.2.2.1] at see7
          rw [HTR.out.2.2.2.2.2] at rg2
          refine ⟨_, rfl, o2, ?_⟩
          have ext2 := ext1.onl o2 hgw
          have h63 : ∀ w', Onl g w2 w' → _ := fun w' hw => str_of (see7.onl rg2 hw)
          have hst2 := hbt w2 o2
          clear hc2 hbt rg1' o2 ext1
          simp only [Act.put, List.setIfInBounds_toArray, List.set_cons_zero, List.set_cons_succ]
          repeat (refine lexR_val (pre_onl g) (v := ?_) rfl rfl (fun w' hw' => ?_) ?_; rotate_left; (· go_simp; try with_reducible rfl); simp only [Act.put, List.setIfInBounds_toArray, List.set_cons_zero, List.set_cons_succ])
          refine lexR_call (pre_onl g) 15 #[.slice A' N' c', .int .i64 20] rfl rfl (by go_simp) ?_
          refine (few_nat A' N' c' _ 20 _ _ hst2 (bs_one _) (by omega) (by omega) rfl).mono ?_
          rintro e w3 ⟨v3, rfl, own3, e3⟩
          rw [bs_take, HTk.out] at own3
          obtain ⟨A8, c8, rfl, see8⟩ := Sees.of_own own3
          have o3 : Onl g w2 w3 := Onl.of_ext e3
          refine ⟨_, rfl, o3, ?_⟩
          have rg3 := rg2.ext e3
          have ext3 := ext2.trans e3
          replace h63 := fun w' (hw : Onl g w3 w') => h63 w' (o3.trans hw)
          have h68 : ∀ w', Onl g w3 w' → _ := fun w' hw => str_of (see8.onl rg3 hw)
          clear own3 hst2 rg2 e3 ext2
          simp only [Act.put, List.setIfInBounds_toArray, List.set_cons_zero, List.set_cons_succ]
          repeat (refine lexR_val (pre_onl g) (v := ?_) rfl rfl (fun w' hw' => ?_) ?_; rotate_left; (· go_simp; try with_reducible rfl); simp only [Act.put, List.setIfInBounds_toArray, List.set_cons_zero, List.set_cons_succ])
          refine lexR_call (pre_onl g) 31 #[.pointer (some ⟨g, 0, none⟩)] rfl rfl (by go_simp) ?_
          refine (bool_is g 0 _ is _ rg3 (by simp only [List.length_append, be4_length, be8_length]; omega) (num4_be4 _ _ (by split <;> omega) (by split <;> omega))).mono ?_
          rintro e w4 ⟨rfl, rg4, o4⟩
          refine ⟨_, rfl, o4, ?_⟩
          have rg4' : Rdr w4 g 0 (be8 m ++ rest) := rg4
          have ext4 := ext3.onl o4 hgw
          clear h63 h68 rg3 rg4 o4 ext3
          simp only [Act.put, List.setIfInBounds_toArray, List.set_cons_zero, List.set_cons_succ]
          repeat (refine lexR_val (pre_onl g) (v := ?_) rfl rfl (fun w' hw' => ?_) ?_; rotate_left; (· go_simp; try with_reducible rfl); simp only [Act.put, List.setIfInBounds_toArray, List.set_cons_zero, List.set_cons_succ])
          refine lexR_call (pre_onl g) 29 #[.pointer (some ⟨g, 0, none⟩)] rfl rfl (by go_simp) ?_
          refine (u64_is g 0 _ m _ rg4' (by simp only [List.length_append, be8_length]; omega) (num8_be8 _ _ hm0 hm1)).mono ?_
          rintro e w5 ⟨rfl, rg5, o5⟩
          refine ⟨_, rfl, o5, ?_⟩
          have rg5' : Rdr w5 g 0 rest := rg5
          have ext5 := ext4.onl o5 hgw
          clear rg4' rg5 o5 ext4
          simp only [Act.put, List.setIfInBounds_toArray, List.set_cons_zero, List.set_cons_succ]
          repeat (refine lexR_val (pre_onl g) (v := ?_) rfl rfl (fun w' hw' => ?_) ?_; rotate_left; (· go_simp; try with_reducible rfl); simp only [Act.put, List.setIfInBounds_toArray, List.set_cons_zero, List.set_cons_succ])
          refine lexR_done ?_
          rw [← HR.out] at rg5'
          go_wp2
          go_roundw
          case rel => exact ⟨j + 1, d, by have := HJ.out; omega, by go_num, rg5', ext5⟩
          case measure => simp [intOf]; omega
        · obtain rfl : d = 0 := by omega
          have rg0 : Rdr wr g 0 [] := rg
          have hmod : ((mB : Int) % 4 == 0) = true := by have := HMod.out; simp; omega
          clear rg hjd
          go_wp2_with fail
          refine (end_any g 0 [] _ rg0).mono ?_
          rintro e w1 ⟨rfl, rfl⟩
          have hr0 : rend 0 ([] : List UInt8).length = 0 := rfl
          go_wp2_with fail
          refine (left_any g 0 [] _ rg0).mono ?_
          rintro e w1 ⟨rfl, rfl⟩
          go_wp2_with fail
          refine (lives_any _).mono ?_
          rintro e w1 ⟨rfl, e1⟩
          go_wp2
          go_ret
          exact ⟨rfl, extj.trans e1⟩
set_option maxHeartbeats 4000000 in
theorem round_b (A A2 : Option Addr) (n c n2 c2 : Nat) (m : Int) (is : Bool) (w : World) (X : Nat → Int) (T : Nat → List UInt8) (f : Nat → List UInt8) (hm0 : 0 ≤ m) (hm1 : m < 18446744073709551616)
    (hn : n ≤ c) (hm : c ≤ 2 ^ 63 - 1) (hn2 : n2 ≤ c2) (hm2 : c2 ≤ 2 ^ 63 - 1) (hc5 : n2 ≤ 5) (hcn : n2 < n)
    (HX : Hid (∀ i, i < n → 0 ≤ X i ∧ X i < 4294967296 ∧ ∃ b off, A = some ⟨b, off, none⟩ ∧ b < w.heap.size ∧ w.cell? ⟨b, off + i, none⟩ = some (.int .u32 (X i))))
    (HT0 : Hid (∀ i, (T i).length ≤ 20)) (HT : Hid (∀ i, i < n2 → ∃ b off A' N' c' t, A2 = some ⟨b, off, none⟩ ∧ b < w.heap.size ∧ w.cell? ⟨b, off + i, none⟩ = some (.slice A' N' c') ∧ Sees w A' N' c' (bs t) ∧ t.take 20 = T i))
    (hcl : Hid (∀ k, (cat f k).length ≤ 43 * k ∧ (cat f k).length % 4 = 0)) (HF : Hid (f = rcd X T is m)) :
    Calls Try.prog 5 #[.slice A n c, .slice A2 n2 c2, .int .u64 m, .bool is] w fun e w' => e = .returned (.bool true) ∧ Ext w w' := by
  have hlB : ∀ k, k ≤ n2 → (cat f k).length ≤ 215 := fun k hk => by have := (hcl.out k).1; omega
  have HLB := Lib.hid hlB
  clear hlB
  go_enter Try.func5, Try.ntmps5
  go_wp2_with fail
  go_loopw [9, 11] (fun b i wr => ∃ (k mB : Nat) (B : Option Addr) (cb : Nat), k ≤ n2 ∧ i = .int .i64 k ∧ b = .slice B mB cb ∧ Sees wr B mB cb (bs (cat f k)) ∧ Ext w wr) (fun _ i _ => n2 - (intOf i).toNat)
  case atStart => exact ⟨0, 0, none, 0, by omega, rfl, rfl, Sees.nil _, Ext.refl w⟩
  case round =>
    obtain ⟨k, mB, B, cb, hk, rfl, rfl, seeb, extk⟩ := hrel
    have hmB := seeb.len
    rw [bs_length] at hmB
    have hmb2 := HLB.out k hk
    rw [hmB] at hmb2
    have HMB := Lib.hid hmB
    clear hmB
    by_cases hlt : k < n2
    · have hj1 : k < n := by omega
      have hj2 : k < n2 := by omega
      obtain ⟨hx0, hx1, b1, off1, hA, hb1, hcell⟩ := HX.out k (by omega)
      subst hA
      obtain ⟨b2, off2, A', N', c', t, hA2, hb2, hcell2, seet, ht⟩ := HT.out k (by omega)
      subst hA2
      have hcell := extk.cell hcell
      have HTk := Lib.hid ht
      clear ht
      go_wp2_with fail
      refine (xdr_u32 B mB cb (X k) (cat f k) _ seeb (by omega) (by omega) (by omega)).mono ?_
      rintro e w1 ⟨v1, rfl, own1, ext1⟩
      obtain ⟨B1, cb1, rfl, see1⟩ := Sees.of_own own1
      have ext01 := extk.trans ext1
      have hcell2' := ext01.cell hcell2
      have seet1 := seet.ext ext01
      clear own1 hcell seeb ext1 extk
      go_wp2_with fail
      refine (few_nat A' _ c' _ 20 _ _ seet1 (bs_one _) (by omega) (by omega) rfl).mono ?_
      rintro e w2 ⟨v2, rfl, own2, ext2⟩
      rw [bs_take, HTk.out] at own2
      obtain ⟨B2, cb2, rfl, see2⟩ := Sees.of_own own2
      have see1b := see1.ext ext2
      clear own2 see1 seet1 hcell2'
      go_wp2_with fail
      refine (text_any B1 (mB + 4) cb1 B2 _ cb2 _ (T k) _ see1b see2 (by omega) (by omega)).mono ?_
      rintro e w3 ⟨v3, rfl, own3, ext3⟩
      obtain ⟨B3, cb3, rfl, see3⟩ := Sees.of_own own3
      have htl := txt_le (T k)
      have htk := HT0.out k
      clear own3 see1b see2
      go_wp2_with fail
      refine (bool_any B3 _ cb3 is _ _ see3 (by omega)).mono ?_
      rintro e w4 ⟨v4, rfl, own4, ext4⟩
      obtain ⟨B4, cb4, rfl, see4⟩ := Sees.of_own own4
      clear own4 see3
      go_wp2_with fail
      refine (xdr_u64 B4 _ cb4 m _ _ see4 (by omega) hm0 hm1).mono ?_
      rintro e w5 ⟨v5, rfl, own5, ext5⟩
      have e5 : cat f k ++ be4 (X k) ++ txt (T k) ++ be4 (if is = true then 1 else 0) ++ be8 m = cat f (k + 1) := by
        rw [HF.out]
        simp only [cat, rcd, List.append_assoc]
      rw [e5] at own5
      obtain ⟨B5, cb5, rfl, see5⟩ := Sees.of_own own5
      have ext05 := ext01.trans (ext2.trans (ext3.trans (ext4.trans ext5)))
      clear own5 see4 e5 ext01 ext2 ext3 ext4 ext5
      go_wp2
      go_roundw
      case rel => exact ⟨k + 1, _, B5, cb5, by omega, by go_num, rfl, see5, ext05⟩
      case measure => simp [intOf]; omega
    · have hkK : k = n2 := by omega
      have hmod4 := (hcl.out k).2
      rw [HMB.out] at hmod4
      have HMod := Lib.hid hmod4
      clear hmod4
      go_wp2_with fail
      refine (read_any B mB cb _ _ seeb (by omega)).mono ?_
      rintro e w1 ⟨g, v1, rfl, hg, hbg, own1, ext1⟩
      have rg := Rdr.of_read hbg own1
      rw [cat_zero] at rg
      have hgw : w.heap.size ≤ g := Nat.le_trans extk.size hg
      have ext01 := extk.trans ext1
      clear hbg own1 seeb extk ext1 hg
      go_wp2_with fail
      go_loopw [13] (fun i wr => ∃ (j d : Nat), j + d = n2 ∧ i = .int .i64 j ∧ Rdr wr g 0 (tl f j d) ∧ Ext w wr) (fun i _ => n2 - (intOf i).toNat)
      case atStart => exact ⟨0, k, by omega, rfl, rg, ext01⟩
      case round =>
        clear rg ext01
        obtain ⟨j, d, hjd, rfl, rg, extj⟩ := hrel
        have HJ := Lib.hid hjd
        have hjk : j ≤ n2 := by omega
        by_cases hlt2 : j < n2
        · have hj1 : j < n := by omega
          have hj2 : j < n2 := by omega
          obtain ⟨d, rfl⟩ : ∃ d', d = d' + 1 := ⟨d - 1, by omega⟩
          clear hjd
          have htj := HT0.out j
          have erem : tl f j (d + 1) = be4 (X j) ++ (txt (T j) ++ (be4 (if is then 1 else 0) ++ (be8 m ++ tl f (j + 1) d))) := by
            rw [HF.out]
            simp only [tl, rcd, List.append_assoc]
          rw [erem] at rg
          have hlen : (tl f j (d + 1)).length ≤ 215 := by
            have h1 := HLB.out (j + (d + 1)) (by have := HJ.out; omega)
            rw [cat_tl] at h1
            rw [List.length_append] at h1
            omega
          rw [erem] at hlen
          simp only [List.length_append, be4_length, be8_length] at hlen
          obtain ⟨hx0, hx1, b1, off1, hA, hb1, hcell⟩ := HX.out j (by omega)
          subst hA
          obtain ⟨b2, off2, A', N', c', t, hA2, hb2, hcell2, seet, ht⟩ := HT.out j (by omega)
          subst hA2
          have HTk := Lib.hid ht
          generalize hrest : tl f (j + 1) d = rest at *
          have HR := Lib.hid hrest
          have tr := txt_read (T j) (be4 (if is then 1 else 0) ++ (be8 m ++ rest)) (by omega)
          have HTR := Lib.hid tr
          clear ht erem hrest tr
          have hc1 : ∀ w', Onl g wr.drew w' → w'.cell? ⟨b1, off1 + j, none⟩ = some (.int .u32 (X j)) := fun w' hw => (hw.cell (extj.drew.cell hcell) (show b1 ≠ g by omega))
          have hc2 : ∀ w', Onl g wr.drew w' → w'.cell? ⟨b2, off2 + j, none⟩ = some (.slice A' N' c') := fun w' hw => (hw.cell (extj.drew.cell hcell2) (show b2 ≠ g by omega))
          have hst : Sees wr.drew A' N' c' (bs t) := seet.ext extj.drew
          have hbt : ∀ w', Onl g wr.drew w' → Sees w' A' N' c' (bs t) := fun w' hw => hst.onl (rg.ext (Ext.refl wr).drew) hw
          clear hcell hcell2 seet hst
          go_wp2_with fail
          refine wp_region_ordR (Onl g) [0, 2, 3, 4, 5, 1, 6, 7, 8, 11, 12, 13, 14, 9, 10, 15, 16, 17, 18, 19, 20, 22, 21, 23, 24, 25, 26, 28, 27, 29, 30] [5, 13, 15, 22, 28] (by kernel_rfl) (by kernel_rfl) rfl (by kernel_rfl) ?_
          repeat (refine lexR_val (pre_onl g) (v := ?_) rfl rfl (fun w' hw' => ?_) ?_; rotate_left; (· go_simp; try with_reducible rfl); simp only [Act.put, List.setIfInBounds_toArray, List.set_cons_zero, List.set_cons_succ])
          have rgD := rg.ext (Ext.refl wr).drew
          have extD := extj.drew
          clear rg
          refine lexR_call (pre_onl g) 27 #[.pointer (some ⟨g, 0, none⟩)] rfl rfl (by go_simp) ?_
          refine (u32_is g 0 _ (X j) _ rgD (by simp only [List.length_append, be4_length, be8_length]; omega) (num4_be4 _ _ hx0 hx1)).mono ?_
          rintro e w1 ⟨rfl, rg1, o1⟩
          refine ⟨_, rfl, o1, ?_⟩
          have rg1' : Rdr w1 g 0 (txt (T j) ++ (be4 (if is then 1 else 0) ++ (be8 m ++ rest))) := rg1
          have ext1 := extD.onl o1 hgw
          replace hc2 := fun w' (hw : Onl g w1 w') => hc2 w' (o1.trans hw)
          replace hbt := fun w' (hw : Onl g w1 w') => hbt w' (o1.trans hw)
          clear hc1 rg1 rgD o1 extD
          simp only [Act.put, List.setIfInBounds_toArray, List.set_cons_zero, List.set_cons_succ]
          repeat (refine lexR_val (pre_onl g) (v := ?_) rfl rfl (fun w' hw' => ?_) ?_; rotate_left; (· go_simp; try with_reducible rfl); simp only [Act.put, List.setIfInBounds_toArray, List.set_cons_zero, List.set_cons_succ])
          refine lexR_call (pre_onl g) 33 #[.pointer (some ⟨g, 0, none⟩), .int .i64 20] rfl rfl (by go_simp) ?_
          refine (text_ok g 0 20 _ (T j).length _ rg1' HTR.out.1 HTR.out.2.1 (by omega) HTR.out.2.2.1 (by simp only [List.length_append, be4_length, be8_length]; omega) HTR.out.2.2.2.1).mono ?_
          rintro e w2 ⟨A7, c7, rfl, see7, rg2, o2⟩
          rw [HTR.out.2.2.2.2.1] at see7
          rw [HTR.out.2.2.2.2.2] at rg2
          refine ⟨_, rfl, o2, ?_⟩
          have ext2 := ext1.onl o2 hgw
          have h63 : ∀ w', Onl g w2 w' → _ := fun w' hw => str_of (see7.onl rg2 hw)
          have hst2 := hbt w2 o2
          clear hc2 hbt rg1' o2 ext1
          simp only [Act.put, List.setIfInBounds_toArray, List.set_cons_zero, List.set_cons_succ]
          repeat (refine lexR_val (pre_onl g) (v := ?_) rfl rfl (fun w' hw' => ?_) ?_; rotate_left; (· go_simp; try with_reducible rfl); simp only [Act.put, List.setIfInBounds_toArray, List.set_cons_zero, List.set_cons_succ])
          refine lexR_call (pre_onl g) 15 #[.slice A' N' c', .int .i64 20] rfl rfl (by go_simp) ?_
          refine (few_nat A' N' c' _ 20 _ _ hst2 (bs_one _) (by omega) (by omega) rfl).mono ?_
          rintro e w3 ⟨v3, rfl, own3, e3⟩
          rw [bs_take, HTk.out] at own3
          obtain ⟨A8, c8, rfl, see8⟩ := Sees.of_own own3
          have o3 : Onl g w2 w3 := Onl.of_ext e3
          refine ⟨_, rfl, o3, ?_⟩
          have rg3 := rg2.ext e3
          have ext3 := ext2.trans e3
          replace h63 := fun w' (hw : Onl g w3 w') => h63 w' (o3.trans hw)
          have h68 : ∀ w', Onl g w3 w' → _ := fun w' hw => str_of (see8.onl rg3 hw)
          clear own3 hst2 rg2 e3 ext2
          simp only [Act.put, List.setIfInBounds_toArray, List.set_cons_zero, List.set_cons_succ]
          repeat (refine lexR_val (pre_onl g) (v := ?_) rfl rfl (fun w' hw' => ?_) ?_; rotate_left; (· go_simp; try with_reducible rfl); simp only [Act.put, List.setIfInBounds_toArray, List.set_cons_zero, List.set_cons_succ])
          refine lexR_call (pre_onl g) 31 #[.pointer (some ⟨g, 0, none⟩)] rfl rfl (by go_simp) ?_
          refine (bool_is g 0 _ is _ rg3 (by simp only [List.length_append, be4_length, be8_length]; omega) (num4_be4 _ _ (by split <;> omega) (by split <;> omega))).mono ?_
          rintro e w4 ⟨rfl, rg4, o4⟩
          refine ⟨_, rfl, o4, ?_⟩
          have rg4' : Rdr w4 g 0 (be8 m ++ rest) := rg4
          have ext4 := ext3.onl o4 hgw
          clear h63 h68 rg3 rg4 o4 ext3
          simp only [Act.put, List.setIfInBounds_toArray, List.set_cons_zero, List.set_cons_succ]
          repeat (refine lexR_val (pre_onl g) (v := ?_) rfl rfl (fun w' hw' => ?_) ?_; rotate_left; (· go_simp; try with_reducible rfl); simp only [Act.put, List.setIfInBounds_toArray, List.set_cons_zero, List.set_cons_succ])
          refine lexR_call (pre_onl g) 29 #[.pointer (some ⟨g, 0, none⟩)] rfl rfl (by go_simp) ?_
          refine (u64_is g 0 _ m _ rg4' (by simp only [List.length_append, be8_length]; omega) (num8_be8 _ _ hm0 hm1)).mono ?_
          rintro e w5 ⟨rfl, rg5, o5⟩
          refine ⟨_, rfl, o5, ?_⟩
          have rg5' : Rdr w5 g 0 rest := rg5
          have ext5 := ext4.onl o5 hgw
          clear rg4' rg5 o5 ext4
          simp only [Act.put, List.setIfInBounds_toArray, List.set_cons_zero, List.set_cons_succ]
          repeat (refine lexR_val (pre_onl g) (v := ?_) rfl rfl (fun w' hw' => ?_) ?_; rotate_left; (· go_simp; try with_reducible rfl); simp only [Act.put, List.setIfInBounds_toArray, List.set_cons_zero, List.set_cons_succ])
          refine lexR_done ?_
          rw [← HR.out] at rg5'
          go_wp2
          go_roundw
          case rel => exact ⟨j + 1, d, by have := HJ.out; omega, by go_num, rg5', ext5⟩
          case measure => simp [intOf]; omega
        · obtain rfl : d = 0 := by omega
          have rg0 : Rdr wr g 0 [] := rg
          have hmod : ((mB : Int) % 4 == 0) = true := by have := HMod.out; simp; omega
          clear rg hjd
          go_wp2_with fail
          refine (end_any g 0 [] _ rg0).mono ?_
          rintro e w1 ⟨rfl, rfl⟩
          have hr0 : rend 0 ([] : List UInt8).length = 0 := rfl
          go_wp2_with fail
          refine (left_any g 0 [] _ rg0).mono ?_
          rintro e w1 ⟨rfl, rfl⟩
          go_wp2_with fail
          refine (lives_any _).mono ?_
          rintro e w1 ⟨rfl, e1⟩
          go_wp2
          go_ret
          exact ⟨rfl, extj.trans e1⟩
set_option maxHeartbeats 4000000 in
theorem round_c (A A2 : Option Addr) (n c n2 c2 : Nat) (m : Int) (is : Bool) (w : World) (X : Nat → Int) (T : Nat → List UInt8) (f : Nat → List UInt8) (hm0 : 0 ≤ m) (hm1 : m < 18446744073709551616)
    (hn : n ≤ c) (hm : c ≤ 2 ^ 63 - 1) (hn2 : n2 ≤ c2) (hm2 : c2 ≤ 2 ^ 63 - 1) (hc5 : 5 < n2) (hcn : n ≤ 5)
    (HX : Hid (∀ i, i < n → 0 ≤ X i ∧ X i < 4294967296 ∧ ∃ b off, A = some ⟨b, off, none⟩ ∧ b < w.heap.size ∧ w.cell? ⟨b, off + i, none⟩ = some (.int .u32 (X i))))
    (HT0 : Hid (∀ i, (T i).length ≤ 20)) (HT : Hid (∀ i, i < n2 → ∃ b off A' N' c' t, A2 = some ⟨b, off, none⟩ ∧ b < w.heap.size ∧ w.cell? ⟨b, off + i, none⟩ = some (.slice A' N' c') ∧ Sees w A' N' c' (bs t) ∧ t.take 20 = T i))
    (hcl : Hid (∀ k, (cat f k).length ≤ 43 * k ∧ (cat f k).length % 4 = 0)) (HF : Hid (f = rcd X T is m)) :
    Calls Try.prog 5 #[.slice A n c, .slice A2 n2 c2, .int .u64 m, .bool is] w fun e w' => e = .returned (.bool true) ∧ Ext w w' := by
  have hlB : ∀ k, k ≤ n → (cat f k).length ≤ 215 := fun k hk => by have := (hcl.out k).1; omega
  have HLB := Lib.hid hlB
  clear hlB
  go_enter Try.func5, Try.ntmps5
  go_wp2_with fail
  go_loopw [9, 11] (fun b i wr => ∃ (k mB : Nat) (B : Option Addr) (cb : Nat), k ≤ n ∧ i = .int .i64 k ∧ b = .slice B mB cb ∧ Sees wr B mB cb (bs (cat f k)) ∧ Ext w wr) (fun _ i _ => n - (intOf i).toNat)
  case atStart => exact ⟨0, 0, none, 0, by omega, rfl, rfl, Sees.nil _, Ext.refl w⟩
  case round =>
    obtain ⟨k, mB, B, cb, hk, rfl, rfl, seeb, extk⟩ := hrel
    have hmB := seeb.len
    rw [bs_length] at hmB
    have hmb2 := HLB.out k hk
    rw [hmB] at hmb2
    have HMB := Lib.hid hmB
    clear hmB
    by_cases hlt : k < n
    · have hj1 : k < n := by omega
      have hj2 : k < n2 := by omega
      obtain ⟨hx0, hx1, b1, off1, hA, hb1, hcell⟩ := HX.out k (by omega)
      subst hA
      obtain ⟨b2, off2, A', N', c', t, hA2, hb2, hcell2, seet, ht⟩ := HT.out k (by omega)
      subst hA2
      have hcell := extk.cell hcell
      have HTk := Lib.hid ht
      clear ht
      go_wp2_with fail
      refine (xdr_u32 B mB cb (X k) (cat f k) _ seeb (by omega) (by omega) (by omega)).mono ?_
      rintro e w1 ⟨v1, rfl, own1, ext1⟩
      obtain ⟨B1, cb1, rfl, see1⟩ := Sees.of_own own1
      have ext01 := extk.trans ext1
      have hcell2' := ext01.cell hcell2
      have seet1 := seet.ext ext01
      clear own1 hcell seeb ext1 extk
      go_wp2_with fail
      refine (few_nat A' _ c' _ 20 _ _ seet1 (bs_one _) (by omega) (by omega) rfl).mono ?_
      rintro e w2 ⟨v2, rfl, own2, ext2⟩
      rw [bs_take, HTk.out] at own2
      obtain ⟨B2, cb2, rfl, see2⟩ := Sees.of_own own2
      have see1b := see1.ext ext2
      clear own2 see1 seet1 hcell2'
      go_wp2_with fail
      refine (text_any B1 (mB + 4) cb1 B2 _ cb2 _ (T k) _ see1b see2 (by omega) (by omega)).mono ?_
      rintro e w3 ⟨v3, rfl, own3, ext3⟩
      obtain ⟨B3, cb3, rfl, see3⟩ := Sees.of_own own3
      have htl := txt_le (T k)
      have htk := HT0.out k
      clear own3 see1b see2
      go_wp2_with fail
      refine (bool_any B3 _ cb3 is _ _ see3 (by omega)).mono ?_
      rintro e w4 ⟨v4, rfl, own4, ext4⟩
      obtain ⟨B4, cb4, rfl, see4⟩ := Sees.of_own own4
      clear own4 see3
      go_wp2_with fail
      refine (xdr_u64 B4 _ cb4 m _ _ see4 (by omega) hm0 hm1).mono ?_
      rintro e w5 ⟨v5, rfl, own5, ext5⟩
      have e5 : cat f k ++ be4 (X k) ++ txt (T k) ++ be4 (if is = true then 1 else 0) ++ be8 m = cat f (k + 1) := by
        rw [HF.out]
        simp only [cat, rcd, List.append_assoc]
      rw [e5] at own5
      obtain ⟨B5, cb5, rfl, see5⟩ := Sees.of_own own5
      have ext05 := ext01.trans (ext2.trans (ext3.trans (ext4.trans ext5)))
      clear own5 see4 e5 ext01 ext2 ext3 ext4 ext5
      go_wp2
      go_roundw
      case rel => exact ⟨k + 1, _, B5, cb5, by omega, by go_num, rfl, see5, ext05⟩
      case measure => simp [intOf]; omega
    · have hkK : k = n := by omega
      have hmod4 := (hcl.out k).2
      rw [HMB.out] at hmod4
      have HMod := Lib.hid hmod4
      clear hmod4
      go_wp2_with fail
      refine (read_any B mB cb _ _ seeb (by omega)).mono ?_
      rintro e w1 ⟨g, v1, rfl, hg, hbg, own1, ext1⟩
      have rg := Rdr.of_read hbg own1
      rw [cat_zero] at rg
      have hgw : w.heap.size ≤ g := Nat.le_trans extk.size hg
      have ext01 := extk.trans ext1
      clear hbg own1 seeb extk ext1 hg
      go_wp2_with fail
      go_loopw [13] (fun i wr => ∃ (j d : Nat), j + d = n ∧ i = .int .i64 j ∧ Rdr wr g 0 (tl f j d) ∧ Ext w wr) (fun i _ => n - (intOf i).toNat)
      case atStart => exact ⟨0, k, by omega, rfl, rg, ext01⟩
      case round =>
        clear rg ext01
        obtain ⟨j, d, hjd, rfl, rg, extj⟩ := hrel
        have HJ := Lib.hid hjd
        have hjk : j ≤ n := by omega
        by_cases hlt2 : j < n
        · have hj1 : j < n := by omega
          have hj2 : j < n2 := by omega
          obtain ⟨d, rfl⟩ : ∃ d', d = d' + 1 := ⟨d - 1, by omega⟩
          clear hjd
          have htj := HT0.out j
          have erem : tl f j (d + 1) = be4 (X j) ++ (txt (T j) ++ (be4 (if is then 1 else 0) ++ (be8 m ++ tl f (j + 1) d))) := by
            rw [HF.out]
            simp only [tl, rcd, List.append_assoc]
          rw [erem] at rg
          have hlen : (tl f j (d + 1)).length ≤ 215 := by
            have h1 := HLB.out (j + (d + 1)) (by have := HJ.out; omega)
            rw [cat_tl] at h1
            rw [List.length_append] at h1
            omega
          rw [erem] at hlen
          simp only [List.length_append, be4_length, be8_length] at hlen
          obtain ⟨hx0, hx1, b1, off1, hA, hb1, hcell⟩ := HX.out j (by omega)
          subst hA
          obtain ⟨b2, off2, A', N', c', t, hA2, hb2, hcell2, seet, ht⟩ := HT.out j (by omega)
          subst hA2
          have HTk := Lib.hid ht
          generalize hrest : tl f (j + 1) d = rest at *
          have HR := Lib.hid hrest
          have tr := txt_read (T j) (be4 (if is then 1 else 0) ++ (be8 m ++ rest)) (by omega)
          have HTR := Lib.hid tr
          clear ht erem hrest tr
          have hc1 : ∀ w', Onl g wr.drew w' → w'.cell? ⟨b1, off1 + j, none⟩ = some (.int .u32 (X j)) := fun w' hw => (hw.cell (extj.drew.cell hcell) (show b1 ≠ g by omega))
          have hc2 : ∀ w', Onl g wr.drew w' → w'.cell? ⟨b2, off2 + j, none⟩ = some (.slice A' N' c') := fun w' hw => (hw.cell (extj.drew.cell hcell2) (show b2 ≠ g by omega))
          have hst : Sees wr.drew A' N' c' (bs t) := seet.ext extj.drew
          have hbt : ∀ w', Onl g wr.drew w' → Sees w' A' N' c' (bs t) := fun w' hw => hst.onl (rg.ext (Ext.refl wr).drew) hw
          clear hcell hcell2 seet hst
          go_wp2_with fail
          refine wp_region_ordR (Onl g) [0, 2, 3, 4, 5, 1, 6, 7, 8, 11, 12, 13, 14, 9, 10, 15, 16, 17, 18, 19, 20, 22, 21, 23, 24, 25, 26, 28, 27, 29, 30] [5, 13, 15, 22, 28] (by kernel_rfl) (by kernel_rfl) rfl (by kernel_rfl) ?_
          repeat (refine lexR_val (pre_onl g) (v := ?_) rfl rfl (fun w' hw' => ?_) ?_; rotate_left; (· go_simp; try with_reducible rfl); simp only [Act.put, List.setIfInBounds_toArray, List.set_cons_zero, List.set_cons_succ])
          have rgD := rg.ext (Ext.refl wr).drew
          have extD := extj.drew
          clear rg
          refine lexR_call (pre_onl g) 27 #[.pointer (some ⟨g, 0, none⟩)] rfl rfl (by go_simp) ?_
          refine (u32_is g 0 _ (X j) _ rgD (by simp only [List.length_append, be4_length, be8_length]; omega) (num4_be4 _ _ hx0 hx1)).mono ?_
          rintro e w1 ⟨rfl, rg1, o1⟩
          refine ⟨_, rfl, o1, ?_⟩
          have rg1' : Rdr w1 g 0 (txt (T j) ++ (be4 (if is then 1 else 0) ++ (be8 m ++ rest))) := rg1
          have ext1 := extD.onl o1 hgw
          replace hc2 := fun w' (hw : Onl g w1 w') => hc2 w' (o1.trans hw)
          replace hbt := fun w' (hw : Onl g w1 w') => hbt w' (o1.trans hw)
          clear hc1 rg1 rgD o1 extD
          simp only [Act.put, List.setIfInBounds_toArray, List.set_cons_zero, List.set_cons_succ]
          repeat (refine lexR_val (pre_onl g) (v := ?_) rfl rfl (fun w' hw' => ?_) ?_; rotate_left; (· go_simp; try with_reducible rfl); simp only [Act.put, List.setIfInBounds_toArray, List.set_cons_zero, List.set_cons_succ])
          refine lexR_call (pre_onl g) 33 #[.pointer (some ⟨g, 0, none⟩), .int .i64 20] rfl rfl (by go_simp) ?_
          refine (text_ok g 0 20 _ (T j).length _ rg1' HTR.out.1 HTR.out.2.1 (by omega) HTR.out.2.2.1 (by simp only [List.length_append, be4_length, be8_length]; omega) HTR.out.2.2.2.1).mono ?_
          rintro e w2 ⟨A7, c7, rfl, see7, rg2, o2⟩
          rw [HTR.out.2.2.2.2.1] at see7
          rw [HTR.out.2.2.2.2.2] at rg2
          refine ⟨_, rfl, o2, ?_⟩
          have ext2 := ext1.onl o2 hgw
          have h63 : ∀ w', Onl g w2 w' → _ := fun w' hw => str_of (see7.onl rg2 hw)
          have hst2 := hbt w2 o2
          clear hc2 hbt rg1' o2 ext1
          simp only [Act.put, List.setIfInBounds_toArray, List.set_cons_zero, List.set_cons_succ]
          repeat (refine lexR_val (pre_onl g) (v := ?_) rfl rfl (fun w' hw' => ?_) ?_; rotate_left; (· go_simp; try with_reducible rfl); simp only [Act.put, List.setIfInBounds_toArray, List.set_cons_zero, List.set_cons_succ])
          refine lexR_call (pre_onl g) 15 #[.slice A' N' c', .int .i64 20] rfl rfl (by go_simp) ?_
          refine (few_nat A' N' c' _ 20 _ _ hst2 (bs_one _) (by omega) (by omega) rfl).mono ?_
          rintro e w3 ⟨v3, rfl, own3, e3⟩
          rw [bs_take, HTk.out] at own3
          obtain ⟨A8, c8, rfl, see8⟩ := Sees.of_own own3
          have o3 : Onl g w2 w3 := Onl.of_ext e3
          refine ⟨_, rfl, o3, ?_⟩
          have rg3 := rg2.ext e3
          have ext3 := ext2.trans e3
          replace h63 := fun w' (hw : Onl g w3 w') => h63 w' (o3.trans hw)
          have h68 : ∀ w', Onl g w3 w' → _ := fun w' hw => str_of (see8.onl rg3 hw)
          clear own3 hst2 rg2 e3 ext2
          simp only [Act.put, List.setIfInBounds_toArray, List.set_cons_zero, List.set_cons_succ]
          repeat (refine lexR_val (pre_onl g) (v := ?_) rfl rfl (fun w' hw' => ?_) ?_; rotate_left; (· go_simp; try with_reducible rfl); simp only [Act.put, List.setIfInBounds_toArray, List.set_cons_zero, List.set_cons_succ])
          refine lexR_call (pre_onl g) 31 #[.pointer (some ⟨g, 0, none⟩)] rfl rfl (by go_simp) ?_
          refine (bool_is g 0 _ is _ rg3 (by simp only [List.length_append, be4_length, be8_length]; omega) (num4_be4 _ _ (by split <;> omega) (by split <;> omega))).mono ?_
          rintro e w4 ⟨rfl, rg4, o4⟩
          refine ⟨_, rfl, o4, ?_⟩
          have rg4' : Rdr w4 g 0 (be8 m ++ rest) := rg4
          have ext4 := ext3.onl o4 hgw
          clear h63 h68 rg3 rg4 o4 ext3
          simp only [Act.put, List.setIfInBounds_toArray, List.set_cons_zero, List.set_cons_succ]
          repeat (refine lexR_val (pre_onl g) (v := ?_) rfl rfl (fun w' hw' => ?_) ?_; rotate_left; (· go_simp; try with_reducible rfl); simp only [Act.put, List.setIfInBounds_toArray, List.set_cons_zero, List.set_cons_succ])
          refine lexR_call (pre_onl g) 29 #[.pointer (some ⟨g, 0, none⟩)] rfl rfl (by go_simp) ?_
          refine (u64_is g 0 _ m _ rg4' (by simp only [List.length_append, be8_length]; omega) (num8_be8 _ _ hm0 hm1)).mono ?_
          rintro e w5 ⟨rfl, rg5, o5⟩
          refine ⟨_, rfl, o5, ?_⟩
          have rg5' : Rdr w5 g 0 rest := rg5
          have ext5 := ext4.onl o5 hgw
          clear rg4' rg5 o5 ext4
          simp only [Act.put, List.setIfInBounds_toArray, List.set_cons_zero, List.set_cons_succ]
          repeat (refine lexR_val (pre_onl g) (v := ?_) rfl rfl (fun w' hw' => ?_) ?_; rotate_left; (· go_simp; try with_reducible rfl); simp only [Act.put, List.setIfInBounds_toArray, List.set_cons_zero, List.set_cons_succ])
          refine lexR_done ?_
          rw [← HR.out] at rg5'
          go_wp2
          go_roundw
          case rel => exact ⟨j + 1, d, by have := HJ.out; omega, by go_num, rg5', ext5⟩
          case measure => simp [intOf]; omega
        · obtain rfl : d = 0 := by omega
          have rg0 : Rdr wr g 0 [] := rg
          have hmod : ((mB : Int) % 4 == 0) = true := by have := HMod.out; simp; omega
          clear rg hjd
          go_wp2_with fail
          refine (end_any g 0 [] _ rg0).mono ?_
          rintro e w1 ⟨rfl, rfl⟩
          have hr0 : rend 0 ([] : List UInt8).length = 0 := rfl
          go_wp2_with fail
          refine (left_any g 0 [] _ rg0).mono ?_
          rintro e w1 ⟨rfl, rfl⟩
          go_wp2_with fail
          refine (lives_any _).mono ?_
          rintro e w1 ⟨rfl, e1⟩
          go_wp2
          go_ret
          exact ⟨rfl, extj.trans e1⟩
set_option maxHeartbeats 4000000 in
theorem round_d (A A2 : Option Addr) (n c n2 c2 : Nat) (m : Int) (is : Bool) (w : World) (X : Nat → Int) (T : Nat → List UInt8) (f : Nat → List UInt8) (hm0 : 0 ≤ m) (hm1 : m < 18446744073709551616)
    (hn : n ≤ c) (hm : c ≤ 2 ^ 63 - 1) (hn2 : n2 ≤ c2) (hm2 : c2 ≤ 2 ^ 63 - 1) (hc5 : 5 < n2) (hcn : 5 < n)
    (HX : Hid (∀ i, i < n → 0 ≤ X i ∧ X i < 4294967296 ∧ ∃ b off, A = some ⟨b, off, none⟩ ∧ b < w.heap.size ∧ w.cell? ⟨b, off + i, none⟩ = some (.int .u32 (X i))))
    (HT0 : Hid (∀ i, (T i).length ≤ 20)) (HT : Hid (∀ i, i < n2 → ∃ b off A' N' c' t, A2 = some ⟨b, off, none⟩ ∧ b < w.heap.size ∧ w.cell? ⟨b, off + i, none⟩ = some (.slice A' N' c') ∧ Sees w A' N' c' (bs t) ∧ t.take 20 = T i))
    (hcl : Hid (∀ k, (cat f k).length ≤ 43 * k ∧ (cat f k).length % 4 = 0)) (HF : Hid (f = rcd X T is m)) :
    Calls Try.prog 5 #[.slice A n c, .slice A2 n2 c2, .int .u64 m, .bool is] w fun e w' => e = .returned (.bool true) ∧ Ext w w' := by
  have hlB : ∀ k, k ≤ 5 → (cat f k).length ≤ 215 := fun k hk => by have := (hcl.out k).1; omega
  have HLB := Lib.hid hlB
  clear hlB
  go_enter Try.func5, Try.ntmps5
  go_wp2_with fail
  go_loopw [9, 11] (fun b i wr => ∃ (k mB : Nat) (B : Option Addr) (cb : Nat), k ≤ 5 ∧ i = .int .i64 k ∧ b = .slice B mB cb ∧ Sees wr B mB cb (bs (cat f k)) ∧ Ext w wr) (fun _ i _ => 5 - (intOf i).toNat)
  case atStart => exact ⟨0, 0, none, 0, by omega, rfl, rfl, Sees.nil _, Ext.refl w⟩
  case round =>
    obtain ⟨k, mB, B, cb, hk, rfl, rfl, seeb, extk⟩ := hrel
    have hmB := seeb.len
    rw [bs_length] at hmB
    have hmb2 := HLB.out k hk
    rw [hmB] at hmb2
    have HMB := Lib.hid hmB
    clear hmB
    by_cases hlt : k < 5
    · have hj1 : k < n := by omega
      have hj2 : k < n2 := by omega
      obtain ⟨hx0, hx1, b1, off1, hA, hb1, hcell⟩ := HX.out k (by omega)
      subst hA
      obtain ⟨b2, off2, A', N', c', t, hA2, hb2, hcell2, seet, ht⟩ := HT.out k (by omega)
      subst hA2
      have hcell := extk.cell hcell
      have HTk := Lib.hid ht
      clear ht
      go_wp2_with fail
      refine (xdr_u32 B mB cb (X k) (cat f k) _ seeb (by omega) (by omega) (by omega)).mono ?_
      rintro e w1 ⟨v1, rfl, own1, ext1⟩
      obtain ⟨B1, cb1, rfl, see1⟩ := Sees.of_own own1
      have ext01 := extk.trans ext1
      have hcell2' := ext01.cell hcell2
      have seet1 := seet.ext ext01
      clear own1 hcell seeb ext1 extk
      go_wp2_with fail
      refine (few_nat A' _ c' _ 20 _ _ seet1 (bs_one _) (by omega) (by omega) rfl).mono ?_
      rintro e w2 ⟨v2, rfl, own2, ext2⟩
      rw [bs_take, HTk.out] at own2
      obtain ⟨B2, cb2, rfl, see2⟩ := Sees.of_own own2
      have see1b := see1.ext ext2
      clear own2 see1 seet1 hcell2'
      go_wp2_with fail
      refine (text_any B1 (mB + 4) cb1 B2 _ cb2 _ (T k) _ see1b see2 (by omega) (by omega)).mono ?_
      rintro e w3 ⟨v3, rfl, own3, ext3⟩
      obtain ⟨B3, cb3, rfl, see3⟩ := Sees.of_own own3
      have htl := txt_le (T k)
      have htk := HT0.out k
      clear own3 see1b see2
      go_wp2_with fail
      refine (bool_any B3 _ cb3 is _ _ see3 (by omega)).mono ?_
      rintro e w4 ⟨v4, rfl, own4, ext4⟩
      obtain ⟨B4, cb4, rfl, see4⟩ := Sees.of_own own4
      clear own4 see3
      go_wp2_with fail
      refine (xdr_u64 B4 _ cb4 m _ _ see4 (by omega) hm0 hm1).mono ?_
      rintro e w5 ⟨v5, rfl, own5, ext5⟩
      have e5 : cat f k ++ be4 (X k) ++ txt (T k) ++ be4 (if is = true then 1 else 0) ++ be8 m = cat f (k + 1) := by
        rw [HF.out]
        simp only [cat, rcd, List.append_assoc]
      rw [e5] at own5
      obtain ⟨B5, cb5, rfl, see5⟩ := Sees.of_own own5
      have ext05 := ext01.trans (ext2.trans (ext3.trans (ext4.trans ext5)))
      clear own5 see4 e5 ext01 ext2 ext3 ext4 ext5
      go_wp2
      go_roundw
      case rel => exact ⟨k + 1, _, B5, cb5, by omega, by go_num, rfl, see5, ext05⟩
      case measure => simp [intOf]; omega
    · have hkK : k = 5 := by omega
      have hmod4 := (hcl.out k).2
      rw [HMB.out] at hmod4
      have HMod := Lib.hid hmod4
      clear hmod4
      go_wp2_with fail
      refine (read_any B mB cb _ _ seeb (by omega)).mono ?_
      rintro e w1 ⟨g, v1, rfl, hg, hbg, own1, ext1⟩
      have rg := Rdr.of_read hbg own1
      rw [cat_zero] at rg
      have hgw : w.heap.size ≤ g := Nat.le_trans extk.size hg
      have ext01 := extk.trans ext1
      clear hbg own1 seeb extk ext1 hg
      go_wp2_with fail
      go_loopw [13] (fun i wr => ∃ (j d : Nat), j + d = 5 ∧ i = .int .i64 j ∧ Rdr wr g 0 (tl f j d) ∧ Ext w wr) (fun i _ => 5 - (intOf i).toNat)
      case atStart => exact ⟨0, k, by omega, rfl, rg, ext01⟩
      case round =>
        clear rg ext01
        obtain ⟨j, d, hjd, rfl, rg, extj⟩ := hrel
        have HJ := Lib.hid hjd
        have hjk : j ≤ 5 := by omega
        by_cases hlt2 : j < 5
        · have hj1 : j < n := by omega
          have hj2 : j < n2 := by omega
          obtain ⟨d, rfl⟩ : ∃ d', d = d' + 1 := ⟨d - 1, by omega⟩
          clear hjd
          have htj := HT0.out j
          have erem : tl f j (d + 1) = be4 (X j) ++ (txt (T j) ++ (be4 (if is then 1 else 0) ++ (be8 m ++ tl f (j + 1) d))) := by
            rw [HF.out]
            simp only [tl, rcd, List.append_assoc]
          rw [erem] at rg
          have hlen : (tl f j (d + 1)).length ≤ 215 := by
            have h1 := HLB.out (j + (d + 1)) (by have := HJ.out; omega)
            rw [cat_tl] at h1
            rw [List.length_append] at h1
            omega
          rw [erem] at hlen
          simp only [List.length_append, be4_length, be8_length] at hlen
          obtain ⟨hx0, hx1, b1, off1, hA, hb1, hcell⟩ := HX.out j (by omega)
          subst hA
          obtain ⟨b2, off2, A', N', c', t, hA2, hb2, hcell2, seet, ht⟩ := HT.out j (by omega)
          subst hA2
          have HTk := Lib.hid ht
          generalize hrest : tl f (j + 1) d = rest at *
          have HR := Lib.hid hrest
          have tr := txt_read (T j) (be4 (if is then 1 else 0) ++ (be8 m ++ rest)) (by omega)
          have HTR := Lib.hid tr
          clear ht erem hrest tr
          have hc1 : ∀ w', Onl g wr.drew w' → w'.cell? ⟨b1, off1 + j, none⟩ = some (.int .u32 (X j)) := fun w' hw => (hw.cell (extj.drew.cell hcell) (show b1 ≠ g by omega))
          have hc2 : ∀ w', Onl g wr.drew w' → w'.cell? ⟨b2, off2 + j, none⟩ = some (.slice A' N' c') := fun w' hw => (hw.cell (extj.drew.cell hcell2) (show b2 ≠ g by omega))
          have hst : Sees wr.drew A' N' c' (bs t) := seet.ext extj.drew
          have hbt : ∀ w', Onl g wr.drew w' → Sees w' A' N' c' (bs t) := fun w' hw => hst.onl (rg.ext (Ext.refl wr).drew) hw
          clear hcell hcell2 seet hst
          go_wp2_with fail
          refine wp_region_ordR (Onl g) [0, 2, 3, 4, 5, 1, 6, 7, 8, 11, 12, 13, 14, 9, 10, 15, 16, 17, 18, 19, 20, 22, 21, 23, 24, 25, 26, 28, 27, 29, 30] [5, 13, 15, 22, 28] (by kernel_rfl) (by kernel_rfl) rfl (by kernel_rfl) ?_
          repeat (refine lexR_val (pre_onl g) (v := ?_) rfl rfl (fun w' hw' => ?_) ?_; rotate_left; (· go_simp; try with_reducible rfl); simp only [Act.put, List.setIfInBounds_toArray, List.set_cons_zero, List.set_cons_succ])
          have rgD := rg.ext (Ext.refl wr).drew
          have extD := extj.drew
          clear rg
          refine lexR_call (pre_onl g) 27 #[.pointer (some ⟨g, 0, none⟩)] rfl rfl (by go_simp) ?_
          refine (u32_is g 0 _ (X j) _ rgD (by simp only [List.length_append, be4_length, be8_length]; omega) (num4_be4 _ _ hx0 hx1)).mono ?_
          rintro e w1 ⟨rfl, rg1, o1⟩
          refine ⟨_, rfl, o1, ?_⟩
          have rg1' : Rdr w1 g 0 (txt (T j) ++ (be4 (if is then 1 else 0) ++ (be8 m ++ rest))) := rg1
          have ext1 := extD.onl o1 hgw
          replace hc2 := fun w' (hw : Onl g w1 w') => hc2 w' (o1.trans hw)
          replace hbt := fun w' (hw : Onl g w1 w') => hbt w' (o1.trans hw)
          clear hc1 rg1 rgD o1 extD
          simp only [Act.put, List.setIfInBounds_toArray, List.set_cons_zero, List.set_cons_succ]
          repeat (refine lexR_val (pre_onl g) (v := ?_) rfl rfl (fun w' hw' => ?_) ?_; rotate_left; (· go_simp; try with_reducible rfl); simp only [Act.put, List.setIfInBounds_toArray, List.set_cons_zero, List.set_cons_succ])
          refine lexR_call (pre_onl g) 33 #[.pointer (some ⟨g, 0, none⟩), .int .i64 20] rfl rfl (by go_simp) ?_
          refine (text_ok g 0 20 _ (T j).length _ rg1' HTR.out.1 HTR.out.2.1 (by omega) HTR.out.2.2.1 (by simp only [List.length_append, be4_length, be8_length]; omega) HTR.out.2.2.2.1).mono ?_
          rintro e w2 ⟨A7, c7, rfl, see7, rg2, o2⟩
          rw [HTR.out.2.2.2.2.1] at see7
          rw [HTR.out.2.2.2.2.2] at rg2
          refine ⟨_, rfl, o2, ?_⟩
          have ext2 := ext1.onl o2 hgw
          have h63 : ∀ w', Onl g w2 w' → _ := fun w' hw => str_of (see7.onl rg2 hw)
          have hst2 := hbt w2 o2
          clear hc2 hbt rg1' o2 ext1
          simp only [Act.put, List.setIfInBounds_toArray, List.set_cons_zero, List.set_cons_succ]
          repeat (refine lexR_val (pre_onl g) (v := ?_) rfl rfl (fun w' hw' => ?_) ?_; rotate_left; (· go_simp; try with_reducible rfl); simp only [Act.put, List.setIfInBounds_toArray, List.set_cons_zero, List.set_cons_succ])
          refine lexR_call (pre_onl g) 15 #[.slice A' N' c', .int .i64 20] rfl rfl (by go_simp) ?_
          refine (few_nat A' N' c' _ 20 _ _ hst2 (bs_one _) (by omega) (by omega) rfl).mono ?_
          rintro e w3 ⟨v3, rfl, own3, e3⟩
          rw [bs_take, HTk.out] at own3
          obtain ⟨A8, c8, rfl, see8⟩ := Sees.of_own own3
          have o3 : Onl g w2 w3 := Onl.of_ext e3
          refine ⟨_, rfl, o3, ?_⟩
          have rg3 := rg2.ext e3
          have ext3 := ext2.trans e3
          replace h63 := fun w' (hw : Onl g w3 w') => h63 w' (o3.trans hw)
          have h68 : ∀ w', Onl g w3 w' → _ := fun w' hw => str_of (see8.onl rg3 hw)
          clear own3 hst2 rg2 e3 ext2
          simp only [Act.put, List.setIfInBounds_toArray, List.set_cons_zero, List.set_cons_succ]
          repeat (refine lexR_val (pre_onl g) (v := ?_) rfl rfl (fun w' hw' => ?_) ?_; rotate_left; (· go_simp; try with_reducible rfl); simp only [Act.put, List.setIfInBounds_toArray, List.set_cons_zero, List.set_cons_succ])
          refine lexR_call (pre_onl g) 31 #[.pointer (some ⟨g, 0, none⟩)] rfl rfl (by go_simp) ?_
          refine (bool_is g 0 _ is _ rg3 (by simp only [List.length_append, be4_length, be8_length]; omega) (num4_be4 _ _ (by split <;> omega) (by split <;> omega))).mono ?_
          rintro e w4 ⟨rfl, rg4, o4⟩
          refine ⟨_, rfl, o4, ?_⟩
          have rg4' : Rdr w4 g 0 (be8 m ++ rest) := rg4
          have ext4 := ext3.onl o4 hgw
          clear h63 h68 rg3 rg4 o4 ext3
          simp only [Act.put, List.setIfInBounds_toArray, List.set_cons_zero, List.set_cons_succ]
          repeat (refine lexR_val (pre_onl g) (v := ?_) rfl rfl (fun w' hw' => ?_) ?_; rotate_left; (· go_simp; try with_reducible rfl); simp only [Act.put, List.setIfInBounds_toArray, List.set_cons_zero, List.set_cons_succ])
          refine lexR_call (pre_onl g) 29 #[.pointer (some ⟨g, 0, none⟩)] rfl rfl (by go_simp) ?_
          refine (u64_is g 0 _ m _ rg4' (by simp only [List.length_append, be8_length]; omega) (num8_be8 _ _ hm0 hm1)).mono ?_
          rintro e w5 ⟨rfl, rg5, o5⟩
          refine ⟨_, rfl, o5, ?_⟩
          have rg5' : Rdr w5 g 0 rest := rg5
          have ext5 := ext4.onl o5 hgw
          clear rg4' rg5 o5 ext4
          simp only [Act.put, List.setIfInBounds_toArray, List.set_cons_zero, List.set_cons_succ]
          repeat (refine lexR_val (pre_onl g) (v := ?_) rfl rfl (fun w' hw' => ?_) ?_; rotate_left; (· go_simp; try with_reducible rfl); simp only [Act.put, List.setIfInBounds_toArray, List.set_cons_zero, List.set_cons_succ])
          refine lexR_done ?_
          rw [← HR.out] at rg5'
          go_wp2
          go_roundw
          case rel => exact ⟨j + 1, d, by have := HJ.out; omega, by go_num, rg5', ext5⟩
          case measure => simp [intOf]; omega
        · obtain rfl : d = 0 := by omega
          have rg0 : Rdr wr g 0 [] := rg
          have hmod : ((mB : Int) % 4 == 0) = true := by have := HMod.out; simp; omega
          clear rg hjd
          go_wp2_with fail
          refine (end_any g 0 [] _ rg0).mono ?_
          rintro e w1 ⟨rfl, rfl⟩
          have hr0 : rend 0 ([] : List UInt8).length = 0 := rfl
          go_wp2_with fail
          refine (left_any g 0 [] _ rg0).mono ?_
          rintro e w1 ⟨rfl, rfl⟩
          go_wp2_with fail
          refine (lives_any _).mono ?_
          rintro e w1 ⟨rfl, e1⟩
          go_wp2
          go_ret
          exact ⟨rfl, extj.trans e1⟩

theorem round_walk (A A2 : Option Addr) (n c n2 c2 : Nat) (z : List Int) (rows : List (List Int)) (m : Int) (is : Bool) (w : World)
    (hs : Sees w A n c (z.map (Value.int .u32))) (hq : ∀ x ∈ z, (Lit.int .u32 x).wf = true) (hs2 : SeesRows .u8 w A2 n2 c2 rows) (hm : (Lit.int .u64 m).wf = true) :
    Calls Try.prog 5 #[.slice A n c, .slice A2 n2 c2, .int .u64 m, .bool is] w fun e w' => e = .returned (.bool true) ∧ Ext w w' := by
  have hm0 : 0 ≤ m ∧ m < 18446744073709551616 := by have := bounds_u64 hm; omega
  have hzl := hs.len
  rw [List.length_map] at hzl
  have HX : Hid (∀ i, i < n → 0 ≤ z.getD i 0 ∧ z.getD i 0 < 4294967296 ∧ ∃ b off, A = some ⟨b, off, none⟩ ∧ b < w.heap.size ∧ w.cell? ⟨b, off + i, none⟩ = some (.int .u32 (z.getD i 0))) := Lib.hid fun i hi => by
    obtain ⟨b, off, u, hA, hu, hc, hb⟩ := hs.at_ hi
    have hiz : i < z.length := by omega
    have hg : z.getD i 0 = z[i] := by simp [List.getD, List.getElem?_eq_getElem hiz]
    have hu' : u = .int .u32 (z.getD i 0) := by
      rw [List.getElem?_map, List.getElem?_eq_getElem hiz] at hu
      rw [hg]
      simpa using hu.symm
    have hw := hq (z.getD i 0) (by rw [hg]; exact List.getElem_mem hiz)
    have hw := bounds_u32 hw
    exact ⟨by omega, by omega, b, off, hA, hb, by rw [← hu']; exact hc⟩
  have HT0 : Hid (∀ i, (((rows.getD i []).map fun x => UInt8.ofNat x.toNat).take 20).length ≤ 20) := Lib.hid fun i => by rw [List.length_take]; omega
  have HT : Hid (∀ i, i < n2 → ∃ b off A' N' c' t, A2 = some ⟨b, off, none⟩ ∧ b < w.heap.size ∧ w.cell? ⟨b, off + i, none⟩ = some (.slice A' N' c') ∧ Sees w A' N' c' (bs t) ∧ t.take 20 = (((rows.getD i []).map fun x => UInt8.ofNat x.toNat).take 20)) := Lib.hid fun i hi => by
    obtain ⟨b, off, A', c', r, hA, hr, hcell, seer, hqr⟩ := hs2.at_ i hi
    rw [ints_bytes hqr] at seer
    have hb := World.block_lt_of_cell? w ⟨b, off + i, none⟩ hcell
    exact ⟨b, off, A', _, c', _, hA, hb, hcell, seer, by simp [List.getD, hr]⟩
  have hcl : Hid (∀ k, (cat (rcd (fun i => z.getD i 0) (fun i => ((rows.getD i []).map fun x => UInt8.ofNat x.toNat).take 20) is m) k).length ≤ 43 * k ∧ (cat (rcd (fun i => z.getD i 0) (fun i => ((rows.getD i []).map fun x => UInt8.ofNat x.toNat).take 20) is m) k).length % 4 = 0) := Lib.hid fun k => cat_le _ _ is m HT0.out k
  have hn := hs.le
  have hn2 := hs2.2.1
  have hx1 := hs.max
  have hx2 := hs2.2.2.1
  unfold maxLen at hx1 hx2
  by_cases h5 : n2 ≤ 5
  · by_cases hnn : n ≤ n2
    · exact round_a A A2 n c n2 c2 m is w _ _ _ hm0.1 hm0.2 hn hx1 hn2 hx2 h5 hnn HX HT0 HT hcl (Lib.hid rfl)
    · exact round_b A A2 n c n2 c2 m is w _ _ _ hm0.1 hm0.2 hn hx1 hn2 hx2 h5 (by omega) HX HT0 HT hcl (Lib.hid rfl)
  · by_cases hnn : n ≤ 5
    · exact round_c A A2 n c n2 c2 m is w _ _ _ hm0.1 hm0.2 hn hx1 hn2 hx2 (by omega) hnn HX HT0 HT hcl (Lib.hid rfl)
    · exact round_d A A2 n c n2 c2 m is w _ _ _ hm0.1 hm0.2 hn hx1 hn2 hx2 (by omega) (by omega) HX HT0 HT hcl (Lib.hid rfl)
end Go.Proofs.Ytefkjoooecphaaa
