/-
  The statement XdrPuts: its walk.
-/
import Derived.Test.YtefkjoooecphaaaXdrC
namespace Go.Proofs.Ytefkjoooecphaaa
open Go Go.RowKit
set_option linter.unusedVariables false
set_option linter.unusedSimpArgs false

theorem puts_walk (A A2 : Option Addr) (n c n2 c2 : Nat) (l s : List UInt8) (x m : Int) (is : Bool) (w : World) (hs : Sees w A n c (bs l)) (hs2 : Sees w A2 n2 c2 (bs s))
    (hx0 : 0 ≤ x) (hx1 : x < 4294967296) (hm0 : 0 ≤ m) (hm1 : m < 18446744073709551616) :
    Calls Try.prog 3 #[.slice A n c, .int .u32 x, .int .u64 m, .slice A2 n2 c2, .bool is] w fun e w' => e = .returned (.bool true) ∧ Ext w w' := by
  go_enter Try.func3, Try.ntmps3
  go_wp2_with fail
  refine (few_nat A n c _ 8 _ _ hs (bs_one _) (by omega) (by omega) rfl).mono ?_
  rintro e w1 ⟨v1, rfl, own1, ext1⟩
  rw [bs_take] at own1
  obtain ⟨A1, c1, rfl, see1⟩ := Sees.of_own own1
  go_wp2_with fail
  refine (few_nat A2 n2 c2 _ 40 _ _ (hs2.ext ext1) (bs_one _) (by omega) (by omega) rfl).mono ?_
  rintro e w2 ⟨v2, rfl, own2, ext2⟩
  rw [bs_take] at own2
  obtain ⟨A2', c2', rfl, see2⟩ := Sees.of_own own2
  have see1' := see1.ext ext2
  have hst1 := str_of see1'
  go_wp2_with fail
  refine (xdr_u32 _ _ _ _ _ _ see1' (by omega) (by omega) (by omega)).mono ?_
  rintro e w3 ⟨v3, rfl, own3, ext3⟩
  clear hst1
  go_wp2_with fail
  refine (xdr_u64 _ _ _ _ _ _ (see1'.ext ext3) (by omega) (by omega) (by omega)).mono ?_
  rintro e w4 ⟨v4, rfl, own4, ext4⟩
  go_wp2_with fail
  refine (text_any _ _ _ _ _ _ _ _ _ (see1'.ext (ext3.trans ext4)) (see2.ext (ext3.trans ext4)) (by omega) (by omega)).mono ?_
  rintro e w5 ⟨v5, rfl, own5, ext5⟩
  go_wp2_with fail
  refine (bool_any _ _ _ _ _ _ (see1'.ext ((ext3.trans ext4).trans ext5)) (by omega)).mono ?_
  rintro e w6 ⟨v6, rfl, own6, ext6⟩
  go_wp2_with fail
  have e3 := (ext4.trans ext5).trans ext6
  obtain ⟨A3, c3, rfl, see3⟩ := Sees.of_own (own_ext own3 e3)
  obtain ⟨A4, c4, rfl, see4⟩ := Sees.of_own (own_ext own4 (ext5.trans ext6))
  obtain ⟨A5, c5, rfl, see5⟩ := Sees.of_own (own_ext own5 ext6)
  obtain ⟨A6, c6, rfl, see6⟩ := Sees.of_own own6
  have seeT := (see2.ext (ext3.trans e3)).drew
  have seeO := see1'.ext (ext3.trans e3)
  have hE : Ext w w6 := ((ext1.trans ext2).trans ext3).trans e3
  have hlo : (l.take 8).length ≤ 8 := List.length_take_le _ _
  have hlt : (s.take 40).length ≤ 40 := List.length_take_le _ _
  generalize l.take 8 = own at *
  generalize s.take 40 = txts at *
  clear own1 own2 own3 own4 own5 own6 ext1 ext2 ext3 ext4 ext5 ext6 e3 see1 see1' see2 hs hs2
  have h3 : ∀ w', Ext w6.drew w' → _ := fun w' hw => str_of (see3.drew.ext hw)
  have h4 : ∀ w', Ext w6.drew w' → _ := fun w' hw => str_of (see4.drew.ext hw)
  have h5 : ∀ w', Ext w6.drew w' → _ := fun w' hw => str_of (see5.drew.ext hw)
  have h6 : ∀ w', Ext w6.drew w' → _ := fun w' hw => str_of (see6.drew.ext hw)
  have hO : ∀ w', Ext w6.drew w' → _ := fun w' hw => str_of (seeO.drew.ext hw)
  refine wp_region_lex [4, 13, 23, 33, 45] (by kernel_rfl) (by kernel_rfl) (by kernel_rfl) ?_
  repeat (refine lex_val (v := ?_) rfl rfl (fun w' hw' => ?_) ?_; rotate_left; (· go_simp; try with_reducible rfl); simp only [Act.put, List.setIfInBounds_toArray, List.set_cons_zero, List.set_cons_succ])
  refine lex_call 20 #[.int .u32 x] rfl rfl (by go_simp) ?_
  refine (ref_u32 x _ hx0 hx1).mono ?_
  rintro e w7 ⟨v7, rfl, own7, ext7⟩
  obtain ⟨A7, c7, rfl, see7⟩ := Sees.of_own own7
  refine ⟨_, rfl, ext7, ?_⟩
  simp only [Act.put, List.setIfInBounds_toArray, List.set_cons_zero, List.set_cons_succ]
  have h7 : ∀ w', Ext w7 w' → _ := fun w' hw => str_of (see7.ext hw)
  replace h4 := fun w' (hw : Ext w7 w') => h4 w' (ext7.trans hw)
  replace h5 := fun w' (hw : Ext w7 w') => h5 w' (ext7.trans hw)
  replace h6 := fun w' (hw : Ext w7 w') => h6 w' (ext7.trans hw)
  replace hO := fun w' (hw : Ext w7 w') => hO w' (ext7.trans hw)
  repeat (refine lex_val (v := ?_) rfl rfl (fun w' hw' => ?_) ?_; rotate_left; (· go_simp; try with_reducible rfl); simp only [Act.put, List.setIfInBounds_toArray, List.set_cons_zero, List.set_cons_succ])
  refine lex_add _ _ rfl rfl rfl rfl ?_ ?_
  · rw [be4_length]; omega
  simp only [Act.put, List.setIfInBounds_toArray, List.set_cons_zero, List.set_cons_succ]
  refine lex_eqs _ _ rfl rfl rfl rfl rfl ?_
  simp only [Act.put, List.setIfInBounds_toArray, List.set_cons_zero, List.set_cons_succ]
  repeat (refine lex_val (v := ?_) rfl rfl (fun w' hw' => ?_) ?_; rotate_left; (· go_simp; try with_reducible rfl); simp only [Act.put, List.setIfInBounds_toArray, List.set_cons_zero, List.set_cons_succ])
  refine lex_call 21 #[.int .u64 m] rfl rfl (by go_simp) ?_
  refine (ref_u64 m _ hm0 hm1).mono ?_
  rintro e w8 ⟨v8, rfl, own8, ext8⟩
  obtain ⟨A8, c8, rfl, see8⟩ := Sees.of_own own8
  refine ⟨_, rfl, ext8, ?_⟩
  simp only [Act.put, List.setIfInBounds_toArray, List.set_cons_zero, List.set_cons_succ]
  have h8 : ∀ w', Ext w8 w' → _ := fun w' hw => str_of (see8.ext hw)
  replace h5 := fun w' (hw : Ext w8 w') => h5 w' (ext8.trans hw)
  replace h6 := fun w' (hw : Ext w8 w') => h6 w' (ext8.trans hw)
  replace hO := fun w' (hw : Ext w8 w') => hO w' (ext8.trans hw)
  clear h4 h7
  repeat (refine lex_val (v := ?_) rfl rfl (fun w' hw' => ?_) ?_; rotate_left; (· go_simp; try with_reducible rfl); simp only [Act.put, List.setIfInBounds_toArray, List.set_cons_zero, List.set_cons_succ])
  refine lex_add _ _ rfl rfl rfl rfl ?_ ?_
  · rw [be8_length]; omega
  simp only [Act.put, List.setIfInBounds_toArray, List.set_cons_zero, List.set_cons_succ]
  refine lex_eqs _ _ rfl rfl rfl rfl rfl ?_
  simp only [Act.put, List.setIfInBounds_toArray, List.set_cons_zero, List.set_cons_succ]
  repeat (refine lex_val (v := ?_) rfl rfl (fun w' hw' => ?_) ?_; rotate_left; (· go_simp; try with_reducible rfl); simp only [Act.put, List.setIfInBounds_toArray, List.set_cons_zero, List.set_cons_succ])
  refine lex_call 22 #[.slice A2' (min n2 40) c2'] rfl rfl (by go_simp) ?_
  refine (ref_text A2' _ c2' txts _ (seeT.ext (ext7.trans ext8)) (by omega)).mono ?_
  rintro e w9 ⟨v9, rfl, own9, ext9⟩
  obtain ⟨A9, c9, rfl, see9⟩ := Sees.of_own own9
  refine ⟨_, rfl, ext9, ?_⟩
  simp only [Act.put, List.setIfInBounds_toArray, List.set_cons_zero, List.set_cons_succ]
  have h9 : ∀ w', Ext w9 w' → _ := fun w' hw => str_of (see9.ext hw)
  replace h6 := fun w' (hw : Ext w9 w') => h6 w' (ext9.trans hw)
  replace hO := fun w' (hw : Ext w9 w') => hO w' (ext9.trans hw)
  clear h5 h8
  repeat (refine lex_val (v := ?_) rfl rfl (fun w' hw' => ?_) ?_; rotate_left; (· go_simp; try with_reducible rfl); simp only [Act.put, List.setIfInBounds_toArray, List.set_cons_zero, List.set_cons_succ])
  refine lex_add _ _ rfl rfl rfl rfl ?_ ?_
  · have := txt_le txts; omega
  simp only [Act.put, List.setIfInBounds_toArray, List.set_cons_zero, List.set_cons_succ]
  refine lex_eqs _ _ rfl rfl rfl rfl rfl ?_
  simp only [Act.put, List.setIfInBounds_toArray, List.set_cons_zero, List.set_cons_succ]
  repeat (refine lex_val (v := ?_) rfl rfl (fun w' hw' => ?_) ?_; rotate_left; (· go_simp; try with_reducible rfl); simp only [Act.put, List.setIfInBounds_toArray, List.set_cons_zero, List.set_cons_succ])
  refine lex_call 23 #[.bool is] rfl rfl (by go_simp) ?_
  refine (ref_bool is _).mono ?_
  rintro e w10 ⟨v10, rfl, own10, ext10⟩
  obtain ⟨A10, c10, rfl, see10⟩ := Sees.of_own own10
  refine ⟨_, rfl, ext10, ?_⟩
  simp only [Act.put, List.setIfInBounds_toArray, List.set_cons_zero, List.set_cons_succ]
  have h10 : ∀ w', Ext w10 w' → _ := fun w' hw => str_of (see10.ext hw)
  replace hO := fun w' (hw : Ext w10 w') => hO w' (ext10.trans hw)
  clear h6 h9
  repeat (refine lex_val (v := ?_) rfl rfl (fun w' hw' => ?_) ?_; rotate_left; (· go_simp; try with_reducible rfl); simp only [Act.put, List.setIfInBounds_toArray, List.set_cons_zero, List.set_cons_succ])
  refine lex_add _ _ rfl rfl rfl rfl ?_ ?_
  · rw [be4_length]; omega
  simp only [Act.put, List.setIfInBounds_toArray, List.set_cons_zero, List.set_cons_succ]
  refine lex_eqs _ _ rfl rfl rfl rfl rfl ?_
  simp only [Act.put, List.setIfInBounds_toArray, List.set_cons_zero, List.set_cons_succ]
  repeat (refine lex_val (v := ?_) rfl rfl (fun w' hw' => ?_) ?_; rotate_left; (· go_simp; try with_reducible rfl); simp only [Act.put, List.setIfInBounds_toArray, List.set_cons_zero, List.set_cons_succ])
  refine lex_call 24 #[] rfl rfl (by go_simp) ?_
  refine (lives_any _).mono ?_
  rintro e w11 ⟨rfl, ext11⟩
  refine ⟨_, rfl, ext11, ?_⟩
  simp only [Act.put, List.setIfInBounds_toArray, List.set_cons_zero, List.set_cons_succ]
  repeat (refine lex_val (v := ?_) rfl rfl (fun w' hw' => ?_) ?_; rotate_left; (· go_simp; try with_reducible rfl); simp only [Act.put, List.setIfInBounds_toArray, List.set_cons_zero, List.set_cons_succ])
  refine lex_done ?_
  have hF : Ext w w11 := hE.trans ((Ext.refl w6).drew.trans ((((ext7.trans ext8).trans ext9).trans ext10).trans ext11))
  go_wp2
  all_goals
    go_ret
    exact ⟨rfl, hF⟩
