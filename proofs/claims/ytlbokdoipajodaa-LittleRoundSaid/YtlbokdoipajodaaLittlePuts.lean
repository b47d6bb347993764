/-
  The statement LittlePuts: its walk.
-/
import Derived.Test.YtlbokdoipajodaaLitB
import Derived.Test.YtlbokdoipajodaaOrd
import Derived.Test.YtlbokdoipajodaaRws
namespace Go.Proofs.Ytlbokdoipajodaa
open Go Go.RowKit
set_option linter.unusedVariables false
set_option linter.unusedSimpArgs false

theorem le_mod : ∀ (k x : Nat), le k (x % 256 ^ k) = le k x
  | 0, _ => rfl
  | k + 1, x => by
    have h1 : x % 256 ^ (k + 1) % 256 = x % 256 := by
      rw [Nat.pow_succ, Nat.mul_comm, Nat.mod_mul_right_mod]
    have h2 : x % 256 ^ (k + 1) / 256 = x / 256 % 256 ^ k := by
      rw [Nat.pow_succ, Nat.mul_comm, Nat.mod_mul_right_div_self]
    have h3 := le_mod k (x / 256)
    simp only [le, h1, h2, h3]
section
variable {P : Program} {ops : Array Oper} {Q : Exit → Act → World → Prop} {al : List Nat} {k : Nat} {rest : List Oper} {act : Act} {w : World}
variable {dst : Option Tmp} {x y : Operand} {t t2 ty : TypeId} {ps : String} {af : Array Edge} {g : Option (Nat × Bool)}
theorem lex_neqs (a b : List UInt8) (hc : al.contains k = false) (hw : Region.wanted ⟨dst, .binOp .neq t x y t2, ty, ps, af, g⟩ (yielded ops act.tmps) = true)
    (hx : act.eval x = .string ⟨a.toArray⟩) (hy : act.eval y = .string ⟨b.toArray⟩) (hab : a = b)
    (hk : wpLex P ops Q al (k + 1) rest (act.put dst (.bool false)) w) : wpLex P ops Q al k (⟨dst, .binOp .neq t x y t2, ty, ps, af, g⟩ :: rest) act w :=
  lex_val _ hc hw (fun w' _ => by
    subst hab
    simp [execOp, hx, hy, binOp_string_neq, eqGuard]) hk
end
set_option maxHeartbeats 2000000 in
theorem lputs_walk (A A2 : Option Addr) (n c n2 c2 : Nat) (l s : List UInt8) (x kind tag : Nat) (w : World) (hs : Sees w A n c (bs l)) (hs2 : Sees w A2 n2 c2 (bs s))
    (hx : x < 18446744073709551616) (hk : kind < 256) (htg : tag < 65536) :
    Calls Try.prog 3 #[.slice A n c, .int .u64 (x : Int), .slice A2 n2 c2, .int .u8 (kind : Int), .int .u16 (tag : Int)] w fun e w' => e = .returned (.bool true) ∧ Ext w w' := by
  go_enter Try.func3, Try.ntmps3
  go_wp2_with fail
  refine (few_nat A n c _ 8 _ _ hs (bs_one _) (by omega) (by omega) rfl).mono ?_
  rintro e w1 ⟨v1, rfl, own1, ext1⟩
  rw [bs_take] at own1
  obtain ⟨A1, c1, rfl, see1⟩ := Sees.of_own own1
  go_wp2_with fail
  refine (few_nat A2 n2 c2 _ 40 _ _ (hs2.ext ext1) (bs_one _) (by omega) (by omega) rfl).mono ?_
  rintro e w2 ⟨v2, rfl, own2, ext2⟩
  rw [bs_take] at own2
  obtain ⟨A2', c2', rfl, see2⟩ := Sees.of_own own2
  have see1' := see1.ext ext2
  have hst1 := str_of see1'
  have hx1 : (x : Int) % 256 = ((x % 256 : Nat) : Int) := by omega
  have hx2 : IntKind.u16.wrap (x : Int) = ((x % 65536 : Nat) : Int) := by show (x : Int) % 65536 = _; omega
  have hx4 : (x : Int) % 4294967296 = ((x % 4294967296 : Nat) : Int) := by omega
  have hX1 := Lib.hid hx1
  have hX2 := Lib.hid hx2
  have hX4 := Lib.hid hx4
  clear hx1 hx2 hx4
  go_wp2_with fail
  rw [hX1.out]
  refine (lu_u8 _ _ _ (x % 256) _ _ see1' (by omega) (by omega)).mono ?_
  rintro e w3 ⟨v3, rfl, own3, ext3⟩
  rw [show le 1 (x % 256) = le 1 x from le_mod 1 x] at own3
  clear hst1
  go_wp2_with fail
  rw [hX2.out]
  refine (lu_u16 _ _ _ (x % 65536) _ _ (see1'.ext ext3) (by omega) (by omega)).mono ?_
  rintro e w4 ⟨v4, rfl, own4, ext4⟩
  rw [show le 2 (x % 65536) = le 2 x from le_mod 2 x] at own4
  have ext34 := ext3.trans ext4
  go_wp2_with fail
  rw [hX4.out]
  refine (lu_u32 _ _ _ (x % 4294967296) _ _ (see1'.ext ext34) (by omega) (by omega)).mono ?_
  rintro e w5 ⟨v5, rfl, own5, ext5⟩
  rw [show le 4 (x % 4294967296) = le 4 x from le_mod 4 x] at own5
  have ext35 := ext34.trans ext5
  go_wp2_with fail
  refine (lu_u64 _ _ _ x _ _ (see1'.ext ext35) (by omega) hx).mono ?_
  rintro e w6 ⟨v6, rfl, own6, ext6⟩
  have ext36 := ext35.trans ext6
  have htl : (s.take 40).length = min n2 40 := by
    have := see2.len
    rw [bs_length] at this
    exact this
  have HTL := Lib.hid htl
  have hst2 := str_of (see2.ext ext36)
  clear htl
  go_wp2_with fail
  refine (ltext_any _ _ _ _ _ _ (see1'.ext ext36) (by omega) (by rw [HTL.out]; omega)).mono ?_
  rintro e w7 ⟨v7, rfl, own7, ext7⟩
  have ext37 := ext36.trans ext7
  clear hst2
  go_wp2_with fail
  refine (ldata_any _ _ _ _ _ _ _ _ _ (see1'.ext ext37) (see2.ext ext37) (by omega) (by omega)).mono ?_
  rintro e w8 ⟨v8, rfl, own8, ext8⟩
  rw [HTL.out] at own7
  have ext38 := ext37.trans ext8
  go_wp2_with fail
  obtain ⟨A3, c3, rfl, see3⟩ := Sees.of_own (own_ext own3 ((ext4.trans ext5).trans ((ext6.trans ext7).trans ext8)))
  obtain ⟨A4, c4, rfl, see4⟩ := Sees.of_own (own_ext own4 (ext5.trans ((ext6.trans ext7).trans ext8)))
  obtain ⟨A5, c5, rfl, see5⟩ := Sees.of_own (own_ext own5 ((ext6.trans ext7).trans ext8))
  obtain ⟨A6, c6, rfl, see6⟩ := Sees.of_own (own_ext own6 (ext7.trans ext8))
  obtain ⟨A7, c7, rfl, see7⟩ := Sees.of_own (own_ext own7 ext8)
  obtain ⟨A8, c8, rfl, see8⟩ := Sees.of_own own8
  have seeT := (see2.ext ext38).drew
  have seeO := see1'.ext ext38
  have hE : Ext w w8 := (ext1.trans ext2).trans ext38
  have hlo : (l.take 8).length ≤ 8 := List.length_take_le _ _
  have hlt : (s.take 40).length ≤ 40 := List.length_take_le _ _
  generalize l.take 8 = own at *
  generalize s.take 40 = txts at *
  clear own1 own2 own3 own4 own5 own6 own7 own8 ext1 ext2 ext3 ext4 ext5 ext6 ext7 ext8 ext34 ext35 ext36 ext37 ext38 see1 see1' see2 hs hs2
  have h3 : ∀ w', Ext w8.drew w' → _ := fun w' hw => str_of (see3.drew.ext hw)
  have h4 : ∀ w', Ext w8.drew w' → _ := fun w' hw => str_of (see4.drew.ext hw)
  have h5 : ∀ w', Ext w8.drew w' → _ := fun w' hw => str_of (see5.drew.ext hw)
  have h6 : ∀ w', Ext w8.drew w' → _ := fun w' hw => str_of (see6.drew.ext hw)
  refine wp_region_lex [4, 13, 23, 33] (by kernel_rfl) (by kernel_rfl) (by kernel_rfl) ?_
  repeat (refine lex_val (v := ?_) rfl rfl (fun w' hw' => ?_) ?_; rotate_left; (· go_simp; try with_reducible rfl); simp only [Act.put, List.setIfInBounds_toArray, List.set_cons_zero, List.set_cons_succ])
  refine lex_call 22 #[.int .u64 (x : Int), .int .i64 1] rfl rfl (by go_simp) ?_
  refine (rnumber_any x 1 _ hx (by omega)).mono ?_
  rintro e w9 ⟨v9, rfl, own9, ext9⟩
  obtain ⟨A9, c9, rfl, see9⟩ := Sees.of_own own9
  refine ⟨_, rfl, ext9, ?_⟩
  simp only [Act.put, List.setIfInBounds_toArray, List.set_cons_zero, List.set_cons_succ]
  have h9 : ∀ w', Ext w9 w' → _ := fun w' hw => str_of (see9.ext hw)
  replace h4 := fun w' (hw : Ext w9 w') => h4 w' (ext9.trans hw)
  replace h5 := fun w' (hw : Ext w9 w') => h5 w' (ext9.trans hw)
  replace h6 := fun w' (hw : Ext w9 w') => h6 w' (ext9.trans hw)
  clear h3
  repeat (refine lex_val (v := ?_) rfl rfl (fun w' hw' => ?_) ?_; rotate_left; (· go_simp; try with_reducible rfl); simp only [Act.put, List.setIfInBounds_toArray, List.set_cons_zero, List.set_cons_succ])
  refine lex_add _ _ rfl rfl rfl rfl ?_ ?_
  · rw [le_length]; omega
  simp only [Act.put, List.setIfInBounds_toArray, List.set_cons_zero, List.set_cons_succ]
  refine lex_neqs _ _ rfl rfl rfl rfl rfl ?_
  simp only [Act.put, List.setIfInBounds_toArray, List.set_cons_zero, List.set_cons_succ]
  repeat (refine lex_val (v := ?_) rfl rfl (fun w' hw' => ?_) ?_; rotate_left; (· go_simp; try with_reducible rfl); simp only [Act.put, List.setIfInBounds_toArray, List.set_cons_zero, List.set_cons_succ])
  refine lex_call 22 #[.int .u64 (x : Int), .int .i64 2] rfl rfl (by go_simp) ?_
  refine (rnumber_any x 2 _ hx (by omega)).mono ?_
  rintro e w10 ⟨v10, rfl, own10, ext10⟩
  obtain ⟨A10, c10, rfl, see10⟩ := Sees.of_own own10
  refine ⟨_, rfl, ext10, ?_⟩
  simp only [Act.put, List.setIfInBounds_toArray, List.set_cons_zero, List.set_cons_succ]
  have h10 : ∀ w', Ext w10 w' → _ := fun w' hw => str_of (see10.ext hw)
  replace h5 := fun w' (hw : Ext w10 w') => h5 w' (ext10.trans hw)
  replace h6 := fun w' (hw : Ext w10 w') => h6 w' (ext10.trans hw)
  clear h4 h9
  repeat (refine lex_val (v := ?_) rfl rfl (fun w' hw' => ?_) ?_; rotate_left; (· go_simp; try with_reducible rfl); simp only [Act.put, List.setIfInBounds_toArray, List.set_cons_zero, List.set_cons_succ])
  refine lex_add _ _ rfl rfl rfl rfl ?_ ?_
  · rw [le_length]; omega
  simp only [Act.put, List.setIfInBounds_toArray, List.set_cons_zero, List.set_cons_succ]
  refine lex_neqs _ _ rfl rfl rfl rfl rfl ?_
  simp only [Act.put, List.setIfInBounds_toArray, List.set_cons_zero, List.set_cons_succ]
  repeat (refine lex_val (v := ?_) rfl rfl (fun w' hw' => ?_) ?_; rotate_left; (· go_simp; try with_reducible rfl); simp only [Act.put, List.setIfInBounds_toArray, List.set_cons_zero, List.set_cons_succ])
  refine lex_call 22 #[.int .u64 (x : Int), .int .i64 4] rfl rfl (by go_simp) ?_
  refine (rnumber_any x 4 _ hx (by omega)).mono ?_
  rintro e w11 ⟨v11, rfl, own11, ext11⟩
  obtain ⟨A11, c11, rfl, see11⟩ := Sees.of_own own11
  refine ⟨_, rfl, ext11, ?_⟩
  simp only [Act.put, List.setIfInBounds_toArray, List.set_cons_zero, List.set_cons_succ]
  have h11 : ∀ w', Ext w11 w' → _ := fun w' hw => str_of (see11.ext hw)
  replace h6 := fun w' (hw : Ext w11 w') => h6 w' (ext11.trans hw)
  clear h5 h10
  repeat (refine lex_val (v := ?_) rfl rfl (fun w' hw' => ?_) ?_; rotate_left; (· go_simp; try with_reducible rfl); simp only [Act.put, List.setIfInBounds_toArray, List.set_cons_zero, List.set_cons_succ])
  refine lex_add _ _ rfl rfl rfl rfl ?_ ?_
  · rw [le_length]; omega
  simp only [Act.put, List.setIfInBounds_toArray, List.set_cons_zero, List.set_cons_succ]
  refine lex_neqs _ _ rfl rfl rfl rfl rfl ?_
  simp only [Act.put, List.setIfInBounds_toArray, List.set_cons_zero, List.set_cons_succ]
  repeat (refine lex_val (v := ?_) rfl rfl (fun w' hw' => ?_) ?_; rotate_left; (· go_simp; try with_reducible rfl); simp only [Act.put, List.setIfInBounds_toArray, List.set_cons_zero, List.set_cons_succ])
  refine lex_call 22 #[.int .u64 (x : Int), .int .i64 8] rfl rfl (by go_simp) ?_
  refine (rnumber_any x 8 _ hx (by omega)).mono ?_
  rintro e w12 ⟨v12, rfl, own12, ext12⟩
  obtain ⟨A12, c12, rfl, see12⟩ := Sees.of_own own12
  refine ⟨_, rfl, ext12, ?_⟩
  simp only [Act.put, List.setIfInBounds_toArray, List.set_cons_zero, List.set_cons_succ]
  have h12 : ∀ w', Ext w12 w' → _ := fun w' hw => str_of (see12.ext hw)
  clear h11
  repeat (refine lex_val (v := ?_) rfl rfl (fun w' hw' => ?_) ?_; rotate_left; (· go_simp; try with_reducible rfl); simp only [Act.put, List.setIfInBounds_toArray, List.set_cons_zero, List.set_cons_succ])
  refine lex_add _ _ rfl rfl rfl rfl ?_ ?_
  · rw [le_length]; omega
  simp only [Act.put, List.setIfInBounds_toArray, List.set_cons_zero, List.set_cons_succ]
  refine lex_neqs _ _ rfl rfl rfl rfl rfl ?_
  simp only [Act.put, List.setIfInBounds_toArray, List.set_cons_zero, List.set_cons_succ]
  repeat (refine lex_val (v := ?_) rfl rfl (fun w' hw' => ?_) ?_; rotate_left; (· go_simp; try with_reducible rfl); simp only [Act.put, List.setIfInBounds_toArray, List.set_cons_zero, List.set_cons_succ])
  refine lex_done ?_
  have hE2 : Ext w w12 := hE.trans ((Ext.refl w8).drew.trans (((ext9.trans ext10).trans ext11).trans ext12))
  have hE8 : Ext w8 w12 := (Ext.refl w8).drew.trans (((ext9.trans ext10).trans ext11).trans ext12)
  have seeT2 := (seeT.ext (((ext9.trans ext10).trans ext11).trans ext12)).drew
  have g7 : ∀ w', Ext w12.drew w' → _ := fun w' hw => str_of ((see7.ext hE8).drew.ext hw)
  have g8 : ∀ w', Ext w12.drew w' → _ := fun w' hw => str_of ((see8.ext hE8).drew.ext hw)
  have gO : ∀ w', Ext w12.drew w' → _ := fun w' hw => str_of ((seeO.ext hE8).drew.ext hw)
  have gT : ∀ w', Ext w12.drew w' → _ := fun w' hw => str_of (seeT2.ext hw)
  clear h6 seeT see3 see4 see5 see6 see7 see8 seeO hE hE8 own9 own10 own11 own12 see9 see10 see11 see12 ext9 ext10 ext11 ext12 h12
  go_wp2_with fail
  refine wp_region_ord [0, 1, 2, 3, 4, 5, 6, 7, 8, 9, 10, 11, 12, 13, 14, 15, 16, 17, 18, 19, 20, 21, 22, 23, 24, 25, 26, 27, 28, 31, 32, 33, 34, 35, 29, 30, 36, 37, 38, 39, 40, 41, 42, 43] [5, 14, 34, 36, 41] (by kernel_rfl) (by kernel_rfl) rfl (by kernel_rfl) ?_
  repeat (refine lex_val (v := ?_) rfl rfl (fun w' hw' => ?_) ?_; rotate_left; (· go_simp; try with_reducible rfl); simp only [Act.put, List.setIfInBounds_toArray, List.set_cons_zero, List.set_cons_succ])
  refine lex_call 23 #[.string ⟨txts.toArray⟩] rfl rfl (by go_simp) ?_
  refine (rtext_any txts _ (by omega)).mono ?_
  rintro e w13 ⟨v13, rfl, own13, ext13⟩
  rw [HTL.out] at own13
  obtain ⟨A13, c13, rfl, see13⟩ := Sees.of_own own13
  refine ⟨_, rfl, ext13, ?_⟩
  simp only [Act.put, List.setIfInBounds_toArray, List.set_cons_zero, List.set_cons_succ]
  have h13 : ∀ w', Ext w13 w' → _ := fun w' hw => str_of (see13.ext hw)
  replace g8 := fun w' (hw : Ext w13 w') => g8 w' (ext13.trans hw)
  replace gO := fun w' (hw : Ext w13 w') => gO w' (ext13.trans hw)
  clear g7 gT
  repeat (refine lex_val (v := ?_) rfl rfl (fun w' hw' => ?_) ?_; rotate_left; (· go_simp; try with_reducible rfl); simp only [Act.put, List.setIfInBounds_toArray, List.set_cons_zero, List.set_cons_succ])
  refine lex_add _ _ rfl rfl rfl rfl ?_ ?_
  · rw [List.length_append, le_length]; omega
  simp only [Act.put, List.setIfInBounds_toArray, List.set_cons_zero, List.set_cons_succ]
  refine lex_eqs _ _ rfl rfl rfl rfl rfl ?_
  simp only [Act.put, List.setIfInBounds_toArray, List.set_cons_zero, List.set_cons_succ]
  repeat (refine lex_val (v := ?_) rfl rfl (fun w' hw' => ?_) ?_; rotate_left; (· go_simp; try with_reducible rfl); simp only [Act.put, List.setIfInBounds_toArray, List.set_cons_zero, List.set_cons_succ])
  refine lex_call 24 #[.slice A2' (min n2 40) c2'] rfl rfl (by go_simp) ?_
  refine (rdata_any A2' _ c2' txts _ (seeT2.ext ext13) (by omega)).mono ?_
  rintro e w14 ⟨v14, rfl, own14, ext14⟩
  obtain ⟨A14, c14, rfl, see14⟩ := Sees.of_own own14
  refine ⟨_, rfl, ext14, ?_⟩
  simp only [Act.put, List.setIfInBounds_toArray, List.set_cons_zero, List.set_cons_succ]
  have h14 : ∀ w', Ext w14 w' → _ := fun w' hw => str_of (see14.ext hw)
  replace gO := fun w' (hw : Ext w14 w') => gO w' (ext14.trans hw)
  clear g8 h13
  repeat (refine lex_val (v := ?_) rfl rfl (fun w' hw' => ?_) ?_; rotate_left; (· go_simp; try with_reducible rfl); simp only [Act.put, List.setIfInBounds_toArray, List.set_cons_zero, List.set_cons_succ])
  refine lex_add _ _ rfl rfl rfl rfl ?_ ?_
  · rw [List.length_append, le_length]; omega
  simp only [Act.put, List.setIfInBounds_toArray, List.set_cons_zero, List.set_cons_succ]
  refine lex_eqs _ _ rfl rfl rfl rfl rfl ?_
  simp only [Act.put, List.setIfInBounds_toArray, List.set_cons_zero, List.set_cons_succ]
  repeat (refine lex_val (v := ?_) rfl rfl (fun w' hw' => ?_) ?_; rotate_left; (· go_simp; try with_reducible rfl); simp only [Act.put, List.setIfInBounds_toArray, List.set_cons_zero, List.set_cons_succ])
  refine lex_call 25 #[.int .u8 (kind : Int), .int .u16 (tag : Int), .slice A2' (min n2 40) c2'] rfl rfl (by go_simp) ?_
  refine (lpack_any kind tag A2' _ c2' txts _ (seeT2.ext (ext13.trans ext14)) hk htg (by omega)).mono ?_
  rintro e w15 ⟨v15, rfl, own15, ext15⟩
  obtain ⟨A15, c15, rfl, see15⟩ := Sees.of_own own15
  refine ⟨_, rfl, ext15, ?_⟩
  simp only [Act.put, List.setIfInBounds_toArray, List.set_cons_zero, List.set_cons_succ]
  have h15 : ∀ w', Ext w15 w' → _ := fun w' hw => str_of (see15.ext hw)
  clear gO h14
  repeat (refine lex_val (v := ?_) rfl rfl (fun w' hw' => ?_) ?_; rotate_left; (· go_simp; try with_reducible rfl); simp only [Act.put, List.setIfInBounds_toArray, List.set_cons_zero, List.set_cons_succ])
  refine lex_call 26 #[.int .i64 (kind : Int), .int .i64 (tag : Int), .slice A2' (min n2 40) c2'] rfl rfl (by go_simp; exact ⟨IntWalk.i64_in _ ⟨by omega, by omega⟩, IntWalk.i64_in _ ⟨by omega, by omega⟩⟩) ?_
  refine (rpack_any kind tag A2' _ c2' txts _ (seeT2.ext ((ext13.trans ext14).trans ext15)) hk htg (by omega)).mono ?_
  rintro e w16 ⟨v16, rfl, own16, ext16⟩
  obtain ⟨A16, c16, rfl, see16⟩ := Sees.of_own own16
  refine ⟨_, rfl, ext16, ?_⟩
  simp only [Act.put, List.setIfInBounds_toArray, List.set_cons_zero, List.set_cons_succ]
  have h16 : ∀ w', Ext w16 w' → _ := fun w' hw => str_of (see16.ext hw)
  clear h15
  repeat (refine lex_val (v := ?_) rfl rfl (fun w' hw' => ?_) ?_; rotate_left; (· go_simp; try with_reducible rfl); simp only [Act.put, List.setIfInBounds_toArray, List.set_cons_zero, List.set_cons_succ])
  refine lex_call 27 #[] rfl rfl (by go_simp) ?_
  refine (littleLives_any _).mono ?_
  rintro e w17 ⟨rfl, ext17⟩
  refine ⟨_, rfl, ext17, ?_⟩
  simp only [Act.put, List.setIfInBounds_toArray, List.set_cons_zero, List.set_cons_succ]
  repeat (refine lex_val (v := ?_) rfl rfl (fun w' hw' => ?_) ?_; rotate_left; (· go_simp; try with_reducible rfl); simp only [Act.put, List.setIfInBounds_toArray, List.set_cons_zero, List.set_cons_succ])
  refine lex_done ?_
  have hF : Ext w w17 := hE2.trans ((Ext.refl w12).drew.trans ((((ext13.trans ext14).trans ext15).trans ext16).trans ext17))
  go_wp2
  all_goals
    go_ret
    exact ⟨rfl, hF⟩
end Go.Proofs.Ytlbokdoipajodaa
