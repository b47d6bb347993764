/-
  The statement LittleRound: its walk.
-/
import Derived.Test.YtlbokdoipajodaaRws
import Derived.Test.YtlbokdoipajodaaOrd
import Derived.Test.YtlbokdoipajodaaLitK
import Derived.Test.YtlbokdoipajodaaLittlePuts
namespace Go.Proofs.Ytlbokdoipajodaa
open Go Go.RowKit
set_option linter.unusedVariables false
set_option linter.unusedSimpArgs false

theorem pre_onlK (g : Nat) : Pre (Onl g) := ⟨Onl.refl g, fun _ _ _ h k => h.trans k⟩
/-- Pieces one behind the other. -/
def cat (f : Nat → List UInt8) : Nat → List UInt8
  | 0 => []
  | n + 1 => cat f n ++ f n
def tl (f : Nat → List UInt8) : Nat → Nat → List UInt8
  | _, 0 => []
  | i, d + 1 => f i ++ tl f (i + 1) d
theorem cat_tl (f : Nat → List UInt8) : ∀ d i, cat f (i + d) = cat f i ++ tl f i d
  | 0, i => by simp [tl]
  | d + 1, i => by
    have := cat_tl f d (i + 1)
    rw [show i + (d + 1) = i + 1 + d from by omega, this]
    simp [cat, tl, List.append_assoc]
theorem cat_zero (f : Nat → List UInt8) (n : Nat) : cat f n = tl f 0 n := by
  have := cat_tl f n 0
  simpa [cat] using this
/-- One record of the law's bytes. -/
def rcl (X : Nat → Nat) (T : Nat → List UInt8) (i : Nat) : List UInt8 :=
  le 8 (X i) ++ (le 2 (T i).length ++ T i) ++ le 2 (X i % 65536) ++ (le 4 (T i).length ++ T i) ++ le 1 (X i % 256) ++ le 4 (X i % 4294967296)
theorem rcl_le (X : Nat → Nat) (T : Nat → List UInt8) (i : Nat) (h : (T i).length ≤ 20) : (rcl X T i).length ≤ 61 := by
  unfold rcl
  simp only [List.length_append, le_length]
  omega
theorem catl_le (X : Nat → Nat) (T : Nat → List UInt8) (h : ∀ i, (T i).length ≤ 20) : ∀ n, (cat (rcl X T) n).length ≤ 61 * n
  | 0 => by simp [cat]
  | n + 1 => by
    have h1 := catl_le X T h n
    have h2 := rcl_le X T n (h n)
    simp only [cat, List.length_append]
    omega
section
variable {P : Program} {TT : World → World → Prop} {ops : Array Oper} {Q : Exit → Act → World → Prop} {al : List Nat} {k : Nat} {rest : List Oper} {act : Act} {w : World}
variable {dst : Option Tmp} {x y : Operand} {t t2 ty : TypeId} {ps : String} {af : Array Edge} {g : Option (Nat × Bool)}
theorem lexR_neqs (hT : Pre TT) (a b : List UInt8) (hc : al.contains k = false) (hw : Region.wanted ⟨dst, .binOp .neq t x y t2, ty, ps, af, g⟩ (yielded ops act.tmps) = true)
    (hx : act.eval x = .string ⟨a.toArray⟩) (hy : act.eval y = .string ⟨b.toArray⟩) (hab : a = b)
    (hk : wpLexR TT P ops Q al (k + 1) rest (act.put dst (.bool false)) w) : wpLexR TT P ops Q al k (⟨dst, .binOp .neq t x y t2, ty, ps, af, g⟩ :: rest) act w :=
  lexR_val hT _ hc hw (fun w' _ => by
    subst hab
    simp [execOp, hx, hy, binOp_string_neq, eqGuard]) hk
end
set_option maxRecDepth 4000 in
set_option maxHeartbeats 4000000 in
theorem lround_a (A A2 : Option Addr) (n c n2 c2 : Nat) (w : World) (X : Nat → Nat) (T : Nat → List UInt8) (f : Nat → List UInt8)
    (hn : n ≤ c) (hm : c ≤ 2 ^ 63 - 1) (hn2 : n2 ≤ c2) (hm2 : c2 ≤ 2 ^ 63 - 1) (hc5 : n2 ≤ 5) (hcn : n ≤ n2)
    (HX : Hid (∀ i, i < n → X i < 18446744073709551616 ∧ ∃ b off, A = some ⟨b, off, none⟩ ∧ b < w.heap.size ∧ w.cell? ⟨b, off + i, none⟩ = some (.int .u64 (X i : Int))))
    (HT0 : Hid (∀ i, (T i).length ≤ 20)) (HT : Hid (∀ i, i < n2 → ∃ b off A' N' c' t, A2 = some ⟨b, off, none⟩ ∧ b < w.heap.size ∧ w.cell? ⟨b, off + i, none⟩ = some (.slice A' N' c') ∧ Sees w A' N' c' (bs t) ∧ t.take 20 = T i))
    (hcl : Hid (∀ k, (cat f k).length ≤ 61 * k)) (HF : Hid (f = rcl X T)) :
    Calls Try.prog 5 #[.slice A n c, .slice A2 n2 c2] w fun e w' => e = .returned (.bool true) ∧ Ext w w' := by
  have hlB : ∀ k, k ≤ n → (cat f k).length ≤ 305 := fun k hk => by have := hcl.out k; omega
  have HLB := Lib.hid hlB
  clear hlB
  go_enter Try.func5, Try.ntmps5
  go_wp2_with fail
  go_loopw [5, 7] (fun b i wr => ∃ (k mB : Nat) (B : Option Addr) (cb : Nat), k ≤ n ∧ i = .int .i64 k ∧ b = .slice B mB cb ∧ Sees wr B mB cb (bs (cat f k)) ∧ Ext w wr) (fun _ i _ => n - (intOf i).toNat)
  case atStart => exact ⟨0, 0, none, 0, by omega, rfl, rfl, Sees.nil _, Ext.refl w⟩
  case round =>
    obtain ⟨k, mB, B, cb, hk, rfl, rfl, seeb, extk⟩ := hrel
    have hmB := seeb.len
    rw [bs_length] at hmB
    have hmb2 := HLB.out k hk
    rw [hmB] at hmb2
    have HMB := Lib.hid hmB
    clear hmB
    by_cases hlt : k < n
    · have hj1 : k < n := by omega
      have hj2 : k < n2 := by omega
      obtain ⟨hx1, b1, off1, hA, hb1, hcell⟩ := HX.out k (by omega)
      subst hA
      obtain ⟨b2, off2, A', N', c', t, hA2, hb2, hcell2, seet, ht⟩ := HT.out k (by omega)
      subst hA2
      have HTk := Lib.hid ht
      have HTL : Hid ((T k).length ≤ 20) := Lib.hid (HT0.out k)
      clear ht
      have hxc : ∀ w', Ext w w' → w'.cell? ⟨b1, off1 + k, none⟩ = some (.int .u64 (X k : Int)) := fun w' h => h.cell hcell
      have htc : ∀ w', Ext w w' → w'.cell? ⟨b2, off2 + k, none⟩ = some (.slice A' N' c') := fun w' h => h.cell hcell2
      have HXc := Lib.hid hxc
      have HTc := Lib.hid htc
      have hw1 : (X k : Int) % 256 = ((X k % 256 : Nat) : Int) := by omega
      have hw2 : IntKind.u16.wrap (X k : Int) = ((X k % 65536 : Nat) : Int) := by show (X k : Int) % 65536 = _; omega
      have hw4 : (X k : Int) % 4294967296 = ((X k % 4294967296 : Nat) : Int) := by omega
      have HW1 := Lib.hid hw1
      have HW2 := Lib.hid hw2
      have HW4 := Lib.hid hw4
      clear hw1 hw2 hw4 hxc htc hcell hcell2
      have hc1 := HXc.out _ extk
      go_wp2_with fail
      refine (lu_u64 B mB cb (X k) (cat f k) _ seeb (by omega) hx1).mono ?_
      rintro e w1 ⟨v1, rfl, own1, ext1⟩
      obtain ⟨B1, cb1, rfl, see1⟩ := Sees.of_own own1
      have ext01 := extk.trans ext1
      clear own1 hc1 seeb ext1 extk
      have hc1 := HTc.out _ ext01
      go_wp2_with fail
      refine (few_nat A' _ c' _ 20 _ _ (seet.ext ext01) (bs_one _) (by omega) (by omega) rfl).mono ?_
      rintro e w2 ⟨v2, rfl, own2, ext2⟩
      rw [bs_take, HTk.out] at own2
      obtain ⟨B2, cb2, rfl, see2⟩ := Sees.of_own own2
      have see1b := see1.ext ext2
      have ext02 := ext01.trans ext2
      have hst := str_of see2
      clear own2 see1 hc1 ext2 ext01 see2
      go_wp2_with fail
      refine (ltext_any B1 _ cb1 _ (T k) _ see1b (by omega) (by have := HTL.out; omega)).mono ?_
      rintro e w3 ⟨v3, rfl, own3, ext3⟩
      obtain ⟨B3, cb3, rfl, see3⟩ := Sees.of_own own3
      have hl3 : mB + 8 + 2 + (T k).length ≤ 1000 := by have := HTL.out; omega
      have ext03 := ext02.trans ext3
      clear own3 see1b hst ext3 ext02
      have hc1 := HXc.out _ ext03
      go_wp2_with fail
      rw [HW2.out]
      refine (lu_u16 B3 _ cb3 (X k % 65536) _ _ see3 (by omega) (by omega)).mono ?_
      rintro e w4 ⟨v4, rfl, own4, ext4⟩
      obtain ⟨B4, cb4, rfl, see4⟩ := Sees.of_own own4
      have ext04 := ext03.trans ext4
      clear own4 see3 hc1 ext4 ext03
      have hc1 := HTc.out _ ext04
      go_wp2_with fail
      refine (few_nat A' _ c' _ 20 _ _ (seet.ext ext04) (bs_one _) (by omega) (by omega) rfl).mono ?_
      rintro e w5 ⟨v5, rfl, own5, ext5⟩
      rw [bs_take, HTk.out] at own5
      obtain ⟨B5, cb5, rfl, see5⟩ := Sees.of_own own5
      have see4b := see4.ext ext5
      have ext05 := ext04.trans ext5
      have hl5 : min N' 20 = (T k).length := by have := see5.len; rw [bs_length] at this; exact this.symm
      have HL5 := Lib.hid hl5
      clear own5 see4 hc1 ext5 ext04 hl5
      go_wp2_with fail
      refine (ldata_any B4 _ cb4 B5 _ cb5 _ (T k) _ see4b see5 (by omega) (by omega)).mono ?_
      rintro e w6 ⟨v6, rfl, own6, ext6⟩
      rw [HL5.out] at own6
      obtain ⟨B6, cb6, rfl, see6⟩ := Sees.of_own own6
      have hl6 : mB + 8 + 2 + (T k).length + 2 + 4 + (T k).length ≤ 1000 := by have := HTL.out; omega
      have ext06 := ext05.trans ext6
      clear own6 see4b see5 ext6 ext05
      have hc1 := HXc.out _ ext06
      go_wp2_with fail
      rw [HW1.out]
      refine (lu_u8 B6 _ cb6 (X k % 256) _ _ see6 (by omega) (by omega)).mono ?_
      rintro e w7 ⟨v7, rfl, own7, ext7⟩
      obtain ⟨B7, cb7, rfl, see7⟩ := Sees.of_own own7
      have ext07 := ext06.trans ext7
      clear own7 see6 hc1 ext7 ext06
      have hc1 := HXc.out _ ext07
      go_wp2_with fail
      rw [HW4.out]
      refine (lu_u32 B7 _ cb7 (X k % 4294967296) _ _ see7 (by omega) (by omega)).mono ?_
      rintro e w8 ⟨v8, rfl, own8, ext8⟩
      have e5 : cat f k ++ le 8 (X k) ++ le 2 (T k).length ++ T k ++ le 2 (X k % 65536) ++ le 4 (T k).length ++ T k ++ le 1 (X k % 256) ++ le 4 (X k % 4294967296) = cat f (k + 1) := by
        rw [HF.out]
        simp only [cat, rcl, List.append_assoc]
      rw [e5] at own8
      obtain ⟨B8, cb8, rfl, see8⟩ := Sees.of_own own8
      have ext08 := ext07.trans ext8
      clear own8 see7 e5 hc1 ext8 ext07
      go_wp2
      go_roundw
      case rel => exact ⟨k + 1, _, B8, cb8, by omega, by go_num, rfl, see8, ext08⟩
      case measure => simp [intOf]; omega
    · have hkK : k = n := by omega
      go_wp2_with fail
      refine (lread_any B mB cb _ _ seeb (by omega)).mono ?_
      rintro e w1 ⟨g, rfl, hg, rg, ext1⟩
      rw [cat_zero] at rg
      have hgw : w.heap.size ≤ g := Nat.le_trans extk.size hg
      have ext01 := extk.trans ext1
      clear seeb extk ext1 hg
      go_wp2_with fail
      go_loopw [9] (fun i wr => ∃ (j d : Nat), j + d = n ∧ i = .int .i64 j ∧ Rdl wr g 0 (tl f j d) ∧ Ext w wr) (fun i _ => n - (intOf i).toNat)
      case atStart => exact ⟨0, k, by omega, rfl, rg, ext01⟩
      case round =>
        clear rg ext01
        obtain ⟨j, d, hjd, rfl, rg, extj⟩ := hrel
        have HJ := Lib.hid hjd
        have hjk : j ≤ n := by omega
        by_cases hlt2 : j < n
        · have hj1 : j < n := by omega
          have hj2 : j < n2 := by omega
          obtain ⟨d, rfl⟩ : ∃ d', d = d' + 1 := ⟨d - 1, by omega⟩
          clear hjd
          have htj := HT0.out j
          have erem : tl f j (d + 1) = le 8 (X j) ++ (le 2 (T j).length ++ T j ++ (le 2 (X j % 65536) ++ (le 4 (T j).length ++ T j ++ (le 1 (X j % 256) ++ (le 4 (X j % 4294967296) ++ tl f (j + 1) d))))) := by
            rw [HF.out]
            simp only [tl, rcl, List.append_assoc]
          rw [erem] at rg
          obtain ⟨hx1, b1, off1, hA, hb1, hcell⟩ := HX.out j (by omega)
          subst hA
          obtain ⟨b2, off2, A', N', c', t, hA2, hb2, hcell2, seet, ht⟩ := HT.out j (by omega)
          subst hA2
          have HTk := Lib.hid ht
          generalize hrest : tl f (j + 1) d = rest at *
          have HR := Lib.hid hrest
          clear ht erem hrest
          have hcc2 := extj.cell hcell2
          go_wp2_with fail
          refine (few_nat A' _ c' _ 20 _ _ (seet.ext extj) (bs_one _) (by omega) (by omega) rfl).mono ?_
          rintro e w2 ⟨v2, rfl, own2, ext2⟩
          rw [bs_take, HTk.out] at own2
          obtain ⟨B2, cb2, rfl, see2⟩ := Sees.of_own own2
          have rg2 := rg.ext ext2
          have ext02 := extj.trans ext2
          have hst := str_of see2
          clear own2 hcc2 ext2 extj rg see2 hcell2 seet
          have hw1 : (X j : Int) % 256 = ((X j % 256 : Nat) : Int) := by omega
          have hw2 : IntKind.u16.wrap (X j : Int) = ((X j % 65536 : Nat) : Int) := by show (X j : Int) % 65536 = _; omega
          have hw4 : (X j : Int) % 4294967296 = ((X j % 4294967296 : Nat) : Int) := by omega
          have HW1 := Lib.hid hw1
          have HW4 := Lib.hid hw4
          clear hw1 hw4
          have hv1 : IntKind.u8.wrap (X j : Int) = (X j : Int) % 256 := rfl
          have hv4 : IntKind.u32.wrap (X j : Int) = (X j : Int) % 4294967296 := rfl
          have hc1 : ∀ w', Onl g w2.drew w' → w'.cell? ⟨b1, off1 + j, none⟩ = some (.int .u64 (X j : Int)) := fun w' hw => (hw.cell (ext02.drew.cell hcell) (show b1 ≠ g by omega))
          clear hcell
          go_wp2_with fail
          refine wp_region_ordR (Onl g) [0, 2, 3, 4, 5, 1, 6, 7, 8, 10, 9, 11, 12, 13, 14, 16, 17, 18, 19, 20, 15, 21, 22, 23, 24, 27, 25, 26, 28, 29, 30, 31, 33, 34, 35, 36, 37, 32, 38, 39, 40, 41, 43, 44, 45, 46, 47, 42, 48, 49] [5, 10, 20, 26, 37, 47] (by kernel_rfl) (by kernel_rfl) rfl (by kernel_rfl) ?_
          repeat (refine lexR_val (pre_onlK g) (v := ?_) rfl rfl (fun w' hw' => ?_) ?_; rotate_left; (· go_simp; try with_reducible rfl); simp only [Act.put, List.setIfInBounds_toArray, List.set_cons_zero, List.set_cons_succ])
          have rgD := rg2.ext (Ext.refl w2).drew
          have extD := ext02.drew
          clear rg2 ext02
          refine lexR_call (pre_onlK g) 34 #[.pointer (some ⟨g, 0, none⟩)] rfl rfl (by go_simp) ?_
          refine (lr_u64 g 0 (X j) _ _ hx1 rgD).mono ?_
          rintro e w3 ⟨rfl, rg3, o3⟩
          refine ⟨_, rfl, o3, ?_⟩
          have ext3 := extD.onlL o3 hgw
          replace hc1 := fun w' (hw : Onl g w3 w') => hc1 w' (o3.trans hw)
          clear rgD o3 extD
          simp only [Act.put, List.setIfInBounds_toArray, List.set_cons_zero, List.set_cons_succ]
          repeat (refine lexR_val (pre_onlK g) (v := ?_) rfl rfl (fun w' hw' => ?_) ?_; rotate_left; (· go_simp; try with_reducible rfl); simp only [Act.put, List.setIfInBounds_toArray, List.set_cons_zero, List.set_cons_succ])
          refine lexR_call (pre_onlK g) 35 #[.pointer (some ⟨g, 0, none⟩)] rfl rfl (by go_simp) ?_
          refine (ltextR_ok g 0 (T j) _ _ rg3 (by omega)).mono ?_
          rintro e w4 ⟨rfl, rg4, o4⟩
          refine ⟨_, rfl, o4, ?_⟩
          have ext4 := ext3.onlL o4 hgw
          replace hc1 := fun w' (hw : Onl g w4 w') => hc1 w' (o4.trans hw)
          clear rg3 o4 ext3
          simp only [Act.put, List.setIfInBounds_toArray, List.set_cons_zero, List.set_cons_succ]
          repeat (refine lexR_val (pre_onlK g) (v := ?_) rfl rfl (fun w' hw' => ?_) ?_; rotate_left; (· go_simp; try with_reducible rfl); simp only [Act.put, List.setIfInBounds_toArray, List.set_cons_zero, List.set_cons_succ])
          try (refine lexR_neqs (pre_onlK g) _ _ rfl rfl rfl rfl rfl ?_; simp only [Act.put, List.setIfInBounds_toArray, List.set_cons_zero, List.set_cons_succ]; repeat (refine lexR_val (pre_onlK g) (v := ?_) rfl rfl (fun w' hw' => ?_) ?_; rotate_left; (· go_simp; try with_reducible rfl); simp only [Act.put, List.setIfInBounds_toArray, List.set_cons_zero, List.set_cons_succ]))
          refine lexR_call (pre_onlK g) 32 #[.pointer (some ⟨g, 0, none⟩)] rfl rfl (by go_simp) ?_
          refine (lr_u16 g 0 (X j % 65536) _ _ (by omega) rg4).mono ?_
          rintro e w5 ⟨rfl, rg5, o5⟩
          refine ⟨_, rfl, o5, ?_⟩
          have ext5 := ext4.onlL o5 hgw
          replace hc1 := fun w' (hw : Onl g w5 w') => hc1 w' (o5.trans hw)
          clear rg4 o5 ext4
          simp only [Act.put, List.setIfInBounds_toArray, List.set_cons_zero, List.set_cons_succ]
          repeat (refine lexR_val (pre_onlK g) (v := ?_) rfl rfl (fun w' hw' => ?_) ?_; rotate_left; (· go_simp; try with_reducible rfl); simp only [Act.put, List.setIfInBounds_toArray, List.set_cons_zero, List.set_cons_succ])
          refine lexR_call (pre_onlK g) 37 #[.pointer (some ⟨g, 0, none⟩), .int .i64 20] rfl rfl (by go_simp) ?_
          refine (ldataR_ok g 0 20 (T j) _ _ rg5 (by omega) (by omega)).mono ?_
          rintro e w6 ⟨v6, rfl, own6, rg6, o6⟩
          obtain ⟨A7, c7, rfl, see7⟩ := Sees.of_own own6
          refine ⟨_, rfl, o6, ?_⟩
          have ext6 := ext5.onlL o6 hgw
          replace hc1 := fun w' (hw : Onl g w6 w') => hc1 w' (o6.trans hw)
          have h63 : ∀ w', Onl g w6 w' → _ := fun w' hw => str_of (see7.onlL rg6 hw)
          clear rg5 o6 ext5 own6
          simp only [Act.put, List.setIfInBounds_toArray, List.set_cons_zero, List.set_cons_succ]
          repeat (refine lexR_val (pre_onlK g) (v := ?_) rfl rfl (fun w' hw' => ?_) ?_; rotate_left; (· go_simp; try with_reducible rfl); simp only [Act.put, List.setIfInBounds_toArray, List.set_cons_zero, List.set_cons_succ])
          try (refine lexR_neqs (pre_onlK g) _ _ rfl rfl rfl rfl rfl ?_; simp only [Act.put, List.setIfInBounds_toArray, List.set_cons_zero, List.set_cons_succ]; repeat (refine lexR_val (pre_onlK g) (v := ?_) rfl rfl (fun w' hw' => ?_) ?_; rotate_left; (· go_simp; try with_reducible rfl); simp only [Act.put, List.setIfInBounds_toArray, List.set_cons_zero, List.set_cons_succ]))
          refine lexR_call (pre_onlK g) 30 #[.pointer (some ⟨g, 0, none⟩)] rfl rfl (by go_simp) ?_
          refine (lr_u8 g 0 (X j % 256) _ _ (by omega) rg6).mono ?_
          rintro e w7 ⟨rfl, rg7, o7⟩
          refine ⟨.int .u8 ((X j : Int) % 256), by rw [HW1.out], o7, ?_⟩
          have ext7 := ext6.onlL o7 hgw
          replace hc1 := fun w' (hw : Onl g w7 w') => hc1 w' (o7.trans hw)
          clear rg6 o7 ext6 h63 see7
          simp only [Act.put, List.setIfInBounds_toArray, List.set_cons_zero, List.set_cons_succ]
          repeat (refine lexR_val (pre_onlK g) (v := ?_) rfl rfl (fun w' hw' => ?_) ?_; rotate_left; (· go_simp; try with_reducible rfl); simp only [Act.put, List.setIfInBounds_toArray, List.set_cons_zero, List.set_cons_succ])
          refine lexR_call (pre_onlK g) 33 #[.pointer (some ⟨g, 0, none⟩)] rfl rfl (by go_simp) ?_
          refine (lr_u32 g 0 (X j % 4294967296) _ _ (by omega) rg7).mono ?_
          rintro e w8 ⟨rfl, rg8, o8⟩
          refine ⟨.int .u32 ((X j : Int) % 4294967296), by rw [HW4.out], o8, ?_⟩
          have ext8 := ext7.onlL o8 hgw
          clear rg7 o8 ext7 hc1
          simp only [Act.put, List.setIfInBounds_toArray, List.set_cons_zero, List.set_cons_succ]
          repeat (refine lexR_val (pre_onlK g) (v := ?_) rfl rfl (fun w' hw' => ?_) ?_; rotate_left; (· go_simp; try with_reducible rfl); simp only [Act.put, List.setIfInBounds_toArray, List.set_cons_zero, List.set_cons_succ])
          refine lexR_done ?_
          rw [← HR.out] at rg8
          go_wp2
          go_roundw
          case rel => exact ⟨j + 1, d, by have := HJ.out; omega, by go_num, rg8, ext8⟩
          case measure => simp [intOf]; omega
        · obtain rfl : d = 0 := by omega
          have rg0 : Rdl wr g 0 [] := rg
          clear rg hjd
          go_wp2_with fail
          refine (lend_any g 0 _ rg0).mono ?_
          rintro e w1 ⟨rfl, rfl⟩
          go_wp2_with fail
          refine (littleLives_any _).mono ?_
          rintro e w1 ⟨rfl, e1⟩
          go_wp2
          go_ret
          exact ⟨rfl, extj.trans e1⟩
set_option maxRecDepth 4000 in
set_option maxHeartbeats 4000000 in
theorem lround_b (A A2 : Option Addr) (n c n2 c2 : Nat) (w : World) (X : Nat → Nat) (T : Nat → List UInt8) (f : Nat → List UInt8)
    (hn : n ≤ c) (hm : c ≤ 2 ^ 63 - 1) (hn2 : n2 ≤ c2) (hm2 : c2 ≤ 2 ^ 63 - 1) (hc5 : n2 ≤ 5) (hcn : n2 < n)
    (HX : Hid (∀ i, i < n → X i < 18446744073709551616 ∧ ∃ b off, A = some ⟨b, off, none⟩ ∧ b < w.heap.size ∧ w.cell? ⟨b, off + i, none⟩ = some (.int .u64 (X i : Int))))
    (HT0 : Hid (∀ i, (T i).length ≤ 20)) (HT : Hid (∀ i, i < n2 → ∃ b off A' N' c' t, A2 = some ⟨b, off, none⟩ ∧ b < w.heap.size ∧ w.cell? ⟨b, off + i, none⟩ = some (.slice A' N' c') ∧ Sees w A' N' c' (bs t) ∧ t.take 20 = T i))
    (hcl : Hid (∀ k, (cat f k).length ≤ 61 * k)) (HF : Hid (f = rcl X T)) :
    Calls Try.prog 5 #[.slice A n c, .slice A2 n2 c2] w fun e w' => e = .returned (.bool true) ∧ Ext w w' := by
  have hlB : ∀ k, k ≤ n2 → (cat f k).length ≤ 305 := fun k hk => by have := hcl.out k; omega
  have HLB := Lib.hid hlB
  clear hlB
  go_enter Try.func5, Try.ntmps5
  go_wp2_with fail
  go_loopw [5, 7] (fun b i wr => ∃ (k mB : Nat) (B : Option Addr) (cb : Nat), k ≤ n2 ∧ i = .int .i64 k ∧ b = .slice B mB cb ∧ Sees wr B mB cb (bs (cat f k)) ∧ Ext w wr) (fun _ i _ => n2 - (intOf i).toNat)
  case atStart => exact ⟨0, 0, none, 0, by omega, rfl, rfl, Sees.nil _, Ext.refl w⟩
  case round =>
    obtain ⟨k, mB, B, cb, hk, rfl, rfl, seeb, extk⟩ := hrel
    have hmB := seeb.len
    rw [bs_length] at hmB
    have hmb2 := HLB.out k hk
    rw [hmB] at hmb2
    have HMB := Lib.hid hmB
    clear hmB
    by_cases hlt : k < n2
    · have hj1 : k < n := by omega
      have hj2 : k < n2 := by omega
      obtain ⟨hx1, b1, off1, hA, hb1, hcell⟩ := HX.out k (by omega)
      subst hA
      obtain ⟨b2, off2, A', N', c', t, hA2, hb2, hcell2, seet, ht⟩ := HT.out k (by omega)
      subst hA2
      have HTk := Lib.hid ht
      have HTL : Hid ((T k).length ≤ 20) := Lib.hid (HT0.out k)
      clear ht
      have hxc : ∀ w', Ext w w' → w'.cell? ⟨b1, off1 + k, none⟩ = some (.int .u64 (X k : Int)) := fun w' h => h.cell hcell
      have htc : ∀ w', Ext w w' → w'.cell? ⟨b2, off2 + k, none⟩ = some (.slice A' N' c') := fun w' h => h.cell hcell2
      have HXc := Lib.hid hxc
      have HTc := Lib.hid htc
      have hw1 : (X k : Int) % 256 = ((X k % 256 : Nat) : Int) := by omega
      have hw2 : IntKind.u16.wrap (X k : Int) = ((X k % 65536 : Nat) : Int) := by show (X k : Int) % 65536 = _; omega
      have hw4 : (X k : Int) % 4294967296 = ((X k % 4294967296 : Nat) : Int) := by omega
      have HW1 := Lib.hid hw1
      have HW2 := Lib.hid hw2
      have HW4 := Lib.hid hw4
      clear hw1 hw2 hw4 hxc htc hcell hcell2
      have hc1 := HXc.out _ extk
      go_wp2_with fail
      refine (lu_u64 B mB cb (X k) (cat f k) _ seeb (by omega) hx1).mono ?_
      rintro e w1 ⟨v1, rfl, own1, ext1⟩
      obtain ⟨B1, cb1, rfl, see1⟩ := Sees.of_own own1
      have ext01 := extk.trans ext1
      clear own1 hc1 seeb ext1 extk
      have hc1 := HTc.out _ ext01
      go_wp2_with fail
      refine (few_nat A' _ c' _ 20 _ _ (seet.ext ext01) (bs_one _) (by omega) (by omega) rfl).mono ?_
      rintro e w2 ⟨v2, rfl, own2, ext2⟩
      rw [bs_take, HTk.out] at own2
      obtain ⟨B2, cb2, rfl, see2⟩ := Sees.of_own own2
      have see1b := see1.ext ext2
      have ext02 := ext01.trans ext2
      have hst := str_of see2
      clear own2 see1 hc1 ext2 ext01 see2
      go_wp2_with fail
      refine (ltext_any B1 _ cb1 _ (T k) _ see1b (by omega) (by have := HTL.out; omega)).mono ?_
      rintro e w3 ⟨v3, rfl, own3, ext3⟩
      obtain ⟨B3, cb3, rfl, see3⟩ := Sees.of_own own3
      have hl3 : mB + 8 + 2 + (T k).length ≤ 1000 := by have := HTL.out; omega
      have ext03 := ext02.trans ext3
      clear own3 see1b hst ext3 ext02
      have hc1 := HXc.out _ ext03
      go_wp2_with fail
      rw [HW2.out]
      refine (lu_u16 B3 _ cb3 (X k % 65536) _ _ see3 (by omega) (by omega)).mono ?_
      rintro e w4 ⟨v4, rfl, own4, ext4⟩
      obtain ⟨B4, cb4, rfl, see4⟩ := Sees.of_own own4
      have ext04 := ext03.trans ext4
      clear own4 see3 hc1 ext4 ext03
      have hc1 := HTc.out _ ext04
      go_wp2_with fail
      refine (few_nat A' _ c' _ 20 _ _ (seet.ext ext04) (bs_one _) (by omega) (by omega) rfl).mono ?_
      rintro e w5 ⟨v5, rfl, own5, ext5⟩
      rw [bs_take, HTk.out] at own5
      obtain ⟨B5, cb5, rfl, see5⟩ := Sees.of_own own5
      have see4b := see4.ext ext5
      have ext05 := ext04.trans ext5
      have hl5 : min N' 20 = (T k).length := by have := see5.len; rw [bs_length] at this; exact this.symm
      have HL5 := Lib.hid hl5
      clear own5 see4 hc1 ext5 ext04 hl5
      go_wp2_with fail
      refine (ldata_any B4 _ cb4 B5 _ cb5 _ (T k) _ see4b see5 (by omega) (by omega)).mono ?_
      rintro e w6 ⟨v6, rfl, own6, ext6⟩
      rw [HL5.out] at own6
      obtain ⟨B6, cb6, rfl, see6⟩ := Sees.of_own own6
      have hl6 : mB + 8 + 2 + (T k).length + 2 + 4 + (T k).length ≤ 1000 := by have := HTL.out; omega
      have ext06 := ext05.trans ext6
      clear own6 see4b see5 ext6 ext05
      have hc1 := HXc.out _ ext06
      go_wp2_with fail
      rw [HW1.out]
      refine (lu_u8 B6 _ cb6 (X k % 256) _ _ see6 (by omega) (by omega)).mono ?_
      rintro e w7 ⟨v7, rfl, own7, ext7⟩
      obtain ⟨B7, cb7, rfl, see7⟩ := Sees.of_own own7
      have ext07 := ext06.trans ext7
      clear own7 see6 hc1 ext7 ext06
      have hc1 := HXc.out _ ext07
      go_wp2_with fail
      rw [HW4.out]
      refine (lu_u32 B7 _ cb7 (X k % 4294967296) _ _ see7 (by omega) (by omega)).mono ?_
      rintro e w8 ⟨v8, rfl, own8, ext8⟩
      have e5 : cat f k ++ le 8 (X k) ++ le 2 (T k).length ++ T k ++ le 2 (X k % 65536) ++ le 4 (T k).length ++ T k ++ le 1 (X k % 256) ++ le 4 (X k % 4294967296) = cat f (k + 1) := by
        rw [HF.out]
        simp only [cat, rcl, List.append_assoc]
      rw [e5] at own8
      obtain ⟨B8, cb8, rfl, see8⟩ := Sees.of_own own8
      have ext08 := ext07.trans ext8
      clear own8 see7 e5 hc1 ext8 ext07
      go_wp2
      go_roundw
      case rel => exact ⟨k + 1, _, B8, cb8, by omega, by go_num, rfl, see8, ext08⟩
      case measure => simp [intOf]; omega
    · have hkK : k = n2 := by omega
      go_wp2_with fail
      refine (lread_any B mB cb _ _ seeb (by omega)).mono ?_
      rintro e w1 ⟨g, rfl, hg, rg, ext1⟩
      rw [cat_zero] at rg
      have hgw : w.heap.size ≤ g := Nat.le_trans extk.size hg
      have ext01 := extk.trans ext1
      clear seeb extk ext1 hg
      go_wp2_with fail
      go_loopw [9] (fun i wr => ∃ (j d : Nat), j + d = n2 ∧ i = .int .i64 j ∧ Rdl wr g 0 (tl f j d) ∧ Ext w wr) (fun i _ => n2 - (intOf i).toNat)
      case atStart => exact ⟨0, k, by omega, rfl, rg, ext01⟩
      case round =>
        clear rg ext01
        obtain ⟨j, d, hjd, rfl, rg, extj⟩ := hrel
        have HJ := Lib.hid hjd
        have hjk : j ≤ n2 := by omega
        by_cases hlt2 : j < n2
        · have hj1 : j < n := by omega
          have hj2 : j < n2 := by omega
          obtain ⟨d, rfl⟩ : ∃ d', d = d' + 1 := ⟨d - 1, by omega⟩
          clear hjd
          have htj := HT0.out j
          have erem : tl f j (d + 1) = le 8 (X j) ++ (le 2 (T j).length ++ T j ++ (le 2 (X j % 65536) ++ (le 4 (T j).length ++ T j ++ (le 1 (X j % 256) ++ (le 4 (X j % 4294967296) ++ tl f (j + 1) d))))) := by
            rw [HF.out]
            simp only [tl, rcl, List.append_assoc]
          rw [erem] at rg
          obtain ⟨hx1, b1, off1, hA, hb1, hcell⟩ := HX.out j (by omega)
          subst hA
          obtain ⟨b2, off2, A', N', c', t, hA2, hb2, hcell2, seet, ht⟩ := HT.out j (by omega)
          subst hA2
          have HTk := Lib.hid ht
          generalize hrest : tl f (j + 1) d = rest at *
          have HR := Lib.hid hrest
          clear ht erem hrest
          have hcc2 := extj.cell hcell2
          go_wp2_with fail
          refine (few_nat A' _ c' _ 20 _ _ (seet.ext extj) (bs_one _) (by omega) (by omega) rfl).mono ?_
          rintro e w2 ⟨v2, rfl, own2, ext2⟩
          rw [bs_take, HTk.out] at own2
          obtain ⟨B2, cb2, rfl, see2⟩ := Sees.of_own own2
          have rg2 := rg.ext ext2
          have ext02 := extj.trans ext2
          have hst := str_of see2
          clear own2 hcc2 ext2 extj rg see2 hcell2 seet
          have hw1 : (X j : Int) % 256 = ((X j % 256 : Nat) : Int) := by omega
          have hw2 : IntKind.u16.wrap (X j : Int) = ((X j % 65536 : Nat) : Int) := by show (X j : Int) % 65536 = _; omega
          have hw4 : (X j : Int) % 4294967296 = ((X j % 4294967296 : Nat) : Int) := by omega
          have HW1 := Lib.hid hw1
          have HW4 := Lib.hid hw4
          clear hw1 hw4
          have hv1 : IntKind.u8.wrap (X j : Int) = (X j : Int) % 256 := rfl
          have hv4 : IntKind.u32.wrap (X j : Int) = (X j : Int) % 4294967296 := rfl
          have hc1 : ∀ w', Onl g w2.drew w' → w'.cell? ⟨b1, off1 + j, none⟩ = some (.int .u64 (X j : Int)) := fun w' hw => (hw.cell (ext02.drew.cell hcell) (show b1 ≠ g by omega))
          clear hcell
          go_wp2_with fail
          refine wp_region_ordR (Onl g) [0, 2, 3, 4, 5, 1, 6, 7, 8, 10, 9, 11, 12, 13, 14, 16, 17, 18, 19, 20, 15, 21, 22, 23, 24, 27, 25, 26, 28, 29, 30, 31, 33, 34, 35, 36, 37, 32, 38, 39, 40, 41, 43, 44, 45, 46, 47, 42, 48, 49] [5, 10, 20, 26, 37, 47] (by kernel_rfl) (by kernel_rfl) rfl (by kernel_rfl) ?_
          repeat (refine lexR_val (pre_onlK g) (v := ?_) rfl rfl (fun w' hw' => ?_) ?_; rotate_left; (· go_simp; try with_reducible rfl); simp only [Act.put, List.setIfInBounds_toArray, List.set_cons_zero, List.set_cons_succ])
          have rgD := rg2.ext (Ext.refl w2).drew
          have extD := ext02.drew
          clear rg2 ext02
          refine lexR_call (pre_onlK g) 34 #[.pointer (some ⟨g, 0, none⟩)] rfl rfl (by go_simp) ?_
          refine (lr_u64 g 0 (X j) _ _ hx1 rgD).mono ?_
          rintro e w3 ⟨rfl, rg3, o3⟩
          refine ⟨_, rfl, o3, ?_⟩
          have ext3 := extD.onlL o3 hgw
          replace hc1 := fun w' (hw : Onl g w3 w') => hc1 w' (o3.trans hw)
          clear rgD o3 extD
          simp only [Act.put, List.setIfInBounds_toArray, List.set_cons_zero, List.set_cons_succ]
          repeat (refine lexR_val (pre_onlK g) (v := ?_) rfl rfl (fun w' hw' => ?_) ?_; rotate_left; (· go_simp; try with_reducible rfl); simp only [Act.put, List.setIfInBounds_toArray, List.set_cons_zero, List.set_cons_succ])
          refine lexR_call (pre_onlK g) 35 #[.pointer (some ⟨g, 0, none⟩)] rfl rfl (by go_simp) ?_
          refine (ltextR_ok g 0 (T j) _ _ rg3 (by omega)).mono ?_
          rintro e w4 ⟨rfl, rg4, o4⟩
          refine ⟨_, rfl, o4, ?_⟩
          have ext4 := ext3.onlL o4 hgw
          replace hc1 := fun w' (hw : Onl g w4 w') => hc1 w' (o4.trans hw)
          clear rg3 o4 ext3
          simp only [Act.put, List.setIfInBounds_toArray, List.set_cons_zero, List.set_cons_succ]
          repeat (refine lexR_val (pre_onlK g) (v := ?_) rfl rfl (fun w' hw' => ?_) ?_; rotate_left; (· go_simp; try with_reducible rfl); simp only [Act.put, List.setIfInBounds_toArray, List.set_cons_zero, List.set_cons_succ])
          try (refine lexR_neqs (pre_onlK g) _ _ rfl rfl rfl rfl rfl ?_; simp only [Act.put, List.setIfInBounds_toArray, List.set_cons_zero, List.set_cons_succ]; repeat (refine lexR_val (pre_onlK g) (v := ?_) rfl rfl (fun w' hw' => ?_) ?_; rotate_left; (· go_simp; try with_reducible rfl); simp only [Act.put, List.setIfInBounds_toArray, List.set_cons_zero, List.set_cons_succ]))
          refine lexR_call (pre_onlK g) 32 #[.pointer (some ⟨g, 0, none⟩)] rfl rfl (by go_simp) ?_
          refine (lr_u16 g 0 (X j % 65536) _ _ (by omega) rg4).mono ?_
          rintro e w5 ⟨rfl, rg5, o5⟩
          refine ⟨_, rfl, o5, ?_⟩
          have ext5 := ext4.onlL o5 hgw
          replace hc1 := fun w' (hw : Onl g w5 w') => hc1 w' (o5.trans hw)
          clear rg4 o5 ext4
          simp only [Act.put, List.setIfInBounds_toArray, List.set_cons_zero, List.set_cons_succ]
          repeat (refine lexR_val (pre_onlK g) (v := ?_) rfl rfl (fun w' hw' => ?_) ?_; rotate_left; (· go_simp; try with_reducible rfl); simp only [Act.put, List.setIfInBounds_toArray, List.set_cons_zero, List.set_cons_succ])
          refine lexR_call (pre_onlK g) 37 #[.pointer (some ⟨g, 0, none⟩), .int .i64 20] rfl rfl (by go_simp) ?_
          refine (ldataR_ok g 0 20 (T j) _ _ rg5 (by omega) (by omega)).mono ?_
          rintro e w6 ⟨v6, rfl, own6, rg6, o6⟩
          obtain ⟨A7, c7, rfl, see7⟩ := Sees.of_own own6
          refine ⟨_, rfl, o6, ?_⟩
          have ext6 := ext5.onlL o6 hgw
          replace hc1 := fun w' (hw : Onl g w6 w') => hc1 w' (o6.trans hw)
          have h63 : ∀ w', Onl g w6 w' → _ := fun w' hw => str_of (see7.onlL rg6 hw)
          clear rg5 o6 ext5 own6
          simp only [Act.put, List.setIfInBounds_toArray, List.set_cons_zero, List.set_cons_succ]
          repeat (refine lexR_val (pre_onlK g) (v := ?_) rfl rfl (fun w' hw' => ?_) ?_; rotate_left; (· go_simp; try with_reducible rfl); simp only [Act.put, List.setIfInBounds_toArray, List.set_cons_zero, List.set_cons_succ])
          try (refine lexR_neqs (pre_onlK g) _ _ rfl rfl rfl rfl rfl ?_; simp only [Act.put, List.setIfInBounds_toArray, List.set_cons_zero, List.set_cons_succ]; repeat (refine lexR_val (pre_onlK g) (v := ?_) rfl rfl (fun w' hw' => ?_) ?_; rotate_left; (· go_simp; try with_reducible rfl); simp only [Act.put, List.setIfInBounds_toArray, List.set_cons_zero, List.set_cons_succ]))
          refine lexR_call (pre_onlK g) 30 #[.pointer (some ⟨g, 0, none⟩)] rfl rfl (by go_simp) ?_
          refine (lr_u8 g 0 (X j % 256) _ _ (by omega) rg6).mono ?_
          rintro e w7 ⟨rfl, rg7, o7⟩
          refine ⟨.int .u8 ((X j : Int) % 256), by rw [HW1.out], o7, ?_⟩
          have ext7 := ext6.onlL o7 hgw
          replace hc1 := fun w' (hw : Onl g w7 w') => hc1 w' (o7.trans hw)
          clear rg6 o7 ext6 h63 see7
          simp only [Act.put, List.setIfInBounds_toArray, List.set_cons_zero, List.set_cons_succ]
          repeat (refine lexR_val (pre_onlK g) (v := ?_) rfl rfl (fun w' hw' => ?_) ?_; rotate_left; (· go_simp; try with_reducible rfl); simp only [Act.put, List.setIfInBounds_toArray, List.set_cons_zero, List.set_cons_succ])
          refine lexR_call (pre_onlK g) 33 #[.pointer (some ⟨g, 0, none⟩)] rfl rfl (by go_simp) ?_
          refine (lr_u32 g 0 (X j % 4294967296) _ _ (by omega) rg7).mono ?_
          rintro e w8 ⟨rfl, rg8, o8⟩
          refine ⟨.int .u32 ((X j : Int) % 4294967296), by rw [HW4.out], o8, ?_⟩
          have ext8 := ext7.onlL o8 hgw
          clear rg7 o8 ext7 hc1
          simp only [Act.put, List.setIfInBounds_toArray, List.set_cons_zero, List.set_cons_succ]
          repeat (refine lexR_val (pre_onlK g) (v := ?_) rfl rfl (fun w' hw' => ?_) ?_; rotate_left; (· go_simp; try with_reducible rfl); simp only [Act.put, List.setIfInBounds_toArray, List.set_cons_zero, List.set_cons_succ])
          refine lexR_done ?_
          rw [← HR.out] at rg8
          go_wp2
          go_roundw
          case rel => exact ⟨j + 1, d, by have := HJ.out; omega, by go_num, rg8, ext8⟩
          case measure => simp [intOf]; omega
        · obtain rfl : d = 0 := by omega
          have rg0 : Rdl wr g 0 [] := rg
          clear rg hjd
          go_wp2_with fail
          refine (lend_any g 0 _ rg0).mono ?_
          rintro e w1 ⟨rfl, rfl⟩
          go_wp2_with fail
          refine (littleLives_any _).mono ?_
          rintro e w1 ⟨rfl, e1⟩
          go_wp2
          go_ret
          exact ⟨rfl, extj.trans e1⟩
set_option maxRecDepth 4000 in
set_option maxHeartbeats 4000000 in
theorem lround_c (A A2 : Option Addr) (n c n2 c2 : Nat) (w : World) (X : Nat → Nat) (T : Nat → List UInt8) (f : Nat → List UInt8)
    (hn : n ≤ c) (hm : c ≤ 2 ^ 63 - 1) (hn2 : n2 ≤ c2) (hm2 : c2 ≤ 2 ^ 63 - 1) (hc5 : 5 < n2) (hcn : n ≤ 5)
    (HX : Hid (∀ i, i < n → X i < 18446744073709551616 ∧ ∃ b off, A = some ⟨b, off, none⟩ ∧ b < w.heap.size ∧ w.cell? ⟨b, off + i, none⟩ = some (.int .u64 (X i : Int))))
    (HT0 : Hid (∀ i, (T i).length ≤ 20)) (HT : Hid (∀ i, i < n2 → ∃ b off A' N' c' t, A2 = some ⟨b, off, none⟩ ∧ b < w.heap.size ∧ w.cell? ⟨b, off + i, none⟩ = some (.slice A' N' c') ∧ Sees w A' N' c' (bs t) ∧ t.take 20 = T i))
    (hcl : Hid (∀ k, (cat f k).length ≤ 61 * k)) (HF : Hid (f = rcl X T)) :
    Calls Try.prog 5 #[.slice A n c, .slice A2 n2 c2] w fun e w' => e = .returned (.bool true) ∧ Ext w w' := by
  have hlB : ∀ k, k ≤ n → (cat f k).length ≤ 305 := fun k hk => by have := hcl.out k; omega
  have HLB := Lib.hid hlB
  clear hlB
  go_enter Try.func5, Try.ntmps5
  go_wp2_with fail
  go_loopw [5, 7] (fun b i wr => ∃ (k mB : Nat) (B : Option Addr) (cb : Nat), k ≤ n ∧ i = .int .i64 k ∧ b = .slice B mB cb ∧ Sees wr B mB cb (bs (cat f k)) ∧ Ext w wr) (fun _ i _ => n - (intOf i).toNat)
  case atStart => exact ⟨0, 0, none, 0, by omega, rfl, rfl, Sees.nil _, Ext.refl w⟩
  case round =>
    obtain ⟨k, mB, B, cb, hk, rfl, rfl, seeb, extk⟩ := hrel
    have hmB := seeb.len
    rw [bs_length] at hmB
    have hmb2 := HLB.out k hk
    rw [hmB] at hmb2
    have HMB := Lib.hid hmB
    clear hmB
    by_cases hlt : k < n
    · have hj1 : k < n := by omega
      have hj2 : k < n2 := by omega
      obtain ⟨hx1, b1, off1, hA, hb1, hcell⟩ := HX.out k (by omega)
      subst hA
      obtain ⟨b2, off2, A', N', c', t, hA2, hb2, hcell2, seet, ht⟩ := HT.out k (by omega)
      subst hA2
      have HTk := Lib.hid ht
      have HTL : Hid ((T k).length ≤ 20) := Lib.hid (HT0.out k)
      clear ht
      have hxc : ∀ w', Ext w w' → w'.cell? ⟨b1, off1 + k, none⟩ = some (.int .u64 (X k : Int)) := fun w' h => h.cell hcell
      have htc : ∀ w', Ext w w' → w'.cell? ⟨b2, off2 + k, none⟩ = some (.slice A' N' c') := fun w' h => h.cell hcell2
      have HXc := Lib.hid hxc
      have HTc := Lib.hid htc
      have hw1 : (X k : Int) % 256 = ((X k % 256 : Nat) : Int) := by omega
      have hw2 : IntKind.u16.wrap (X k : Int) = ((X k % 65536 : Nat) : Int) := by show (X k : Int) % 65536 = _; omega
      have hw4 : (X k : Int) % 4294967296 = ((X k % 4294967296 : Nat) : Int) := by omega
      have HW1 := Lib.hid hw1
      have HW2 := Lib.hid hw2
      have HW4 := Lib.hid hw4
      clear hw1 hw2 hw4 hxc htc hcell hcell2
      have hc1 := HXc.out _ extk
      go_wp2_with fail
      refine (lu_u64 B mB cb (X k) (cat f k) _ seeb (by omega) hx1).mono ?_
      rintro e w1 ⟨v1, rfl, own1, ext1⟩
      obtain ⟨B1, cb1, rfl, see1⟩ := Sees.of_own own1
      have ext01 := extk.trans ext1
      clear own1 hc1 seeb ext1 extk
      have hc1 := HTc.out _ ext01
      go_wp2_with fail
      refine (few_nat A' _ c' _ 20 _ _ (seet.ext ext01) (bs_one _) (by omega) (by omega) rfl).mono ?_
      rintro e w2 ⟨v2, rfl, own2, ext2⟩
      rw [bs_take, HTk.out] at own2
      obtain ⟨B2, cb2, rfl, see2⟩ := Sees.of_own own2
      have see1b := see1.ext ext2
      have ext02 := ext01.trans ext2
      have hst := str_of see2
      clear own2 see1 hc1 ext2 ext01 see2
      go_wp2_with fail
      refine (ltext_any B1 _ cb1 _ (T k) _ see1b (by omega) (by have := HTL.out; omega)).mono ?_
      rintro e w3 ⟨v3, rfl, own3, ext3⟩
      obtain ⟨B3, cb3, rfl, see3⟩ := Sees.of_own own3
      have hl3 : mB + 8 + 2 + (T k).length ≤ 1000 := by have := HTL.out; omega
      have ext03 := ext02.trans ext3
      clear own3 see1b hst ext3 ext02
      have hc1 := HXc.out _ ext03
      go_wp2_with fail
      rw [HW2.out]
      refine (lu_u16 B3 _ cb3 (X k % 65536) _ _ see3 (by omega) (by omega)).mono ?_
      rintro e w4 ⟨v4, rfl, own4, ext4⟩
      obtain ⟨B4, cb4, rfl, see4⟩ := Sees.of_own own4
      have ext04 := ext03.trans ext4
      clear own4 see3 hc1 ext4 ext03
      have hc1 := HTc.out _ ext04
      go_wp2_with fail
      refine (few_nat A' _ c' _ 20 _ _ (seet.ext ext04) (bs_one _) (by omega) (by omega) rfl).mono ?_
      rintro e w5 ⟨v5, rfl, own5, ext5⟩
      rw [bs_take, HTk.out] at own5
      obtain ⟨B5, cb5, rfl, see5⟩ := Sees.of_own own5
      have see4b := see4.ext ext5
      have ext05 := ext04.trans ext5
      have hl5 : min N' 20 = (T k).length := by have := see5.len; rw [bs_length] at this; exact this.symm
      have HL5 := Lib.hid hl5
      clear own5 see4 hc1 ext5 ext04 hl5
      go_wp2_with fail
      refine (ldata_any B4 _ cb4 B5 _ cb5 _ (T k) _ see4b see5 (by omega) (by omega)).mono ?_
      rintro e w6 ⟨v6, rfl, own6, ext6⟩
      rw [HL5.out] at own6
      obtain ⟨B6, cb6, rfl, see6⟩ := Sees.of_own own6
      have hl6 : mB + 8 + 2 + (T k).length + 2 + 4 + (T k).length ≤ 1000 := by have := HTL.out; omega
      have ext06 := ext05.trans ext6
      clear own6 see4b see5 ext6 ext05
      have hc1 := HXc.out _ ext06
      go_wp2_with fail
      rw [HW1.out]
      refine (lu_u8 B6 _ cb6 (X k % 256) _ _ see6 (by omega) (by omega)).mono ?_
      rintro e w7 ⟨v7, rfl, own7, ext7⟩
      obtain ⟨B7, cb7, rfl, see7⟩ := Sees.of_own own7
      have ext07 := ext06.trans ext7
      clear own7 see6 hc1 ext7 ext06
      have hc1 := HXc.out _ ext07
      go_wp2_with fail
      rw [HW4.out]
      refine (lu_u32 B7 _ cb7 (X k % 4294967296) _ _ see7 (by omega) (by omega)).mono ?_
      rintro e w8 ⟨v8, rfl, own8, ext8⟩
      have e5 : cat f k ++ le 8 (X k) ++ le 2 (T k).length ++ T k ++ le 2 (X k % 65536) ++ le 4 (T k).length ++ T k ++ le 1 (X k % 256) ++ le 4 (X k % 4294967296) = cat f (k + 1) := by
        rw [HF.out]
        simp only [cat, rcl, List.append_assoc]
      rw [e5] at own8
      obtain ⟨B8, cb8, rfl, see8⟩ := Sees.of_own own8
      have ext08 := ext07.trans ext8
      clear own8 see7 e5 hc1 ext8 ext07
      go_wp2
      go_roundw
      case rel => exact ⟨k + 1, _, B8, cb8, by omega, by go_num, rfl, see8, ext08⟩
      case measure => simp [intOf]; omega
    · have hkK : k = n := by omega
      go_wp2_with fail
      refine (lread_any B mB cb _ _ seeb (by omega)).mono ?_
      rintro e w1 ⟨g, rfl, hg, rg, ext1⟩
      rw [cat_zero] at rg
      have hgw : w.heap.size ≤ g := Nat.le_trans extk.size hg
      have ext01 := extk.trans ext1
      clear seeb extk ext1 hg
      go_wp2_with fail
      go_loopw [9] (fun i wr => ∃ (j d : Nat), j + d = n ∧ i = .int .i64 j ∧ Rdl wr g 0 (tl f j d) ∧ Ext w wr) (fun i _ => n - (intOf i).toNat)
      case atStart => exact ⟨0, k, by omega, rfl, rg, ext01⟩
      case round =>
        clear rg ext01
        obtain ⟨j, d, hjd, rfl, rg, extj⟩ := hrel
        have HJ := Lib.hid hjd
        have hjk : j ≤ n := by omega
        by_cases hlt2 : j < n
        · have hj1 : j < n := by omega
          have hj2 : j < n2 := by omega
          obtain ⟨d, rfl⟩ : ∃ d', d = d' + 1 := ⟨d - 1, by omega⟩
          clear hjd
          have htj := HT0.out j
          have erem : tl f j (d + 1) = le 8 (X j) ++ (le 2 (T j).length ++ T j ++ (le 2 (X j % 65536) ++ (le 4 (T j).length ++ T j ++ (le 1 (X j % 256) ++ (le 4 (X j % 4294967296) ++ tl f (j + 1) d))))) := by
            rw [HF.out]
            simp only [tl, rcl, List.append_assoc]
          rw [erem] at rg
          obtain ⟨hx1, b1, off1, hA, hb1, hcell⟩ := HX.out j (by omega)
          subst hA
          obtain ⟨b2, off2, A', N', c', t, hA2, hb2, hcell2, seet, ht⟩ := HT.out j (by omega)
          subst hA2
          have HTk := Lib.hid ht
          generalize hrest : tl f (j + 1) d = rest at *
          have HR := Lib.hid hrest
          clear ht erem hrest
          have hcc2 := extj.cell hcell2
          go_wp2_with fail
          refine (few_nat A' _ c' _ 20 _ _ (seet.ext extj) (bs_one _) (by omega) (by omega) rfl).mono ?_
          rintro e w2 ⟨v2, rfl, own2, ext2⟩
          rw [bs_take, HTk.out] at own2
          obtain ⟨B2, cb2, rfl, see2⟩ := Sees.of_own own2
          have rg2 := rg.ext ext2
          have ext02 := extj.trans ext2
          have hst := str_of see2
          clear own2 hcc2 ext2 extj rg see2 hcell2 seet
          have hw1 : (X j : Int) % 256 = ((X j % 256 : Nat) : Int) := by omega
          have hw2 : IntKind.u16.wrap (X j : Int) = ((X j % 65536 : Nat) : Int) := by show (X j : Int) % 65536 = _; omega
          have hw4 : (X j : Int) % 4294967296 = ((X j % 4294967296 : Nat) : Int) := by omega
          have HW1 := Lib.hid hw1
          have HW4 := Lib.hid hw4
          clear hw1 hw4
          have hv1 : IntKind.u8.wrap (X j : Int) = (X j : Int) % 256 := rfl
          have hv4 : IntKind.u32.wrap (X j : Int) = (X j : Int) % 4294967296 := rfl
          have hc1 : ∀ w', Onl g w2.drew w' → w'.cell? ⟨b1, off1 + j, none⟩ = some (.int .u64 (X j : Int)) := fun w' hw => (hw.cell (ext02.drew.cell hcell) (show b1 ≠ g by omega))
          clear hcell
          go_wp2_with fail
          refine wp_region_ordR (Onl g) [0, 2, 3, 4, 5, 1, 6, 7, 8, 10, 9, 11, 12, 13, 14, 16, 17, 18, 19, 20, 15, 21, 22, 23, 24, 27, 25, 26, 28, 29, 30, 31, 33, 34, 35, 36, 37, 32, 38, 39, 40, 41, 43, 44, 45, 46, 47, 42, 48, 49] [5, 10, 20, 26, 37, 47] (by kernel_rfl) (by kernel_rfl) rfl (by kernel_rfl) ?_
          repeat (refine lexR_val (pre_onlK g) (v := ?_) rfl rfl (fun w' hw' => ?_) ?_; rotate_left; (· go_simp; try with_reducible rfl); simp only [Act.put, List.setIfInBounds_toArray, List.set_cons_zero, List.set_cons_succ])
          have rgD := rg2.ext (Ext.refl w2).drew
          have extD := ext02.drew
          clear rg2 ext02
          refine lexR_call (pre_onlK g) 34 #[.pointer (some ⟨g, 0, none⟩)] rfl rfl (by go_simp) ?_
          refine (lr_u64 g 0 (X j) _ _ hx1 rgD).mono ?_
          rintro e w3 ⟨rfl, rg3, o3⟩
          refine ⟨_, rfl, o3, ?_⟩
          have ext3 := extD.onlL o3 hgw
          replace hc1 := fun w' (hw : Onl g w3 w') => hc1 w' (o3.trans hw)
          clear rgD o3 extD
          simp only [Act.put, List.setIfInBounds_toArray, List.set_cons_zero, List.set_cons_succ]
          repeat (refine lexR_val (pre_onlK g) (v := ?_) rfl rfl (fun w' hw' => ?_) ?_; rotate_left; (· go_simp; try with_reducible rfl); simp only [Act.put, List.setIfInBounds_toArray, List.set_cons_zero, List.set_cons_succ])
          refine lexR_call (pre_onlK g) 35 #[.pointer (some ⟨g, 0, none⟩)] rfl rfl (by go_simp) ?_
          refine (ltextR_ok g 0 (T j) _ _ rg3 (by omega)).mono ?_
          rintro e w4 ⟨rfl, rg4, o4⟩
          refine ⟨_, rfl, o4, ?_⟩
          have ext4 := ext3.onlL o4 hgw
          replace hc1 := fun w' (hw : Onl g w4 w') => hc1 w' (o4.trans hw)
          clear rg3 o4 ext3
          simp only [Act.put, List.setIfInBounds_toArray, List.set_cons_zero, List.set_cons_succ]
          repeat (refine lexR_val (pre_onlK g) (v := ?_) rfl rfl (fun w' hw' => ?_) ?_; rotate_left; (· go_simp; try with_reducible rfl); simp only [Act.put, List.setIfInBounds_toArray, List.set_cons_zero, List.set_cons_succ])
          try (refine lexR_neqs (pre_onlK g) _ _ rfl rfl rfl rfl rfl ?_; simp only [Act.put, List.setIfInBounds_toArray, List.set_cons_zero, List.set_cons_succ]; repeat (refine lexR_val (pre_onlK g) (v := ?_) rfl rfl (fun w' hw' => ?_) ?_; rotate_left; (· go_simp; try with_reducible rfl); simp only [Act.put, List.setIfInBounds_toArray, List.set_cons_zero, List.set_cons_succ]))
          refine lexR_call (pre_onlK g) 32 #[.pointer (some ⟨g, 0, none⟩)] rfl rfl (by go_simp) ?_
          refine (lr_u16 g 0 (X j % 65536) _ _ (by omega) rg4).mono ?_
          rintro e w5 ⟨rfl, rg5, o5⟩
          refine ⟨_, rfl, o5, ?_⟩
          have ext5 := ext4.onlL o5 hgw
          replace hc1 := fun w' (hw : Onl g w5 w') => hc1 w' (o5.trans hw)
          clear rg4 o5 ext4
          simp only [Act.put, List.setIfInBounds_toArray, List.set_cons_zero, List.set_cons_succ]
          repeat (refine lexR_val (pre_onlK g) (v := ?_) rfl rfl (fun w' hw' => ?_) ?_; rotate_left; (· go_simp; try with_reducible rfl); simp only [Act.put, List.setIfInBounds_toArray, List.set_cons_zero, List.set_cons_succ])
          refine lexR_call (pre_onlK g) 37 #[.pointer (some ⟨g, 0, none⟩), .int .i64 20] rfl rfl (by go_simp) ?_
          refine (ldataR_ok g 0 20 (T j) _ _ rg5 (by omega) (by omega)).mono ?_
          rintro e w6 ⟨v6, rfl, own6, rg6, o6⟩
          obtain ⟨A7, c7, rfl, see7⟩ := Sees.of_own own6
          refine ⟨_, rfl, o6, ?_⟩
          have ext6 := ext5.onlL o6 hgw
          replace hc1 := fun w' (hw : Onl g w6 w') => hc1 w' (o6.trans hw)
          have h63 : ∀ w', Onl g w6 w' → _ := fun w' hw => str_of (see7.onlL rg6 hw)
          clear rg5 o6 ext5 own6
          simp only [Act.put, List.setIfInBounds_toArray, List.set_cons_zero, List.set_cons_succ]
          repeat (refine lexR_val (pre_onlK g) (v := ?_) rfl rfl (fun w' hw' => ?_) ?_; rotate_left; (· go_simp; try with_reducible rfl); simp only [Act.put, List.setIfInBounds_toArray, List.set_cons_zero, List.set_cons_succ])
          try (refine lexR_neqs (pre_onlK g) _ _ rfl rfl rfl rfl rfl ?_; simp only [Act.put, List.setIfInBounds_toArray, List.set_cons_zero, List.set_cons_succ]; repeat (refine lexR_val (pre_onlK g) (v := ?_) rfl rfl (fun w' hw' => ?_) ?_; rotate_left; (· go_simp; try with_reducible rfl); simp only [Act.put, List.setIfInBounds_toArray, List.set_cons_zero, List.set_cons_succ]))
          refine lexR_call (pre_onlK g) 30 #[.pointer (some ⟨g, 0, none⟩)] rfl rfl (by go_simp) ?_
          refine (lr_u8 g 0 (X j % 256) _ _ (by omega) rg6).mono ?_
          rintro e w7 ⟨rfl, rg7, o7⟩
          refine ⟨.int .u8 ((X j : Int) % 256), by rw [HW1.out], o7, ?_⟩
          have ext7 := ext6.onlL o7 hgw
          replace hc1 := fun w' (hw : Onl g w7 w') => hc1 w' (o7.trans hw)
          clear rg6 o7 ext6 h63 see7
          simp only [Act.put, List.setIfInBounds_toArray, List.set_cons_zero, List.set_cons_succ]
          repeat (refine lexR_val (pre_onlK g) (v := ?_) rfl rfl (fun w' hw' => ?_) ?_; rotate_left; (· go_simp; try with_reducible rfl); simp only [Act.put, List.setIfInBounds_toArray, List.set_cons_zero, List.set_cons_succ])
          refine lexR_call (pre_onlK g) 33 #[.pointer (some ⟨g, 0, none⟩)] rfl rfl (by go_simp) ?_
          refine (lr_u32 g 0 (X j % 4294967296) _ _ (by omega) rg7).mono ?_
          rintro e w8 ⟨rfl, rg8, o8⟩
          refine ⟨.int .u32 ((X j : Int) % 4294967296), by rw [HW4.out], o8, ?_⟩
          have ext8 := ext7.onlL o8 hgw
          clear rg7 o8 ext7 hc1
          simp only [Act.put, List.setIfInBounds_toArray, List.set_cons_zero, List.set_cons_succ]
          repeat (refine lexR_val (pre_onlK g) (v := ?_) rfl rfl (fun w' hw' => ?_) ?_; rotate_left; (· go_simp; try with_reducible rfl); simp only [Act.put, List.setIfInBounds_toArray, List.set_cons_zero, List.set_cons_succ])
          refine lexR_done ?_
          rw [← HR.out] at rg8
          go_wp2
          go_roundw
          case rel => exact ⟨j + 1, d, by have := HJ.out; omega, by go_num, rg8, ext8⟩
          case measure => simp [intOf]; omega
        · obtain rfl : d = 0 := by omega
          have rg0 : Rdl wr g 0 [] := rg
          clear rg hjd
          go_wp2_with fail
          refine (lend_any g 0 _ rg0).mono ?_
          rintro e w1 ⟨rfl, rfl⟩
          go_wp2_with fail
          refine (littleLives_any _).mono ?_
          rintro e w1 ⟨rfl, e1⟩
          go_wp2
          go_ret
          exact ⟨rfl, extj.trans e1⟩
set_option maxRecDepth 4000 in
set_option maxHeartbeats 4000000 in
theorem lround_d (A A2 : Option Addr) (n c n2 c2 : Nat) (w : World) (X : Nat → Nat) (T : Nat → List UInt8) (f : Nat → List UInt8)
    (hn : n ≤ c) (hm : c ≤ 2 ^ 63 - 1) (hn2 : n2 ≤ c2) (hm2 : c2 ≤ 2 ^ 63 - 1) (hc5 : 5 < n2) (hcn : 5 < n)
    (HX : Hid (∀ i, i < n → X i < 18446744073709551616 ∧ ∃ b off, A = some ⟨b, off, none⟩ ∧ b < w.heap.size ∧ w.cell? ⟨b, off + i, none⟩ = some (.int .u64 (X i : Int))))
    (HT0 : Hid (∀ i, (T i).length ≤ 20)) (HT : Hid (∀ i, i < n2 → ∃ b off A' N' c' t, A2 = some ⟨b, off, none⟩ ∧ b < w.heap.size ∧ w.cell? ⟨b, off + i, none⟩ = some (.slice A' N' c') ∧ Sees w A' N' c' (bs t) ∧ t.take 20 = T i))
    (hcl : Hid (∀ k, (cat f k).length ≤ 61 * k)) (HF : Hid (f = rcl X T)) :
    Calls Try.prog 5 #[.slice A n c, .slice A2 n2 c2] w fun e w' => e = .returned (.bool true) ∧ Ext w w' := by
  have hlB : ∀ k, k ≤ 5 → (cat f k).length ≤ 305 := fun k hk => by have := hcl.out k; omega
  have HLB := Lib.hid hlB
  clear hlB
  go_enter Try.func5, Try.ntmps5
  go_wp2_with fail
  go_loopw [5, 7] (fun b i wr => ∃ (k mB : Nat) (B : Option Addr) (cb : Nat), k ≤ 5 ∧ i = .int .i64 k ∧ b = .slice B mB cb ∧ Sees wr B mB cb (bs (cat f k)) ∧ Ext w wr) (fun _ i _ => 5 - (intOf i).toNat)
  case atStart => exact ⟨0, 0, none, 0, by omega, rfl, rfl, Sees.nil _, Ext.refl w⟩
  case round =>
    obtain ⟨k, mB, B, cb, hk, rfl, rfl, seeb, extk⟩ := hrel
    have hmB := seeb.len
    rw [bs_length] at hmB
    have hmb2 := HLB.out k hk
    rw [hmB] at hmb2
    have HMB := Lib.hid hmB
    clear hmB
    by_cases hlt : k < 5
    · have hj1 : k < n := by omega
      have hj2 : k < n2 := by omega
      obtain ⟨hx1, b1, off1, hA, hb1, hcell⟩ := HX.out k (by omega)
      subst hA
      obtain ⟨b2, off2, A', N', c', t, hA2, hb2, hcell2, seet, ht⟩ := HT.out k (by omega)
      subst hA2
      have HTk := Lib.hid ht
      have HTL : Hid ((T k).length ≤ 20) := Lib.hid (HT0.out k)
      clear ht
      have hxc : ∀ w', Ext w w' → w'.cell? ⟨b1, off1 + k, none⟩ = some (.int .u64 (X k : Int)) := fun w' h => h.cell hcell
      have htc : ∀ w', Ext w w' → w'.cell? ⟨b2, off2 + k, none⟩ = some (.slice A' N' c') := fun w' h => h.cell hcell2
      have HXc := Lib.hid hxc
      have HTc := Lib.hid htc
      have hw1 : (X k : Int) % 256 = ((X k % 256 : Nat) : Int) := by omega
      have hw2 : IntKind.u16.wrap (X k : Int) = ((X k % 65536 : Nat) : Int) := by show (X k : Int) % 65536 = _; omega
      have hw4 : (X k : Int) % 4294967296 = ((X k % 4294967296 : Nat) : Int) := by omega
      have HW1 := Lib.hid hw1
      have HW2 := Lib.hid hw2
      have HW4 := Lib.hid hw4
      clear hw1 hw2 hw4 hxc htc hcell hcell2
      have hc1 := HXc.out _ extk
      go_wp2_with fail
      refine (lu_u64 B mB cb (X k) (cat f k) _ seeb (by omega) hx1).mono ?_
      rintro e w1 ⟨v1, rfl, own1, ext1⟩
      obtain ⟨B1, cb1, rfl, see1⟩ := Sees.of_own own1
      have ext01 := extk.trans ext1
      clear own1 hc1 seeb ext1 extk
      have hc1 := HTc.out _ ext01
      go_wp2_with fail
      refine (few_nat A' _ c' _ 20 _ _ (seet.ext ext01) (bs_one _) (by omega) (by omega) rfl).mono ?_
      rintro e w2 ⟨v2, rfl, own2, ext2⟩
      rw [bs_take, HTk.out] at own2
      obtain ⟨B2, cb2, rfl, see2⟩ := Sees.of_own own2
      have see1b := see1.ext ext2
      have ext02 := ext01.trans ext2
      have hst := str_of see2
      clear own2 see1 hc1 ext2 ext01 see2
      go_wp2_with fail
      refine (ltext_any B1 _ cb1 _ (T k) _ see1b (by omega) (by have := HTL.out; omega)).mono ?_
      rintro e w3 ⟨v3, rfl, own3, ext3⟩
      obtain ⟨B3, cb3, rfl, see3⟩ := Sees.of_own own3
      have hl3 : mB + 8 + 2 + (T k).length ≤ 1000 := by have := HTL.out; omega
      have ext03 := ext02.trans ext3
      clear own3 see1b hst ext3 ext02
      have hc1 := HXc.out _ ext03
      go_wp2_with fail
      rw [HW2.out]
      refine (lu_u16 B3 _ cb3 (X k % 65536) _ _ see3 (by omega) (by omega)).mono ?_
      rintro e w4 ⟨v4, rfl, own4, ext4⟩
      obtain ⟨B4, cb4, rfl, see4⟩ := Sees.of_own own4
      have ext04 := ext03.trans ext4
      clear own4 see3 hc1 ext4 ext03
      have hc1 := HTc.out _ ext04
      go_wp2_with fail
      refine (few_nat A' _ c' _ 20 _ _ (seet.ext ext04) (bs_one _) (by omega) (by omega) rfl).mono ?_
      rintro e w5 ⟨v5, rfl, own5, ext5⟩
      rw [bs_take, HTk.out] at own5
      obtain ⟨B5, cb5, rfl, see5⟩ := Sees.of_own own5
      have see4b := see4.ext ext5
      have ext05 := ext04.trans ext5
      have hl5 : min N' 20 = (T k).length := by have := see5.len; rw [bs_length] at this; exact this.symm
      have HL5 := Lib.hid hl5
      clear own5 see4 hc1 ext5 ext04 hl5
      go_wp2_with fail
      refine (ldata_any B4 _ cb4 B5 _ cb5 _ (T k) _ see4b see5 (by omega) (by omega)).mono ?_
      rintro e w6 ⟨v6, rfl, own6, ext6⟩
      rw [HL5.out] at own6
      obtain ⟨B6, cb6, rfl, see6⟩ := Sees.of_own own6
      have hl6 : mB + 8 + 2 + (T k).length + 2 + 4 + (T k).length ≤ 1000 := by have := HTL.out; omega
      have ext06 := ext05.trans ext6
      clear own6 see4b see5 ext6 ext05
      have hc1 := HXc.out _ ext06
      go_wp2_with fail
      rw [HW1.out]
      refine (lu_u8 B6 _ cb6 (X k % 256) _ _ see6 (by omega) (by omega)).mono ?_
      rintro e w7 ⟨v7, rfl, own7, ext7⟩
      obtain ⟨B7, cb7, rfl, see7⟩ := Sees.of_own own7
      have ext07 := ext06.trans ext7
      clear own7 see6 hc1 ext7 ext06
      have hc1 := HXc.out _ ext07
      go_wp2_with fail
      rw [HW4.out]
      refine (lu_u32 B7 _ cb7 (X k % 4294967296) _ _ see7 (by omega) (by omega)).mono ?_
      rintro e w8 ⟨v8, rfl, own8, ext8⟩
      have e5 : cat f k ++ le 8 (X k) ++ le 2 (T k).length ++ T k ++ le 2 (X k % 65536) ++ le 4 (T k).length ++ T k ++ le 1 (X k % 256) ++ le 4 (X k % 4294967296) = cat f (k + 1) := by
        rw [HF.out]
        simp only [cat, rcl, List.append_assoc]
      rw [e5] at own8
      obtain ⟨B8, cb8, rfl, see8⟩ := Sees.of_own own8
      have ext08 := ext07.trans ext8
      clear own8 see7 e5 hc1 ext8 ext07
      go_wp2
      go_roundw
      case rel => exact ⟨k + 1, _, B8, cb8, by omega, by go_num, rfl, see8, ext08⟩
      case measure => simp [intOf]; omega
    · have hkK : k = 5 := by omega
      go_wp2_with fail
      refine (lread_any B mB cb _ _ seeb (by omega)).mono ?_
      rintro e w1 ⟨g, rfl, hg, rg, ext1⟩
      rw [cat_zero] at rg
      have hgw : w.heap.size ≤ g := Nat.le_trans extk.size hg
      have ext01 := extk.trans ext1
      clear seeb extk ext1 hg
      go_wp2_with fail
      go_loopw [9] (fun i wr => ∃ (j d : Nat), j + d = 5 ∧ i = .int .i64 j ∧ Rdl wr g 0 (tl f j d) ∧ Ext w wr) (fun i _ => 5 - (intOf i).toNat)
      case atStart => exact ⟨0, k, by omega, rfl, rg, ext01⟩
      case round =>
        clear rg ext01
        obtain ⟨j, d, hjd, rfl, rg, extj⟩ := hrel
        have HJ := Lib.hid hjd
        have hjk : j ≤ 5 := by omega
        by_cases hlt2 : j < 5
        · have hj1 : j < n := by omega
          have hj2 : j < n2 := by omega
          obtain ⟨d, rfl⟩ : ∃ d', d = d' + 1 := ⟨d - 1, by omega⟩
          clear hjd
          have htj := HT0.out j
          have erem : tl f j (d + 1) = le 8 (X j) ++ (le 2 (T j).length ++ T j ++ (le 2 (X j % 65536) ++ (le 4 (T j).length ++ T j ++ (le 1 (X j % 256) ++ (le 4 (X j % 4294967296) ++ tl f (j + 1) d))))) := by
            rw [HF.out]
            simp only [tl, rcl, List.append_assoc]
          rw [erem] at rg
          obtain ⟨hx1, b1, off1, hA, hb1, hcell⟩ := HX.out j (by omega)
          subst hA
          obtain ⟨b2, off2, A', N', c', t, hA2, hb2, hcell2, seet, ht⟩ := HT.out j (by omega)
          subst hA2
          have HTk := Lib.hid ht
          generalize hrest : tl f (j + 1) d = rest at *
          have HR := Lib.hid hrest
          clear ht erem hrest
          have hcc2 := extj.cell hcell2
          go_wp2_with fail
          refine (few_nat A' _ c' _ 20 _ _ (seet.ext extj) (bs_one _) (by omega) (by omega) rfl).mono ?_
          rintro e w2 ⟨v2, rfl, own2, ext2⟩
          rw [bs_take, HTk.out] at own2
          obtain ⟨B2, cb2, rfl, see2⟩ := Sees.of_own own2
          have rg2 := rg.ext ext2
          have ext02 := extj.trans ext2
          have hst := str_of see2
          clear own2 hcc2 ext2 extj rg see2 hcell2 seet
          have hw1 : (X j : Int) % 256 = ((X j % 256 : Nat) : Int) := by omega
          have hw2 : IntKind.u16.wrap (X j : Int) = ((X j % 65536 : Nat) : Int) := by show (X j : Int) % 65536 = _; omega
          have hw4 : (X j : Int) % 4294967296 = ((X j % 4294967296 : Nat) : Int) := by omega
          have HW1 := Lib.hid hw1
          have HW4 := Lib.hid hw4
          clear hw1 hw4
          have hv1 : IntKind.u8.wrap (X j : Int) = (X j : Int) % 256 := rfl
          have hv4 : IntKind.u32.wrap (X j : Int) = (X j : Int) % 4294967296 := rfl
          have hc1 : ∀ w', Onl g w2.drew w' → w'.cell? ⟨b1, off1 + j, none⟩ = some (.int .u64 (X j : Int)) := fun w' hw => (hw.cell (ext02.drew.cell hcell) (show b1 ≠ g by omega))
          clear hcell
          go_wp2_with fail
          refine wp_region_ordR (Onl g) [0, 2, 3, 4, 5, 1, 6, 7, 8, 10, 9, 11, 12, 13, 14, 16, 17, 18, 19, 20, 15, 21, 22, 23, 24, 27, 25, 26, 28, 29, 30, 31, 33, 34, 35, 36, 37, 32, 38, 39, 40, 41, 43, 44, 45, 46, 47, 42, 48, 49] [5, 10, 20, 26, 37, 47] (by kernel_rfl) (by kernel_rfl) rfl (by kernel_rfl) ?_
          repeat (refine lexR_val (pre_onlK g) (v := ?_) rfl rfl (fun w' hw' => ?_) ?_; rotate_left; (· go_simp; try with_reducible rfl); simp only [Act.put, List.setIfInBounds_toArray, List.set_cons_zero, List.set_cons_succ])
          have rgD := rg2.ext (Ext.refl w2).drew
          have extD := ext02.drew
          clear rg2 ext02
          refine lexR_call (pre_onlK g) 34 #[.pointer (some ⟨g, 0, none⟩)] rfl rfl (by go_simp) ?_
          refine (lr_u64 g 0 (X j) _ _ hx1 rgD).mono ?_
          rintro e w3 ⟨rfl, rg3, o3⟩
          refine ⟨_, rfl, o3, ?_⟩
          have ext3 := extD.onlL o3 hgw
          replace hc1 := fun w' (hw : Onl g w3 w') => hc1 w' (o3.trans hw)
          clear rgD o3 extD
          simp only [Act.put, List.setIfInBounds_toArray, List.set_cons_zero, List.set_cons_succ]
          repeat (refine lexR_val (pre_onlK g) (v := ?_) rfl rfl (fun w' hw' => ?_) ?_; rotate_left; (· go_simp; try with_reducible rfl); simp only [Act.put, List.setIfInBounds_toArray, List.set_cons_zero, List.set_cons_succ])
          refine lexR_call (pre_onlK g) 35 #[.pointer (some ⟨g, 0, none⟩)] rfl rfl (by go_simp) ?_
          refine (ltextR_ok g 0 (T j) _ _ rg3 (by omega)).mono ?_
          rintro e w4 ⟨rfl, rg4, o4⟩
          refine ⟨_, rfl, o4, ?_⟩
          have ext4 := ext3.onlL o4 hgw
          replace hc1 := fun w' (hw : Onl g w4 w') => hc1 w' (o4.trans hw)
          clear rg3 o4 ext3
          simp only [Act.put, List.setIfInBounds_toArray, List.set_cons_zero, List.set_cons_succ]
          repeat (refine lexR_val (pre_onlK g) (v := ?_) rfl rfl (fun w' hw' => ?_) ?_; rotate_left; (· go_simp; try with_reducible rfl); simp only [Act.put, List.setIfInBounds_toArray, List.set_cons_zero, List.set_cons_succ])
          try (refine lexR_neqs (pre_onlK g) _ _ rfl rfl rfl rfl rfl ?_; simp only [Act.put, List.setIfInBounds_toArray, List.set_cons_zero, List.set_cons_succ]; repeat (refine lexR_val (pre_onlK g) (v := ?_) rfl rfl (fun w' hw' => ?_) ?_; rotate_left; (· go_simp; try with_reducible rfl); simp only [Act.put, List.setIfInBounds_toArray, List.set_cons_zero, List.set_cons_succ]))
          refine lexR_call (pre_onlK g) 32 #[.pointer (some ⟨g, 0, none⟩)] rfl rfl (by go_simp) ?_
          refine (lr_u16 g 0 (X j % 65536) _ _ (by omega) rg4).mono ?_
          rintro e w5 ⟨rfl, rg5, o5⟩
          refine ⟨_, rfl, o5, ?_⟩
          have ext5 := ext4.onlL o5 hgw
          replace hc1 := fun w' (hw : Onl g w5 w') => hc1 w' (o5.trans hw)
          clear rg4 o5 ext4
          simp only [Act.put, List.setIfInBounds_toArray, List.set_cons_zero, List.set_cons_succ]
          repeat (refine lexR_val (pre_onlK g) (v := ?_) rfl rfl (fun w' hw' => ?_) ?_; rotate_left; (· go_simp; try with_reducible rfl); simp only [Act.put, List.setIfInBounds_toArray, List.set_cons_zero, List.set_cons_succ])
          refine lexR_call (pre_onlK g) 37 #[.pointer (some ⟨g, 0, none⟩), .int .i64 20] rfl rfl (by go_simp) ?_
          refine (ldataR_ok g 0 20 (T j) _ _ rg5 (by omega) (by omega)).mono ?_
          rintro e w6 ⟨v6, rfl, own6, rg6, o6⟩
          obtain ⟨A7, c7, rfl, see7⟩ := Sees.of_own own6
          refine ⟨_, rfl, o6, ?_⟩
          have ext6 := ext5.onlL o6 hgw
          replace hc1 := fun w' (hw : Onl g w6 w') => hc1 w' (o6.trans hw)
          have h63 : ∀ w', Onl g w6 w' → _ := fun w' hw => str_of (see7.onlL rg6 hw)
          clear rg5 o6 ext5 own6
          simp only [Act.put, List.setIfInBounds_toArray, List.set_cons_zero, List.set_cons_succ]
          repeat (refine lexR_val (pre_onlK g) (v := ?_) rfl rfl (fun w' hw' => ?_) ?_; rotate_left; (· go_simp; try with_reducible rfl); simp only [Act.put, List.setIfInBounds_toArray, List.set_cons_zero, List.set_cons_succ])
          try (refine lexR_neqs (pre_onlK g) _ _ rfl rfl rfl rfl rfl ?_; simp only [Act.put, List.setIfInBounds_toArray, List.set_cons_zero, List.set_cons_succ]; repeat (refine lexR_val (pre_onlK g) (v := ?_) rfl rfl (fun w' hw' => ?_) ?_; rotate_left; (· go_simp; try with_reducible rfl); simp only [Act.put, List.setIfInBounds_toArray, List.set_cons_zero, List.set_cons_succ]))
          refine lexR_call (pre_onlK g) 30 #[.pointer (some ⟨g, 0, none⟩)] rfl rfl (by go_simp) ?_
          refine (lr_u8 g 0 (X j % 256) _ _ (by omega) rg6).mono ?_
          rintro e w7 ⟨rfl, rg7, o7⟩
          refine ⟨.int .u8 ((X j : Int) % 256), by rw [HW1.out], o7, ?_⟩
          have ext7 := ext6.onlL o7 hgw
          replace hc1 := fun w' (hw : Onl g w7 w') => hc1 w' (o7.trans hw)
          clear rg6 o7 ext6 h63 see7
          simp only [Act.put, List.setIfInBounds_toArray, List.set_cons_zero, List.set_cons_succ]
          repeat (refine lexR_val (pre_onlK g) (v := ?_) rfl rfl (fun w' hw' => ?_) ?_; rotate_left; (· go_simp; try with_reducible rfl); simp only [Act.put, List.setIfInBounds_toArray, List.set_cons_zero, List.set_cons_succ])
          refine lexR_call (pre_onlK g) 33 #[.pointer (some ⟨g, 0, none⟩)] rfl rfl (by go_simp) ?_
          refine (lr_u32 g 0 (X j % 4294967296) _ _ (by omega) rg7).mono ?_
          rintro e w8 ⟨rfl, rg8, o8⟩
          refine ⟨.int .u32 ((X j : Int) % 4294967296), by rw [HW4.out], o8, ?_⟩
          have ext8 := ext7.onlL o8 hgw
          clear rg7 o8 ext7 hc1
          simp only [Act.put, List.setIfInBounds_toArray, List.set_cons_zero, List.set_cons_succ]
          repeat (refine lexR_val (pre_onlK g) (v := ?_) rfl rfl (fun w' hw' => ?_) ?_; rotate_left; (· go_simp; try with_reducible rfl); simp only [Act.put, List.setIfInBounds_toArray, List.set_cons_zero, List.set_cons_succ])
          refine lexR_done ?_
          rw [← HR.out] at rg8
          go_wp2
          go_roundw
          case rel => exact ⟨j + 1, d, by have := HJ.out; omega, by go_num, rg8, ext8⟩
          case measure => simp [intOf]; omega
        · obtain rfl : d = 0 := by omega
          have rg0 : Rdl wr g 0 [] := rg
          clear rg hjd
          go_wp2_with fail
          refine (lend_any g 0 _ rg0).mono ?_
          rintro e w1 ⟨rfl, rfl⟩
          go_wp2_with fail
          refine (littleLives_any _).mono ?_
          rintro e w1 ⟨rfl, e1⟩
          go_wp2
          go_ret
          exact ⟨rfl, extj.trans e1⟩
theorem lround_walk (A A2 : Option Addr) (n c n2 c2 : Nat) (z : List Int) (rows : List (List Int)) (w : World)
    (hs : Sees w A n c (z.map (Value.int .u64))) (hq : ∀ x ∈ z, (Lit.int .u64 x).wf = true) (hs2 : SeesRows .u8 w A2 n2 c2 rows) :
    Calls Try.prog 5 #[.slice A n c, .slice A2 n2 c2] w fun e w' => e = .returned (.bool true) ∧ Ext w w' := by
  have hzl := hs.len
  rw [List.length_map] at hzl
  have HX : Hid (∀ i, i < n → (fun i => (z.getD i 0).toNat) i < 18446744073709551616 ∧ ∃ b off, A = some ⟨b, off, none⟩ ∧ b < w.heap.size ∧ w.cell? ⟨b, off + i, none⟩ = some (.int .u64 ((fun i => (z.getD i 0).toNat) i : Int))) := Lib.hid fun i hi => by
    obtain ⟨b, off, u, hA, hu, hc, hb⟩ := hs.at_ hi
    have hiz : i < z.length := by omega
    have hg : z.getD i 0 = z[i] := by simp [List.getD, List.getElem?_eq_getElem hiz]
    have hu' : u = .int .u64 (z.getD i 0) := by
      rw [List.getElem?_map, List.getElem?_eq_getElem hiz] at hu
      rw [hg]
      simpa using hu.symm
    have hw := hq (z.getD i 0) (by rw [hg]; exact List.getElem_mem hiz)
    have hw := bounds_u64 hw
    have hn : (((z.getD i 0).toNat : Nat) : Int) = z.getD i 0 := Int.toNat_of_nonneg hw.1
    refine ⟨by show (z.getD i 0).toNat < _; omega, b, off, hA, hb, ?_⟩
    rw [hc, hu']
    show _ = some (Value.int .u64 (((z.getD i 0).toNat : Nat) : Int))
    rw [hn]
  have HT0 : Hid (∀ i, ((fun i => ((rows.getD i []).map fun x => UInt8.ofNat x.toNat).take 20) i).length ≤ 20) := Lib.hid fun i => by rw [List.length_take]; omega
  have HT : Hid (∀ i, i < n2 → ∃ b off A' N' c' t, A2 = some ⟨b, off, none⟩ ∧ b < w.heap.size ∧ w.cell? ⟨b, off + i, none⟩ = some (.slice A' N' c') ∧ Sees w A' N' c' (bs t) ∧ t.take 20 = (fun i => ((rows.getD i []).map fun x => UInt8.ofNat x.toNat).take 20) i) := Lib.hid fun i hi => by
    obtain ⟨b, off, A', c', r, hA, hr, hcell, seer, hqr⟩ := hs2.at_ i hi
    rw [ints_bytes hqr] at seer
    have hb := World.block_lt_of_cell? w ⟨b, off + i, none⟩ hcell
    exact ⟨b, off, A', _, c', _, hA, hb, hcell, seer, by simp [List.getD, hr]⟩
  have hcl : Hid (∀ k, (cat (rcl (fun i => (z.getD i 0).toNat) (fun i => ((rows.getD i []).map fun x => UInt8.ofNat x.toNat).take 20)) k).length ≤ 61 * k) := Lib.hid fun k => catl_le _ _ HT0.out k
  have hn := hs.le
  have hn2 := hs2.2.1
  have hx1 := hs.max
  have hx2 := hs2.2.2.1
  unfold maxLen at hx1 hx2
  by_cases h5 : n2 ≤ 5
  · by_cases hnn : n ≤ n2
    · exact lround_a A A2 n c n2 c2 w _ _ _ hn hx1 hn2 hx2 h5 hnn HX HT0 HT hcl (Lib.hid rfl)
    · exact lround_b A A2 n c n2 c2 w _ _ _ hn hx1 hn2 hx2 h5 (by omega) HX HT0 HT hcl (Lib.hid rfl)
  · by_cases hnn : n ≤ 5
    · exact lround_c A A2 n c n2 c2 w _ _ _ hn hx1 hn2 hx2 (by omega) hnn HX HT0 HT hcl (Lib.hid rfl)
    · exact lround_d A A2 n c n2 c2 w _ _ _ hn hx1 hn2 hx2 (by omega) (by omega) HX HT0 HT hcl (Lib.hid rfl)
end Go.Proofs.Ytlbokdoipajodaa
