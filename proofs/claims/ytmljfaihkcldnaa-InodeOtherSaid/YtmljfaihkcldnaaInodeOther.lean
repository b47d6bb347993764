/-
  The statement InodeOther: its walk.
-/
import Derived.Test.YtmljfaihkcldnaaInoF
namespace Go.Proofs.Ytmljfaihkcldnaa
open Go Go.RowKit
set_option linter.unusedVariables false
set_option linter.unusedSimpArgs false
set_option maxRecDepth 20000 in
set_option maxHeartbeats 4000000 in
theorem io_walk (many ino gen x : Int) (w : World) (hm0 : -9223372036854775808 ≤ many) (hm1 : many ≤ 9223372036854775807) (ha0 : -9223372036854775808 ≤ ino) (ha1 : ino ≤ 9223372036854775807) (hb0 : -9223372036854775808 ≤ gen) (hb1 : gen ≤ 9223372036854775807) (hx0 : -9223372036854775808 ≤ x) (hx1 : x ≤ 9223372036854775807) :
    Calls Try.prog 5 #[.int .i64 many, .agg #[.int .i64 ino, .int .i64 gen], .int .i64 x] w fun e w' => e = .returned (.bool true) ∧ Ext w w' := by
  have HA := Lib.hid (fun w => around_any many 6 w hm0 hm1 (by omega) (by omega))
  obtain ⟨r0, r1⟩ := aroundZ_bound many 6 (by omega)
  obtain ⟨R, hR⟩ := Int.eq_ofNat_of_zero_le r0
  rw [hR] at r0 r1 HA
  clear hR
  have HN := Lib.hid (fun w => new_int 5 5 w rfl (by omega) (by omega))
  go_enter Try.func5, Try.ntmps5
  have ea : Ext w (w.alloc (.cells #[.int .i64 ino, .int .i64 gen] 29)) := (Ext.refl w).alloc _
  have hblk := heap_alloc_new w (.cells #[.int .i64 ino, .int .i64 gen] 29)
  have c0 : (w.alloc (.cells #[.int .i64 ino, .int .i64 gen] 29)).cell? ⟨w.heap.size, 0, none⟩ = some (.int .i64 ino) := by rw [cell_of_row _ w.heap.size 0 _ _ _ hblk]; rfl
  have c1 : (w.alloc (.cells #[.int .i64 ino, .int .i64 gen] 29)).cell? ⟨w.heap.size, 1, none⟩ = some (.int .i64 gen) := by rw [cell_of_row _ w.heap.size 1 _ _ _ hblk]; rfl
  have C0 := Lib.hid c0
  have C1 := Lib.hid c1
  have EA := Lib.hid ea
  clear c0 c1 ea hblk
  go_wp2_with fail
  generalize w.alloc (.cells #[.int .i64 ino, .int .i64 gen] 29) = w0 at *
  generalize w.heap.size = z0 at *
  refine (HA.out _).mono ?_
  rintro e w1 ⟨rfl, rfl⟩
  go_wp2_with fail
  refine (HN.out _).mono ?_
  rintro e w1 ⟨tb, pb, bx, rfl, T1, l1, l2, l3, e1⟩
  have HT1 := Lib.hid T1
  have E1 := Lib.hid e1
  clear T1 e1
  go_wp2_with fail
  go_loopw [10] (fun i wr => ∃ (j : Nat) (TH : Nat → Value) (FU : Nat → Bool) (GE : Nat → Int), j ≤ R ∧ i = .int .i64 j ∧ Tab_int wr tb pb bx 5 j TH FU GE ∧ Filled 0 j TH FU GE ∧ Ext w0 wr) (fun i _ => R - (intOf i).toNat)
  case atStart => exact ⟨0, _, _, _, by omega, rfl, HT1.out, Filled.start 0, E1.out⟩
  case round =>
    obtain ⟨j, TH, FU, GE, hj, rfl, tab, fil, ext⟩ := hrel
    have HT := Lib.hid tab
    have HF := Lib.hid fil
    have EX := Lib.hid ext
    clear tab fil ext
    by_cases hlt : j < R
    · have HAd := Lib.hid (add_int_ok wr tb pb bx 5 (j : Int) TH FU GE j (j : Int) HT.out (by omega) (HF.out.2 j (Nat.le_refl _)).1 (fun y hy => (HF.out.1 y hy).2.1) (by rw [(HF.out.2 j (Nat.le_refl _)).2]; decide) (by rw [(HF.out.2 j (Nat.le_refl _)).2]; decide) (by omega) (by omega))
      go_wp2_with fail
      refine (HAd.out).mono ?_
      rintro e w2 ⟨rfl, T2, b2, f2⟩
      have HT2 := Lib.hid T2
      have E2 := Lib.hid (show Ext w0 w2 from Below.trans EX.out (b2 _ l1 l2 EX.out.size))
      clear T2 b2 f2
      go_wp2
      go_roundw
      case rel => exact ⟨j + 1, _, _, _, by omega, by go_num, by rw [show ((j + 1 : Nat) : Int) = (j : Int) + 1 by omega]; exact HT2.out, by have := HF.out.next; rw [Int.zero_add] at this; exact this, E2.out⟩
      case measure => simp [intOf]; omega
    · obtain rfl : j = R := by omega
      have hc0 := EX.out.cell C0.out
      have hc1 := EX.out.cell C1.out
      by_cases hin : 1 ≤ ino ∧ ino ≤ (j : Int) ∧ gen = 1
      · obtain ⟨hi1, hi2, rfl⟩ := hin
        obtain ⟨i, hi⟩ := Int.eq_ofNat_of_zero_le (show 0 ≤ ino - 1 by omega)
        obtain rfl : ino = (i : Int) + 1 := by omega
        clear hi
        have hi5 : i < j := by omega
        have HFi := Lib.hid (HF.out.1 i hi5)
        have HG1 := Lib.hid (get_int_ok wr tb pb bx 5 (j : Int) 1 i TH FU GE HT.out (by omega) HFi.out.2.1 HFi.out.2.2)
        rw [HFi.out.1, Int.zero_add] at HG1
        go_wp2_with fail
        refine (HG1.out).mono ?_
        rintro e w2 ⟨rfl, e2⟩
        have hd0 := e2.cell hc0
        have hd1 := e2.cell hc1
        have HS := Lib.hid (set_int_ok w2 tb pb bx 5 (j : Int) 1 i TH FU GE x (HT.out.ext e2) (by omega) HFi.out.2.1 HFi.out.2.2)
        have E2 := Lib.hid (EX.out.trans e2)
        clear hc0 hc1 e2
        go_wp2_with fail
        refine (HS.out).mono ?_
        rintro e w3 ⟨rfl, T3, b3, f3⟩
        have E3 := Lib.hid (show Ext w0 w3 from Below.trans E2.out (b3 _ l1 l2 E2.out.size))
        have hc0 := E3.out.cell C0.out
        have hc1 := E3.out.cell C1.out
        have G := get_int_ok w3 tb pb bx 5 (j : Int) 1 i _ _ _ T3 (by omega) HFi.out.2.1 HFi.out.2.2
        rw [upd_same] at G
        have HG := Lib.hid G
        have HT3 := Lib.hid T3
        clear G T3 b3 f3 hd0 hd1
        go_wp2_with fail
        refine (HG.out).mono ?_
        rintro e w4 ⟨rfl, e4⟩
        have hd0 := e4.cell hc0
        have hd1 := e4.cell hc1
        have HR := Lib.hid (remove_int_ok w4 tb pb bx 5 (j : Int) 1 i _ _ _ (HT3.out.ext e4) (by omega) HFi.out.2.1 HFi.out.2.2 (by omega) (by omega))
        have E4 := Lib.hid (E3.out.trans e4)
        clear hc0 hc1 e4
        go_wp2_with fail
        refine (HR.out).mono ?_
        rintro e w5 ⟨rfl, T5, b5, f5⟩
        have E5 := Lib.hid (show Ext w0 w5 from Below.trans E4.out (b5 _ l1 l2 E4.out.size))
        have hc0 := E5.out.cell C0.out
        have hc1 := E5.out.cell C1.out
        have HLn := Lib.hid (len_int w5 tb pb bx 5 _ _ _ _ T5)
        clear T5 b5 f5 hd0 hd1
        go_wp2_with fail
        refine (HLn.out).mono ?_
        rintro e w6 ⟨rfl, rfl⟩
        go_wp2_with fail
        refine (lives10 _).mono ?_
        rintro e w6 ⟨rfl, e6⟩
        go_wp2
        go_ret
        exact ⟨rfl, (EA.out.trans E5.out).trans e6⟩
      · have hst : StX_int 5 FU GE ino gen := by
          by_cases h1 : ino < 1
          · exact .inl h1
          · by_cases h2 : (5 : Int) < ino
            · exact .inr (.inl h2)
            · obtain ⟨i, hi⟩ := Int.eq_ofNat_of_zero_le (show 0 ≤ ino - 1 by omega)
              refine .inr (.inr ⟨i, by omega, by omega, ?_⟩)
              by_cases hij : i < j
              · exact .inr (by rw [(HF.out.1 i hij).2.2]; omega)
              · exact .inl (HF.out.2 i (by omega)).1
        have HST := Lib.hid hst
        clear hst
        have hway : ino < 1 ∨ (1 ≤ ino ∧ (j : Int) < ino) ∨ (1 ≤ ino ∧ ino ≤ (j : Int) ∧ (gen == 1) = false) := by
          rcases Int.lt_or_le ino 1 with h1 | h1
          · exact .inl h1
          · rcases Int.lt_or_le (j : Int) ino with h2 | h2
            · exact .inr (.inl ⟨h1, h2⟩)
            · exact .inr (.inr ⟨h1, h2, by rw [beq_eq_false_iff_ne]; omega⟩)
        have HG1 := Lib.hid (fun w' h => getint_no w' tb pb bx 5 (j : Int) ino gen TH FU GE (HT.out.ext h) HST.out ha0 ha1)
        have HS1 := Lib.hid (fun w' h => setint_no w' tb pb bx 5 (j : Int) ino gen TH FU GE x (HT.out.ext h) HST.out ha0 ha1)
        have HR1 := Lib.hid (fun w' h => removeint_no w' tb pb bx 5 (j : Int) ino gen TH FU GE (HT.out.ext h) HST.out ha0 ha1)
        have HL1 := Lib.hid (fun w' h => len_int w' tb pb bx 5 (j : Int) TH FU GE (HT.out.ext h))
        clear hin
        rcases hway with hw1 | ⟨hw1, hw2⟩ | ⟨hw1, hw2, hw3⟩
        · go_wp2_with fail
          refine (HG1.out _ (Ext.refl _)).mono ?_
          rintro e w2 ⟨rfl, e2⟩
          have E2 := Lib.hid e2
          have hd0 := e2.cell hc0
          have hd1 := e2.cell hc1
          clear e2 hc0 hc1
          go_wp2_with fail
          refine (HS1.out _ E2.out).mono ?_
          rintro e w3 ⟨rfl, e3⟩
          have E3 := Lib.hid (E2.out.trans e3)
          have hc0 := e3.cell hd0
          have hc1 := e3.cell hd1
          clear e3 hd0 hd1
          go_wp2_with fail
          refine (HG1.out _ E3.out).mono ?_
          rintro e w4 ⟨rfl, e4⟩
          have E4 := Lib.hid (E3.out.trans e4)
          have hd0 := e4.cell hc0
          have hd1 := e4.cell hc1
          clear e4 hc0 hc1
          go_wp2_with fail
          refine (HR1.out _ E4.out).mono ?_
          rintro e w5 ⟨rfl, e5⟩
          have E5 := Lib.hid (E4.out.trans e5)
          have hc0 := e5.cell hd0
          have hc1 := e5.cell hd1
          clear e5 hd0 hd1
          go_wp2_with fail
          refine (HL1.out _ E5.out).mono ?_
          rintro e w6 ⟨rfl, rfl⟩
          go_wp2_with fail
          refine (lives10 _).mono ?_
          rintro e w6 ⟨rfl, e6⟩
          go_wp2
          go_ret
          exact ⟨rfl, ((EA.out.trans EX.out).trans E5.out).trans e6⟩
        · go_wp2_with fail
          refine (HG1.out _ (Ext.refl _)).mono ?_
          rintro e w2 ⟨rfl, e2⟩
          have E2 := Lib.hid e2
          have hd0 := e2.cell hc0
          have hd1 := e2.cell hc1
          clear e2 hc0 hc1
          go_wp2_with fail
          refine (HS1.out _ E2.out).mono ?_
          rintro e w3 ⟨rfl, e3⟩
          have E3 := Lib.hid (E2.out.trans e3)
          have hc0 := e3.cell hd0
          have hc1 := e3.cell hd1
          clear e3 hd0 hd1
          go_wp2_with fail
          refine (HG1.out _ E3.out).mono ?_
          rintro e w4 ⟨rfl, e4⟩
          have E4 := Lib.hid (E3.out.trans e4)
          have hd0 := e4.cell hc0
          have hd1 := e4.cell hc1
          clear e4 hc0 hc1
          go_wp2_with fail
          refine (HR1.out _ E4.out).mono ?_
          rintro e w5 ⟨rfl, e5⟩
          have E5 := Lib.hid (E4.out.trans e5)
          have hc0 := e5.cell hd0
          have hc1 := e5.cell hd1
          clear e5 hd0 hd1
          go_wp2_with fail
          refine (HL1.out _ E5.out).mono ?_
          rintro e w6 ⟨rfl, rfl⟩
          go_wp2_with fail
          refine (lives10 _).mono ?_
          rintro e w6 ⟨rfl, e6⟩
          go_wp2
          go_ret
          exact ⟨rfl, ((EA.out.trans EX.out).trans E5.out).trans e6⟩
        · go_wp2_with fail
          refine (HG1.out _ (Ext.refl _)).mono ?_
          rintro e w2 ⟨rfl, e2⟩
          have E2 := Lib.hid e2
          have hd0 := e2.cell hc0
          have hd1 := e2.cell hc1
          clear e2 hc0 hc1
          go_wp2_with fail
          refine (HS1.out _ E2.out).mono ?_
          rintro e w3 ⟨rfl, e3⟩
          have E3 := Lib.hid (E2.out.trans e3)
          have hc0 := e3.cell hd0
          have hc1 := e3.cell hd1
          clear e3 hd0 hd1
          go_wp2_with fail
          refine (HG1.out _ E3.out).mono ?_
          rintro e w4 ⟨rfl, e4⟩
          have E4 := Lib.hid (E3.out.trans e4)
          have hd0 := e4.cell hc0
          have hd1 := e4.cell hc1
          clear e4 hc0 hc1
          go_wp2_with fail
          refine (HR1.out _ E4.out).mono ?_
          rintro e w5 ⟨rfl, e5⟩
          have E5 := Lib.hid (E4.out.trans e5)
          have hc0 := e5.cell hd0
          have hc1 := e5.cell hd1
          clear e5 hd0 hd1
          go_wp2_with fail
          refine (HL1.out _ E5.out).mono ?_
          rintro e w6 ⟨rfl, rfl⟩
          go_wp2_with fail
          refine (lives10 _).mono ?_
          rintro e w6 ⟨rfl, e6⟩
          go_wp2
          go_ret
          exact ⟨rfl, ((EA.out.trans EX.out).trans E5.out).trans e6⟩
end Go.Proofs.Ytmljfaihkcldnaa
