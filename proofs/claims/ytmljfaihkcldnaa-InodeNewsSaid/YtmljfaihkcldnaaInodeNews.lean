/-
  The statement InodeNews: its walk.
-/
import Derived.Test.YtmljfaihkcldnaaInoB
import Derived.Test.YtmljfaihkcldnaaInoL
namespace Go.Proofs.Ytmljfaihkcldnaa
open Go Go.RowKit
set_option linter.unusedVariables false
set_option linter.unusedSimpArgs false
/-- The first places, as many as there are and as were asked for, are full. -/
def FilU (N j : Nat) (FU : Nat → Bool) (GE : Nat → Int) : Prop :=
  (∀ x : Nat, x < j → x < N → FU x = true) ∧ ∀ x : Nat, j ≤ x → FU x = false ∧ GE x = 0
theorem FilU.start (N : Nat) : FilU N 0 (fun _ => false) (fun _ => 0) := ⟨fun x h => absurd h (by omega), fun x _ => ⟨rfl, rfl⟩⟩
theorem FilU.next {N j : Nat} {FU : Nat → Bool} {GE : Nat → Int} (h : FilU N j FU GE) : FilU N (j + 1) (upd FU j true) (upd GE j (GE j + 1)) := by
  refine ⟨fun x hx hn => ?_, fun x hx => ?_⟩
  · unfold upd
    by_cases hxj : x = j
    · simp [hxj]
    · simp [hxj, h.1 x (by omega) hn]
  · unfold upd
    have := h.2 x (by omega)
    simp [show ¬ x = j by omega, this]
theorem FilU.more {N j : Nat} {FU : Nat → Bool} {GE : Nat → Int} (h : FilU N j FU GE) (hn : N ≤ j) : FilU N (j + 1) FU GE :=
  ⟨fun x hx hxn => h.1 x (by omega) hxn, fun x hx => h.2 x (by omega)⟩
set_option maxRecDepth 20000 in
set_option maxHeartbeats 2000000 in
theorem in_walk (most : Int) (w : World) (hm0 : -9223372036854775808 ≤ most) (hm1 : most ≤ 9223372036854775807) :
    Calls Try.prog 3 #[.int .i64 most] w fun e w' => e = .returned (.bool true) ∧ Ext w w' := by
  go_enter Try.func3, Try.ntmps3
  go_wp2_with fail
  refine (around_any most 67 w hm0 hm1 (by omega) (by omega)).mono ?_
  rintro e w1 ⟨rfl, rfl⟩
  have hr := aroundZ_bound most 67 (by omega)
  generalize aroundZ most 67 = r at *
  have hblk := heap_alloc_new w (.cells #[.int .i64 most, .int .i64 r] 3)
  have ea : Ext w (w.alloc (.cells #[.int .i64 most, .int .i64 r] 3)) := (Ext.refl _).alloc _
  have hks : ∀ k, k < 2 → ∃ K : Int, -9223372036854775808 ≤ K ∧ K ≤ 9223372036854775807 ∧ (w.alloc (.cells #[.int .i64 most, .int .i64 r] 3)).cell? ⟨w.heap.size, k, none⟩ = some (.int .i64 K) := fun k hk => by
    have hc := fun i => cell_of_row _ w.heap.size i _ _ _ hblk
    match k, hk with
    | 0, _ => exact ⟨most, by omega, by omega, by simp [hc 0]⟩
    | 1, _ => exact ⟨r, by omega, by omega, by simp [hc 1]⟩
  have HKS := Lib.hid hks
  clear hks hblk
  go_wp2_with fail
  generalize w.alloc (.cells #[.int .i64 most, .int .i64 r] 3) = w0 at *
  generalize w.heap.size = z0 at *
  go_loopw [4] (fun i wr => ∃ k : Nat, k ≤ 2 ∧ i = .int .i64 k ∧ Ext w0 wr) (fun i _ => 2 - (intOf i).toNat)
  case atStart => exact ⟨0, by omega, rfl, Ext.refl _⟩
  case round =>
    obtain ⟨k, hk, rfl, extk⟩ := hrel
    by_cases hlt : k < 2
    · obtain ⟨K, hK0, hK1, hcell0⟩ := HKS.out k hlt
      have hcell := extk.cell hcell0
      by_cases hin : 1 ≤ K ∧ K ≤ 64
      · obtain ⟨hi1, hi2⟩ := hin
        obtain ⟨N, rfl⟩ := Int.eq_ofNat_of_zero_le (show 0 ≤ K by omega)
        go_wp2_with fail
        refine (new_byt (N : Int) N _ rfl (by omega) (by omega)).mono ?_
        rintro e w2 ⟨tb, pb, bx, rfl, T1, l1, l2, l3, e2⟩
        have hcell2 := e2.cell hcell
        have HT1 := Lib.hid T1
        have E2 := Lib.hid e2
        clear T1 e2
        have l1' := Nat.le_trans extk.size l1
        have l2' := Nat.le_trans extk.size l2
        have HC := Lib.hid hcell
        have EK := Lib.hid extk
        clear hcell extk
        go_wp2_with fail
        clear hcell2
        go_loopw [8] (fun i wi => ∃ (j : Nat) (full : Int) (TH : Nat → Value) (FU : Nat → Bool) (GE : Nat → Int), j ≤ 65 ∧ i = .int .i64 ((j : Int) + 1) ∧ 0 ≤ full ∧ full ≤ j ∧ Tab_byt wi tb pb bx N full TH FU GE ∧ FilU N j FU GE ∧ Ext wr wi) (fun i _ => 66 - (intOf i).toNat)
        case atStart => exact ⟨0, 0, _, _, _, by omega, rfl, by omega, by omega, HT1.out, FilU.start N, E2.out⟩
        case round =>
          obtain ⟨j, full, TH, FU, GE, hj, rfl, hf0, hf1, tab, fil, ext⟩ := hrel
          have HT := Lib.hid tab
          have HF := Lib.hid fil
          have EX := Lib.hid ext
          clear tab fil ext
          by_cases hl : j < 65
          · by_cases hjn : j < N
            · have HAd := Lib.hid (add_byt_ok _ tb pb bx N full TH FU GE j 7 HT.out hjn (HF.out.2 j (Nat.le_refl _)).1 (fun y hy => HF.out.1 y hy (by omega)) (by rw [(HF.out.2 j (Nat.le_refl _)).2]; decide) (by rw [(HF.out.2 j (Nat.le_refl _)).2]; decide) (by omega) (by omega))
              rw [(HF.out.2 j (Nat.le_refl _)).2] at HAd
              go_wp2_with fail
              refine (HAd.out).mono ?_
              rintro e w3 ⟨rfl, T3, b3, f3⟩
              have e3 : Ext _ w3 := Below.trans EX.out (b3 _ l1 l2 EX.out.size)
              have a3 : Ext w3 (w3.alloc (.cells #[.int .i64 ((j : Int) + 1), .int .i64 1] 29)) := (Ext.refl w3).alloc _
              have hcell3 := a3.cell (e3.cell HC.out)
              have hjn' : (j : Int) + 1 ≤ (N : Int) := by omega
              have E4 := Lib.hid (Ext.trans e3 a3)
              have HT3 := Lib.hid (TabI.ext T3 a3)
              clear T3 b3 f3 a3 e3
              go_wp2
              go_roundw
              case rel => exact ⟨j + 1, _, _, _, _, by omega, by go_num, by omega, by omega, HT3.out, by have := HF.out.next; rw [(HF.out.2 j (Nat.le_refl _)).2] at this; exact this, E4.out⟩
              case measure => simp [intOf]; omega
            · have hjn' : ¬ (j : Int) + 1 ≤ (N : Int) := by omega
              have HAd := Lib.hid (add_byt_full _ tb pb bx N full TH FU GE 7 HT.out (fun y hy => HF.out.1 y (by omega) hy))
              go_wp2_with fail
              refine (HAd.out).mono ?_
              rintro e w3 ⟨rfl, e3⟩
              have a3 : Ext w3 (w3.alloc (.cells #[.int .i64 0, .int .i64 0] 29)) := (Ext.refl w3).alloc _
              have hcell3 := a3.cell ((Ext.trans EX.out e3).cell HC.out)
              have E4 := Lib.hid (Ext.trans (Ext.trans EX.out e3) a3)
              have HT3 := Lib.hid (TabI.ext HT.out (Ext.trans e3 a3))
              clear a3 e3
              go_wp2
              go_roundw
              case rel => exact ⟨j + 1, full, _, _, _, by omega, by go_num, by omega, by omega, HT3.out, HF.out.more (by omega), E4.out⟩
              case measure => simp [intOf]; omega
          · obtain rfl : j = 65 := by omega
            go_wp2
            go_roundw
            case rel => exact ⟨k + 1, by omega, by go_num, Ext.trans EK.out EX.out⟩
            case measure => simp [intOf]; omega
      · have hin1 : K < 1 ∨ 64 < K := by omega
        have HNo := Lib.hid (fun w => newbyt_no K w hin1)
        have EK := Lib.hid extk
        clear extk hin
        rcases hin1 with hi | hi
        · have hi1 : ¬ 1 ≤ K := by omega
          go_wp2_with fail
          refine (HNo.out _).mono ?_
          rintro e w2 ⟨rfl, rfl⟩
          go_wp2_with fail
          clear hcell
          go_loopw [8] (fun i wi => i = .int .i64 1 ∧ wr = wi) (fun i _ => 0)
          case atStart => exact ⟨rfl, rfl⟩
          case round =>
            obtain ⟨rfl, rfl⟩ := hrel
            go_wp2
            go_roundw
            case rel => exact ⟨k + 1, by omega, by go_num, EK.out⟩
            case measure => simp [intOf]; omega
        · have hi1 : 1 ≤ K := by omega
          have hi2 : ¬ K ≤ 64 := by omega
          go_wp2_with fail
          refine (HNo.out _).mono ?_
          rintro e w2 ⟨rfl, rfl⟩
          go_wp2_with fail
          clear hcell
          go_loopw [8] (fun i wi => i = .int .i64 1 ∧ wr = wi) (fun i _ => 0)
          case atStart => exact ⟨rfl, rfl⟩
          case round =>
            obtain ⟨rfl, rfl⟩ := hrel
            go_wp2
            go_roundw
            case rel => exact ⟨k + 1, by omega, by go_num, EK.out⟩
            case measure => simp [intOf]; omega
    · obtain rfl : k = 2 := by omega
      have E2 := Lib.hid (Ext.trans ea extk)
      clear extk
      go_wp2_with fail
      refine (lives10 _).mono ?_
      rintro e w5 ⟨rfl, e5⟩
      go_wp2
      go_ret
      exact ⟨rfl, E2.out.trans e5⟩
end Go.Proofs.Ytmljfaihkcldnaa
