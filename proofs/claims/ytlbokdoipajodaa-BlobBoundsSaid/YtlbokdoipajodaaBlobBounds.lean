/-
  The statement BlobBounds: its walk.
-/
import Derived.Test.YtlbokdoipajodaaBlobC
namespace Go.Proofs.Ytlbokdoipajodaa
open Go Go.RowKit
set_option linter.unusedVariables false
set_option linter.unusedSimpArgs false

theorem resize_big (A : Option Addr) (n c : Nat) (s : Int) (w : World) (hs : 2048 < s) (h1 : s ≤ 9223372036854775807) :
    Calls Try.prog 52 #[.slice A n c, .int .i64 s] w fun e w' => e = .returned (.tuple #[.slice none 0 0, .int .i64 15]) ∧ w = w' := by
  go_enter Try.func52, Try.ntmps52
  go_wp2
  go_ret2
  exact ⟨rfl, rfl⟩
theorem resize_ok (A : Option Addr) (n c : Nat) (l : List UInt8) (s : Int) (k : Nat) (w : World) (hs : Sees w A n c (bs l)) (hn : n ≤ 1000000) (hk : s = (k : Int)) (h1 : k ≤ 2048) :
    Calls Try.prog 52 #[.slice A n c, .int .i64 s] w fun e w' => ∃ v, e = .returned (.tuple #[v, .int .i64 0]) ∧ w'.ownsRow w.heap.size 5 1 v k (bs (sizeL l k)) ∧ Ext w w' := by
  have HK := Lib.hid hk
  have hs0 : 0 ≤ s := by omega
  have hs1 : s ≤ 2048 := by omega
  clear hk
  go_enter Try.func52, Try.ntmps52
  go_wp2_with fail
  refine (sized_nat A n c l s k _ hs HK.out (by omega) hn).mono ?_
  rintro e w1 ⟨v, rfl, own, e1⟩
  go_wp2
  go_ret2
  exact ⟨v, rfl, own, e1⟩

theorem write_noz (A : Option Addr) (n c : Nat) (l : List UInt8) (oz : Int) (off : Nat) (w : World) (hz : oz = (off : Int)) (hs : Sees w A n c (bs l)) (hn : n ≤ 900000) (A2 : Option Addr) (c2 : Nat) (hoff : (off : Int) ≤ 9223372036854775807) :
    Calls Try.prog 49 #[.slice A n c, .int .i64 oz, .slice A2 0 c2] w fun e w' => ∃ v, e = .returned (.tuple #[v, .int .i64 0]) ∧ w'.ownsRow w.heap.size 5 1 v n (bs l) ∧ Ext w w' := by
  subst hz
  exact write_no A n c l off w hs hn A2 c2 hoff
theorem write_bigz (A : Option Addr) (n c : Nat) (oz : Int) (off : Nat) (A2 : Option Addr) (n2 c2 : Nat) (w : World) (hz : oz = (off : Int)) (hoff : (off : Int) ≤ 9223372036854775807) (hn2 : 0 < n2) (hn3 : n2 ≤ 1000000) (hb : 2048 < off + n2) :
    Calls Try.prog 49 #[.slice A n c, .int .i64 oz, .slice A2 n2 c2] w fun e w' => e = .returned (.tuple #[.slice none 0 0, .int .i64 15]) ∧ w = w' := by
  subst hz
  exact write_big A n c off A2 n2 c2 w hoff hn2 hn3 hb
theorem sees_made (w : World) (K : Nat) (hK : K ≤ 4194304) : Sees (w.alloc (.cells (madeCells #[.int .u8 0] K) 5)) (some ⟨w.heap.size, 0, none⟩) K K (bs (zeros K)) := by
  obtain ⟨A, c, h1, h2⟩ := Sees.of_own (own_made w 0 K K (Nat.zero_le _) (Nat.le_refl _) hK)
  injection h1 with q1 q2 q3
  subst q1 q3
  exact h2
theorem zeros_ne {K : Nat} (hK : 0 < K) : zeros K ≠ [] := fun h => by
  have := congrArg List.length h
  rw [zeros_length] at this
  simp at this
  omega

set_option maxRecDepth 4000 in
set_option maxHeartbeats 2000000 in
theorem bounds_walk (o n s : Int) (w : World) (ho0 : -9223372036854775808 ≤ o) (ho1 : o ≤ 9223372036854775807) (hn0 : -9223372036854775808 ≤ n) (hn1 : n ≤ 9223372036854775807) (hs0 : -9223372036854775808 ≤ s) (hs1 : s ≤ 9223372036854775807) :
    Calls Try.prog 10 #[.int .i64 o, .int .i64 n, .int .i64 s] w fun e w' => e = .returned (.bool true) ∧ Ext w w' := by
  go_enter Try.func10, Try.ntmps10
  go_wp2_with fail
  refine (around_any o 31 _ ho0 ho1 (by omega) (by omega)).mono ?_
  rintro e w3 ⟨rfl, rfl⟩
  have ho := aroundZ_bound o 31 (by omega)
  generalize aroundZ o 31 = o' at *
  obtain ⟨O, rfl⟩ := Int.eq_ofNat_of_zero_le ho.1
  have hO : O ≤ 30 := by omega
  clear ho
  go_wp2_with fail
  refine (around_any n 31 _ hn0 hn1 (by omega) (by omega)).mono ?_
  rintro e w3 ⟨rfl, rfl⟩
  have ho := aroundZ_bound n 31 (by omega)
  have har := fun w => around_any n 31 w hn0 hn1 (by omega) (by omega)
  generalize aroundZ n 31 = n' at *
  obtain ⟨R, rfl⟩ := Int.eq_ofNat_of_zero_le ho.1
  have hR : R ≤ 30 := by omega
  clear ho
  have HAR := Lib.hid har
  clear har
  go_wp2_with fail
  refine (Calls.mono (HAR.out _) ?_)
  rintro e w3 ⟨rfl, rfl⟩
  clear HAR
  have hblk := heap_alloc_new w (.cells #[.int .i64 R, .int .i64 (2030 + (R : Int))] 3)
  have ext0 : Ext w (w.alloc (.cells #[.int .i64 R, .int .i64 (2030 + (R : Int))] 3)) := (Ext.refl _).alloc _
  have hks : ∀ k, k < 2 → ∃ K : Nat, K ≤ 2060 ∧ (w.alloc (.cells #[.int .i64 R, .int .i64 (2030 + (R : Int))] 3)).cell? ⟨w.heap.size, k, none⟩ = some (.int .i64 (K : Int)) := fun k hk => by
    have hc := fun i => cell_of_row _ w.heap.size i _ _ _ hblk
    match k, hk with
    | 0, _ => exact ⟨R, by omega, by simp [hc 0]⟩
    | 1, _ => exact ⟨2030 + R, by omega, by simp [hc 1]⟩
  have HKS := Lib.hid hks
  clear hks hblk
  go_wp2_with fail
  generalize w.alloc (.cells #[.int .i64 R, .int .i64 (2030 + (R : Int))] 3) = w0 at *
  generalize hz0 : w.heap.size = z0 at *
  clear hz0
  go_loopw [9] (fun i wr => ∃ k : Nat, k ≤ 2 ∧ i = .int .i64 k ∧ Ext w0 wr) (fun i _ => 2 - (intOf i).toNat)
  case atStart => exact ⟨0, by omega, rfl, Ext.refl _⟩
  case round =>
    obtain ⟨k, hk, rfl, extk⟩ := hrel
    by_cases hlt : k < 2
    · obtain ⟨K, hK, hcell⟩ := HKS.out k hlt
      replace hcell := extk.cell hcell
      by_cases h0 : K < 1
      · obtain rfl : K = 0 := by omega
        have hmk : ∀ w, (Instr.makeSlice 22 (.int .i64 0) (.int .i64 0)).run Try.prog w = .ok (.slice (some ⟨w.heap.size, 0, none⟩) 0 0) (w.alloc (.cells (madeCells #[.int .u8 0] 0) 5)) := fun w => make_bytes 0 0 (Nat.le_refl _) (by omega) w
        have hfz : fitsZ 0 (2030 + (O : Int)) 0 9999 = 0 := by
          unfold fitsZ
          rw [if_neg (by omega), if_neg (by omega)]
        have HFZ := Lib.hid hfz
        clear hfz
        go_wp2_with fail
        refine (write_noz none 0 0 [] _ (2030 + O) _ (by omega) (Sees.nil _) (by omega) _ 0 (by omega)).mono ?_
        rintro e w5 ⟨v5, rfl, own5, e5⟩
        have ea := ((Ext.refl wr).alloc _).trans e5
        have hcell5 := ea.cell hcell
        have ext5 := extk.trans ea
        obtain ⟨A5, c5, rfl, see5⟩ := Sees.of_own own5
        clear own5 see5 hcell extk ea e5
        go_wp2_with fail
        refine (write_noz none 0 0 [] _ 0 _ rfl (Sees.nil _) (by omega) _ 0 (by omega)).mono ?_
        rintro e w6 ⟨v6, rfl, own6, e6⟩
        have ea := ((Ext.refl w5).alloc _).trans e6
        have hcell6 := ea.cell hcell5
        have ext6 := ext5.trans ea
        obtain ⟨A6, c6, rfl, see6⟩ := Sees.of_own own6
        clear own6 see6 hcell5 ext5 ea e6
        clear hmk
        go_wp2_with fail
        refine (fits_any 0 _ _ 9999 _ (by omega) (by omega) (by omega) (by omega) (by omega) (by omega) (by omega) (by omega)).mono ?_
        rintro e w7 ⟨rfl, rfl⟩
        rw [HFZ.out]
        go_wp2
        go_roundw
        case rel => exact ⟨k + 1, by omega, by go_num, ext6⟩
        case measure => simp [intOf]; omega
      · by_cases h1 : 2030 + O + K ≤ 2048
        · have hmk := fun w => make_bytes K K (Nat.le_refl _) (by omega) w
          have hfz : fitsZ 0 (2030 + (O : Int)) (K : Int) 9999 = 0 := by
            unfold fitsZ
            rw [if_neg (by omega), if_neg (by omega)]
          have HFZ := Lib.hid hfz
          clear hfz
          have hne := zeros_ne (K := K) (by omega)
          have hL1 : (writeL [] (2030 + O) (zeros K)).length = 2030 + O + K := by
            rw [writeL_length _ _ _ hne, zeros_length]
            simp
          have hL2 : (writeL [] 0 (zeros K)).length = K := by
            rw [writeL_length _ _ _ hne, zeros_length]
            simp
          have HL1 := Lib.hid hL1
          have HL2 := Lib.hid hL2
          clear hL1 hL2 hne
          go_wp2_with fail
          refine (write_le none 0 0 [] _ (2030 + O) _ (Sees.nil _) (by omega) _ K K _ (sees_made _ K (by omega)) (by omega) (by omega)).mono ?_
          rintro e w5 ⟨v5, rfl, own5, e5⟩
          rw [HL1.out] at own5
          have ea := ((Ext.refl wr).alloc _).trans e5
          have hcell5 := ea.cell hcell
          have ext5 := extk.trans ea
          obtain ⟨A5, c5, rfl, see5⟩ := Sees.of_own own5
          clear own5 see5 hcell extk ea e5
          go_wp2_with fail
          refine (write_le none 0 0 [] _ 0 _ (Sees.nil _) (by omega) _ K K _ (sees_made _ K (by omega)) rfl (by omega)).mono ?_
          rintro e w6 ⟨v6, rfl, own6, e6⟩
          rw [HL2.out] at own6
          have ea := ((Ext.refl w5).alloc _).trans e6
          have hcell6 := ea.cell hcell5
          have ext6 := ext5.trans ea
          obtain ⟨A6, c6, rfl, see6⟩ := Sees.of_own own6
          clear own6 see6 hcell5 ext5 ea e6
          clear hmk
          go_wp2_with fail
          refine (fits_any 0 _ _ 9999 _ (by omega) (by omega) (by omega) (by omega) (by omega) (by omega) (by omega) (by omega)).mono ?_
          rintro e w7 ⟨rfl, rfl⟩
          rw [HFZ.out]
          go_wp2
          go_roundw
          case rel => exact ⟨k + 1, by omega, by go_num, ext6⟩
          case measure => simp [intOf]; omega
        · by_cases h2 : K ≤ 2048
          · have hmk := fun w => make_bytes K K (Nat.le_refl _) (by omega) w
            have hfz : fitsZ 0 (2030 + (O : Int)) (K : Int) 9999 = 15 := by
              unfold fitsZ
              rw [if_pos (by omega)]
            have HFZ := Lib.hid hfz
            clear hfz
            have hne := zeros_ne (K := K) (by omega)
            have hL1 : (writeL [] (2030 + O) (zeros K)).length = 2030 + O + K := by
              rw [writeL_length _ _ _ hne, zeros_length]
              simp
            have hL2 : (writeL [] 0 (zeros K)).length = K := by
              rw [writeL_length _ _ _ hne, zeros_length]
              simp
            have HL1 := Lib.hid hL1
            have HL2 := Lib.hid hL2
            clear hL1 hL2 hne
            go_wp2_with fail
            refine (write_bigz none 0 0 _ (2030 + O) _ K K _ (by omega) (by omega) (by omega) (by omega) (by omega)).mono ?_
            rintro e w5 ⟨rfl, rfl⟩
            have ea : Ext wr (wr.alloc (.cells (madeCells #[.int .u8 0] K) 5)) := (Ext.refl _).alloc _
            have hcell5 := ea.cell hcell
            have ext5 := extk.trans ea
            generalize wr.alloc (.cells (madeCells #[.int .u8 0] K) 5) = w5 at *
            clear hcell extk ea
            go_wp2_with fail
            refine (write_le none 0 0 [] _ 0 _ (Sees.nil _) (by omega) _ K K _ (sees_made _ K (by omega)) rfl (by omega)).mono ?_
            rintro e w6 ⟨v6, rfl, own6, e6⟩
            rw [HL2.out] at own6
            have ea := ((Ext.refl w5).alloc _).trans e6
            have hcell6 := ea.cell hcell5
            have ext6 := ext5.trans ea
            obtain ⟨A6, c6, rfl, see6⟩ := Sees.of_own own6
            clear own6 see6 hcell5 ext5 ea e6
            clear hmk
            go_wp2_with fail
            refine (fits_any 0 _ _ 9999 _ (by omega) (by omega) (by omega) (by omega) (by omega) (by omega) (by omega) (by omega)).mono ?_
            rintro e w7 ⟨rfl, rfl⟩
            rw [HFZ.out]
            go_wp2
            go_roundw
            case rel => exact ⟨k + 1, by omega, by go_num, ext6⟩
            case measure => simp [intOf]; omega
          · have hmk := fun w => make_bytes K K (Nat.le_refl _) (by omega) w
            have hfz : fitsZ 0 (2030 + (O : Int)) (K : Int) 9999 = 15 := by
              unfold fitsZ
              rw [if_pos (by omega)]
            have HFZ := Lib.hid hfz
            clear hfz
            go_wp2_with fail
            refine (write_bigz none 0 0 _ (2030 + O) _ K K _ (by omega) (by omega) (by omega) (by omega) (by omega)).mono ?_
            rintro e w5 ⟨rfl, rfl⟩
            have ea : Ext wr (wr.alloc (.cells (madeCells #[.int .u8 0] K) 5)) := (Ext.refl _).alloc _
            have hcell5 := ea.cell hcell
            have ext5 := extk.trans ea
            generalize wr.alloc (.cells (madeCells #[.int .u8 0] K) 5) = w5 at *
            clear hcell extk ea
            go_wp2_with fail
            refine (write_bigz none 0 0 _ 0 _ K K _ rfl (by omega) (by omega) (by omega) (by omega)).mono ?_
            rintro e w6 ⟨rfl, rfl⟩
            have ea : Ext w5 (w5.alloc (.cells (madeCells #[.int .u8 0] K) 5)) := (Ext.refl _).alloc _
            have hcell6 := ea.cell hcell5
            have ext6 := ext5.trans ea
            generalize w5.alloc (.cells (madeCells #[.int .u8 0] K) 5) = w6 at *
            clear hcell5 ext5 ea
            clear hmk
            go_wp2_with fail
            refine (fits_any 0 _ _ 9999 _ (by omega) (by omega) (by omega) (by omega) (by omega) (by omega) (by omega) (by omega)).mono ?_
            rintro e w7 ⟨rfl, rfl⟩
            rw [HFZ.out]
            go_wp2
            go_roundw
            case rel => exact ⟨k + 1, by omega, by go_num, ext6⟩
            case measure => simp [intOf]; omega
    · obtain rfl : k = 2 := by omega
      have exte := ext0.trans extk
      clear HKS extk ext0
      go_wp2_with fail
      refine (around_any s 31 _ hs0 hs1 (by omega) (by omega)).mono ?_
      rintro e w3 ⟨rfl, rfl⟩
      have ho := aroundZ_bound s 31 (by omega)
      generalize aroundZ s 31 = s' at *
      obtain ⟨S, rfl⟩ := Int.eq_ofNat_of_zero_le ho.1
      have hS : S ≤ 30 := by omega
      clear ho
      by_cases hb : 2048 < 2030 + (S : Int)
      · go_wp2_with fail
        refine (resize_big none 0 0 _ _ hb (by omega)).mono ?_
        rintro e w3 ⟨rfl, rfl⟩
        go_wp2_with fail
        refine (blobLives_any _).mono ?_
        rintro e w6 ⟨rfl, e6⟩
        go_wp2
        go_ret
        refine ⟨?_, exte.trans e6⟩
        show Ending.returned (Value.bool (!decide (2030 + (S : Int) ≤ 2048))) = _
        simp
        omega
      · have hlen : (((2030 + S : Nat) : Int) == 2030 + (S : Int)) = true := by simp
        go_wp2_with fail
        refine (resize_ok none 0 0 [] _ (2030 + S) _ (Sees.nil _) (by omega) (by omega) (by omega)).mono ?_
        rintro e w3 ⟨v3, rfl, own3, e3⟩
        obtain ⟨A3, c3, rfl, see3⟩ := Sees.of_own own3
        have ext4 := exte.trans e3
        clear own3 see3 e3 exte
        go_wp2_with fail
        refine (blobLives_any _).mono ?_
        rintro e w6 ⟨rfl, e6⟩
        go_wp2
        go_ret
        exact ⟨rfl, ext4.trans e6⟩
end Go.Proofs.Ytlbokdoipajodaa
