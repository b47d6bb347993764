/-
  The statement BlobReads: its walk.
-/
import Derived.Test.YtiiagecacegmbaaBlobE
import Derived.Test.YtiiagecacegmbaaRws
namespace Go.Proofs.Ytiiagecacegmbaa
open Go Go.RowKit
set_option linter.unusedVariables false
set_option linter.unusedSimpArgs false
set_option maxHeartbeats 4000000 in
set_option maxRecDepth 20000 in
theorem reads_walk (A : Option Addr) (n c : Nat) (l : List UInt8) (o k : Int) (w : World) (hs : Sees w A n c (bs l)) (ho0 : -9223372036854775808 ≤ o) (ho1 : o ≤ 9223372036854775807)
    (hk0 : -9223372036854775808 ≤ k) (hk1 : k ≤ 9223372036854775807) :
    Calls Try.prog 12 #[.slice A n c, .int .i64 o, .int .i64 k] w fun e w' => e = .returned (.bool true) ∧ Ext w w' := by
  go_enter Try.func12, Try.ntmps12
  go_wp2_with fail
  refine (few_nat A n c _ 40 _ _ hs (bs_one _) (by omega) (by omega) rfl).mono ?_
  rintro e w1 ⟨v1, rfl, own1, e1⟩
  rw [bs_take] at own1
  obtain ⟨A1, c1, rfl, see1⟩ := Sees.of_own own1
  have hl0 := see1.len
  rw [bs_length] at hl0
  generalize hN : min n 40 = N at *
  have hN40 : N ≤ 40 := by omega
  generalize l.take 40 = b at *
  have See1 := Lib.hid see1
  have HL := Lib.hid hl0
  have E1 := Lib.hid e1
  clear hl0 hN own1 hs see1 e1
  have hfo := fromZ_bound o ho0 ho1
  have hfk := fromZ_bound k hk0 hk1
  have hao := aroundZ_bound o 45 (by omega)
  have hak := aroundZ_bound k 45 (by omega)
  have F1 := Lib.hid (fun w => from_any o w ho0 ho1)
  have F2 := Lib.hid (fun w => from_any k w hk0 hk1)
  have G1 := Lib.hid (fun w => around_any o 45 w ho0 ho1 (by omega) (by omega))
  have G2 := Lib.hid (fun w => around_any k 45 w hk0 hk1 (by omega) (by omega))
  generalize fromZ o = o1 at *
  generalize fromZ k = k1 at *
  generalize aroundZ o 45 = o2 at *
  generalize aroundZ k 45 = k2 at *
  go_wp2_with fail
  refine (F1.out _).mono ?_
  rintro e w2 ⟨rfl, rfl⟩
  go_wp2_with fail
  refine (G1.out _).mono ?_
  rintro e w2 ⟨rfl, rfl⟩
  go_wp2_with fail
  refine (F2.out _).mono ?_
  rintro e w2 ⟨rfl, rfl⟩
  go_wp2_with fail
  refine (G2.out _).mono ?_
  rintro e w2 ⟨rfl, rfl⟩
  have HO : Hid (∀ i, i < 2 → ∃ K : Int, 0 ≤ K ∧ K ≤ 9223372036854775807 ∧ ∀ w', Ext (w1.alloc (.cells #[.int .i64 o1, .int .i64 o2] 3)) w' → w'.cell? ⟨w1.heap.size, i, none⟩ = some (.int .i64 K)) := Lib.hid fun i hi => by
    have hb := heap_alloc_new w1 (.cells #[.int .i64 o1, .int .i64 o2] 3)
    match i, hi with
    | 0, _ => exact ⟨o1, by omega, by omega, fun w' he => by rw [cell_of_row w' w1.heap.size 0 _ _ _ (he.heap hb)]; rfl⟩
    | 1, _ => exact ⟨o2, by omega, by omega, fun w' he => by rw [cell_of_row w' w1.heap.size 1 _ _ _ (he.heap hb)]; rfl⟩
  have EO := Lib.hid (E1.out.alloc (.cells #[.int .i64 o1, .int .i64 o2] 3))
  have See2 := Lib.hid (See1.out.ext ((Ext.refl w1).alloc (.cells #[.int .i64 o1, .int .i64 o2] 3)))
  go_wp2_with fail
  have HK : Hid (∀ i, i < 2 → ∃ K : Int, 0 ≤ K ∧ K ≤ 9223372036854775807 ∧ ∀ w', Ext ((w1.alloc (.cells #[.int .i64 o1, .int .i64 o2] 3)).alloc (.cells #[.int .i64 k1, .int .i64 k2] 3)) w' → w'.cell? ⟨w1.heap.size + 1, i, none⟩ = some (.int .i64 K)) := Lib.hid fun i hi => by
    have hb := heap_alloc_new (w1.alloc (.cells #[.int .i64 o1, .int .i64 o2] 3)) (.cells #[.int .i64 k1, .int .i64 k2] 3)
    have hz : (w1.alloc (.cells #[.int .i64 o1, .int .i64 o2] 3)).heap.size = w1.heap.size + 1 := by simp
    rw [hz] at hb
    match i, hi with
    | 0, _ => exact ⟨k1, by omega, by omega, fun w' he => by rw [cell_of_row w' (w1.heap.size + 1) 0 _ _ _ (he.heap hb)]; rfl⟩
    | 1, _ => exact ⟨k2, by omega, by omega, fun w' he => by rw [cell_of_row w' (w1.heap.size + 1) 1 _ _ _ (he.heap hb)]; rfl⟩
  have HO2 : Hid (∀ i, i < 2 → ∃ K : Int, 0 ≤ K ∧ K ≤ 9223372036854775807 ∧ ∀ w', Ext ((w1.alloc (.cells #[.int .i64 o1, .int .i64 o2] 3)).alloc (.cells #[.int .i64 k1, .int .i64 k2] 3)) w' → w'.cell? ⟨w1.heap.size, i, none⟩ = some (.int .i64 K)) := Lib.hid fun i hi => by
    obtain ⟨K, h1, h2, h3⟩ := HO.out i hi
    exact ⟨K, h1, h2, fun w' he => h3 w' (((Ext.refl _).alloc _).trans he)⟩
  have E3 := Lib.hid (EO.out.alloc (.cells #[.int .i64 k1, .int .i64 k2] 3))
  have See3 := Lib.hid (See2.out.ext ((Ext.refl _).alloc (.cells #[.int .i64 k1, .int .i64 k2] 3)))
  clear HO EO See1 See2 E1
  generalize (w1.alloc (.cells #[.int .i64 o1, .int .i64 o2] 3)).alloc (.cells #[.int .i64 k1, .int .i64 k2] 3) = w3 at *
  generalize w1.heap.size = z at *
  go_loopw [10] (fun i wr => ∃ m : Nat, m ≤ 2 ∧ i = .int .i64 m ∧ Ext w3 wr) (fun i _ => 2 - (intOf i).toNat)
  case atStart => exact ⟨0, by omega, rfl, Ext.refl _⟩
  case round =>
    obtain ⟨m, hm, rfl, extm⟩ := hrel
    by_cases hlt : m < 2
    · obtain ⟨O, hO0, hO1, hOc⟩ := HO2.out m hlt
      have HOc := Lib.hid hOc
      have EM := Lib.hid extm
      clear hOc extm
      go_wp2_with fail
      go_loopw [11] (fun i wr => ∃ q : Nat, q ≤ 2 ∧ i = .int .i64 q ∧ Ext w3 wr) (fun i _ => 2 - (intOf i).toNat)
      case atStart => exact ⟨0, by omega, rfl, EM.out⟩
      case round =>
        obtain ⟨q, hq, rfl, extq⟩ := hrel
        by_cases hqt : q < 2
        · obtain ⟨K, hK0, hK1, hKc⟩ := HK.out q hqt
          have hc1 : ∀ w', Ext wr.drew w' → w'.cell? ⟨z, m, none⟩ = some (.int .i64 O) := fun w' he => HOc.out w' (extq.drew.trans he)
          have hc2 : ∀ w', Ext wr.drew w' → w'.cell? ⟨z + 1, q, none⟩ = some (.int .i64 K) := fun w' he => hKc w' (extq.drew.trans he)
          have HC := Lib.hid (And.intro hc1 hc2)
          have EQ := Lib.hid extq
          have HR := Lib.hid (fun w hs => read_any12 A1 N c1 b O K w hs hO0 hO1 hK0 hK1 (by omega))
          have HRR := Lib.hid (fun w => rread_any12 b O K w (by have := HL.out; omega) hO0 hO1 hK0 hK1)
          rw [HL.out] at HRR
          generalize decide ((N : Int) - O ≤ K) = ov at *
          generalize (b.drop O.toNat).take K.toNat = x at *
          clear hKc extq
          go_wp2_with fail
          refine wp_region_ord [0, 1, 2, 3, 4, 5, 6, 7, 8, 9, 10, 11, 12, 13, 14] [9] (by kernel_rfl) (by kernel_rfl) rfl (by kernel_rfl) ?_
          iterate 9 (refine lex_val (v := ?_) rfl rfl (fun w' hw' => ?_) ?_; rotate_left; (· go_simp; try with_reducible rfl); simp only [Act.put, List.setIfInBounds_toArray, List.set_cons_zero, List.set_cons_succ])
          refine lex_call 39 #[.slice A1 N c1, .int .i64 O, .int .i64 K] rfl rfl (by go_simp) ?_
          refine (HR.out _ (See3.out.ext EQ.out.drew)).mono ?_
          rintro e w4 ⟨v4, rfl, own4, e4⟩
          refine ⟨_, rfl, e4, ?_⟩
          simp only [Act.put, List.setIfInBounds_toArray, List.set_cons_zero, List.set_cons_succ]
          clear hc1 hc2
          iterate 5 (refine lex_val (v := ?_) rfl rfl (fun w' hw' => ?_) ?_; rotate_left; (· go_simp; try with_reducible rfl); simp only [Act.put, List.setIfInBounds_toArray, List.set_cons_zero, List.set_cons_succ])
          refine lex_done ?_
          obtain ⟨A4, c4, rfl, see4⟩ := Sees.of_own own4
          have See4 := Lib.hid see4
          have E4 := Lib.hid (EQ.out.drew.trans e4)
          have hc1 : ∀ w', Ext w4.drew w' → w'.cell? ⟨z, m, none⟩ = some (.int .i64 O) := fun w' he => HC.out.1 w' ((e4.drew).trans he)
          have hc2 : ∀ w', Ext w4.drew w' → w'.cell? ⟨z + 1, q, none⟩ = some (.int .i64 K) := fun w' he => HC.out.2 w' ((e4.drew).trans he)
          have hst : ∀ w', Ext w4.drew w' → (convert 22 9 (.slice A1 N c1)).run Try.prog w' = .ok (.string ⟨b.toArray⟩) w' := fun w' he => str_of (See3.out.ext (E4.out.drew.trans he))
          clear own4 see4 e4
          go_wp2_with fail
          refine wp_region_ord [0, 1, 2, 3, 4, 5, 6, 7, 8, 9, 10, 11, 12, 13, 14, 15] [10] (by kernel_rfl) (by kernel_rfl) rfl (by kernel_rfl) ?_
          iterate 10 (refine lex_val (v := ?_) rfl rfl (fun w' hw' => ?_) ?_; rotate_left; (· go_simp; try with_reducible rfl); simp only [Act.put, List.setIfInBounds_toArray, List.set_cons_zero, List.set_cons_succ])
          refine lex_call 40 #[.string ⟨b.toArray⟩, .int .i64 O, .int .i64 K] rfl rfl (by go_simp) ?_
          refine (HRR.out _).mono ?_
          rintro e w5 ⟨rfl, e5⟩
          refine ⟨_, rfl, e5, ?_⟩
          simp only [Act.put, List.setIfInBounds_toArray, List.set_cons_zero, List.set_cons_succ]
          clear hc1 hc2 hst
          iterate 5 (refine lex_val (v := ?_) rfl rfl (fun w' hw' => ?_) ?_; rotate_left; (· go_simp; try with_reducible rfl); simp only [Act.put, List.setIfInBounds_toArray, List.set_cons_zero, List.set_cons_succ])
          refine lex_done ?_
          have hst := str_of (See4.out.ext ((Ext.refl w4).drew.trans e5))
          have E5 := Lib.hid (E4.out.drew.trans e5)
          clear e5
          go_wp2
          go_roundw
          case rel => exact ⟨q + 1, by omega, by go_num, E5.out⟩
          case measure => simp [intOf]; omega
        · obtain rfl : q = 2 := by omega
          have EQ := Lib.hid extq
          clear extq
          go_wp2
          go_roundw
          case rel => exact ⟨m + 1, by omega, by go_num, EQ.out⟩
          case measure => simp [intOf]; omega
    · obtain rfl : m = 2 := by omega
      go_wp2_with fail
      refine (blobLives_any _).mono ?_
      rintro e w6 ⟨rfl, e6⟩
      go_wp2
      go_ret
      exact ⟨rfl, E3.out.trans (extm.trans e6)⟩
end Go.Proofs.Ytiiagecacegmbaa
