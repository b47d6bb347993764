/-
  The statement BlobWrites: its walk.
-/
import Derived.Test.YtiiagecacegmbaaBlobH
namespace Go.Proofs.Ytiiagecacegmbaa
open Go Go.RowKit
set_option linter.unusedVariables false
set_option linter.unusedSimpArgs false
set_option maxHeartbeats 4000000 in
set_option maxRecDepth 20000 in
theorem bwrites_walk (A : Option Addr) (n c : Nat) (l : List UInt8) (A2 : Option Addr) (n2 c2 : Nat) (s : List UInt8) (o : Int) (w : World) (hs : Sees w A n c (bs l)) (hs2 : Sees w A2 n2 c2 (bs s)) (ho0 : -9223372036854775808 ≤ o) (ho1 : o ≤ 9223372036854775807) :
    Calls Try.prog 13 #[.slice A n c, .int .i64 o, .slice A2 n2 c2] w fun e w' => e = .returned (.bool true) ∧ Ext w w' := by
  have HS0 := Lib.hid hs
  go_enter Try.func13, Try.ntmps13
  go_wp2_with fail
  refine (few_nat A n c _ 40 _ _ hs (bs_one _) (by omega) (by omega) rfl).mono ?_
  rintro e w1 ⟨v1, rfl, own1, e1⟩
  rw [bs_take] at own1
  obtain ⟨A1, c1, rfl, see1⟩ := Sees.of_own own1
  have hl0 := see1.len
  rw [bs_length] at hl0
  generalize hN : min n 40 = N at *
  have hN40 : N ≤ 40 := by omega
  have HN := Lib.hid hN
  generalize hbd : l.take 40 = b at *
  have HBD := Lib.hid hbd
  clear hbd hN
  go_wp2_with fail
  refine (few_nat A2 n2 c2 _ 30 _ _ (hs2.ext e1) (bs_one _) (by omega) (by omega) rfl).mono ?_
  rintro e w2 ⟨v2, rfl, own2, e2⟩
  rw [bs_take] at own2
  obtain ⟨A3, c3, rfl, see3⟩ := Sees.of_own own2
  have hd0 := see3.len
  rw [bs_length] at hd0
  generalize hM : min n2 30 = M at *
  have hM30 : M ≤ 30 := by omega
  generalize s.take 30 = d at *
  have see1 := see1.ext e2
  have See3 := Lib.hid see3
  have HD := Lib.hid hd0
  have E2 := Lib.hid (e1.trans e2)
  clear hd0 hM own2 hs2 see3 e2
  have See1 := Lib.hid see1
  have HL := Lib.hid hl0
  clear hl0 own1 hs see1 e1
  have hfo := fromZ_bound o ho0 ho1
  have hao := aroundZ_bound o 61 (by omega)
  have F1 := Lib.hid (fun w => from_any o w ho0 ho1)
  have G1 := Lib.hid (fun w => around_any o 61 w ho0 ho1 (by omega) (by omega))
  generalize fromZ o = o1 at *
  generalize aroundZ o 61 = o2 at *
  go_wp2_with fail
  refine (F1.out _).mono ?_
  rintro e w3 ⟨rfl, rfl⟩
  go_wp2_with fail
  refine (G1.out _).mono ?_
  rintro e w3 ⟨rfl, rfl⟩
  have HO : Hid (∀ i, i < 3 → ∃ K : Int, 0 ≤ K ∧ K ≤ 9223372036854775807 ∧ ∀ w', Ext (w2.alloc (.cells #[.int .i64 o1, .int .i64 o2, .int .i64 2040] 3)) w' → w'.cell? ⟨w2.heap.size, i, none⟩ = some (.int .i64 K)) := Lib.hid fun i hi => by
    have hb := heap_alloc_new w2 (.cells #[.int .i64 o1, .int .i64 o2, .int .i64 2040] 3)
    match i, hi with
    | 0, _ => exact ⟨o1, by omega, by omega, fun w' he => by rw [cell_of_row w' w2.heap.size 0 _ _ _ (he.heap hb)]; rfl⟩
    | 1, _ => exact ⟨o2, by omega, by omega, fun w' he => by rw [cell_of_row w' w2.heap.size 1 _ _ _ (he.heap hb)]; rfl⟩
    | 2, _ => exact ⟨2040, by omega, by omega, fun w' he => by rw [cell_of_row w' w2.heap.size 2 _ _ _ (he.heap hb)]; rfl⟩
  have EO := Lib.hid (E2.out.alloc (.cells #[.int .i64 o1, .int .i64 o2, .int .i64 2040] 3))
  have See1 := Lib.hid (See1.out.ext ((Ext.refl w2).alloc (.cells #[.int .i64 o1, .int .i64 o2, .int .i64 2040] 3)))
  have See3 := Lib.hid (See3.out.ext ((Ext.refl w2).alloc (.cells #[.int .i64 o1, .int .i64 o2, .int .i64 2040] 3)))
  clear E2
  go_wp2_with fail
  generalize w2.alloc (.cells #[.int .i64 o1, .int .i64 o2, .int .i64 2040] 3) = w3 at *
  generalize w2.heap.size = z at *
  go_loopw [10] (fun i wr => ∃ m : Nat, m ≤ 3 ∧ i = .int .i64 m ∧ Ext w3 wr) (fun i _ => 3 - (intOf i).toNat)
  case atStart => exact ⟨0, by omega, rfl, Ext.refl _⟩
  case round =>
    obtain ⟨m, hm, rfl, extm⟩ := hrel
    by_cases hlt : m < 3
    · obtain ⟨K, hK0, hK1, hKc⟩ := HO.out m hlt
      have HKc := Lib.hid hKc
      have EM := Lib.hid extm
      have HA := Lib.hid (fun w hs hs2 => bwrite_any A1 N c1 b K w hs (by omega) A3 M c3 d hs2 (by omega) hK0 hK1)
      have HR := Lib.hid (fun w => rwrite_all b d K w (by have := HL.out; omega) (by have := HD.out; omega) hK0 hK1)
      rw [HD.out] at HR
      generalize wrE K (M : Int) = ec at *
      generalize wrT b K d = y at *
      have hc1 := hKc wr extm
      clear hKc extm
      go_wp2_with fail
      refine (HA.out _ (See1.out.ext EM.out) (See3.out.ext EM.out)).mono ?_
      rintro e w4 ⟨v4, k4, rfl, own4, e4⟩
      obtain ⟨A4, c4, rfl, see4⟩ := Sees.of_own own4
      have See4 := Lib.hid see4
      have E4 := Lib.hid (EM.out.trans e4)
      clear own4 see4 e4 hc1
      have hc2 : ∀ w', Ext w4.drew w' → w'.cell? ⟨z, m, none⟩ = some (.int .i64 K) := fun w' he => HKc.out w' (E4.out.drew.trans he)
      have hst : ∀ w', Ext w4.drew w' → (convert 22 9 (.slice A1 N c1)).run Try.prog w' = .ok (.string ⟨b.toArray⟩) w' := fun w' he => str_of (See1.out.ext (E4.out.drew.trans he))
      have hst2 : ∀ w', Ext w4.drew w' → (convert 22 9 (.slice A3 M c3)).run Try.prog w' = .ok (.string ⟨d.toArray⟩) w' := fun w' he => str_of (See3.out.ext (E4.out.drew.trans he))
      go_wp2_with fail
      refine wp_region_ord [0, 1, 2, 3, 4, 5, 6, 7, 8, 9, 10, 11, 12, 13] [8] (by kernel_rfl) (by kernel_rfl) rfl (by kernel_rfl) ?_
      iterate 8 (refine lex_val (v := ?_) rfl rfl (fun w' hw' => ?_) ?_; rotate_left; (· go_simp; try with_reducible rfl); simp only [Act.put, List.setIfInBounds_toArray, List.set_cons_zero, List.set_cons_succ])
      refine lex_call 43 #[.string ⟨b.toArray⟩, .int .i64 K, .string ⟨d.toArray⟩] rfl rfl (by go_simp) ?_
      refine (HR.out _).mono ?_
      rintro e w5 ⟨rfl, e5⟩
      refine ⟨_, rfl, e5, ?_⟩
      simp only [Act.put, List.setIfInBounds_toArray, List.set_cons_zero, List.set_cons_succ]
      clear hc2 hst hst2
      iterate 5 (refine lex_val (v := ?_) rfl rfl (fun w' hw' => ?_) ?_; rotate_left; (· go_simp; try with_reducible rfl); simp only [Act.put, List.setIfInBounds_toArray, List.set_cons_zero, List.set_cons_succ])
      refine lex_done ?_
      have hst := str_of (See4.out.ext ((Ext.refl w4).drew.trans e5))
      have E5 := Lib.hid (E4.out.drew.trans e5)
      clear e5
      go_wp2
      go_roundw
      case rel => exact ⟨m + 1, by omega, by go_num, E5.out⟩
      case measure => simp [intOf]; omega
    · obtain rfl : m = 3 := by omega
      have EM := Lib.hid extm
      have Ew := Lib.hid (EO.out.trans extm)
      clear extm
      have hst : ∀ w', Ext wr.drew w' → (convert 22 9 (.slice A1 N c1)).run Try.prog w' = .ok (.string ⟨b.toArray⟩) w' := fun w' he => str_of (See1.out.ext (EM.out.drew.trans he))
      have HF := Lib.hid (fun w hs => few_nat A n c 40 40 (bs l) w hs (bs_one _) (by omega) (by omega) rfl)
      rw [HN.out, bs_take, HBD.out] at HF
      go_wp2_with fail
      refine wp_region_ord [0, 1, 2, 3, 4, 5, 6, 7, 8, 9] [3, 7] (by kernel_rfl) (by kernel_rfl) rfl (by kernel_rfl) ?_
      iterate 3 (refine lex_val (v := ?_) rfl rfl (fun w' hw' => ?_) ?_; rotate_left; (· go_simp; try with_reducible rfl); simp only [Act.put, List.setIfInBounds_toArray, List.set_cons_zero, List.set_cons_succ])
      refine lex_call 15 #[.slice A n c, .int .i64 40] rfl rfl (by go_simp) ?_
      refine (HF.out _ (HS0.out.ext Ew.out.drew)).mono ?_
      rintro e w6 ⟨v6, rfl, own6, e6⟩
      refine ⟨_, rfl, e6, ?_⟩
      simp only [Act.put, List.setIfInBounds_toArray, List.set_cons_zero, List.set_cons_succ]
      clear hst
      obtain ⟨A6, c6, rfl, see6⟩ := Sees.of_own own6
      have hst : ∀ w', Ext w6 w' → (convert 22 9 (.slice A6 N c6)).run Try.prog w' = .ok (.string ⟨b.toArray⟩) w' := fun w' he => str_of (see6.ext he)
      iterate 3 (refine lex_val (v := ?_) rfl rfl (fun w' hw' => ?_) ?_; rotate_left; (· go_simp; try with_reducible rfl); simp only [Act.put, List.setIfInBounds_toArray, List.set_cons_zero, List.set_cons_succ])
      refine lex_call 41 #[] rfl rfl (by go_simp) ?_
      refine (blobLives_any _).mono ?_
      rintro e w7 ⟨rfl, e7⟩
      refine ⟨_, rfl, e7, ?_⟩
      simp only [Act.put, List.setIfInBounds_toArray, List.set_cons_zero, List.set_cons_succ]
      iterate 2 (refine lex_val (v := ?_) rfl rfl (fun w' hw' => ?_) ?_; rotate_left; (· go_simp; try with_reducible rfl); simp only [Act.put, List.setIfInBounds_toArray, List.set_cons_zero, List.set_cons_succ])
      refine lex_done ?_
      go_wp2
      go_ret
      exact ⟨rfl, Ew.out.drew.trans (e6.trans e7)⟩
end Go.Proofs.Ytiiagecacegmbaa
