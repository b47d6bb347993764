/-
  The statement LittleSplits: its walk.
-/
import Derived.Test.YtipbkhjlbnjbeaaLitO
import Derived.Test.YtipbkhjlbnjbeaaSam
import Derived.Test.YtipbkhjlbnjbeaaRws
namespace Go.Proofs.Ytipbkhjlbnjbeaa
open Go Go.RowKit
set_option linter.unusedVariables false
set_option linter.unusedSimpArgs false
theorem lpk_le (k t : Nat) (l : List UInt8) : (lpk k t l).length = 7 + l.length := by
  unfold lpk
  simp only [List.length_append, le_length]
set_option maxHeartbeats 1000000 in
set_option maxRecDepth 20000 in
theorem lsplits_walk (A A1 : Option Addr) (n c n1 c1 : Nat) (l : List UInt8) (rows : List (List Int)) (m : Int) (w : World) (hs : Sees w A n c (bs l)) (hs1 : SeesRows .u8 w A1 n1 c1 rows) (hm0 : -9223372036854775808 ≤ m) (hm1 : m ≤ 9223372036854775807) :
    Calls Try.prog 7 #[.slice A n c, .slice A1 n1 c1, .int .i64 m] w fun e w' => e = .returned (.bool true) ∧ Ext w w' := by
  obtain ⟨i0, hi, hz0, hz1, hz2⟩ := info_parts infoB
  have hn1 := hs1.2.1
  have hmx1 := hs1.2.2.1
  unfold maxLen at hmx1
  have HS1 := Lib.hid hs1
  clear hs1
  go_enter Try.func7, Try.ntmps7
  go_wp2_with fail
  refine (few_nat A n c _ 60 _ _ hs (bs_one _) (by omega) (by omega) rfl).mono ?_
  rintro e w1 ⟨v1, rfl, own1, e1⟩
  rw [bs_take] at own1
  obtain ⟨AF, cF, rfl, seeF⟩ := Sees.of_own own1
  have hlf : (l.take 60).length ≤ 60 := by rw [List.length_take]; omega
  generalize hN : min n 60 = N at *
  have hN60 : N ≤ 60 := by omega
  generalize l.take 60 = fl at *
  have SeeF := Lib.hid seeF
  have E1 := Lib.hid e1
  clear own1 hs seeF e1 hN
  go_wp2_with fail
  go_loopw [8, 9] (fun v i wr => ∃ (k : Nat) (ol : List UInt8), k ≤ 4 ∧ i = .int .i64 k ∧ wr.ownsRow w1.heap.size 5 1 v ol.length (bs ol) ∧ ol.length ≤ 20 * k ∧ Ext w1 wr) (fun _ i _ => 4 - (intOf i).toNat)
  case atStart => exact ⟨0, [], by omega, rfl, World.ownsRow_nil _ _ _ _, by simp, Ext.refl _⟩
  case round =>
    obtain ⟨k, ol, hk, rfl, own, hol, ext⟩ := hrel
    have Own := Lib.hid own
    have EX := Lib.hid (E1.out.trans ext)
    have EXf := Lib.hid ext
    clear own ext
    by_cases hlt : k < n1 ∧ k < 4
    · obtain ⟨hlt1, hlt2⟩ := hlt
      obtain ⟨b, off, A', c', r, hA, hr, hcell, seer, hqr⟩ := (HS1.out.ext EX.out).at_ k hlt1
      subst hA
      rw [ints_bytes hqr] at seer
      generalize (r.map fun n => UInt8.ofNat n.toNat) = rb at *
      have SeeR := Lib.hid seer
      clear seer hr hqr
      go_wp2_with fail
      refine (few_nat A' _ c' _ 12 _ _ SeeR.out (bs_one _) (by omega) (by omega) rfl).mono ?_
      rintro e w2 ⟨v2, rfl, own2, e2⟩
      rw [bs_take] at own2
      obtain ⟨A2, c2, rfl, see2⟩ := Sees.of_own own2
      have hlb : (rb.take 12).length ≤ 12 := by rw [List.length_take]; omega
      generalize rb.take 12 = tb at *
      generalize hM : min r.length 12 = M at *
      have hM12 : M ≤ 12 := by omega
      have HP := Lib.hid (rpack_any (100 + k) k A2 M c2 tb w2 see2 (by omega) (by omega) (by omega))
      rw [show (((100 + k : Nat)) : Int) = 100 + (k : Int) from by omega] at HP
      have O2 := Lib.hid (own_ext Own.out e2)
      have E2 := Lib.hid (EX.out.trans e2)
      have E2f := Lib.hid (EXf.out.trans e2)
      clear own2 see2 e2 hM hcell
      go_wp2_with fail
      refine (HP.out).mono ?_
      rintro e w3 ⟨v3, rfl, own3, e3⟩
      have hpl := lpk_le (100 + k) k tb
      generalize lpk (100 + k) k tb = pk at *
      have hpl2 : pk.length ≤ 20 := by omega
      clear hpl hlb
      obtain ⟨A3, c3, rfl, see3⟩ := Sees.of_own own3
      have own4 := own_ext O2.out e3
      have ext4 := E2f.out.trans e3
      obtain ⟨v5, w5, hrun, own5, hg5, _⟩ := run_append_sees (P := Try.prog) (w := w3) w1.heap.size 22 22 5 i0 _ 1 Try.underlying22 hi hz0 hz1 hz2 rfl _ _ _ own4 _ _ _ _ see3 (bs_one _) (by unfold maxLen; omega) (by omega) ext4.size
      rw [← bs_append, ← List.length_append] at own5
      have O5 := Lib.hid own5
      have E5 := Lib.hid (ext4.grown hg5 fun k hk => (own4.lt k hk).1)
      clear own3 own4 own5 see3 hg5 e3 ext4
      go_wp2_with (first | (at_builtin; refine wpList_append_run rfl (.tmp 30) (.tmp 39) _ rfl _ _ rfl rfl v5 w5 hrun ?_) | fail)
      go_roundw
      case rel => exact ⟨k + 1, ol ++ pk, by omega, by go_num, O5.out, by rw [List.length_append]; omega, E5.out⟩
      case measure => simp [intOf]; omega
    · have HJ : Hid (¬ (k < n1 ∧ k < 4)) := Lib.hid hlt
      obtain ⟨AO, cO, rfl, seeO⟩ := Sees.of_own Own.out
      have SeeO := Lib.hid seeO
      have hol8 : ol.length ≤ 80 := by omega
      have hx1 : ol.take 200 = ol := List.take_of_length_le (by omega)
      have hx2 : min ol.length 200 = ol.length := by omega
      have HF2 := Lib.hid (fun (w : World) (hs : Sees w AO ol.length cO (bs ol)) => few_nat AO ol.length cO 200 200 (bs ol) w hs (bs_one _) (by decide) (by decide) rfl)
      simp only [bs_take, hx1, hx2] at HF2
      clear hx1 hx2
      clear seeO
      have hcases : (¬ k < n1) ∨ (k < n1 ∧ ¬ k < 4) := by omega
      clear hlt
      rcases hcases with hlt | ⟨hlt, hlt2⟩
      all_goals
        go_wp2_with fail
        refine (HF2.out _ SeeO.out).mono ?_
        rintro e w2 ⟨v2, rfl, own2, e2⟩
        obtain ⟨v3, w3, hrun, own3, hg3, _⟩ := run_append_sees (P := Try.prog) (w := w2) wr.heap.size 22 22 5 i0 _ 1 Try.underlying22 hi hz0 hz1 hz2 rfl _ _ _ own2 _ _ _ _ (SeeF.out.ext (EXf.out.trans e2)) (bs_one _) (by unfold maxLen; omega) (by omega) e2.size
        have ER3 : Ext wr w3 := e2.grown hg3 fun k hk => (own2.lt k hk).1
        rw [← bs_append] at own3
        obtain ⟨A3, c3, rfl, see3⟩ := Sees.of_own own3
        have SF3 := Lib.hid (SeeF.out.ext (EXf.out.trans ER3))
        have SO3 := Lib.hid (SeeO.out.ext ER3)
        have S33 := Lib.hid see3
        have E3 := Lib.hid (EX.out.trans ER3)
        clear own2 own3 see3 hg3 e2 ER3
        have HAr := Lib.hid (fun w => around_any m 31 w hm0 hm1 (by omega) (by omega))
        have har := aroundZ_bound m 31 (by omega)
        generalize aroundZ m 31 = r at *
        go_wp2_with (first | (at_builtin; refine wpList_append_run rfl (.tmp 44) (.tmp 45) _ rfl _ _ rfl rfl _ w3 hrun ?_) | fail)
        refine (HAr.out _).mono ?_
        rintro e w4 ⟨rfl, rfl⟩
        clear hrun
        have e34 : Ext w3 (w3.alloc (.cells #[.slice AF N cF, .slice AO ol.length cO, .slice A3 (ol.length + N) c3] 22)) := (Ext.refl _).alloc _
        have hb4 := heap_alloc_new w3 (.cells #[.slice AF N cF, .slice AO ol.length cO, .slice A3 (ol.length + N) c3] 22)
        have hz4 : (w3.alloc (.cells #[.slice AF N cF, .slice AO ol.length cO, .slice A3 (ol.length + N) c3] 22)).heap.size = w3.heap.size + 1 := by simp
        have e45 : Ext (w3.alloc (.cells #[.slice AF N cF, .slice AO ol.length cO, .slice A3 (ol.length + N) c3] 22)) ((w3.alloc (.cells #[.slice AF N cF, .slice AO ol.length cO, .slice A3 (ol.length + N) c3] 22)).alloc (.cells #[.int .i64 m, .int .i64 r, .int .i64 1024] 3)) := (Ext.refl _).alloc _
        have hb5 := heap_alloc_new (w3.alloc (.cells #[.slice AF N cF, .slice AO ol.length cO, .slice A3 (ol.length + N) c3] 22)) (.cells #[.int .i64 m, .int .i64 r, .int .i64 1024] 3)
        rw [hz4] at hb5
        have HALL : Hid (∀ i, i < 3 → ∃ A n c l, n ≤ 300 ∧ Sees ((w3.alloc (.cells #[.slice AF N cF, .slice AO ol.length cO, .slice A3 (ol.length + N) c3] 22)).alloc (.cells #[.int .i64 m, .int .i64 r, .int .i64 1024] 3)) A n c (bs l) ∧
            ∀ w', Ext ((w3.alloc (.cells #[.slice AF N cF, .slice AO ol.length cO, .slice A3 (ol.length + N) c3] 22)).alloc (.cells #[.int .i64 m, .int .i64 r, .int .i64 1024] 3)) w' → w'.cell? ⟨w3.heap.size, i, none⟩ = some (.slice A n c)) := Lib.hid fun i hi => by
          have key : ∀ (w' : World), Ext ((w3.alloc (.cells #[.slice AF N cF, .slice AO ol.length cO, .slice A3 (ol.length + N) c3] 22)).alloc (.cells #[.int .i64 m, .int .i64 r, .int .i64 1024] 3)) w' → w'.heap[w3.heap.size]? = some (.cells #[.slice AF N cF, .slice AO ol.length cO, .slice A3 (ol.length + N) c3] 22 (0, 0)) := fun w' he => (e45.trans he).heap hb4
          match i, hi with
          | 0, _ => exact ⟨AF, N, cF, fl, by omega, SF3.out.ext (e34.trans e45), fun w' he => by rw [cell_of_row w' w3.heap.size 0 _ _ _ (key w' he)]; rfl⟩
          | 1, _ => exact ⟨AO, ol.length, cO, ol, by omega, SO3.out.ext (e34.trans e45), fun w' he => by rw [cell_of_row w' w3.heap.size 1 _ _ _ (key w' he)]; rfl⟩
          | 2, _ => exact ⟨A3, ol.length + N, c3, ol ++ fl, by omega, S33.out.ext (e34.trans e45), fun w' he => by rw [cell_of_row w' w3.heap.size 2 _ _ _ (key w' he)]; rfl⟩
        have HMS : Hid (∀ i, i < 3 → ∃ K : Int, -9223372036854775808 ≤ K ∧ K ≤ 9223372036854775807 ∧
            ∀ w', Ext ((w3.alloc (.cells #[.slice AF N cF, .slice AO ol.length cO, .slice A3 (ol.length + N) c3] 22)).alloc (.cells #[.int .i64 m, .int .i64 r, .int .i64 1024] 3)) w' → w'.cell? ⟨w3.heap.size + 1, i, none⟩ = some (.int .i64 K)) := Lib.hid fun i hi => by
          match i, hi with
          | 0, _ => exact ⟨m, by omega, by omega, fun w' he => by rw [cell_of_row w' (w3.heap.size + 1) 0 _ _ _ (he.heap hb5)]; rfl⟩
          | 1, _ => exact ⟨r, by omega, by omega, fun w' he => by rw [cell_of_row w' (w3.heap.size + 1) 1 _ _ _ (he.heap hb5)]; rfl⟩
          | 2, _ => exact ⟨1024, by omega, by omega, fun w' he => by rw [cell_of_row w' (w3.heap.size + 1) 2 _ _ _ (he.heap hb5)]; rfl⟩
        have E5 := Lib.hid (E3.out.trans (e34.trans e45))
        clear e34 hb4 hz4 e45 hb5 SF3 SO3 S33 E3 SeeO SeeF Own HF2
        go_wp2_with fail
        generalize (w3.alloc (.cells #[.slice AF N cF, .slice AO ol.length cO, .slice A3 (ol.length + N) c3] 22)).alloc (.cells #[.int .i64 m, .int .i64 r, .int .i64 1024] 3) = w5 at *
        generalize w3.heap.size = z at *
        go_loopw [12] (fun i wr => ∃ p : Nat, p ≤ 3 ∧ i = .int .i64 p ∧ Ext w5 wr) (fun i _ => 3 - (intOf i).toNat)
        case atStart => exact ⟨0, by omega, rfl, Ext.refl _⟩
        case round =>
          obtain ⟨p, hp, rfl, extp⟩ := hrel
          by_cases hpt : p < 3
          · obtain ⟨Ax, nx, cx, lx, hnx, sx, hcx⟩ := HALL.out p hpt
            have SX := Lib.hid sx
            have HCX := Lib.hid hcx
            have EP := Lib.hid extp
            clear sx hcx extp
            have hpd : decide ((p : Int) < 3) = true := by simp; omega
            go_wp2_with fail
            clear hpd
            have hpt2 : (p : Int) < 3 := by omega
            go_loopw [13] (fun i wr => ∃ q : Nat, q ≤ 3 ∧ i = .int .i64 q ∧ Ext w5 wr) (fun i _ => 3 - (intOf i).toNat)
            case atStart => exact ⟨0, by omega, rfl, EP.out⟩
            case round =>
              obtain ⟨q, hq, rfl, extq⟩ := hrel
              by_cases hqt : q < 3
              · obtain ⟨K, hK0, hK1, hcK⟩ := HMS.out q hqt
                have HCK := Lib.hid hcK
                have EQ := Lib.hid extq
                have HLS := Lib.hid (fun w hs => lsplit_any Ax nx cx lx K w hs (by omega) hK0 hK1)
                have HRS := Lib.hid (fun w hs => rsplit_any Ax nx cx lx K w hs (by omega) hK0 hK1)
                generalize spL nx K lx = ds at *
                generalize spR nx K lx = rr at *
                generalize spE nx K lx = er at *
                have hc1 : ∀ w', Ext _ w' → w'.cell? ⟨z, p, none⟩ = some (.slice Ax nx cx) := fun w' (he : Ext _ w') => HCX.out w' (EQ.out.drew.trans he)
                have hc2 : ∀ w', Ext _ w' → w'.cell? ⟨z + 1, q, none⟩ = some (.int .i64 K) := fun w' (he : Ext _ w') => HCK.out w' (EQ.out.drew.trans he)
                clear hcK extq
                go_wp2_with fail
                refine wp_region_pl (.free 0 (.free 1 (.free 2 (.free 3 (.free 4 (.free 5 (.free 6 (.free 7 (.one 8 (.free 9 (.free 10 (.free 11 (.free 12 (.free 13 (.free 14 (.free 15 .nil)))))))))))))))) (by kernel_rfl) (by kernel_rfl) (by kernel_rfl) (by kernel_rfl) ?_
                iterate 8 (refine pl_val (v := ?_) rfl rfl (fun w' hw' => ?_) ?_; rotate_left; (· go_simp; try with_reducible rfl); simp only [Act.put, List.setIfInBounds_toArray, List.set_cons_zero, List.set_cons_succ])
                refine pl_call 57 #[.slice Ax nx cx, .int .i64 K] rfl rfl (by go_simp) ?_
                refine (HLS.out _ (SX.out.ext EQ.out.drew)).mono ?_
                rintro e w6 ⟨vl, vr, kr, rfl, ownL, ownR, e6⟩
                refine ⟨_, rfl, e6, ?_⟩
                simp only [Act.put, List.setIfInBounds_toArray, List.set_cons_zero, List.set_cons_succ]
                obtain ⟨AL1, cL1, rfl, -⟩ := ownL.sees
                obtain ⟨AR1, cR1, rfl, seeR1⟩ := Sees.of_own ownR
                have OwnL1 := Lib.hid ownL
                have SeeR1 := Lib.hid seeR1
                have E6 := Lib.hid (EQ.out.drew.trans e6)
                clear hc1 hc2 ownL ownR seeR1 e6
                iterate 7 (refine pl_val (v := ?_) rfl rfl (fun w' hw' => ?_) ?_; rotate_left; (· go_simp; try with_reducible rfl); simp only [Act.put, List.setIfInBounds_toArray, List.set_cons_zero, List.set_cons_succ])
                refine pl_done ?_
                have hc1 : ∀ w', Ext w6.drew w' → w'.cell? ⟨z, p, none⟩ = some (.slice Ax nx cx) := fun w' he => HCX.out w' (E6.out.drew.trans he)
                have hc2 : ∀ w', Ext w6.drew w' → w'.cell? ⟨z + 1, q, none⟩ = some (.int .i64 K) := fun w' he => HCK.out w' (E6.out.drew.trans he)
                go_wp2_with fail
                refine wp_region_plS (Ext w6.drew) (.free 0 (.free 1 (.free 2 (.free 3 (.free 4 (.free 5 (.free 6 (.free 7 (.fork 8 9 (.one 9 (.one 10 .nil)) (.one 8 (.one 10 .nil))))))))))) (by kernel_rfl) (by kernel_rfl) (by kernel_rfl) (by kernel_rfl) ?_
                iterate 8 (refine plS_val (v := ?_) rfl rfl (by first | exact Ext.refl _ | assumption) (fun w' hw' => ?_) ?_; rotate_left; (· go_simp; try with_reducible rfl); simp only [Act.put, List.setIfInBounds_toArray, List.set_cons_zero, List.set_cons_succ])
                refine plS_fork ?_ ?_
                · refine plS_call 58 #[.slice Ax nx cx, .int .i64 K] rfl rfl (by go_simp) ?_
                  refine (HRS.out _ (SX.out.ext E6.out.drew)).mono ?_
                  rintro e w7 ⟨vl2, A2, n2, c2, rfl, own2, see2, e7⟩
                  obtain ⟨AL2, cL2, rfl, -⟩ := own2.sees
                  refine ⟨_, rfl, e7, ?_⟩
                  simp only [Act.put, List.setIfInBounds_toArray, List.set_cons_zero, List.set_cons_succ]
                  clear hc1 hc2
                  refine plS_run (w' := w7.alloc (.cells #[.slice none 0 0, .slice none 0 0, .int .i64 0] 70)) (.pointer (some ⟨w7.heap.size, 0, none⟩)) rfl rfl (by go_simp; try rfl) (e7.alloc _) ?_
                  simp only [Act.put, List.setIfInBounds_toArray, List.set_cons_zero, List.set_cons_succ]
                  obtain ⟨wX, hwX⟩ : ∃ wX, wX = w7.alloc (.cells #[.slice AL2 ds.length cL2, .slice A2 n2 c2, .int .i64 er] 70) := ⟨_, rfl⟩
                  have e7X : Ext w7 wX := by rw [hwX]; exact (Ext.refl w7).alloc _
                  have HB : Hid (wX.heap[w7.heap.size]? = some (.cells #[.slice AL2 ds.length cL2, .slice A2 n2 c2, .int .i64 er] 70 (0, 0))) := Lib.hid (by rw [hwX]; exact heap_alloc_new w7 _)
                  refine plS_void (w' := wX) rfl rfl (by rw [hwX]; go_simp) (e7.trans e7X) ?_
                  simp only [Act.put, List.setIfInBounds_toArray, List.set_cons_zero, List.set_cons_succ]
                  refine plS_done ?_
                  have E6X := Lib.hid (((Ext.refl w6).drew.trans e7).trans e7X)
                  have E8 := Lib.hid (E6.out.trans E6X.out)
                  have OwnL2 := Lib.hid (own2.ext e7X)
                  have SeeR2 := Lib.hid (see2.ext e7X)
                  clear hwX own2 see2 e7 e7X
                  have c0 := cell_of_row wX w7.heap.size 0 _ _ _ HB.out
                  have c1 := cell_of_row wX w7.heap.size 1 _ _ _ HB.out
                  have c2 := cell_of_row wX w7.heap.size 2 _ _ _ HB.out
                  simp at c0 c1 c2
                  have hY1 := str_of (SeeR1.out.ext E6X.out)
                  have hY2 := str_of SeeR2.out
                  obtain ⟨Aq, cq, hvq, seeq⟩ := (OwnL1.out.ext E6X.out).sees
                  obtain ⟨Aq2, cq2, hvq2, seeq2⟩ := OwnL2.out.sees
                  injection hvq with q1 q2 q3
                  subst q1 q3
                  injection hvq2 with q4 q5 q6
                  subst q4 q6
                  have HSame := Lib.hid (sameB_eq _ _ _ _ _ ds wX seeq seeq2)
                  clear seeq seeq2 q2 q5
                  go_wp2_with fail
                  refine (HSame.out).mono ?_
                  rintro e w9 ⟨rfl, e9⟩
                  have E9 := Lib.hid (E8.out.trans e9)
                  clear e9
                  go_wp2
                  go_roundw
                  case rel => exact ⟨q + 1, by omega, by go_num, E9.out⟩
                  case measure => simp [intOf]; omega
                · refine plS_run (w' := w6.drew.alloc (.cells #[.slice none 0 0, .slice none 0 0, .int .i64 0] 70)) (.pointer (some ⟨w6.heap.size, 0, none⟩)) rfl rfl (by go_simp; try rfl) ((Ext.refl _).alloc _) ?_
                  simp only [Act.put, List.setIfInBounds_toArray, List.set_cons_zero, List.set_cons_succ]
                  refine plS_call 58 #[.slice Ax nx cx, .int .i64 K] rfl rfl (by go_simp) ?_
                  refine (HRS.out _ (SX.out.ext (E6.out.drew.alloc _))).mono ?_
                  rintro e w7 ⟨vl2, A2, n2, c2, rfl, own2, see2, e7⟩
                  obtain ⟨AL2, cL2, rfl, -⟩ := own2.sees
                  have hb7 := e7.heap (heap_alloc_new w6.drew (.cells #[.slice none 0 0, .slice none 0 0, .int .i64 0] 70))
                  have hz6 : w6.drew.heap.size = w6.heap.size := rfl
                  rw [hz6] at hb7
                  refine ⟨_, rfl, ((Ext.refl _).alloc _).trans e7, ?_⟩
                  simp only [Act.put, List.setIfInBounds_toArray, List.set_cons_zero, List.set_cons_succ]
                  clear hc1 hc2 hz6
                  have z0 := cell_of_row w7 w6.heap.size 0 _ _ _ hb7
                  have z1 := cell_of_row w7 w6.heap.size 1 _ _ _ hb7
                  have z2 := cell_of_row w7 w6.heap.size 2 _ _ _ hb7
                  simp at z0 z1 z2
                  have f0 := blk_free hb7 0
                  have f1 := blk_free hb7 1
                  have f2 := blk_free hb7 2
                  have e6 : Ext w6.drew w7 := ((Ext.refl _).alloc _).trans e7
                  have hown := own2.ne (show w6.heap.size < (w6.drew.alloc (.cells #[.slice none 0 0, .slice none 0 0, .int .i64 0] 70)).heap.size by simp)
                  obtain ⟨wX, hwX⟩ : ∃ wX, wX = (((w7.setCell ⟨w6.heap.size, 0, none⟩ (.slice AL2 ds.length cL2)).setCell ⟨w6.heap.size, 1, none⟩ (.slice A2 n2 c2)).setCell ⟨w6.heap.size, 2, none⟩ (.int .i64 er)) := ⟨_, rfl⟩
                  have e6X : Ext w6.drew wX := by rw [hwX]; exact ext3 e6 (Nat.le_refl _) _ _ _
                  have o7X : Onl w6.heap.size w7 wX := by rw [hwX]; exact onl3 _ _ _ _ _
                  have HB : Hid (wX.heap[w6.heap.size]? = some (.cells #[.slice AL2 ds.length cL2, .slice A2 n2 c2, .int .i64 er] 70 (0, 0))) := Lib.hid (by rw [hwX]; exact set3 hb7)
                  refine plS_void (w' := wX) rfl rfl (by rw [hwX]; go_simp) e6X ?_
                  simp only [Act.put, List.setIfInBounds_toArray, List.set_cons_zero, List.set_cons_succ]
                  refine plS_done ?_
                  have E6X := Lib.hid ((Ext.refl w6).drew.trans e6X)
                  have E8 := Lib.hid (E6.out.trans E6X.out)
                  have OwnL2 := Lib.hid (own2.onP (plain_S hb7 (fun _ => nofun) (fun _ => nofun)) o7X hown)
                  have SeeR2 := Lib.hid (see2.onP (plain_S hb7 (fun _ => nofun) (fun _ => nofun)) o7X)
                  clear hwX own2 see2 e7 e6X o7X hb7 z0 z1 z2 f0 f1 f2 e6 hown
                  have c0 := cell_of_row wX w6.heap.size 0 _ _ _ HB.out
                  have c1 := cell_of_row wX w6.heap.size 1 _ _ _ HB.out
                  have c2 := cell_of_row wX w6.heap.size 2 _ _ _ HB.out
                  simp at c0 c1 c2
                  have hY1 := str_of (SeeR1.out.ext E6X.out)
                  have hY2 := str_of SeeR2.out
                  obtain ⟨Aq, cq, hvq, seeq⟩ := (OwnL1.out.ext E6X.out).sees
                  obtain ⟨Aq2, cq2, hvq2, seeq2⟩ := OwnL2.out.sees
                  injection hvq with q1 q2 q3
                  subst q1 q3
                  injection hvq2 with q4 q5 q6
                  subst q4 q6
                  have HSame := Lib.hid (sameB_eq _ _ _ _ _ ds wX seeq seeq2)
                  clear seeq seeq2 q2 q5
                  go_wp2_with fail
                  refine (HSame.out).mono ?_
                  rintro e w9 ⟨rfl, e9⟩
                  have E9 := Lib.hid (E8.out.trans e9)
                  clear e9
                  go_wp2
                  go_roundw
                  case rel => exact ⟨q + 1, by omega, by go_num, E9.out⟩
                  case measure => simp [intOf]; omega
              · obtain rfl : q = 3 := by omega
                have EQ := Lib.hid extq
                clear extq
                go_wp2
                go_roundw
                case rel => exact ⟨p + 1, by omega, by go_num, EQ.out⟩
                case measure => simp [intOf]; omega
          · obtain rfl : p = 3 := by omega
            go_wp2_with fail
            refine (littleLives_any _).mono ?_
            rintro e w6 ⟨rfl, e6⟩
            go_wp2
            go_ret
            exact ⟨rfl, E5.out.trans (extp.trans e6)⟩
end Go.Proofs.Ytipbkhjlbnjbeaa
