/-
  The statement DemarkFeeds: its walk.
-/
import Derived.Test.YtjajkagpfbemiaaDmM
namespace Go.Proofs.Ytjajkagpfbemiaa
open Go Go.RowKit
set_option linter.unusedVariables false
set_option linter.unusedSimpArgs false
set_option maxRecDepth 20000 in
set_option maxHeartbeats 8000000 in
theorem df_walk (A A1 A2 A5 : Option Addr) (n c n1 c1 n2 c2 n5 c5 : Nat) (l : List UInt8) (rows : List (List Int)) (zs z5 : List Int) (most frags : Int) (w : World) (hs : Sees w A n c (bs l)) (h1 : SeesRows .u8 w A1 n1 c1 rows) (h2 : SeesI w A2 n2 c2 zs) (hm0 : -9223372036854775808 ≤ most) (hm1 : most ≤ 9223372036854775807) (hf0 : -9223372036854775808 ≤ frags) (hf1 : frags ≤ 9223372036854775807) (h5 : SeesI w A5 n5 c5 z5) :
    Calls Try.prog 3 #[.slice A n c, .slice A1 n1 c1, .slice A2 n2 c2, .int .i64 most, .int .i64 frags, .slice A5 n5 c5] w fun e w' => e = .returned (.bool true) ∧ Ext w w' := by
  obtain ⟨i0, hi0, hz0, hz1, hz2⟩ := info_parts infoB
  have H5 := Lib.hid h5
  have H0 := Lib.hid hs
  have HGD := Lib.hid (rgood_any A1 A2 n1 c1 n2 c2 rows zs w h1 h2)
  clear h1 h2 h5 hs
  go_enter Try.func3, Try.ntmps3
  go_wp2_with fail
  refine HGD.out.mono ?_
  rintro e w0 ⟨v1, v2, rfl, k, lz, hk1, hk2, hk3, own1, hl5, hl20, own2, e0⟩
  obtain ⟨Ar, cr, rfl, seer⟩ := own1.sees
  obtain ⟨Az, cz, rfl, seez⟩ := Sees.of_own own2
  obtain ⟨rs, hrs⟩ : ∃ rs, (rowF rows 40).take k = rs := ⟨_, rfl⟩
  have hr40 : ∀ r ∈ rs, r.length ≤ 40 := fun r hr => rowF_le rows 40 r (by rw [← hrs] at hr; exact List.mem_of_mem_take hr)
  have hrl : rs.length ≤ 5 := by rw [← hrs, List.length_take]; omega
  rw [hrs] at seer ⊢
  rw [iv_intsF] at seez
  obtain ⟨zl, hzl⟩ : ∃ zl : List Int, (lz.map fun k : Nat => (k : Int)) = zl := ⟨_, rfl⟩
  rw [hzl] at seez
  have hz1' : ∀ z ∈ zl, 1 ≤ z ∧ z ≤ 20 := fun z hz => by
    rw [← hzl] at hz
    obtain ⟨x, hx, rfl⟩ := List.mem_map.1 hz
    have := hl20 x hx
    omega
  have hg1 := fun i => szOf_ge (fun z hz => (hz1' z hz).1) i
  have hE0 := allE_ok (szOf zl) hg1 rs 0 (fun r hr => by have := hr40 r hr; omega)
  have hAL : allL (szOf zl) rs = allB (szOf zl) 0 rs := if_pos hE0
  have HMA := Lib.hid (rmall_any Az Ar lz.length cz rs.length cr zl rs w0 ⟨seez, fun z hz => by have := hz1' z hz; omega⟩ seer (by omega) (fun r hr => by have := hr40 r hr; omega))
  rw [hE0, hAL] at HMA
  have hlen := allB_len (szOf zl) hg1 rs 0 hr40
  obtain ⟨L, hL⟩ : ∃ L, allB (szOf zl) 0 rs = L := ⟨_, rfl⟩
  rw [hL] at HMA hlen
  have E0 := Lib.hid e0
  have hLN : L.length ≤ 1020 := by omega
  clear own1 own2 seer seez hr40 hz1' hg1 hE0 hAL hlen hL hl20 hk3 hrs hzl HGD e0 hrl
  go_wp2_with fail
  refine HMA.out.mono ?_
  rintro e w1 ⟨v, rfl, own3, e1⟩
  obtain ⟨A3, c3, rfl, see3⟩ := Sees.of_own own3
  have HS3 := Lib.hid see3
  have E1 := Lib.hid (E0.out.trans e1)
  clear own3 see3 HMA e1
  go_wp2_with fail
  refine (few_nat A n c 80 80 (bs l) w1 (H0.out.ext E1.out) (bs_one l) (by omega) (by omega) rfl).mono ?_
  rintro e w2 ⟨v4, rfl, own4, e2⟩
  rw [bs_take] at own4
  obtain ⟨N4, hN4⟩ : ∃ N, min n 80 = N := ⟨_, rfl⟩
  obtain ⟨L4, hL4⟩ : ∃ L, l.take 80 = L := ⟨_, rfl⟩
  rw [hN4, hL4] at own4
  obtain ⟨A4, c4, rfl, see4⟩ := Sees.of_own own4
  have hN4' : N4 ≤ 80 := by omega
  have HS4 := Lib.hid see4
  have E2 := Lib.hid (E1.out.trans e2)
  have HS32 := Lib.hid (HS3.out.ext e2)
  have HL4 := Lib.hid see4.len
  clear own4 see4 e2 hN4 hL4 HS3
  go_wp2_with fail
  refine (few_nat A3 L.length c3 1000 1000 (bs L) w2 HS32.out (bs_one L) (by omega) (by omega) rfl).mono ?_
  rintro e w3 ⟨v5, rfl, own5, e3⟩
  rw [bs_take] at own5
  obtain ⟨N5, hN5⟩ : ∃ N, min L.length 1000 = N := ⟨_, rfl⟩
  obtain ⟨L5, hL5⟩ : ∃ L', L.take 1000 = L' := ⟨_, rfl⟩
  rw [hN5, hL5] at own5
  have hN5' : N5 ≤ 1000 := by omega
  obtain ⟨v6, w6, hrun, own6, hg6, hat6⟩ := run_append_sees (P := Try.prog) (w := w3) w2.heap.size 22 22 5 i0 _ 1 Try.underlying22 hi0 hz0 hz1 hz2 rfl v5 N5 (bs L5) own5
    A4 N4 c4 (bs L4) (HS4.out.ext e3) (bs_one _) (by unfold maxLen; omega) (by omega) e3.size
  rw [← bs_append] at own6
  have e6 : Ext w2 w6 := e3.grown hg6 fun k hk => (own5.lt k hk).1
  obtain ⟨A5', c5', rfl, _⟩ := Sees.of_own own5
  obtain ⟨A6, c6, rfl, see6⟩ := Sees.of_own own6
  have hb7 := heap_alloc_new w6 (.cells #[.slice A4 N4 c4, .slice A6 (N5 + N4) c6] 22)
  have e7 : Ext w6 (w6.alloc (.cells #[.slice A4 N4 c4, .slice A6 (N5 + N4) c6] 22)) := (Ext.refl _).alloc _
  have HKS : Hid (∀ k, k < 2 → ∃ (Ak : Option Addr) (nk ck : Nat) (Lk : List UInt8), nk ≤ 1080 ∧ Sees (w6.alloc (.cells #[.slice A4 N4 c4, .slice A6 (N5 + N4) c6] 22)) Ak nk ck (bs Lk) ∧ (w6.alloc (.cells #[.slice A4 N4 c4, .slice A6 (N5 + N4) c6] 22)).cell? ⟨w6.heap.size, k, none⟩ = some (.slice Ak nk ck)) := Lib.hid (fun k hk => by
    have hc := fun i => cell_of_row _ w6.heap.size i _ _ _ hb7
    match k, hk with
    | 0, _ => exact ⟨A4, N4, c4, L4, by omega, HS4.out.ext (e6.trans e7), by rw [hc 0]; rfl⟩
    | 1, _ => exact ⟨A6, N5 + N4, c6, L5 ++ L4, by omega, see6.ext e7, by rw [hc 1]; rfl⟩)
  have E7 := Lib.hid (E2.out.trans (e6.trans e7))
  clear own5 own6 hg6 hat6 see6 e3 e6 e7 hb7 hN5 hL5 HS32 HS4 HL4
  go_wp2_with (first | (at_builtin; refine wpList_append_run rfl (.tmp 45) (.tmp 46) _ rfl _ _ rfl rfl (.slice A6 (N5 + N4) c6) w6 hrun ?_) | fail)
  refine (around_any most 51 _ hm0 hm1 (by omega) (by omega)).mono ?_
  rintro e w2' ⟨rfl, rfl⟩
  have hr := aroundZ_bound most 51 (by omega)
  obtain ⟨r, hrr⟩ : ∃ r, aroundZ most 51 = r := ⟨_, rfl⟩
  rw [hrr] at hr ⊢
  obtain ⟨r0, r1⟩ := hr
  obtain ⟨M, rfl⟩ := Int.eq_ofNat_of_zero_le r0
  clear hrr r0
  go_wp2_with fail
  refine (around_any frags 5 _ hf0 hf1 (by omega) (by omega)).mono ?_
  rintro e w2' ⟨rfl, rfl⟩
  have hr := aroundZ_bound frags 5 (by omega)
  obtain ⟨r, hrr⟩ : ∃ r, aroundZ frags 5 = r := ⟨_, rfl⟩
  rw [hrr] at hr ⊢
  obtain ⟨q0, q1⟩ := hr
  obtain ⟨G, rfl⟩ := Int.eq_ofNat_of_zero_le q0
  clear hrr q0 hrun
  obtain ⟨ab, hab⟩ : ∃ ab, w6.heap.size = ab := ⟨_, rfl⟩
  obtain ⟨w7, hw7⟩ : ∃ w7, (w6.alloc (.cells #[.slice A4 N4 c4, .slice A6 (N5 + N4) c6] 22)) = w7 := ⟨_, rfl⟩
  rw [hab] at HKS ⊢
  rw [hw7] at HKS E7 ⊢
  clear hab hw7
  go_wp2_with fail
  go_loopw [21] (fun i wr => ∃ k : Nat, k ≤ 2 ∧ i = .int .i64 (k : Int) ∧ Ext w7 wr) (fun i _ => 2 - (intOf i).toNat)
  case atStart => exact ⟨0, by omega, rfl, Ext.refl _⟩
  case round =>
    obtain ⟨k, hk, rfl, extk⟩ := hrel
    obtain ⟨wo, hwo⟩ : ∃ wo : World, wo = wr := ⟨_, rfl⟩
    rw [← hwo] at extk ⊢
    clear hwo
    by_cases hlt2 : k < 2
    · obtain ⟨A1', N, c1', L', hN, hsee, hcell⟩ := HKS.out k hlt2
      have hNc := hsee.le
      have hNm := hsee.max
      unfold maxLen at hNm
      have HS1 := Lib.hid (hsee.ext extk)
      have EK := Lib.hid (E7.out.trans extk)
      have EX7 := Lib.hid extk
      have HCE := Lib.hid (fun w' (e : Ext wo w') => (extk.trans e).cell hcell)
      have HAB := Lib.hid (World.block_lt_of_cell? wo ⟨ab, k, none⟩ (extk.cell hcell))
      clear hsee hcell extk
      go_wp2_with fail
      refine (dnew_nat _ (1 + (G : Int)) M (1 + G) rfl (by omega) wo (by omega) (by omega) (by omega)).mono ?_
      rintro e w3 ⟨rfl, hdx, szx, e2⟩
      have E13 := Lib.hid e2
      have HGX := Lib.hid (show DG w3 (Blo w3.heap.size wo.heap.size) wo.heap.size M (1 + G) (atS M (1 + G) L' 0).told (.slice none 0 0) (atS M (1 + G) L' 0).T from DG.start hdx (by omega) (fun k q => q.2))
      obtain ⟨xb, hxb⟩ : ∃ xb, wo.heap.size = xb := ⟨_, rfl⟩
      have HM3 := Lib.hid (show ∀ k, k < wo.heap.size → Blo w3.heap.size xb k from fun k hk => ⟨by omega, by omega⟩)
      rw [hxb] at HGX ⊢
      have hc3 := HCE.out w3 e2
      clear hxb szx e2 hdx
      go_wp2_with fail
      clear hc3
      go_loopw [24, 25, 26] (fun gv a i wr => ∃ (Ag : Option Addr) (ng cg at_ i_ : Nat), gv = .slice Ag ng cg ∧ a = .int .i64 (at_ : Int) ∧ i = .int .i64 (i_ : Int) ∧ at_ ≤ N ∧ i_ ≤ 9 * at_ + i_ % 9 ∧ ng = (atS M (1 + G) L' at_).T.length ∧ DG wr (Blo w3.heap.size xb) xb M (1 + G) (atS M (1 + G) L' at_).told (.slice Ag ng cg) (atS M (1 + G) L' at_).T ∧ Kp (Blo w3.heap.size xb) w3 wr) (fun _ a i _ => 9 * (N - (intOf a).toNat) + 8 - (intOf i).toNat % 9)
      case atStart => exact ⟨none, 0, 0, 0, 0, rfl, rfl, rfl, by omega, by omega, rfl, HGX.out, Kp.refl _ _⟩
      case round =>
        obtain ⟨Ag, ng, cg, at_, i_, rfl, rfl, rfl, ha, hi, hng, dg, kp⟩ := hrel
        have DGR := Lib.hid dg
        have KP := Lib.hid kp
        have NG := Lib.hid hng
        have EOR := Lib.hid (Ext.kp E13.out kp HM3.out)
        have HCR := Lib.hid (fun w' (e : Ext wr w') => HCE.out w' (EOR.out.trans e))
        clear dg kp hng
        by_cases hlt : at_ < N
        · obtain ⟨fb, fo, _, hAe, hfc⟩ := bs_at HS1.out at_ hlt
          subst hAe
          have HBF := Lib.hid (HM3.out fb (World.block_lt_of_cell? wo ⟨fb, fo + at_, none⟩ hfc))
          have HSR := Lib.hid (HS1.out.ext EOR.out)
          have HZR := Lib.hid (H5.out.ext (EK.out.trans EOR.out))
          clear hfc
          have r0 := HCR.out wr (Ext.refl _)
          go_wp2_with fail
          clear r0
          have r1 : ∀ w', Ext wr.drew w' → w'.cell? ⟨ab, k, none⟩ = some (.slice (some ⟨fb, fo, none⟩) N c1') := fun w' e => HCR.out w' ((Ext.refl wr).drew.trans e)
          refine wp_region_pl (.free 0 (.free 1 (.free 2 (.free 5 (.free 6 (.free 7 (.free 8 (.free 9 (.one 3 (.free 4 (.free 10 (.free 11 .nil)))))))))))) (by kernel_rfl) (by kernel_rfl) (by kernel_rfl) (by kernel_rfl) ?_
          iterate 8 (refine pl_val (v := ?_) rfl rfl (fun w' hw' => ?_) ?_; rotate_left; (· go_simp; try with_reducible rfl); simp only [Act.put, List.setIfInBounds_toArray, List.set_cons_zero, List.set_cons_succ])
          clear r1
          refine pl_call 13 #[.slice A5 n5 c5, .int .i64 (i_ : Int)] rfl rfl (by go_simp) ?_
          refine (piece_any A5 n5 c5 z5 i_ wr.drew (HZR.out.ext (Ext.refl wr).drew) (by omega)).mono ?_
          rintro e w5 ⟨p, rfl, hp1, hp2, rfl⟩
          refine ⟨_, rfl, Ext.refl _, ?_⟩
          simp only [Act.put, List.setIfInBounds_toArray, List.set_cons_zero, List.set_cons_succ]
          by_cases hmin : (at_ : Int) + (p : Int) ≤ (N : Int)
          · have t1 : ((at_ : Int) + (p : Int)).toNat = at_ + p := by omega
            have hmin2 : ¬ (N : Int) < (at_ : Int) + (p : Int) := by omega
            have hwr : IntKind.i64.wrap ((at_ : Int) + (p : Int)) = (at_ : Int) + (p : Int) := IntWalk.i64_in _ (by omega)
            obtain ⟨hpc, hne⟩ := bpiece HSR.out at_ (at_ + p) (by omega) (by omega) hlt
            rw [Nat.add_sub_cancel_left] at hpc
            have HPC := Lib.hid (hpc.ext (Ext.refl wr).drew)
            clear hpc
            iterate 3 (refine pl_val (v := ?_) rfl rfl (fun w' hw' => ?_) ?_; rotate_left; (· go_simp; try with_reducible rfl); simp only [Act.put, List.setIfInBounds_toArray, List.set_cons_zero, List.set_cons_succ])
            refine pl_done ?_
            clear hwr
            have r2 := HCR.out wr.drew ((Ext.refl wr).drew)
            have KPD := Lib.hid (KP.out.drew)
            go_wp2_with fail
            refine ((DGR.out.ext (Ext.refl wr).drew).feed (fun k q => Nat.lt_of_lt_of_le q.1 KPD.out.size) (told_ok (atS_ok M (1 + G) L' at_)) (by omega) (by omega) rfl HPC.out (by omega) (fun a ha _ => by
              injection ha with ha
              subst ha
              exact HBF.out) (by have := atS_T M (1 + G) L' at_; omega)).mono ?_
            rintro x w6 ⟨A6, n6, c6, rfl, k6, A7, n7, c7, w7', hrun, hn7, dg7, k7⟩
            rw [(atS_piece M (1 + G) L' at_ (at_ + p) (by omega)).2, ← (atS_piece M (1 + G) L' at_ (at_ + p) (by omega)).1] at dg7
            rw [← (atS_piece M (1 + G) L' at_ (at_ + p) (by omega)).1] at hn7
            have D7 := Lib.hid dg7
            have K7 := Lib.hid (KPD.out.trans k7)
            have N7 := Lib.hid hn7
            have EO7 := Lib.hid (Ext.kp E13.out K7.out HM3.out)
            have r3 := HCE.out w7' EO7.out
            have hne0 : ¬ c1' = 0 := by omega
            clear dg7 k7 k6 hn7 r2 hne HPC
            go_wp2_with (first | (at_builtin; refine wpList_append_run rfl (.tmp 90) (.tmp 99) _ rfl _ _ rfl rfl (.slice A7 n7 c7) w7' hrun ?_) | fail)
            have hst := (HS1.out.ext EO7.out).take (at_ + p) (by omega)
            rw [bs_take] at hst
            obtain ⟨S, hS⟩ : ∃ S, atS M (1 + G) L' (at_ + p) = S := ⟨_, rfl⟩
            obtain ⟨K, hK⟩ : ∃ K, S.R.length + S.H.length = K := ⟨_, rfl⟩
            obtain ⟨E, hE⟩ : ∃ E, S.E = E := ⟨_, rfl⟩
            obtain ⟨cl, hcl⟩ : ∃ cl, clB S = cl := ⟨_, rfl⟩
            have hK3 : K ≤ M + 3 := by rw [← hK, ← hS]; exact drun_held (atS_ok M (1 + G) L' (at_ + p))
            have HRA := Lib.hid (rdall_st (some ⟨fb, fo, none⟩) (at_ + p) c1' (L'.take (at_ + p)) M (1 + G) (1 + (G : Int)) (by omega) w7' hst (by omega) (by omega) (by omega) S E K cl hS hE hK hcl)
            rw [hS] at D7 N7
            have HSE := Lib.hid hS
            have HKK := Lib.hid hK
            have HEE := Lib.hid hE
            have HCC := Lib.hid hcl
            clear hS hK hE hcl
            (with_reducible refine (HRA.out).mono ?_)
            rintro e w8 ⟨Av, nv, cv, rfl, hnv, hsv, e8⟩
            have HSV := Lib.hid hsv
            have HNV := Lib.hid hnv
            have D8 := Lib.hid (D7.out.ext e8)
            have K8 := Lib.hid (K7.out.ext e8)
            clear hsv hnv hst e8 r3 hrun
            go_wp2_with fail
            have hb9 := heap_alloc_new w8 (.cells #[.slice Av nv cv, .int .i64 E, .int .i64 (K : Int), .bool cl] 38)
            have e9 : Ext w8 (w8.alloc (.cells #[.slice Av nv cv, .int .i64 E, .int .i64 (K : Int), .bool cl] 38)) := (Ext.refl _).alloc _
            obtain ⟨wz, hwz⟩ : ∃ wz, w8.alloc (.cells #[.slice Av nv cv, .int .i64 E, .int .i64 (K : Int), .bool cl] 38) = wz := ⟨_, rfl⟩
            obtain ⟨sb, hsb⟩ : ∃ sb, w8.heap.size = sb := ⟨_, rfl⟩
            rw [hwz, hsb] at hb9
            rw [hwz] at e9
            rw [hwz, hsb]
            have ez : Ext wz wz.drew := (Ext.refl _).drew
            have HB9 := Lib.hid (ez.heap hb9)
            have D9 := Lib.hid ((D8.out.ext e9).ext ez)
            have K9 := Lib.hid ((K8.out.ext e9).ext ez)
            have HSV9 := Lib.hid ((HSV.out.ext e9).ext ez)
            have hn77 : nv = n7 := by have h1 := HNV.out; have h2 := N7.out; omega
            subst hn77
            have HSG := Lib.hid (Dfm.seesB D9.out N7.out)
            clear hb9 e9 ez hwz hsb HSV D8 K8
            have y0 : ∀ w', Ext wz.drew w' → w'.cell? ⟨sb, 0, none⟩ = some (.slice Av nv cv) := fun w' e => by rw [cell_of_row _ sb 0 _ _ _ (e.heap HB9.out)]; rfl
            refine wp_region_pl (.free 0 (.free 1 (.free 2 (.one 3 (.free 4 (.free 5 (.free 6 (.free 8 (.free 9 (.one 7 (.free 10 (.free 11 (.free 12 (.free 13 (.free 15 (.free 16 (.one 14 (.free 17 (.free 18 (.free 19 (.free 20 (.free 22 (.free 23 (.one 21 (.free 24 (.free 25 .nil)))))))))))))))))))))))))) (by kernel_rfl) (by kernel_rfl) (by kernel_rfl) (by kernel_rfl) ?_
            iterate 3 (refine pl_val (v := ?_) rfl rfl (fun w' hw' => ?_) ?_; rotate_left; (· go_simp; try with_reducible rfl); simp only [Act.put, List.setIfInBounds_toArray, List.set_cons_zero, List.set_cons_succ])
            clear y0
            refine pl_call 16 #[.slice A7 nv c7, .slice Av nv cv] rfl rfl (by go_simp) ?_
            refine (sameB_eq _ _ _ _ _ _ _ HSG.out HSV9.out).mono ?_
            rintro e w10 ⟨rfl, e10⟩
            refine ⟨_, rfl, e10, ?_⟩
            simp only [Act.put, List.setIfInBounds_toArray, List.set_cons_zero, List.set_cons_succ]
            have HB10 := Lib.hid (e10.heap HB9.out)
            have D10 := Lib.hid (D9.out.ext e10)
            have K10 := Lib.hid (K9.out.ext e10)
            clear e10
            have y1 : ∀ w', Ext w10 w' → w'.cell? ⟨sb, 1, none⟩ = some (.int .i64 E) := fun w' e => by rw [cell_of_row _ sb 1 _ _ _ (e.heap HB10.out)]; rfl
            iterate 5 (refine pl_val (v := ?_) rfl rfl (fun w' hw' => ?_) ?_; rotate_left; (· go_simp; try with_reducible rfl); simp only [Act.put, List.setIfInBounds_toArray, List.set_cons_zero, List.set_cons_succ])
            clear y1
            refine pl_call 17 #[.pointer (some ⟨xb, 0, none⟩)] rfl rfl (by go_simp) ?_
            refine (derrno_any _ w10 D10.out.dfm).mono ?_
            rintro e w11 ⟨rfl, rfl⟩
            refine ⟨_, rfl, Ext.refl _, ?_⟩
            rw [show S.told.E = E from HEE.out]
            simp only [Act.put, List.setIfInBounds_toArray, List.set_cons_zero, List.set_cons_succ]
            have y2 : ∀ w', Ext w10 w' → w'.cell? ⟨sb, 2, none⟩ = some (.int .i64 (K : Int)) := fun w' e => by rw [cell_of_row _ sb 2 _ _ _ (e.heap HB10.out)]; rfl
            iterate 6 (refine pl_val (v := ?_) rfl rfl (fun w' hw' => ?_) ?_; rotate_left; (· go_simp; try with_reducible rfl); simp only [Act.put, List.setIfInBounds_toArray, List.set_cons_zero, List.set_cons_succ])
            clear y2
            refine pl_call 18 #[.pointer (some ⟨xb, 0, none⟩)] rfl rfl (by go_simp) ?_
            refine (dheld_nat _ K w10 D10.out.dfm HKK.out (by omega)).mono ?_
            rintro e w11 ⟨rfl, q11, rfl⟩
            have e11 : Ext w10 (w10.drewN q11) := (Ext.refl _).drewN _
            refine ⟨_, rfl, e11, ?_⟩
            simp only [Act.put, List.setIfInBounds_toArray, List.set_cons_zero, List.set_cons_succ]
            have HB11 := Lib.hid (e11.heap HB10.out)
            have D11 := Lib.hid (D10.out.ext e11)
            have K11 := Lib.hid (K10.out.ext e11)
            clear e11
            have y3 : ∀ w', Ext (w10.drewN q11) w' → w'.cell? ⟨sb, 3, none⟩ = some (.bool cl) := fun w' e => by rw [cell_of_row _ sb 3 _ _ _ (e.heap HB11.out)]; rfl
            iterate 6 (refine pl_val (v := ?_) rfl rfl (fun w' hw' => ?_) ?_; rotate_left; (· go_simp; try with_reducible rfl); simp only [Act.put, List.setIfInBounds_toArray, List.set_cons_zero, List.set_cons_succ])
            clear y3
            refine pl_call 19 #[.pointer (some ⟨xb, 0, none⟩)] rfl rfl (by go_simp) ?_
            refine (dclean_any _ _ D11.out.dfm).mono ?_
            rintro e w12 ⟨rfl, rfl⟩
            refine ⟨_, rfl, Ext.refl _, ?_⟩
            rw [show clB S.told = cl from HCC.out]
            simp only [Act.put, List.setIfInBounds_toArray, List.set_cons_zero, List.set_cons_succ]
            iterate 2 (refine pl_val (v := ?_) rfl rfl (fun w' hw' => ?_) ?_; rotate_left; (· go_simp; try with_reducible rfl); simp only [Act.put, List.setIfInBounds_toArray, List.set_cons_zero, List.set_cons_succ])
            refine pl_done ?_
            go_wp2
            go_roundw
            case rel => exact ⟨A7, nv, c7, at_ + p, i_ + 1, rfl, by go_num, by go_num, by omega, pc_next hi (by omega) (by omega), by rw [HSE.out]; exact N7.out, by rw [HSE.out]; exact D11.out, K11.out⟩
            case measure => simp [intOf]; have := pc_meas (i := i_) (a := at_) (a' := at_ + p) (n := N) (by omega) hlt (by omega) (by omega); omega
          · have hmin' : (N : Int) < (at_ : Int) + (p : Int) := by omega
            have hwr : IntKind.i64.wrap ((at_ : Int) + (p : Int)) = (at_ : Int) + (p : Int) := IntWalk.i64_in _ (by omega)
            obtain ⟨hpc, hne⟩ := bpiece HSR.out at_ N (by omega) (by omega) hlt
            have HPC := Lib.hid (hpc.ext (Ext.refl wr).drew)
            clear hpc
            iterate 3 (refine pl_val (v := ?_) rfl rfl (fun w' hw' => ?_) ?_; rotate_left; (· go_simp; try with_reducible rfl); simp only [Act.put, List.setIfInBounds_toArray, List.set_cons_zero, List.set_cons_succ])
            refine pl_done ?_
            clear hwr
            have r2 := HCR.out wr.drew ((Ext.refl wr).drew)
            have KPD := Lib.hid (KP.out.drew)
            go_wp2_with fail
            refine ((DGR.out.ext (Ext.refl wr).drew).feed (fun k q => Nat.lt_of_lt_of_le q.1 KPD.out.size) (told_ok (atS_ok M (1 + G) L' at_)) (by omega) (by omega) rfl HPC.out (by omega) (fun a ha _ => by
              injection ha with ha
              subst ha
              exact HBF.out) (by have := atS_T M (1 + G) L' at_; omega)).mono ?_
            rintro x w6 ⟨A6, n6, c6, rfl, k6, A7, n7, c7, w7', hrun, hn7, dg7, k7⟩
            rw [(atS_piece M (1 + G) L' at_ (N) (by omega)).2, ← (atS_piece M (1 + G) L' at_ (N) (by omega)).1] at dg7
            rw [← (atS_piece M (1 + G) L' at_ (N) (by omega)).1] at hn7
            have D7 := Lib.hid dg7
            have K7 := Lib.hid (KPD.out.trans k7)
            have N7 := Lib.hid hn7
            have EO7 := Lib.hid (Ext.kp E13.out K7.out HM3.out)
            have r3 := HCE.out w7' EO7.out
            have hne0 : ¬ c1' = 0 := by omega
            clear dg7 k7 k6 hn7 r2 hne HPC
            go_wp2_with (first | (at_builtin; refine wpList_append_run rfl (.tmp 90) (.tmp 99) _ rfl _ _ rfl rfl (.slice A7 n7 c7) w7' hrun ?_) | fail)
            have hst := (HS1.out.ext EO7.out).take (N) (by omega)
            rw [bs_take] at hst
            obtain ⟨S, hS⟩ : ∃ S, atS M (1 + G) L' (N) = S := ⟨_, rfl⟩
            obtain ⟨K, hK⟩ : ∃ K, S.R.length + S.H.length = K := ⟨_, rfl⟩
            obtain ⟨E, hE⟩ : ∃ E, S.E = E := ⟨_, rfl⟩
            obtain ⟨cl, hcl⟩ : ∃ cl, clB S = cl := ⟨_, rfl⟩
            have hK3 : K ≤ M + 3 := by rw [← hK, ← hS]; exact drun_held (atS_ok M (1 + G) L' (N))
            have HRA := Lib.hid (rdall_st (some ⟨fb, fo, none⟩) (N) c1' (L'.take (N)) M (1 + G) (1 + (G : Int)) (by omega) w7' hst (by omega) (by omega) (by omega) S E K cl hS hE hK hcl)
            rw [hS] at D7 N7
            have HSE := Lib.hid hS
            have HKK := Lib.hid hK
            have HEE := Lib.hid hE
            have HCC := Lib.hid hcl
            clear hS hK hE hcl
            (with_reducible refine (HRA.out).mono ?_)
            rintro e w8 ⟨Av, nv, cv, rfl, hnv, hsv, e8⟩
            have HSV := Lib.hid hsv
            have HNV := Lib.hid hnv
            have D8 := Lib.hid (D7.out.ext e8)
            have K8 := Lib.hid (K7.out.ext e8)
            clear hsv hnv hst e8 r3 hrun
            go_wp2_with fail
            have hb9 := heap_alloc_new w8 (.cells #[.slice Av nv cv, .int .i64 E, .int .i64 (K : Int), .bool cl] 38)
            have e9 : Ext w8 (w8.alloc (.cells #[.slice Av nv cv, .int .i64 E, .int .i64 (K : Int), .bool cl] 38)) := (Ext.refl _).alloc _
            obtain ⟨wz, hwz⟩ : ∃ wz, w8.alloc (.cells #[.slice Av nv cv, .int .i64 E, .int .i64 (K : Int), .bool cl] 38) = wz := ⟨_, rfl⟩
            obtain ⟨sb, hsb⟩ : ∃ sb, w8.heap.size = sb := ⟨_, rfl⟩
            rw [hwz, hsb] at hb9
            rw [hwz] at e9
            rw [hwz, hsb]
            have ez : Ext wz wz.drew := (Ext.refl _).drew
            have HB9 := Lib.hid (ez.heap hb9)
            have D9 := Lib.hid ((D8.out.ext e9).ext ez)
            have K9 := Lib.hid ((K8.out.ext e9).ext ez)
            have HSV9 := Lib.hid ((HSV.out.ext e9).ext ez)
            have hn77 : nv = n7 := by have h1 := HNV.out; have h2 := N7.out; omega
            subst hn77
            have HSG := Lib.hid (Dfm.seesB D9.out N7.out)
            clear hb9 e9 ez hwz hsb HSV D8 K8
            have y0 : ∀ w', Ext wz.drew w' → w'.cell? ⟨sb, 0, none⟩ = some (.slice Av nv cv) := fun w' e => by rw [cell_of_row _ sb 0 _ _ _ (e.heap HB9.out)]; rfl
            refine wp_region_pl (.free 0 (.free 1 (.free 2 (.one 3 (.free 4 (.free 5 (.free 6 (.free 8 (.free 9 (.one 7 (.free 10 (.free 11 (.free 12 (.free 13 (.free 15 (.free 16 (.one 14 (.free 17 (.free 18 (.free 19 (.free 20 (.free 22 (.free 23 (.one 21 (.free 24 (.free 25 .nil)))))))))))))))))))))))))) (by kernel_rfl) (by kernel_rfl) (by kernel_rfl) (by kernel_rfl) ?_
            iterate 3 (refine pl_val (v := ?_) rfl rfl (fun w' hw' => ?_) ?_; rotate_left; (· go_simp; try with_reducible rfl); simp only [Act.put, List.setIfInBounds_toArray, List.set_cons_zero, List.set_cons_succ])
            clear y0
            refine pl_call 16 #[.slice A7 nv c7, .slice Av nv cv] rfl rfl (by go_simp) ?_
            refine (sameB_eq _ _ _ _ _ _ _ HSG.out HSV9.out).mono ?_
            rintro e w10 ⟨rfl, e10⟩
            refine ⟨_, rfl, e10, ?_⟩
            simp only [Act.put, List.setIfInBounds_toArray, List.set_cons_zero, List.set_cons_succ]
            have HB10 := Lib.hid (e10.heap HB9.out)
            have D10 := Lib.hid (D9.out.ext e10)
            have K10 := Lib.hid (K9.out.ext e10)
            clear e10
            have y1 : ∀ w', Ext w10 w' → w'.cell? ⟨sb, 1, none⟩ = some (.int .i64 E) := fun w' e => by rw [cell_of_row _ sb 1 _ _ _ (e.heap HB10.out)]; rfl
            iterate 5 (refine pl_val (v := ?_) rfl rfl (fun w' hw' => ?_) ?_; rotate_left; (· go_simp; try with_reducible rfl); simp only [Act.put, List.setIfInBounds_toArray, List.set_cons_zero, List.set_cons_succ])
            clear y1
            refine pl_call 17 #[.pointer (some ⟨xb, 0, none⟩)] rfl rfl (by go_simp) ?_
            refine (derrno_any _ w10 D10.out.dfm).mono ?_
            rintro e w11 ⟨rfl, rfl⟩
            refine ⟨_, rfl, Ext.refl _, ?_⟩
            rw [show S.told.E = E from HEE.out]
            simp only [Act.put, List.setIfInBounds_toArray, List.set_cons_zero, List.set_cons_succ]
            have y2 : ∀ w', Ext w10 w' → w'.cell? ⟨sb, 2, none⟩ = some (.int .i64 (K : Int)) := fun w' e => by rw [cell_of_row _ sb 2 _ _ _ (e.heap HB10.out)]; rfl
            iterate 6 (refine pl_val (v := ?_) rfl rfl (fun w' hw' => ?_) ?_; rotate_left; (· go_simp; try with_reducible rfl); simp only [Act.put, List.setIfInBounds_toArray, List.set_cons_zero, List.set_cons_succ])
            clear y2
            refine pl_call 18 #[.pointer (some ⟨xb, 0, none⟩)] rfl rfl (by go_simp) ?_
            refine (dheld_nat _ K w10 D10.out.dfm HKK.out (by omega)).mono ?_
            rintro e w11 ⟨rfl, q11, rfl⟩
            have e11 : Ext w10 (w10.drewN q11) := (Ext.refl _).drewN _
            refine ⟨_, rfl, e11, ?_⟩
            simp only [Act.put, List.setIfInBounds_toArray, List.set_cons_zero, List.set_cons_succ]
            have HB11 := Lib.hid (e11.heap HB10.out)
            have D11 := Lib.hid (D10.out.ext e11)
            have K11 := Lib.hid (K10.out.ext e11)
            clear e11
            have y3 : ∀ w', Ext (w10.drewN q11) w' → w'.cell? ⟨sb, 3, none⟩ = some (.bool cl) := fun w' e => by rw [cell_of_row _ sb 3 _ _ _ (e.heap HB11.out)]; rfl
            iterate 6 (refine pl_val (v := ?_) rfl rfl (fun w' hw' => ?_) ?_; rotate_left; (· go_simp; try with_reducible rfl); simp only [Act.put, List.setIfInBounds_toArray, List.set_cons_zero, List.set_cons_succ])
            clear y3
            refine pl_call 19 #[.pointer (some ⟨xb, 0, none⟩)] rfl rfl (by go_simp) ?_
            refine (dclean_any _ _ D11.out.dfm).mono ?_
            rintro e w12 ⟨rfl, rfl⟩
            refine ⟨_, rfl, Ext.refl _, ?_⟩
            rw [show clB S.told = cl from HCC.out]
            simp only [Act.put, List.setIfInBounds_toArray, List.set_cons_zero, List.set_cons_succ]
            iterate 2 (refine pl_val (v := ?_) rfl rfl (fun w' hw' => ?_) ?_; rotate_left; (· go_simp; try with_reducible rfl); simp only [Act.put, List.setIfInBounds_toArray, List.set_cons_zero, List.set_cons_succ])
            refine pl_done ?_
            go_wp2
            go_roundw
            case rel => exact ⟨A7, nv, c7, N, i_ + 1, rfl, by go_num, by go_num, by omega, pc_next hi (by omega) (by omega), by rw [HSE.out]; exact N7.out, by rw [HSE.out]; exact D11.out, K11.out⟩
            case measure => simp [intOf]; have := pc_meas (i := i_) (a := at_) (a' := N) (n := N) (by omega) hlt (by omega) (by omega); omega
        · obtain rfl : N = at_ := by omega
          have r0 := HCR.out wr (Ext.refl _)
          go_wp2
          go_roundw
          case rel => exact ⟨k + 1, by omega, by go_num, EX7.out.trans EOR.out⟩
          case measure => simp [intOf]; omega
    · obtain rfl : k = 2 := by omega
      have EE := Lib.hid (E7.out.trans extk)
      clear extk
      go_wp2_with fail
      refine (dlives_any _).mono ?_
      rintro e w5 ⟨rfl, e5⟩
      go_wp2
      go_ret
      exact ⟨rfl, EE.out.trans e5⟩
end Go.Proofs.Ytjajkagpfbemiaa
