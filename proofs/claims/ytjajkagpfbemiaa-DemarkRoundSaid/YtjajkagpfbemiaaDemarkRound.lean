/-
  The statement DemarkRound: its walk.
-/
import Derived.Test.YtjajkagpfbemiaaDmJ
import Derived.Test.YtjajkagpfbemiaaDmK
namespace Go.Proofs.Ytjajkagpfbemiaa
open Go Go.RowKit
set_option linter.unusedVariables false
set_option linter.unusedSimpArgs false
set_option maxRecDepth 20000 in
set_option maxHeartbeats 8000000 in
theorem dr_walk (A A3 A4 : Option Addr) (n c n3 c3 n4 c4 : Nat) (rows : List (List Int)) (z3 z4 : List Int) (w : World) (hs : SeesRows .u8 w A n c rows) (h3 : SeesI w A3 n3 c3 z3) (h4 : SeesI w A4 n4 c4 z4) :
    Calls Try.prog 4 #[.slice A n c, .slice A3 n3 c3, .slice A4 n4 c4] w fun e w' => e = .returned (.bool true) ∧ Ext w w' := by
  have H4 := Lib.hid h4
  have HGD := Lib.hid (rgood_any A A3 n c n3 c3 rows z3 w hs h3)
  clear h3 h4 hs
  go_enter Try.func4, Try.ntmps4
  go_wp2_with fail
  refine HGD.out.mono ?_
  rintro e w0 ⟨v1, v2, rfl, k, lz, hk1, hk2, hk3, own1, hl5, hl20, own2, e0⟩
  obtain ⟨Ar, cr, rfl, seer⟩ := own1.sees
  obtain ⟨Az, cz, rfl, seez⟩ := Sees.of_own own2
  obtain ⟨rs, hrs⟩ : ∃ rs, (rowF rows 40).take k = rs := ⟨_, rfl⟩
  have hr40 : ∀ r ∈ rs, r.length ≤ 40 := fun r hr => rowF_le rows 40 r (by rw [← hrs] at hr; exact List.mem_of_mem_take hr)
  have hrl : rs.length ≤ 5 := by rw [← hrs, List.length_take]; omega
  rw [hrs] at seer ⊢
  rw [iv_intsF] at seez
  obtain ⟨zl, hzl⟩ : ∃ zl : List Int, (lz.map fun k : Nat => (k : Int)) = zl := ⟨_, rfl⟩
  rw [hzl] at seez
  have hz1 : ∀ z ∈ zl, 1 ≤ z ∧ z ≤ 20 := fun z hz => by
    rw [← hzl] at hz
    obtain ⟨x, hx, rfl⟩ := List.mem_map.1 hz
    have := hl20 x hx
    omega
  have hg1 := fun i => szOf_ge (fun z hz => (hz1 z hz).1) i
  have hE0 := allE_ok (szOf zl) hg1 rs 0 (fun r hr => by have := hr40 r hr; omega)
  have hAL : allL (szOf zl) rs = allB (szOf zl) 0 rs := if_pos hE0
  have HMA := Lib.hid (rmall_any Az Ar lz.length cz rs.length cr zl rs w0 ⟨seez, fun z hz => by have := hz1 z hz; omega⟩ seer (by omega) (fun r hr => by have := hr40 r hr; omega))
  rw [hE0, hAL] at HMA
  obtain ⟨en9, hen9⟩ := drun_allB (m := 40) (f := 40) (szOf zl) rs 0 false [] (fun r hr => by have := hr40 r hr; omega) hg1 (fun r hr i => ⟨by
    have := hr40 r hr
    have h1 := cnt_le2 (n := r.length) (S := (szOf zl i).toNat) (by have := hg1 i; omega)
    by_cases hz : 1 ≤ r.length
    · have := h1.2 hz; omega
    · have := h1.1; omega, mkE_g (by have := hr40 r hr; omega) (hg1 i)⟩)
  have hlen := allB_len (szOf zl) hg1 rs 0 hr40
  obtain ⟨L, hL⟩ : ∃ L, allB (szOf zl) 0 rs = L := ⟨_, rfl⟩
  rw [hL] at HMA hen9 hlen
  rw [List.nil_append] at hen9
  have HEN := Lib.hid (show drun 40 40 d0 L = btw 0 en9 [] rs from hen9)
  have HSR0 := Lib.hid seer
  have E0 := Lib.hid e0
  have hLN : L.length ≤ 1020 := by omega
  have HRL := Lib.hid hrl
  clear own1 own2 seer seez hr40 hz1 hg1 hE0 hAL hen9 hlen hL hl20 hk3 hrs hzl HGD e0 hrl
  go_wp2_with fail
  refine HMA.out.mono ?_
  rintro e w1 ⟨v, rfl, own3, e1⟩
  obtain ⟨N, hN⟩ : ∃ N, L.length = N := ⟨_, rfl⟩
  rw [hN] at own3 hLN
  obtain ⟨A1, c1, rfl, see1⟩ := Sees.of_own own3
  have hNc := see1.le
  have hNm := see1.max
  unfold maxLen at hNm
  have HS1 := Lib.hid see1
  have HNL := Lib.hid hN
  have E1 := Lib.hid (E0.out.trans e1)
  have HSRr := Lib.hid (HSR0.out.ext e1)
  clear own3 see1 hN HMA HSR0
  go_wp2_with fail
  refine (dnew_nat 40 40 40 40 rfl rfl w1 (by omega) (by omega) (by omega)).mono ?_
  rintro e w3 ⟨rfl, hdx, szx, e2⟩
  have E13 := Lib.hid e2
  have HGX := Lib.hid (show DG w3 (Blo w3.heap.size w1.heap.size) w1.heap.size 40 40 (atS 40 40 L 0).told (.slice none 0 0) (atS 40 40 L 0).T from DG.start hdx (by omega) (fun k q => q.2))
  obtain ⟨xb, hxb⟩ : ∃ xb, w1.heap.size = xb := ⟨_, rfl⟩
  have hXY := Lib.hid (show w1.heap.size = xb ∧ xb < w3.heap.size by omega)
  rw [hxb] at HGX ⊢
  have EW3 := Lib.hid (E1.out.trans E13.out)
  have HM3 := Lib.hid (show ∀ k, k < w1.heap.size → Blo w3.heap.size xb k from fun k hk => ⟨by omega, by omega⟩)
  have HFB := Lib.hid (fun b off u (h : w1.cell? ⟨b, off, none⟩ = some u) => World.block_lt_of_cell? w1 ⟨b, off, none⟩ h)
  clear hxb szx e2 hdx
  go_wp2_with fail
  go_loopw [13, 14, 15] (fun gv a i wr => ∃ (Ag : Option Addr) (ng cg at_ i_ : Nat), gv = .slice Ag ng cg ∧ a = .int .i64 (at_ : Int) ∧ i = .int .i64 (i_ : Int) ∧ at_ ≤ N ∧ i_ ≤ 9 * at_ + i_ % 9 ∧ ng = (atS 40 40 L at_).T.length ∧ DG wr (Blo w3.heap.size xb) xb 40 40 (atS 40 40 L at_).told (.slice Ag ng cg) (atS 40 40 L at_).T ∧ Kp (Blo w3.heap.size xb) w3 wr) (fun _ a i _ => 9 * (N - (intOf a).toNat) + 8 - (intOf i).toNat % 9)
  case atStart => exact ⟨none, 0, 0, 0, 0, rfl, rfl, rfl, by omega, by omega, rfl, HGX.out, Kp.refl _ _⟩
  case round =>
    obtain ⟨Ag, ng, cg, at_, i_, rfl, rfl, rfl, ha, hi, hng, dg, kp⟩ := hrel
    have DGR := Lib.hid dg
    have KP := Lib.hid kp
    have NG := Lib.hid hng
    clear dg kp hng
    by_cases hlt : at_ < N
    · obtain ⟨fb, fo, _, hAe, hfc⟩ := bs_at HS1.out at_ hlt
      subst hAe
      have HBF := Lib.hid (HM3.out fb (HFB.out _ _ _ hfc))
      have HSR := Lib.hid (HS1.out.old E13.out KP.out HM3.out)
      have HZR := Lib.hid (H4.out.old EW3.out KP.out (fun k hk => HM3.out k (Nat.lt_of_lt_of_le hk E1.out.size)))
      clear hfc
      go_wp2_with fail
      refine (piece_any A4 n4 c4 z4 i_ wr HZR.out (by omega)).mono ?_
      rintro e w5 ⟨p, rfl, hp1, hp2, rfl⟩
      by_cases hmin : (at_ : Int) + (p : Int) ≤ (N : Int)
      · have t1 : ((at_ : Int) + (p : Int)).toNat = at_ + p := by omega
        obtain ⟨hpc, hne⟩ := bpiece HSR.out at_ (at_ + p) (by omega) (by omega) hlt
        rw [Nat.add_sub_cancel_left] at hpc
        have HPC := Lib.hid hpc
        clear hpc
        go_wp2_with fail
        refine (DGR.out.feed (fun k q => Nat.lt_of_lt_of_le q.1 KP.out.size) (told_ok (atS_ok 40 40 L at_)) (by omega) (by omega) rfl HPC.out (by omega) (fun a ha _ => by
          injection ha with ha
          subst ha
          exact HBF.out) (by have := atS_T 40 40 L at_; omega)).mono ?_
        rintro x w6 ⟨A6, n6, c6, rfl, k6, A7, n7, c7, w7, hrun, hn7, dg7, k7⟩
        rw [(atS_piece 40 40 L at_ (at_ + p) (by omega)).2, ← (atS_piece 40 40 L at_ (at_ + p) (by omega)).1] at dg7
        rw [← (atS_piece 40 40 L at_ (at_ + p) (by omega)).1] at hn7
        have D7 := Lib.hid dg7
        have K7 := Lib.hid (KP.out.trans k7)
        have N7 := Lib.hid hn7
        clear dg7 k7 k6 hn7
        go_wp2_with (first | (at_builtin; refine wpList_append_run rfl (.tmp 57) (.tmp 63) _ rfl _ _ rfl rfl (.slice A7 n7 c7) w7 hrun ?_) | fail)
        have D8 := D7
        have K8 := K7
        go_roundw
        case rel => exact ⟨A7, n7, c7, at_ + p, i_ + 1, rfl, by go_num, by go_num, by omega, pc_next hi (by omega) (by omega), N7.out, D8.out, K8.out⟩
        case measure => simp [intOf]; have := pc_meas (i := i_) (a := at_) (a' := at_ + p) (n := N) (by omega) hlt (by omega) (by omega); omega
      · have hmin' : (N : Int) < (at_ : Int) + (p : Int) := by omega
        obtain ⟨hpc, hne⟩ := bpiece HSR.out at_ N (by omega) (by omega) hlt
        have HPC := Lib.hid hpc
        clear hpc
        go_wp2_with fail
        refine (DGR.out.feed (fun k q => Nat.lt_of_lt_of_le q.1 KP.out.size) (told_ok (atS_ok 40 40 L at_)) (by omega) (by omega) rfl HPC.out (by omega) (fun a ha _ => by
          injection ha with ha
          subst ha
          exact HBF.out) (by have := atS_T 40 40 L at_; omega)).mono ?_
        rintro x w6 ⟨A6, n6, c6, rfl, k6, A7, n7, c7, w7, hrun, hn7, dg7, k7⟩
        rw [(atS_piece 40 40 L at_ (N) (by omega)).2, ← (atS_piece 40 40 L at_ (N) (by omega)).1] at dg7
        rw [← (atS_piece 40 40 L at_ (N) (by omega)).1] at hn7
        have D7 := Lib.hid dg7
        have K7 := Lib.hid (KP.out.trans k7)
        have N7 := Lib.hid hn7
        clear dg7 k7 k6 hn7
        go_wp2_with (first | (at_builtin; refine wpList_append_run rfl (.tmp 57) (.tmp 63) _ rfl _ _ rfl rfl (.slice A7 n7 c7) w7 hrun ?_) | fail)
        have D8 := D7
        have K8 := K7
        go_roundw
        case rel => exact ⟨A7, n7, c7, N, i_ + 1, rfl, by go_num, by go_num, by omega, pc_next hi (by omega) (by omega), N7.out, D8.out, K8.out⟩
        case measure => simp [intOf]; have := pc_meas (i := i_) (a := at_) (a' := N) (n := N) (by omega) hlt (by omega) (by omega); omega
    · obtain rfl : N = at_ := by omega
      have htk : atS 40 40 L N = btw 0 en9 [] rs := by
        unfold atS
        rw [List.take_of_length_le (by rw [HNL.out]; exact Nat.le_refl _)]
        exact HEN.out
      rw [htk] at DGR NG
      have E19 := Lib.hid (E13.out.kp KP.out HM3.out)
      have EW9 := Lib.hid (E1.out.trans E19.out)
      have SX := Lib.hid (Dfm.seesB DGR.out NG.out)
      have SY := Lib.hid (HSRr.out.ext E19.out)
      rw [show ng = rs.length from NG.out] at *
      clear htk ha hi hlt KP
      go_wp2_with fail
      refine (sameB_eq _ _ _ _ _ _ _ SX.out SY.out).mono ?_
      rintro e w10 ⟨rfl, e10⟩
      have XG2 := Lib.hid (DGR.out.ext e10)
      have EW10 := Lib.hid (EW9.out.trans e10)
      clear e10
      go_wp2_with fail
      refine (derrno_any _ w10 XG2.out.dfm).mono ?_
      rintro e w11 ⟨rfl, rfl⟩
      rw [show (btw 0 en9 [] rs).told.E = 0 from rfl]
      go_wp2_with fail
      refine (dclean_any _ _ XG2.out.dfm).mono ?_
      rintro e w13 ⟨rfl, rfl⟩
      rw [show clB (btw 0 en9 [] rs).told = true from rfl]
      go_wp2_with fail
      refine (dheld_nat _ 0 w10 XG2.out.dfm rfl (by omega)).mono ?_
      rintro e w11 ⟨rfl, q11, rfl⟩
      have e11 : Ext w10 (w10.drewN q11) := (Ext.refl _).drewN _
      have EW11 := Lib.hid (EW10.out.trans e11)
      clear e11
      go_wp2_with fail
      refine (dlives_any _).mono ?_
      rintro e w13 ⟨rfl, e13⟩
      have EW13 := Lib.hid (EW11.out.trans e13)
      clear e13
      go_wp2
      go_ret
      exact ⟨rfl, EW13.out⟩
end Go.Proofs.Ytjajkagpfbemiaa
