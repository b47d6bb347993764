/-
  The statement DemarkCuts: its walk.
-/
import Derived.Test.YtjajkagpfbemiaaDmI
namespace Go.Proofs.Ytjajkagpfbemiaa
open Go Go.RowKit
set_option linter.unusedVariables false
set_option linter.unusedSimpArgs false
/-- All blocks below S but one. -/
def Blo (S tb : Nat) : Nat → Prop := fun k => k < S ∧ ¬ k = tb
theorem Kp.mono_lt {X X' : Nat → Prop} {a b : World} (h : Kp X a b) (hx : ∀ k, X' k → k < a.heap.size → X k) : Kp X' a b := ⟨h.os, h.tape, h.output, h.size, fun k hk hl => h.block k (hx k hk hl) hl⟩
theorem Sees.old {X : Nat → Prop} {w w2 w' : World} {A : Option Addr} {n c : Nat} {xs : List Value} (h : Sees w A n c xs) (he : Ext w w2) (hk : Kp X w2 w') (hx : ∀ k, k < w.heap.size → X k) : Sees w' A n c xs :=
  hk.sees (h.ext he) fun a ha hn => by
    obtain ⟨b, off, u, hA, _, _, hlt⟩ := h.at_ hn
    rw [ha] at hA
    injection hA with hA
    subst hA
    exact hx _ hlt
theorem SeesI.old {X : Nat → Prop} {w w2 w' : World} {A : Option Addr} {n c : Nat} {zs : List Int} (h : SeesI w A n c zs) (he : Ext w w2) (hk : Kp X w2 w') (hx : ∀ k, k < w.heap.size → X k) : SeesI w' A n c zs := ⟨h.1.old he hk hx, h.2⟩
theorem Ext.kp {X : Nat → Prop} {w w2 w' : World} (he : Ext w w2) (hk : Kp X w2 w') (hx : ∀ k, k < w.heap.size → X k) : Ext w w' :=
  ⟨hk.os.trans he.os, hk.tape.trans he.tape, hk.output.trans he.output, Nat.le_trans he.size hk.size, fun k h => (hk.block k (hx k h) (Nat.lt_of_lt_of_le h he.size)).trans (he.block k h)⟩
theorem Dfm.seesB {w : World} {B : Nat → Prop} {tb m f : Nat} {s : DS} {A : Option Addr} {n c : Nat} {rows : List (List UInt8)} (h : DG w B tb m f s (.slice A n c) rows) (hn : n = rows.length) : SeesB w A n c rows := by
  obtain ⟨A', c', e, hs⟩ := h.toB.sees
  injection e with q1 q2 q3
  subst q1 q3 hn
  exact hs
set_option maxRecDepth 20000 in
set_option maxHeartbeats 8000000 in
theorem dc_walk (A : Option Addr) (n c : Nat) (l : List UInt8) (most frags : Int) (A3 A4 : Option Addr) (n3 c3 n4 c4 : Nat) (z3 z4 : List Int) (w : World) (hs : Sees w A n c (bs l)) (hm0 : -9223372036854775808 ≤ most) (hm1 : most ≤ 9223372036854775807) (hf0 : -9223372036854775808 ≤ frags) (hf1 : frags ≤ 9223372036854775807)
    (h3 : SeesI w A3 n3 c3 z3) (h4 : SeesI w A4 n4 c4 z4) :
    Calls Try.prog 5 #[.slice A n c, .int .i64 most, .int .i64 frags, .slice A3 n3 c3, .slice A4 n4 c4] w fun e w' => e = .returned (.bool true) ∧ Ext w w' := by
  have H3 := Lib.hid h3
  have H4 := Lib.hid h4
  have HFW := Lib.hid (few_nat A n c 100 100 (bs l) w hs (bs_one l) (by omega) (by omega) rfl)
  clear h3 h4 hs
  go_enter Try.func5, Try.ntmps5
  go_wp2_with fail
  refine HFW.out.mono ?_
  rintro e w1 ⟨v1, rfl, own1, e1⟩
  rw [bs_take] at own1
  obtain ⟨N, hN⟩ : ∃ N, min n 100 = N := ⟨_, rfl⟩
  obtain ⟨L, hL⟩ : ∃ L, l.take 100 = L := ⟨_, rfl⟩
  rw [hN, hL] at own1
  obtain ⟨A1, c1, rfl, see1⟩ := Sees.of_own own1
  have hN1 : N ≤ 100 := by omega
  have hNc := see1.le
  have hNm := see1.max
  unfold maxLen at hNm
  have HS1 := Lib.hid see1
  have E1 := Lib.hid e1
  clear own1 see1 e1 hN hL HFW
  go_wp2_with fail
  refine (around_any most 101 _ hm0 hm1 (by omega) (by omega)).mono ?_
  rintro e w2 ⟨rfl, rfl⟩
  have hr := aroundZ_bound most 101 (by omega)
  obtain ⟨r, hrr⟩ : ∃ r, aroundZ most 101 = r := ⟨_, rfl⟩
  rw [hrr] at hr ⊢
  obtain ⟨r0, r1⟩ := hr
  obtain ⟨M, rfl⟩ := Int.eq_ofNat_of_zero_le r0
  clear hrr r0
  go_wp2_with fail
  refine (around_any frags 6 _ hf0 hf1 (by omega) (by omega)).mono ?_
  rintro e w2 ⟨rfl, rfl⟩
  have hr := aroundZ_bound frags 6 (by omega)
  obtain ⟨r, hrr⟩ : ∃ r, aroundZ frags 6 = r := ⟨_, rfl⟩
  rw [hrr] at hr ⊢
  obtain ⟨q0, q1⟩ := hr
  obtain ⟨G, rfl⟩ := Int.eq_ofNat_of_zero_le q0
  clear hrr q0
  go_wp2_with fail
  refine (dnew_nat _ (1 + (G : Int)) M (1 + G) rfl (by omega) w1 (by omega) (by omega) (by omega)).mono ?_
  rintro e w2 ⟨rfl, hdx, szx, e2⟩
  have HDX := Lib.hid hdx
  have E2 := Lib.hid e2
  clear hdx e2
  go_wp2_with fail
  refine (dnew_nat _ (1 + (G : Int)) M (1 + G) rfl (by omega) w2 (by omega) (by omega) (by omega)).mono ?_
  rintro e w3 ⟨rfl, hdy, szy, e3⟩
  have E13 := Lib.hid (E2.out.trans e3)
  have HDY := Lib.hid hdy
  have HGX := Lib.hid (show DG w3 (Blo w3.heap.size w1.heap.size) w1.heap.size M (1 + G) (atS M (1 + G) L 0).told (.slice none 0 0) (atS M (1 + G) L 0).T from DG.start (HDX.out.keep (Kp.of_ext e3)) (by omega) (fun k q => q.2))
  obtain ⟨xb, hxb⟩ : ∃ xb, w1.heap.size = xb := ⟨_, rfl⟩
  obtain ⟨yb, hyb⟩ : ∃ yb, w2.heap.size = yb := ⟨_, rfl⟩
  have hXY := Lib.hid (show w1.heap.size = xb ∧ w2.heap.size = yb ∧ xb < yb ∧ yb < w3.heap.size by omega)
  rw [hxb] at HGX ⊢
  rw [hyb] at HDY ⊢
  have HM3 := Lib.hid (show ∀ k, k < w1.heap.size → Blo w3.heap.size xb k from fun k hk => ⟨by omega, by omega⟩)
  have EW3 := Lib.hid (E1.out.trans E13.out)
  have HFB := Lib.hid (fun b off u (h : w1.cell? ⟨b, off, none⟩ = some u) => World.block_lt_of_cell? w1 ⟨b, off, none⟩ h)
  clear hxb hyb hdy e3 szx szy HDX
  go_wp2_with fail
  go_loopw [18, 20, 21] (fun gv a i wr => ∃ (Ag : Option Addr) (ng cg at_ i_ : Nat), gv = .slice Ag ng cg ∧ a = .int .i64 (at_ : Int) ∧ i = .int .i64 (i_ : Int) ∧ at_ ≤ N ∧ i_ ≤ 9 * at_ + i_ % 9 ∧ ng = (atS M (1 + G) L at_).T.length ∧ DG wr (Blo w3.heap.size xb) xb M (1 + G) (atS M (1 + G) L at_).told (.slice Ag ng cg) (atS M (1 + G) L at_).T ∧ Kp (Blo w3.heap.size xb) w3 wr) (fun _ a i _ => 9 * (N - (intOf a).toNat) + 8 - (intOf i).toNat % 9)
  case atStart => exact ⟨none, 0, 0, 0, 0, rfl, rfl, rfl, by omega, by omega, rfl, HGX.out, Kp.refl _ _⟩
  case round =>
    obtain ⟨Ag, ng, cg, at_, i_, rfl, rfl, rfl, ha, hi, hng, dg, kp⟩ := hrel
    have DGR := Lib.hid dg
    have KP := Lib.hid kp
    have NG := Lib.hid hng
    clear dg kp hng
    by_cases hlt : at_ < N
    · obtain ⟨fb, fo, _, hAe, hfc⟩ := bs_at HS1.out at_ hlt
      subst hAe
      have HBF := Lib.hid (HM3.out fb (HFB.out _ _ _ hfc))
      have HSR := Lib.hid (HS1.out.old E13.out KP.out HM3.out)
      have HZR := Lib.hid (H3.out.old EW3.out KP.out (fun k hk => HM3.out k (Nat.lt_of_lt_of_le hk E1.out.size)))
      clear hfc
      go_wp2_with fail
      refine (piece_any A3 n3 c3 z3 i_ wr HZR.out (by omega)).mono ?_
      rintro e w5 ⟨p, rfl, hp1, hp2, rfl⟩
      by_cases hmin : (at_ : Int) + (p : Int) ≤ (N : Int)
      · have t1 : ((at_ : Int) + (p : Int)).toNat = at_ + p := by omega
        obtain ⟨hpc, hne⟩ := bpiece HSR.out at_ (at_ + p) (by omega) (by omega) hlt
        rw [Nat.add_sub_cancel_left] at hpc
        have HPC := Lib.hid hpc
        clear hpc
        go_wp2_with fail
        refine (DGR.out.feed (fun k q => Nat.lt_of_lt_of_le q.1 KP.out.size) (told_ok (atS_ok M (1 + G) L at_)) (by omega) (by omega) rfl HPC.out (by omega) (fun a ha _ => by
          injection ha with ha
          subst ha
          exact HBF.out) (by have := atS_T M (1 + G) L at_; omega)).mono ?_
        rintro x w6 ⟨A6, n6, c6, rfl, k6, A7, n7, c7, w7, hrun, hn7, dg7, k7⟩
        rw [(atS_piece M (1 + G) L at_ (at_ + p) (by omega)).2, ← (atS_piece M (1 + G) L at_ (at_ + p) (by omega)).1] at dg7
        rw [← (atS_piece M (1 + G) L at_ (at_ + p) (by omega)).1] at hn7
        have D7 := Lib.hid dg7
        have K7 := Lib.hid (KP.out.trans k7)
        have N7 := Lib.hid hn7
        clear dg7 k7 k6 hn7
        go_wp2_with (first | (at_builtin; refine wpList_append_run rfl (.tmp 72) (.tmp 78) _ rfl _ _ rfl rfl (.slice A7 n7 c7) w7 hrun ?_) | fail)
        obtain ⟨K, hK⟩ : ∃ K, (atS M (1 + G) L (at_ + p)).told.R.length + (atS M (1 + G) L (at_ + p)).told.H.length = K := ⟨_, rfl⟩
        have hK3 : K ≤ M + 3 := by rw [← hK]; exact drun_held (told_ok (atS_ok M (1 + G) L (at_ + p)))
        have hK4 : ¬ (M : Int) + 3 < (K : Int) := by omega
        refine (dheld_nat _ K w7 D7.out.dfm hK (by omega)).mono ?_
        rintro e w8 ⟨rfl, q8, rfl⟩
        have D8 := Lib.hid (D7.out.ext ((Ext.refl w7).drewN q8))
        have K8 := Lib.hid (K7.out.drewN q8)
        clear hK hK3
        go_wp2
        go_roundw
        case rel => exact ⟨A7, n7, c7, at_ + p, i_ + 1, rfl, by go_num, by go_num, by omega, pc_next hi (by omega) (by omega), N7.out, D8.out, K8.out⟩
        case measure => simp [intOf]; have := pc_meas (i := i_) (a := at_) (a' := at_ + p) (n := N) (by omega) hlt (by omega) (by omega); omega
      · have hmin' : (N : Int) < (at_ : Int) + (p : Int) := by omega
        obtain ⟨hpc, hne⟩ := bpiece HSR.out at_ N (by omega) (by omega) hlt
        have HPC := Lib.hid hpc
        clear hpc
        go_wp2_with fail
        refine (DGR.out.feed (fun k q => Nat.lt_of_lt_of_le q.1 KP.out.size) (told_ok (atS_ok M (1 + G) L at_)) (by omega) (by omega) rfl HPC.out (by omega) (fun a ha _ => by
          injection ha with ha
          subst ha
          exact HBF.out) (by have := atS_T M (1 + G) L at_; omega)).mono ?_
        rintro x w6 ⟨A6, n6, c6, rfl, k6, A7, n7, c7, w7, hrun, hn7, dg7, k7⟩
        rw [(atS_piece M (1 + G) L at_ (N) (by omega)).2, ← (atS_piece M (1 + G) L at_ (N) (by omega)).1] at dg7
        rw [← (atS_piece M (1 + G) L at_ (N) (by omega)).1] at hn7
        have D7 := Lib.hid dg7
        have K7 := Lib.hid (KP.out.trans k7)
        have N7 := Lib.hid hn7
        clear dg7 k7 k6 hn7
        go_wp2_with (first | (at_builtin; refine wpList_append_run rfl (.tmp 72) (.tmp 78) _ rfl _ _ rfl rfl (.slice A7 n7 c7) w7 hrun ?_) | fail)
        obtain ⟨K, hK⟩ : ∃ K, (atS M (1 + G) L (N)).told.R.length + (atS M (1 + G) L (N)).told.H.length = K := ⟨_, rfl⟩
        have hK3 : K ≤ M + 3 := by rw [← hK]; exact drun_held (told_ok (atS_ok M (1 + G) L (N)))
        have hK4 : ¬ (M : Int) + 3 < (K : Int) := by omega
        refine (dheld_nat _ K w7 D7.out.dfm hK (by omega)).mono ?_
        rintro e w8 ⟨rfl, q8, rfl⟩
        have D8 := Lib.hid (D7.out.ext ((Ext.refl w7).drewN q8))
        have K8 := Lib.hid (K7.out.drewN q8)
        clear hK hK3
        go_wp2
        go_roundw
        case rel => exact ⟨A7, n7, c7, N, i_ + 1, rfl, by go_num, by go_num, by omega, pc_next hi (by omega) (by omega), N7.out, D8.out, K8.out⟩
        case measure => simp [intOf]; have := pc_meas (i := i_) (a := at_) (a' := N) (n := N) (by omega) hlt (by omega) (by omega); omega
    · obtain rfl : N = at_ := by omega
      obtain ⟨w9, hw9⟩ : ∃ w9 : World, w9 = wr := ⟨_, rfl⟩
      rw [← hw9] at DGR KP ⊢
      clear hw9
      have E19 := Lib.hid (E13.out.kp KP.out HM3.out)
      have EW9 := Lib.hid (E1.out.trans E19.out)
      have hyl : yb < w9.heap.size := by have := hXY.out; have := KP.out.size; omega
      have HGY := Lib.hid (show DG w9 (Blo w9.heap.size yb) yb M (1 + G) (atS M (1 + G) L 0).told (.slice none 0 0) (atS M (1 + G) L 0).T from DG.start (HDY.out.keep (KP.out.mono fun k q => by
        have : k = yb := Classical.byContradiction q
        subst this
        exact ⟨by have := hXY.out; omega, by have := hXY.out; omega⟩)) hyl (fun k q => q.2))
      have HM9 := Lib.hid (show ∀ k, k < w1.heap.size → Blo w9.heap.size yb k from fun k hk => ⟨by have := E19.out.size; omega, by have := hXY.out; omega⟩)
      have DX9 := DGR
      have NX9 := NG
      have XX := Lib.hid (show ∀ k, ¬ Blo w3.heap.size xb k → k < w9.heap.size → Blo w9.heap.size yb k from fun k q hk => ⟨hk, fun e => q ⟨by have := hXY.out; omega, by have := hXY.out; omega⟩⟩)
      clear DGR NG KP HDY HGX ha hi hlt
      obtain ⟨Ax, hAx⟩ : ∃ Ax : Option Addr, Ax = Ag := ⟨_, rfl⟩
      obtain ⟨nx, hnx⟩ : ∃ nx : Nat, nx = ng := ⟨_, rfl⟩
      obtain ⟨cx, hcx⟩ : ∃ cx : Nat, cx = cg := ⟨_, rfl⟩
      rw [← hAx, ← hnx, ← hcx] at DX9
      rw [← hnx] at NX9
      rw [← hAx, ← hnx, ← hcx]
      clear hAx hnx hcx
      go_wp2_with fail
      go_loopw [19, 20, 23] (fun gv a i wr => ∃ (Ag : Option Addr) (ng cg at_ i_ : Nat), gv = .slice Ag ng cg ∧ a = .int .i64 (at_ : Int) ∧ i = .int .i64 (i_ : Int) ∧ at_ ≤ N ∧ i_ ≤ 9 * at_ + i_ % 9 ∧ ng = (atS M (1 + G) L at_).T.length ∧ DG wr (Blo w9.heap.size yb) yb M (1 + G) (atS M (1 + G) L at_).told (.slice Ag ng cg) (atS M (1 + G) L at_).T ∧ Kp (Blo w9.heap.size yb) w9 wr) (fun _ a i _ => 9 * (N - (intOf a).toNat) + 8 - (intOf i).toNat % 9)
      case atStart => exact ⟨none, 0, 0, 0, 0, rfl, rfl, rfl, by omega, by omega, rfl, HGY.out, Kp.refl _ _⟩
      case round =>
        obtain ⟨Ag, ng, cg, at_, i_, rfl, rfl, rfl, ha, hi, hng, dg, kp⟩ := hrel
        have DGR := Lib.hid dg
        have KP := Lib.hid kp
        have NG := Lib.hid hng
        clear dg kp hng
        by_cases hlt : at_ < N
        · obtain ⟨fb, fo, _, hAe, hfc⟩ := bs_at HS1.out at_ hlt
          subst hAe
          have HBF := Lib.hid (HM9.out fb (HFB.out _ _ _ hfc))
          have HSR := Lib.hid (HS1.out.old E19.out KP.out HM9.out)
          have HZR := Lib.hid (H4.out.old EW9.out KP.out (fun k hk => HM9.out k (Nat.lt_of_lt_of_le hk E1.out.size)))
          clear hfc
          go_wp2_with fail
          refine (piece_any A4 n4 c4 z4 i_ wr HZR.out (by omega)).mono ?_
          rintro e w5 ⟨p, rfl, hp1, hp2, rfl⟩
          by_cases hmin : (at_ : Int) + (p : Int) ≤ (N : Int)
          · have t1 : ((at_ : Int) + (p : Int)).toNat = at_ + p := by omega
            obtain ⟨hpc, hne⟩ := bpiece HSR.out at_ (at_ + p) (by omega) (by omega) hlt
            rw [Nat.add_sub_cancel_left] at hpc
            have HPC := Lib.hid hpc
            clear hpc
            go_wp2_with fail
            refine (DGR.out.feed (fun k q => Nat.lt_of_lt_of_le q.1 KP.out.size) (told_ok (atS_ok M (1 + G) L at_)) (by omega) (by omega) rfl HPC.out (by omega) (fun a ha _ => by
              injection ha with ha
              subst ha
              exact HBF.out) (by have := atS_T M (1 + G) L at_; omega)).mono ?_
            rintro x w6 ⟨A6, n6, c6, rfl, k6, A7, n7, c7, w7, hrun, hn7, dg7, k7⟩
            rw [(atS_piece M (1 + G) L at_ (at_ + p) (by omega)).2, ← (atS_piece M (1 + G) L at_ (at_ + p) (by omega)).1] at dg7
            rw [← (atS_piece M (1 + G) L at_ (at_ + p) (by omega)).1] at hn7
            have D7 := Lib.hid dg7
            have K7 := Lib.hid (KP.out.trans k7)
            have N7 := Lib.hid hn7
            clear dg7 k7 k6 hn7
            go_wp2_with (first | (at_builtin; refine wpList_append_run rfl (.tmp 100) (.tmp 106) _ rfl _ _ rfl rfl (.slice A7 n7 c7) w7 hrun ?_) | fail)
            have D8 := D7
            have K8 := K7
            go_roundw
            case rel => exact ⟨A7, n7, c7, at_ + p, i_ + 1, rfl, by go_num, by go_num, by omega, pc_next hi (by omega) (by omega), N7.out, D8.out, K8.out⟩
            case measure => simp [intOf]; have := pc_meas (i := i_) (a := at_) (a' := at_ + p) (n := N) (by omega) hlt (by omega) (by omega); omega
          · have hmin' : (N : Int) < (at_ : Int) + (p : Int) := by omega
            obtain ⟨hpc, hne⟩ := bpiece HSR.out at_ N (by omega) (by omega) hlt
            have HPC := Lib.hid hpc
            clear hpc
            go_wp2_with fail
            refine (DGR.out.feed (fun k q => Nat.lt_of_lt_of_le q.1 KP.out.size) (told_ok (atS_ok M (1 + G) L at_)) (by omega) (by omega) rfl HPC.out (by omega) (fun a ha _ => by
              injection ha with ha
              subst ha
              exact HBF.out) (by have := atS_T M (1 + G) L at_; omega)).mono ?_
            rintro x w6 ⟨A6, n6, c6, rfl, k6, A7, n7, c7, w7, hrun, hn7, dg7, k7⟩
            rw [(atS_piece M (1 + G) L at_ (N) (by omega)).2, ← (atS_piece M (1 + G) L at_ (N) (by omega)).1] at dg7
            rw [← (atS_piece M (1 + G) L at_ (N) (by omega)).1] at hn7
            have D7 := Lib.hid dg7
            have K7 := Lib.hid (KP.out.trans k7)
            have N7 := Lib.hid hn7
            clear dg7 k7 k6 hn7
            go_wp2_with (first | (at_builtin; refine wpList_append_run rfl (.tmp 100) (.tmp 106) _ rfl _ _ rfl rfl (.slice A7 n7 c7) w7 hrun ?_) | fail)
            have D8 := D7
            have K8 := K7
            go_roundw
            case rel => exact ⟨A7, n7, c7, N, i_ + 1, rfl, by go_num, by go_num, by omega, pc_next hi (by omega) (by omega), N7.out, D8.out, K8.out⟩
            case measure => simp [intOf]; have := pc_meas (i := i_) (a := at_) (a' := N) (n := N) (by omega) hlt (by omega) (by omega); omega
        · obtain rfl : N = at_ := by omega
          have XG := Lib.hid (DX9.out.keep (KP.out.mono_lt XX.out))
          obtain rfl : ng = nx := NG.out.trans NX9.out.symm
          have SX := Lib.hid (Dfm.seesB XG.out NX9.out)
          have SY := Lib.hid (Dfm.seesB DGR.out NG.out)
          have EWR := Lib.hid (EW9.out.kp KP.out (fun k hk => HM9.out k (Nat.lt_of_lt_of_le hk E1.out.size)))
          go_wp2_with fail
          refine (sameB_eq _ _ _ _ _ _ _ SX.out SY.out).mono ?_
          rintro e w10 ⟨rfl, e10⟩
          have XG2 := Lib.hid (XG.out.ext e10)
          have YG2 := Lib.hid (DGR.out.ext e10)
          have EW10 := Lib.hid (EWR.out.trans e10)
          clear e10
          go_wp2_with fail
          refine (derrno_any _ w10 XG2.out.dfm).mono ?_
          rintro e w11 ⟨rfl, rfl⟩
          go_wp2_with fail
          refine (derrno_any _ w10 YG2.out.dfm).mono ?_
          rintro e w11 ⟨rfl, rfl⟩
          go_wp2_with fail
          obtain ⟨K, hK⟩ : ∃ K, (atS M (1 + G) L N).told.R.length + (atS M (1 + G) L N).told.H.length = K := ⟨_, rfl⟩
          have hK3 : K ≤ M + 3 := by rw [← hK]; exact drun_held (told_ok (atS_ok M (1 + G) L N))
          refine (dheld_nat _ K w10 XG2.out.dfm hK (by omega)).mono ?_
          rintro e w11 ⟨rfl, q11, rfl⟩
          have e11 : Ext w10 (w10.drewN q11) := (Ext.refl _).drewN _
          have XG3 := Lib.hid (XG2.out.ext e11)
          have YG3 := Lib.hid (YG2.out.ext e11)
          have EW11 := Lib.hid (EW10.out.trans e11)
          clear e11
          go_wp2_with fail
          refine (dheld_nat _ K _ YG3.out.dfm hK (by omega)).mono ?_
          rintro e w12 ⟨rfl, q12, rfl⟩
          have e12 : Ext (w10.drewN q11) (w10.drewN (q11 + q12)) := by rw [← World.drewN_drewN]; exact (Ext.refl _).drewN _
          have XG4 := Lib.hid (XG3.out.ext e12)
          have YG4 := Lib.hid (YG3.out.ext e12)
          have EW12 := Lib.hid (EW11.out.trans e12)
          clear e12 hK hK3
          go_wp2_with fail
          refine (dclean_any _ _ XG4.out.dfm).mono ?_
          rintro e w13 ⟨rfl, rfl⟩
          go_wp2_with fail
          refine (dclean_any _ _ YG4.out.dfm).mono ?_
          rintro e w13 ⟨rfl, rfl⟩
          go_wp2_with fail
          refine (dlives_any _).mono ?_
          rintro e w13 ⟨rfl, e13⟩
          have EW13 := Lib.hid (EW12.out.trans e13)
          clear e13
          go_wp2
          go_ret
          exact ⟨rfl, EW13.out⟩
end Go.Proofs.Ytjajkagpfbemiaa
