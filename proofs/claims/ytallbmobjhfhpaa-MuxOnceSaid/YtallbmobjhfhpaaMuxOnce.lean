/-
  The statement MuxOnce: its walk.
-/
import Derived.Test.YtallbmobjhfhpaaMuxE
namespace Go.Proofs.Ytallbmobjhfhpaa
open Go Go.RowKit
set_option linter.unusedVariables false
set_option linter.unusedSimpArgs false
def IntsOf (w : World) (A : Option Addr) (n c : Nat) (zs : List Int) : Prop := Sees w A n c (zs.map (Value.int .i64)) ∧ ∀ i, -9223372036854775808 ≤ zs.getD i 0 ∧ zs.getD i 0 ≤ 9223372036854775807
theorem IntsOf.mk {w : World} {A : Option Addr} {n c : Nat} {zs : List Int} (h : Sees w A n c (zs.map (Value.int .i64))) (q : ∀ z ∈ zs, -9223372036854775808 ≤ z ∧ z ≤ 9223372036854775807) : IntsOf w A n c zs := ⟨h, fun i => by
  rw [List.getD_eq_getElem?_getD]
  cases hi : zs[i]? with
  | none => simp
  | some z => exact q z (List.mem_of_getElem? hi)⟩
theorem IntsOf.ext {w w' : World} {A : Option Addr} {n c : Nat} {zs : List Int} (h : IntsOf w A n c zs) (he : Ext w w') : IntsOf w' A n c zs := ⟨h.1.ext he, h.2⟩
theorem IntsOf.at_ {w : World} {A : Option Addr} {n c : Nat} {zs : List Int} (h : IntsOf w A n c zs) (i : Nat) (hi : i < n) :
    ∃ b off, A = some ⟨b, off, none⟩ ∧ w.cell? ⟨b, off + i, none⟩ = some (.int .i64 (zs.getD i 0)) := by
  obtain ⟨b, off, u, hA, hu, hc, _⟩ := h.1.at_ hi
  refine ⟨b, off, hA, ?_⟩
  rw [hc]
  rw [List.getElem?_map] at hu
  rw [List.getD_eq_getElem?_getD]
  cases hz : zs[i]? with
  | none => rw [hz] at hu; cases hu
  | some y =>
    rw [hz] at hu
    injection hu with hu
    rw [← hu]
    rfl
theorem IntsOf.past {w : World} {A : Option Addr} {n c : Nat} {zs : List Int} (h : IntsOf w A n c zs) (i : Nat) (hi : ¬ i < n) : zs.getD i 0 = 0 := by
  have hl := h.1.len
  rw [List.length_map] at hl
  rw [List.getD_eq_getElem?_getD, List.getElem?_eq_none (by omega)]
  rfl
set_option maxRecDepth 20000 in
set_option maxHeartbeats 8000000 in
theorem mo_walk (first many : Int) (A2 A3 : Option Addr) (n2 c2 n3 c3 : Nat) (z2 z3 : List Int) (w : World) (h2 : IntsOf w A2 n2 c2 z2) (h3 : IntsOf w A3 n3 c3 z3) (hm0 : -9223372036854775808 ≤ many) (hm1 : many ≤ 9223372036854775807) (hf0 : 0 ≤ first) (hf1 : first < 4294967296) :
    Calls Try.prog 5 #[.int .u32 first, .int .i64 many, .slice A2 n2 c2, .slice A3 n3 c3] w fun e w' => e = .returned (.bool true) ∧ Ext w w' := by
  have hl2 := h2.1.le
  have hl3 := h3.1.le
  have hx2 := h2.1.max
  have hx3 := h3.1.max
  unfold maxLen at hx2 hx3
  have H2 := Lib.hid h2
  have H3 := Lib.hid h3
  clear h2 h3
  go_enter Try.func5, Try.ntmps5
  go_wp2_with fail
  refine (around_any many 16 w hm0 hm1 (by omega) (by omega)).mono ?_
  rintro e w2 ⟨rfl, rfl⟩
  have hr := aroundZ_bound many 16 (by omega)
  obtain ⟨r, hrr⟩ : ∃ r, aroundZ many 16 = r := ⟨_, rfl⟩
  rw [hrr] at hr ⊢
  obtain ⟨r0, r1⟩ := hr
  clear hrr
  obtain ⟨K, hK⟩ : ∃ K : Nat, 1 + r = (K : Int) := ⟨(1 + r).toNat, by omega⟩
  have hK1 : 1 ≤ K := by omega
  have hK2 : K ≤ 16 := by omega
  go_wp2_with fail
  clear hK r0 r1
  refine (mnewI_ok first (K : Int) K rfl w (by omega) (by omega) hf0 hf1).mono ?_
  rintro e w1 ⟨tb, mb, rfl, hm, ht, hb, e1⟩
  have hlt := hm.lt
  have HM := Lib.hid hm
  have E1 := Lib.hid e1
  have HB := Lib.hid (show tb < w1.heap.size ∧ mb < w1.heap.size ∧ w.heap.size ≤ w1.heap.size from ⟨hlt.1, hlt.2, e1.size⟩)
  obtain ⟨B, hB⟩ : ∃ B, w1.heap.size = B := ⟨_, rfl⟩
  have HRS := Lib.hid (show B ≤ w1.heap.size by omega)
  rw [hB] at HB
  clear hm e1 hlt hB
  obtain ⟨P, hP⟩ : ∃ P : Nat → Int, ∀ j, P j = aroundZ (z2.getD j 0) 4 := ⟨_, fun _ => rfl⟩
  have HP := Lib.hid hP
  have HPB := Lib.hid (fun j => show 0 ≤ P j ∧ P j < 4 by rw [hP j]; exact aroundZ_bound _ 4 (by omega))
  clear hP
  go_wp2_with fail
  go_loopw [12, 13, 14] (fun v u i wr => ∃ (j : Nat), j ≤ K ∧ i = .int .i64 (j : Int) ∧ MuxI wr tb mb K (nxt first j) (Lp first P j) ∧ Rows2 wr B v u j j (nxt first) P ∧ Ext w wr) (fun _ _ i _ => K - (intOf i).toNat)
  case atStart => exact ⟨0, by omega, rfl, by rw [nxt_zero hf0 hf1]; exact HM.out, Rows2.nil _ _ _ _ HRS.out, E1.out⟩
  case round =>
    obtain ⟨j, hj, rfl, hm, hrw, ext⟩ := hrel
    obtain ⟨Av, cv, rfl⟩ := hrw.1.shape
    obtain ⟨Au, cu, rfl⟩ := hrw.2.1.shape
    have HMr := Lib.hid hm
    have HRr := Lib.hid hrw
    have EX := Lib.hid ext
    clear hm hrw ext
    have HP0 := Lib.hid (show 0 ≤ P j ∧ P j < 4294967296 by have := HPB.out j; omega)
    by_cases hlt : j < K
    · by_cases hjn : j < n2
      · obtain ⟨b, off, rfl, hc⟩ := (H2.out.ext EX.out).at_ j hjn
        go_wp2_with fail
        refine (around_any _ 4 wr (H2.out.2 j).1 (H2.out.2 j).2 (by omega) (by omega)).mono ?_
        rintro e w2 ⟨rfl, rfl⟩
        rw [← HP.out j]
        have hw : IntKind.u32.wrap (P j) = P j := by rw [wrap_u32]; have := HPB.out j; omega
        clear hc
        go_wp2_with fail
        try rw [hw]
        clear hw
        refine (mcallI_at tb mb K (nxt first j) (Lp first P j) (P j) HP0.out.1 HP0.out.2 (j : Int) 0 (nxt first j) (nxt first (j + 1)) (free_zero (nxt_bound _ _).1 (nxt_bound _ _).2 (Lp_free _ _ _ (by omega))) (by omega) (nxt_zero (nxt_bound _ _).1 (nxt_bound _ _).2) (by rw [nxt_add]) wr HMr.out (by rw [Lp_len _ _ _ (by omega)]; omega)).mono ?_
        rintro e w3 ⟨rfl, hm3, o3⟩
        have HM3 : Hid (MuxI w3 tb mb K (nxt first (j + 1)) (Lp first P (j + 1))) := Lib.hid (by
          show MuxI w3 tb mb K (nxt first (j + 1)) (putL (Lp first P j) (nxt first j) (.agg #[.int .u32 (P j), .int .i64 (j : Int)]))
          exact hm3)
        have HR3 := Lib.hid (HRr.out.onm o3 HB.out.1 HB.out.2.1)
        have E3 := Lib.hid (o3.ext EX.out ht hb)
        clear hm3 o3
        go_wp2_with fail
        go_loopw [18] (fun i wq => ∃ q : Nat, q ≤ j ∧ i = .int .i64 (q : Int) ∧ wq = w3) (fun i _ => j - (intOf i).toNat)
        case atStart =>
          refine ⟨0, by omega, ?_⟩
          simp
        case round =>
          obtain ⟨q, hq, rfl, rfl⟩ := hrel
          by_cases hqj : q < j
          · obtain ⟨g, cg, hv, _, hc⟩ := HR3.out.1.at_ q hqj
            injection hv with hv1 _ hv2
            subst hv1 hv2
            have t2 : (nxt first q == nxt first j) = false := by
              have := nxt_ne first q j hqj (by omega)
              simpa using fun e => this e.symm
            go_wp2
            go_roundw
            case rel => exact ⟨q + 1, by omega, by go_num, trivial⟩
            case measure => simp [intOf]; omega
          · obtain rfl : q = j := by omega
            obtain ⟨v4, w4, hrun4, hr4, hb4⟩ := HR3.out.push (by omega) (nxt first q) rfl
            have HR4 := Lib.hid hr4
            have HM4 := Lib.hid (HM3.out.below hb4 HB.out.1 HB.out.2.1)
            have E4 := Lib.hid (Below.trans E3.out (Below.mono hb4 HB.out.2.2))
            obtain ⟨A4, c4, hs4⟩ := hr4.1.shape
            subst hs4
            clear hr4 hb4
            obtain ⟨v5, w5, hrun5, hr5, hb5⟩ := HR4.out.swap.push (by omega) (P q) rfl
            have HR5 := Lib.hid hr5.swap
            have HM5 := Lib.hid (HM4.out.below hb5 HB.out.1 HB.out.2.1)
            have E5 := Lib.hid (Below.trans E4.out (Below.mono hb5 HB.out.2.2))
            obtain ⟨A5, c5, hs5⟩ := hr5.1.shape
            subst hs5
            clear hr5 hb5
            go_wp2_with (first | (at_builtin; refine wpList_append_run rfl (.tmp 79) (.tmp 81) _ rfl _ _ rfl rfl _ w4 hrun4 ?_) | (at_builtin; refine wpList_append_run rfl (.tmp 83) (.tmp 85) _ rfl _ _ rfl rfl _ w5 hrun5 ?_) | fail)
            go_roundw
            case rel => exact ⟨q + 1, by omega, by go_num, HM5.out, HR5.out, E5.out⟩
            case measure => simp [intOf]; omega
      · have hp0 : P j = 0 := by
          rw [HP.out j, H2.out.past j hjn]
          rfl
        have HZ := Lib.hid hp0
        clear hp0
        go_wp2_with fail
        refine (mcallI_at tb mb K (nxt first j) (Lp first P j) (0) (by omega) (by omega) (j : Int) 0 (nxt first j) (nxt first (j + 1)) (free_zero (nxt_bound _ _).1 (nxt_bound _ _).2 (Lp_free _ _ _ (by omega))) (by omega) (nxt_zero (nxt_bound _ _).1 (nxt_bound _ _).2) (by rw [nxt_add]) wr HMr.out (by rw [Lp_len _ _ _ (by omega)]; omega)).mono ?_
        rintro e w3 ⟨rfl, hm3, o3⟩
        have HM3 : Hid (MuxI w3 tb mb K (nxt first (j + 1)) (Lp first P (j + 1))) := Lib.hid (by
          show MuxI w3 tb mb K (nxt first (j + 1)) (putL (Lp first P j) (nxt first j) (.agg #[.int .u32 (P j), .int .i64 (j : Int)]))
          rw [HZ.out]
          exact hm3)
        have HR3 := Lib.hid (HRr.out.onm o3 HB.out.1 HB.out.2.1)
        have E3 := Lib.hid (o3.ext EX.out ht hb)
        clear hm3 o3
        go_wp2_with fail
        go_loopw [18] (fun i wq => ∃ q : Nat, q ≤ j ∧ i = .int .i64 (q : Int) ∧ wq = w3) (fun i _ => j - (intOf i).toNat)
        case atStart =>
          refine ⟨0, by omega, ?_⟩
          simp
        case round =>
          obtain ⟨q, hq, rfl, rfl⟩ := hrel
          by_cases hqj : q < j
          · obtain ⟨g, cg, hv, _, hc⟩ := HR3.out.1.at_ q hqj
            injection hv with hv1 _ hv2
            subst hv1 hv2
            have t2 : (nxt first q == nxt first j) = false := by
              have := nxt_ne first q j hqj (by omega)
              simpa using fun e => this e.symm
            go_wp2
            go_roundw
            case rel => exact ⟨q + 1, by omega, by go_num, trivial⟩
            case measure => simp [intOf]; omega
          · obtain rfl : q = j := by omega
            obtain ⟨v4, w4, hrun4, hr4, hb4⟩ := HR3.out.push (by omega) (nxt first q) rfl
            have HR4 := Lib.hid hr4
            have HM4 := Lib.hid (HM3.out.below hb4 HB.out.1 HB.out.2.1)
            have E4 := Lib.hid (Below.trans E3.out (Below.mono hb4 HB.out.2.2))
            obtain ⟨A4, c4, hs4⟩ := hr4.1.shape
            subst hs4
            clear hr4 hb4
            obtain ⟨v5, w5, hrun5, hr5, hb5⟩ := HR4.out.swap.push (by omega) (0) (HZ.out).symm
            have HR5 := Lib.hid hr5.swap
            have HM5 := Lib.hid (HM4.out.below hb5 HB.out.1 HB.out.2.1)
            have E5 := Lib.hid (Below.trans E4.out (Below.mono hb5 HB.out.2.2))
            obtain ⟨A5, c5, hs5⟩ := hr5.1.shape
            subst hs5
            clear hr5 hb5
            go_wp2_with (first | (at_builtin; refine wpList_append_run rfl (.tmp 79) (.tmp 81) _ rfl _ _ rfl rfl _ w4 hrun4 ?_) | (at_builtin; refine wpList_append_run rfl (.tmp 83) (.tmp 85) _ rfl _ _ rfl rfl _ w5 hrun5 ?_) | fail)
            go_roundw
            case rel => exact ⟨q + 1, by omega, by go_num, HM5.out, HR5.out, E5.out⟩
            case measure => simp [intOf]; omega
    · obtain rfl : j = K := by omega
      go_wp2_with fail
      refine (mcallI_full tb mb j (nxt first j) (Lp first P j) 0 0 wr HMr.out (Lp_len _ _ _ (by omega))).mono ?_
      rintro e w6 ⟨rfl, nd, rfl⟩
      have ed : Ext wr (wr.drewN nd) := (Ext.refl wr).drewN nd
      obtain ⟨w6, hw6⟩ : ∃ w6, wr.drewN nd = w6 := ⟨_, rfl⟩
      rw [hw6] at ed ⊢
      have hmk := make_bools j (by omega)
      have ea : Ext w6 (w6.alloc (.cells (madeCells #[.bool false] j) 4)) := (Ext.refl w6).alloc _
      have hd := OwnD.made w6 j
      have HM7 := Lib.hid ((HMr.out.ext ed).ext ea)
      have HU7 := Lib.hid (HRr.out.ext ed).1
      have HV7 := Lib.hid (HRr.out.ext ed).2.1
      have hlu := HU7.out.lt
      have hlv := HV7.out.lt
      have HD7 := Lib.hid hd
      have E7 := Lib.hid ((EX.out.trans ed).trans ea)
      have HA7 := Lib.hid ea
      have HDB := Lib.hid (show B ≤ w6.heap.size from Nat.le_trans HRr.out.2.2.2 ed.size)
      have HLB := Lib.hid (And.intro hlu hlv)
      clear ed ea hd hlu hlv hw6
      go_wp2_with fail
      obtain ⟨w7, hw7⟩ : ∃ w7, w6.alloc (.cells (madeCells #[.bool false] j) 4) = w7 := ⟨_, rfl⟩
      rw [hw7] at HM7 HD7 E7 HA7 ⊢
      clear hw7 hmk
      have HU8 := Lib.hid (HU7.out.heap fun k _ _ hk => HA7.out.block k hk)
      have HV8 := Lib.hid (HV7.out.heap fun k _ _ hk => HA7.out.block k hk)
      obtain ⟨db, hdb⟩ : ∃ db, w6.heap.size = db := ⟨_, rfl⟩
      rw [hdb] at HD7 HDB HLB ⊢
      clear hdb HA7 HU7 HV7
      go_loopw [22] (fun i wq => ∃ (k : Nat) (L : List (Int × Value)) (DN : Nat → Bool), k ≤ n3 ∧ k ≤ 20 ∧ i = .int .i64 (k : Int) ∧ MuxI wq tb mb j (nxt first j) L ∧ Waits L first P j DN ∧ OwnU wq B (.slice Av j cv) j (nxt first) ∧ OwnU wq B (.slice Au j cu) j P ∧ OwnD wq db j DN ∧ Ext w wq) (fun i _ => 20 - (intOf i).toNat)
      case atStart => exact ⟨0, _, _, by omega, by omega, rfl, HM7.out, Waits.start _ _ _ (by omega), HU8.out, HV8.out, HD7.out, E7.out⟩
      case round =>
        obtain ⟨k, L, DN, hk3, hk20, rfl, hm, hwt, hu, hv, hd, ext⟩ := hrel
        have HMk := Lib.hid hm
        have HWk := Lib.hid hwt
        have HUk := Lib.hid hu
        have HVk := Lib.hid hv
        have HDk := Lib.hid hd
        have EK := Lib.hid ext
        clear hm hwt hu hv hd ext
        by_cases hlk : k < n3 ∧ k < 20
        · obtain ⟨hlk1, hlk2⟩ := hlk
          obtain ⟨b3, off3, rfl, hc3⟩ := (H3.out.ext EK.out).at_ k hlk1
          go_wp2_with fail
          refine (around_any _ (j : Int) wr (H3.out.2 k).1 (H3.out.2 k).2 (by omega) (by omega)).mono ?_
          rintro e w8 ⟨rfl, rfl⟩
          have hr := aroundZ_bound (z3.getD k 0) (j : Int) (by omega)
          obtain ⟨qi, hqq⟩ : ∃ qi, aroundZ (z3.getD k 0) (j : Int) = qi := ⟨_, rfl⟩
          rw [hqq] at hr ⊢
          obtain ⟨q0, q1⟩ := hr
          obtain ⟨q, rfl⟩ := Int.eq_ofNat_of_zero_le q0
          have hq : q < j := by omega
          clear hqq q0 q1 hc3
          obtain ⟨g1, cg1, hs1, hg1, x1⟩ := HUk.out.at_ q hq
          injection hs1 with hs1 _ hs2
          subst hs1 hs2
          obtain ⟨g2, cg2, hs1, hg2, x2⟩ := HVk.out.at_ q hq
          injection hs1 with hs1 _ hs2
          subst hs1 hs2
          have hpq := HPB.out q
          obtain ⟨hp0, hp1⟩ := hpq
          have hw1 : IntKind.u32.wrap (P q + 1) = P q + 1 := by rw [wrap_u32]; omega
          have hx0 := (nxt_bound first q).1
          have hx1 := (nxt_bound first q).2
          have HX1 := Lib.hid x1
          have HX2 := Lib.hid x2
          cases hdn : DN q with
          | true =>
            have hno := HWk.out.has q hq hdn
            have HNO := Lib.hid hno
            have HDN := Lib.hid hdn
            clear hno hdn
            go_wp2_with fail
            refine wp_region_pl (.free 0 (.free 1 (.free 2 (.free 3 (.free 4 (.free 5 (.free 6 (.free 7 (.free 8 (.free 9 (.one 10 (.free 11 (.free 12 (.free 13 (.free 14 (.free 15 .nil)))))))))))))))) (by kernel_rfl) (by kernel_rfl) (by kernel_rfl) (by kernel_rfl) ?_
            iterate 10 (refine pl_val (v := ?_) rfl rfl (fun w' hw' => ?_) ?_; rotate_left; (· have y1 := hw'.cell x1; have y2 := hw'.cell x2; go_simp; try with_reducible rfl); simp only [Act.put, List.setIfInBounds_toArray, List.set_cons_zero, List.set_cons_succ])
            refine pl_call 14 #[.pointer (some ⟨tb, 0, none⟩), .int .u32 (nxt first q), .int .u32 (P q + 1)] rfl rfl (by go_simp) ?_
            refine (mmatchI_no tb mb j (nxt first j) L (nxt first q) (P q + 1) HNO.out hx0 hx1 wr.drew (HMk.out.ext (Ext.refl wr).drew)).mono ?_
            rintro e w9 ⟨rfl, e9⟩
            refine ⟨_, rfl, e9, ?_⟩
            simp only [Act.put, List.setIfInBounds_toArray, List.set_cons_zero, List.set_cons_succ]
            have E9 := Lib.hid ((Ext.refl wr).drew.trans e9)
            clear e9
            iterate 5 (refine pl_val (v := ?_) rfl rfl (fun w' hw' => ?_) ?_; rotate_left; (· skip; go_simp; try with_reducible rfl); simp only [Act.put, List.setIfInBounds_toArray, List.set_cons_zero, List.set_cons_succ])
            refine pl_done ?_
            have x1 := E9.out.cell HX1.out
            have x2 := E9.out.cell HX2.out
            go_wp2_with fail
            refine wp_region_pl (.free 0 (.free 1 (.free 2 (.free 3 (.free 4 (.free 5 (.free 6 (.free 7 (.free 8 (.one 9 (.free 10 (.free 11 (.free 12 (.free 13 (.free 14 .nil))))))))))))))) (by kernel_rfl) (by kernel_rfl) (by kernel_rfl) (by kernel_rfl) ?_
            iterate 9 (refine pl_val (v := ?_) rfl rfl (fun w' hw' => ?_) ?_; rotate_left; (· have y1 := hw'.cell x1; have y2 := hw'.cell x2; go_simp; try with_reducible rfl); simp only [Act.put, List.setIfInBounds_toArray, List.set_cons_zero, List.set_cons_succ])
            refine pl_call 14 #[.pointer (some ⟨tb, 0, none⟩), .int .u32 (nxt first q), .int .u32 (P q)] rfl rfl (by go_simp) ?_
            refine (mmatchI_no tb mb j (nxt first j) L (nxt first q) (P q) HNO.out hx0 hx1 w9.drew (HMk.out.ext E9.out.drew)).mono ?_
            rintro e w10 ⟨rfl, e10⟩
            refine ⟨_, rfl, e10, ?_⟩
            simp only [Act.put, List.setIfInBounds_toArray, List.set_cons_zero, List.set_cons_succ]
            have E10 := Lib.hid (E9.out.drew.trans e10)
            clear e10 x1 x2
            iterate 5 (refine pl_val (v := ?_) rfl rfl (fun w' hw' => ?_) ?_; rotate_left; (· skip; go_simp; try with_reducible rfl); simp only [Act.put, List.setIfInBounds_toArray, List.set_cons_zero, List.set_cons_succ])
            refine pl_done ?_
            have HD10 := Lib.hid (HDk.out.heap (E10.out.block db HDk.out.lt))
            have d1 := HD10.out.cell q hq
            rw [HDN.out] at d1
            go_wp2
            go_roundw
            case rel => exact ⟨k + 1, L, DN, by omega, by omega, by go_num, HMk.out.ext E10.out, HWk.out, HUk.out.heap (fun k _ _ hk => E10.out.block k hk), HVk.out.heap (fun k _ _ hk => E10.out.block k hk), HD10.out, EK.out.trans E10.out⟩
            case measure => simp [intOf]; omega
          | false =>
            have hget := HWk.out.get q hq hdn
            have HGT := Lib.hid hget
            have HDN := Lib.hid hdn
            clear hget hdn
            go_wp2_with fail
            refine wp_region_pl (.free 0 (.free 1 (.free 2 (.free 3 (.free 4 (.free 5 (.free 6 (.free 7 (.free 8 (.free 9 (.one 10 (.free 11 (.free 12 (.free 13 (.free 14 (.free 15 .nil)))))))))))))))) (by kernel_rfl) (by kernel_rfl) (by kernel_rfl) (by kernel_rfl) ?_
            iterate 10 (refine pl_val (v := ?_) rfl rfl (fun w' hw' => ?_) ?_; rotate_left; (· have y1 := hw'.cell x1; have y2 := hw'.cell x2; go_simp; try with_reducible rfl); simp only [Act.put, List.setIfInBounds_toArray, List.set_cons_zero, List.set_cons_succ])
            refine pl_call 14 #[.pointer (some ⟨tb, 0, none⟩), .int .u32 (nxt first q), .int .u32 (P q + 1)] rfl rfl (by go_simp) ?_
            refine (mmatchI_wrong tb mb j (nxt first j) L (nxt first q) (P q + 1) (P q) (.int .i64 (q : Int)) HGT.out (by omega) hx0 hx1 wr.drew (HMk.out.ext (Ext.refl wr).drew)).mono ?_
            rintro e w9 ⟨rfl, e9⟩
            refine ⟨_, rfl, e9, ?_⟩
            simp only [Act.put, List.setIfInBounds_toArray, List.set_cons_zero, List.set_cons_succ]
            have E9 := Lib.hid ((Ext.refl wr).drew.trans e9)
            clear e9
            iterate 5 (refine pl_val (v := ?_) rfl rfl (fun w' hw' => ?_) ?_; rotate_left; (· skip; go_simp; try with_reducible rfl); simp only [Act.put, List.setIfInBounds_toArray, List.set_cons_zero, List.set_cons_succ])
            refine pl_done ?_
            have x1 := E9.out.cell HX1.out
            have x2 := E9.out.cell HX2.out
            have HS9 : Hid ((fun w' : World => w'.cell? ⟨g1, q, none⟩ = some (.int .u32 (nxt first q)) ∧ w'.cell? ⟨g2, q, none⟩ = some (.int .u32 (P q))) w9.drew) := Lib.hid ⟨((Ext.refl w9).drew).cell x1, ((Ext.refl w9).drew).cell x2⟩
            go_wp2_with fail
            refine wp_region_plS (fun w' : World => w'.cell? ⟨g1, q, none⟩ = some (.int .u32 (nxt first q)) ∧ w'.cell? ⟨g2, q, none⟩ = some (.int .u32 (P q))) (.free 0 (.free 1 (.free 2 (.free 3 (.free 4 (.free 5 (.free 6 (.free 7 (.free 8 (.one 9 (.free 10 (.free 11 (.free 12 (.free 13 (.free 14 .nil))))))))))))))) (by kernel_rfl) (by kernel_rfl) (by kernel_rfl) (by kernel_rfl) ?_
            clear x1 x2
            iterate 9 (refine plS_val (v := ?_) rfl rfl HS9.out (fun w' hw' => ?_) ?_; rotate_left; (· obtain ⟨y1, y2⟩ := hw'; go_simp; try with_reducible rfl); simp only [Act.put, List.setIfInBounds_toArray, List.set_cons_zero, List.set_cons_succ])
            refine plS_call 14 #[.pointer (some ⟨tb, 0, none⟩), .int .u32 (nxt first q), .int .u32 (P q)] rfl rfl (by go_simp) ?_
            refine (mmatchI_ok tb mb j (nxt first j) L (nxt first q) (P q) (.int .i64 (q : Int)) HGT.out hx0 hx1 w9.drew (HMk.out.ext E9.out.drew)).mono ?_
            rintro e w10 ⟨rfl, hm10, o10⟩
            have HS10 : Hid ((fun w' : World => w'.cell? ⟨g1, q, none⟩ = some (.int .u32 (nxt first q)) ∧ w'.cell? ⟨g2, q, none⟩ = some (.int .u32 (P q))) w10) := Lib.hid ⟨o10.cell HS9.out.1 (fun e => by have := HB.out.1; simp only at e; omega) (fun e => by have := HB.out.2.1; simp only at e; omega), o10.cell HS9.out.2 (fun e => by have := HB.out.1; simp only at e; omega) (fun e => by have := HB.out.2.1; simp only at e; omega)⟩
            refine ⟨_, rfl, HS10.out, ?_⟩
            simp only [Act.put, List.setIfInBounds_toArray, List.set_cons_zero, List.set_cons_succ]
            have HM10 := Lib.hid hm10
            have O10 := Lib.hid ((Onm.of_ext E9.out.drew).trans o10)
            clear hm10 o10
            iterate 5 (refine plS_val (v := ?_) rfl rfl HS10.out (fun w' hw' => ?_) ?_; rotate_left; (· skip; go_simp; try with_reducible rfl); simp only [Act.put, List.setIfInBounds_toArray, List.set_cons_zero, List.set_cons_succ])
            refine plS_done ?_
            have hblk : ∀ k, B ≤ k → k < wr.heap.size → w10.heap[k]? = wr.heap[k]? := fun k h1 h2 => O10.out.block k h2 (fun e => by have := HB.out.1; omega) (fun e => by have := HB.out.2.1; omega)
            have HBL := Lib.hid hblk
            clear hblk
            have HD10 := Lib.hid (HDk.out.heap (HBL.out db HDB.out HDk.out.lt))
            have HU10 := Lib.hid (HUk.out.heap (fun k _ h1 h2 => HBL.out k h1 h2))
            have HV10 := Lib.hid (HVk.out.heap (fun k _ h1 h2 => HBL.out k h1 h2))
            have E10 := Lib.hid (O10.out.ext EK.out ht hb)
            have hs10 := O10.out.size
            have d1 := HD10.out.cell q hq
            have f1 := HD10.out.frozen q
            rw [HDN.out] at d1
            go_wp2
            go_roundw
            case rel => exact ⟨k + 1, delL L (nxt first q), _, by omega, by omega, by go_num,
              HM10.out.below (B := B) (Below.setCell (Below.refl B w10) (p := ⟨db, q, none⟩) HDB.out (.bool true)) HB.out.1 HB.out.2.1,
              HWk.out.done (by omega) q hq,
              HU10.out.heap (fun k hk _ _ => heap_setCell_other _ _ _ _ (fun e => by have := (HLB.out.1 k hk).2; simp only at e; omega)),
              HV10.out.heap (fun k hk _ _ => heap_setCell_other _ _ _ _ (fun e => by have := (HLB.out.2 k hk).2; simp only at e; omega)),
              HD10.out.set q hq, E10.out.setCell (p := ⟨db, q, none⟩) (by have := HB.out.2.2; have := HDB.out; simp only; omega) _⟩
            case measure => simp [intOf]; omega
        · have hend : (¬ k < n3) ∨ (k < n3 ∧ k = 20) := by omega
          clear hlk
          rcases hend with he | ⟨he, rfl⟩
          · go_wp2_with fail
            refine (mlives_any _).mono ?_
            rintro e w12 ⟨rfl, e12⟩
            go_wp2
            go_ret
            exact ⟨rfl, EK.out.trans e12⟩
          · go_wp2_with fail
            refine (mlives_any _).mono ?_
            rintro e w12 ⟨rfl, e12⟩
            go_wp2
            go_ret
            exact ⟨rfl, EK.out.trans e12⟩
end Go.Proofs.Ytallbmobjhfhpaa
