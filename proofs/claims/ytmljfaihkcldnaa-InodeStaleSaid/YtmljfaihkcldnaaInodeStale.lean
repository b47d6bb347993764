/-
  The statement InodeStale: its walk.
-/
import Derived.Test.YtmljfaihkcldnaaInoP
namespace Go.Proofs.Ytmljfaihkcldnaa
open Go Go.RowKit
set_option linter.unusedVariables false
set_option linter.unusedSimpArgs false
/-- What is kept while things come and go: a handle of generation 1 of place P is stale. -/
def Gon (p i : Nat) (FU : Nat → Bool) (GE : Nat → Int) : Prop := (∀ x, 0 ≤ GE x ∧ GE x ≤ 1 + i) ∧ 1 ≤ GE p ∧ (FU p = false ∨ 2 ≤ GE p)
theorem Gon.stale {p i : Nat} {FU : Nat → Bool} {GE : Nat → Int} (h : Gon p i FU GE) (hp : p < 10) : StX_int 10 FU GE ((p : Int) + 1) 1 :=
  .inr (.inr ⟨p, rfl, hp, by
    rcases h.2.2 with h | h
    · exact .inl h
    · exact .inr (by omega)⟩)
theorem Gon.mono {p i j : Nat} {FU : Nat → Bool} {GE : Nat → Int} (h : Gon p i FU GE) (hij : i ≤ j) : Gon p j FU GE :=
  ⟨fun x => ⟨(h.1 x).1, by have := (h.1 x).2; omega⟩, h.2⟩
theorem Gon.add {p i q : Nat} {FU : Nat → Bool} {GE : Nat → Int} (h : Gon p i FU GE) : Gon p (i + 1) (upd FU q true) (upd GE q (GE q + 1)) := by
  obtain ⟨h1, h2, h3⟩ := h
  refine ⟨fun x => ?_, ?_, ?_⟩
  · have a := h1 x
    have b := h1 q
    unfold upd
    split <;> omega
  · unfold upd
    split
    · next e => subst e; omega
    · exact h2
  · unfold upd
    split
    · next e => subst e; exact .inr (by omega)
    · exact h3
theorem Gon.rem {p i q : Nat} {FU : Nat → Bool} {GE : Nat → Int} (h : Gon p i FU GE) : Gon p i (upd FU q false) (upd GE q (GE q)) := by
  obtain ⟨h1, h2, h3⟩ := h
  have e : upd GE q (GE q) = GE := by
    funext x
    unfold upd
    split
    · next e => rw [e]
    · rfl
  rw [e]
  refine ⟨h1, h2, ?_⟩
  unfold upd
  split
  · exact .inl rfl
  · exact h3
set_option maxRecDepth 20000 in
set_option maxHeartbeats 1000000 in
theorem is_walk (many which : Int) (ba : Option Addr) (bn bc : Nat) (zs : List Bool) (w : World) (hz : Sees w ba bn bc (zs.map Value.bool)) (hm0 : -9223372036854775808 ≤ many) (hm1 : many ≤ 9223372036854775807) (ha0 : -9223372036854775808 ≤ which) (ha1 : which ≤ 9223372036854775807) :
    Calls Try.prog 4 #[.int .i64 many, .int .i64 which, .slice ba bn bc] w fun e w' => e = .returned (.bool true) ∧ Ext w w' := by
  have HA := Lib.hid (fun w => around_any many 8 w hm0 hm1 (by omega) (by omega))
  obtain ⟨r0, r1⟩ := aroundZ_bound many 8 (by omega)
  obtain ⟨R, hR⟩ := Int.eq_ofNat_of_zero_le r0
  rw [hR] at r0 r1 HA
  clear hR
  have HP := Lib.hid (fun w => around_any which (1 + (R : Int)) w ha0 ha1 (by omega) (by omega))
  obtain ⟨p0, p1⟩ := aroundZ_bound which (1 + (R : Int)) (by omega)
  obtain ⟨P, hP⟩ := Int.eq_ofNat_of_zero_le p0
  rw [hP] at p0 p1 HP
  clear hP
  have HN := Lib.hid (fun w => new_int 10 10 w rfl (by omega) (by omega))
  have HZ := Lib.hid hz
  have hbn := hz.len
  have hbm := hz.max
  have hbl := hz.le
  rw [List.length_map] at hbn
  clear hz
  go_enter Try.func4, Try.ntmps4
  go_wp2_with fail
  refine (HA.out _).mono ?_
  rintro e w1 ⟨rfl, rfl⟩
  go_wp2_with fail
  refine (HN.out _).mono ?_
  rintro e w1 ⟨tb, pb, bx, rfl, T1, l1, l2, l3, e1⟩
  obtain ⟨m1, m2, m3⟩ := T1.lt
  have HT1 := Lib.hid T1
  have E1 := Lib.hid e1
  have hs1 := e1.size
  obtain ⟨B, hB⟩ : ∃ B, B = w1.heap.size := ⟨_, rfl⟩
  have LT := Lib.hid (show tb < B ∧ pb < B ∧ bx < B ∧ w.heap.size ≤ B by omega)
  clear T1 e1 m1 m2 m3 hs1
  go_wp2_with fail
  go_loopw [10, 11] (fun v i wr => ∃ (j : Nat) (TH : Nat → Value) (FU : Nat → Bool) (GE : Nat → Int), j ≤ 1 + R ∧ i = .int .i64 j ∧ OwnH wr B v j ∧ B ≤ wr.heap.size ∧ Tab_int wr tb pb bx 10 j TH FU GE ∧ Filled 0 j TH FU GE ∧ Ext w wr) (fun _ i _ => 1 + R - (intOf i).toNat)
  case atStart => exact ⟨0, _, _, _, by omega, rfl, OwnH.nil _ _, by omega, HT1.out, Filled.start 0, E1.out⟩
  case round =>
    obtain ⟨j, TH, FU, GE, hj, rfl, own, hBw, tab, fil, ext⟩ := hrel
    have HT := Lib.hid tab
    have HF := Lib.hid fil
    have EX := Lib.hid ext
    have OW := Lib.hid own
    clear tab fil ext own hB
    by_cases hlt : j < 1 + R
    · have HAd := Lib.hid (add_int_ok wr tb pb bx 10 (j : Int) TH FU GE j (j : Int) HT.out (by omega) (HF.out.2 j (Nat.le_refl _)).1 (fun y hy => (HF.out.1 y hy).2.1) (by rw [(HF.out.2 j (Nat.le_refl _)).2]; decide) (by rw [(HF.out.2 j (Nat.le_refl _)).2]; decide) (by omega) (by omega))
      rw [(HF.out.2 j (Nat.le_refl _)).2] at HAd
      go_wp2_with fail
      refine (HAd.out).mono ?_
      rintro e w2 ⟨rfl, T2, b2, f2⟩
      have own2 := OW.out.fr f2 LT.out.1 LT.out.2.1
      have e2 : Ext w w2 := Below.trans EX.out (b2 _ l1 l2 EX.out.size)
      have a2 : Ext w2 (w2.alloc (.cells #[.int .i64 ((j : Int) + 1), .int .i64 1] 29)) := (Ext.refl w2).alloc _
      have hB2 : B ≤ w2.heap.size := Nat.le_trans hBw f2.1
      obtain ⟨v3, w3, hrun, own3, hg3⟩ := (own2.ext a2).push (Nat.le_trans hB2 a2.size) (by omega)
      rw [show (w2.alloc (.cells #[.int .i64 ((j : Int) + 1), .int .i64 1] 29)).heap.size = w2.heap.size + 1 by simp] at hrun
      have hlo := (own2.ext a2).lt
      have a3 := a2.trans ((Ext.refl _).alloc (.cells #[.int .i64 ((j : Int) + 1), .int .i64 1] 29))
      have T3 := (TabI.ext T2 a3).grown hg3 (fun e => by have := hlo _ e; have := LT.out.1; omega) (fun e => by have := hlo _ e; have := LT.out.2.1; omega) (fun e => by have := hlo _ e; have := LT.out.2.2.1; omega)
      have e3 : Ext w w3 := (e2.trans a3).grown hg3 fun k hk => by have := hlo _ hk; have := LT.out.2.2.2; omega
      have hB3 : B ≤ w3.heap.size := Nat.le_trans hB2 (Nat.le_trans a3.size hg3.size)
      have HT3 := Lib.hid T3
      have E3 := Lib.hid e3
      have OW3 := Lib.hid own3
      have HR := Lib.hid hrun
      clear T2 b2 f2 own2 e2 a2 hg3 hlo a3 T3 e3 own3 hrun hB2
      go_wp2_with (first | (at_builtin; refine wpList_append_run rfl (.tmp 46) (.tmp 48) _ rfl _ _ rfl rfl v3 w3 HR.out ?_) | fail)
      go_roundw
      case rel => exact ⟨j + 1, _, _, _, by omega, by go_num, OW3.out, hB3, by rw [show ((j + 1 : Nat) : Int) = (j : Int) + 1 by omega]; exact HT3.out, by have := HF.out.next; rw [Int.zero_add, (HF.out.2 j (Nat.le_refl _)).2] at this; exact this, E3.out⟩
      case measure => simp [intOf]; omega
    · obtain rfl : j = 1 + R := by omega
      have hPl : P < 1 + R := by omega
      obtain ⟨g, cap, hv, hbg, hc0, hc1⟩ := OW.out.at_ P hPl
      subst hv
      have HPl := Lib.hid hPl
      clear OW hPl
      go_wp2_with fail
      refine (HP.out _).mono ?_
      rintro e w2 ⟨rfl, rfl⟩
      go_wp2_with fail
      have hwg : (wr.alloc (.cells #[.int .i64 ((P : Int) + 1), .int .i64 1] 29)).heap[wr.heap.size]? = _ := heap_alloc_new wr _
      have ag : Ext wr (wr.alloc (.cells #[.int .i64 ((P : Int) + 1), .int .i64 1] 29)) := (Ext.refl wr).alloc _
      have HGO := Lib.hid (show ∀ w', Fr tb pb (wr.alloc (.cells #[.int .i64 ((P : Int) + 1), .int .i64 1] 29)) w' → w'.cell? ⟨wr.heap.size, 0, none⟩ = some (.int .i64 ((P : Int) + 1)) ∧ w'.cell? ⟨wr.heap.size, 1, none⟩ = some (.int .i64 1) from fun w' h => by
        have hk := h.heap hwg (by have := LT.out.1; omega) (by have := LT.out.2.1; omega)
        exact ⟨by rw [cell_of_row _ _ 0 _ _ _ hk]; rfl, by rw [cell_of_row _ _ 1 _ _ _ hk]; rfl⟩)
      have HRm := Lib.hid (remove_int_ok _ tb pb bx 10 ((1 + R : Nat) : Int) 1 P TH FU GE (HT.out.ext ag) (by omega) (HF.out.1 P HPl.out).2.1 (HF.out.1 P HPl.out).2.2 (by omega) (by omega))
      have EG := Lib.hid (EX.out.trans ag)
      have gon0 : Gon P 0 (upd FU P false) (upd GE P 1) := by
        have h1 := HF.out.1
        have h2 := HF.out.2
        have hg : upd GE P 1 = GE := by
          funext x
          unfold upd
          split
          · next e => rw [e, (h1 P HPl.out).2.2]
          · rfl
        rw [hg]
        refine ⟨fun x => ?_, by rw [(h1 P HPl.out).2.2]; omega, .inl (by unfold upd; simp)⟩
        by_cases hx : x < 1 + R
        · rw [(h1 x hx).2.2]; omega
        · rw [(h2 x (by omega)).2]; omega
      have GN := Lib.hid gon0
      have hP10 : P < 10 := by have := HPl.out; omega
      generalize wr.alloc (.cells #[.int .i64 ((P : Int) + 1), .int .i64 1] 29) = wg at *
      generalize wr.heap.size = gb at *
      clear hwg ag gon0 HT HF EX hc0 hc1
      refine (HRm.out).mono ?_
      rintro e w3 ⟨rfl, T3, b3, f3⟩
      have HT3 := Lib.hid T3
      have F3 := Lib.hid f3
      have E3 := Lib.hid (show Ext w w3 from Below.trans EG.out (b3 _ l1 l2 EG.out.size))
      clear T3 b3 f3 HRm
      go_wp2_with fail
      go_loopw [15] (fun i wl => ∃ (j : Nat) (full : Int) (TH : Nat → Value) (FU : Nat → Bool) (GE : Nat → Int), j ≤ 12 ∧ j ≤ bn ∧ i = .int .i64 j ∧ 0 ≤ full ∧ full ≤ 8 + j ∧ Tab_int wl tb pb bx 10 full TH FU GE ∧ Gon P j FU GE ∧ Fr tb pb wg wl ∧ Ext w wl) (fun i _ => 12 - (intOf i).toNat)
      case atStart => exact ⟨0, _, _, _, _, by omega, by omega, rfl, by omega, by omega, HT3.out, GN.out, F3.out, E3.out⟩
      case round =>
        obtain ⟨j, full, TH, FU, GE, hj, hjb, rfl, hf0, hf1, tab, gon, fr, ext⟩ := hrel
        have HT := Lib.hid tab
        have GN := Lib.hid gon
        have FR := Lib.hid fr
        have EX := Lib.hid ext
        clear tab gon fr ext
        by_cases hlt : j < bn
        · by_cases h12 : j < 12
          · obtain ⟨b, off, u, hA, hu, hcb, _⟩ := HZ.out.at_ hlt
            rw [List.getElem?_map] at hu
            obtain ⟨z, hz⟩ : ∃ z, zs[j]? = some z := ⟨zs[j]'(by omega), List.getElem?_eq_getElem (by omega)⟩
            rw [hz] at hu
            simp at hu
            subst hu
            subst hA
            have HCB := Lib.hid hcb
            clear hcb hz
            rcases first_free FU 10 with hff | ⟨q, hq1, hq2, hq3⟩
            · have HAd := Lib.hid (add_int_full _ tb pb bx 10 full TH FU GE (100 + (j : Int)) HT.out hff)
              go_wp2_with fail
              refine (HAd.out).mono ?_
              rintro e w4 ⟨rfl, e4⟩
              have a4 : Ext w4 (w4.alloc (.cells #[.int .i64 0, .int .i64 0] 29)) := (Ext.refl w4).alloc _
              have f4 := (FR.out.ext e4).ext a4
              obtain ⟨d0, d1⟩ := HGO.out _ f4
              have HG := Lib.hid (fun w' h => getint_no w' tb pb bx 10 full ((P : Int) + 1) 1 TH FU GE (HT.out.ext h) (GN.out.stale hP10) (by omega) (by omega))
              have HS := Lib.hid (fun w' h => setint_no w' tb pb bx 10 full ((P : Int) + 1) 1 TH FU GE 5 (HT.out.ext h) (GN.out.stale hP10) (by omega) (by omega))
              have HR := Lib.hid (fun w' h => removeint_no w' tb pb bx 10 full ((P : Int) + 1) 1 TH FU GE (HT.out.ext h) (GN.out.stale hP10) (by omega) (by omega))
              have HTn := Lib.hid (fun w' h => TabI.ext (w' := w') HT.out h)
              have F4 := Lib.hid (f4)
              have E4 := Lib.hid (e4.trans a4)
              have EW := Lib.hid (EX.out.trans (e4.trans a4))
              clear e4 a4 f4
              go_wp2_with fail
              refine (HG.out _ E4.out).mono ?_
              rintro e w5 ⟨rfl, e5⟩
              have F5 := Lib.hid (F4.out.ext e5)
              have E5 := Lib.hid (E4.out.trans e5)
              have EW5 := Lib.hid (EW.out.trans e5)
              obtain ⟨c0, c1⟩ := HGO.out _ F5.out
              clear e5 d0 d1
              go_wp2_with fail
              refine (HS.out _ E5.out).mono ?_
              rintro e w6 ⟨rfl, e6⟩
              have F6 := Lib.hid (F5.out.ext e6)
              have E6 := Lib.hid (E5.out.trans e6)
              have EW6 := Lib.hid (EW5.out.trans e6)
              obtain ⟨d0, d1⟩ := HGO.out _ F6.out
              clear e6 c0 c1
              go_wp2_with fail
              refine (HR.out _ E6.out).mono ?_
              rintro e w7 ⟨rfl, e7⟩
              have F7 := Lib.hid (F6.out.ext e7)
              have E7 := Lib.hid (E6.out.trans e7)
              have EW7 := Lib.hid (EW6.out.trans e7)
              clear e7 d0 d1
              go_wp2
              go_roundw
              case rel => exact ⟨j + 1, full, _, _, _, by omega, by omega, by go_num, by omega, by omega, HTn.out _ E7.out, GN.out.mono (by omega), F7.out, EW7.out⟩
              case measure => simp [intOf]; omega
            · have hgq := (GN.out.1 q)
              have hgp := GN.out.2.1
              have HAd := Lib.hid (add_int_ok _ tb pb bx 10 full TH FU GE q (100 + (j : Int)) HT.out hq1 hq2 hq3 (by omega) (by omega) (by omega) (by omega))
              have G2 := Lib.hid (GN.out.add (q := q))
              have hne : (q = P ∧ (GE q + 1 == 1) = false) ∨ (((q : Int) == (P : Int)) = false ∧ ((q : Int) + 1 == (P : Int) + 1) = false) := by
                by_cases e : q = P
                · subst e
                  exact .inl ⟨rfl, by rw [beq_eq_false_iff_ne]; omega⟩
                · exact .inr ⟨by rw [beq_eq_false_iff_ne]; omega, by rw [beq_eq_false_iff_ne]; omega⟩
              clear hq2 hq3 hgp hgq
              go_wp2_with fail
              refine (HAd.out).mono ?_
              rintro e w4 ⟨rfl, T4, b4, f4⟩
              have e4 : Ext w w4 := Below.trans EX.out (b4 _ l1 l2 EX.out.size)
              have hgx : upd GE q (GE q + 1) q = GE q + 1 := upd_same _ _ _
              have hfx : upd FU q true q = true := upd_same _ _ _
              generalize upd GE q (GE q + 1) = GEx at *
              generalize upd FU q true = FUx at *
              generalize upd TH q _ = THx at *
              generalize GE q + 1 = gq at *
              have a4 : Ext w4 (w4.alloc (.cells #[.int .i64 ((q : Int) + 1), .int .i64 gq] 29)) := (Ext.refl w4).alloc _
              have f4a := (FR.out.trans f4).ext a4
              obtain ⟨d0, d1⟩ := HGO.out _ f4a
              have EW := Lib.hid (e4.trans a4)
              have hcb := EW.out.cell HCB.out
              have F4 := Lib.hid f4a
              have HT4 := Lib.hid (TabI.ext T4 a4)
              have HGX := Lib.hid hgx
              have HFX := Lib.hid hfx
              clear T4 b4 f4 a4 f4a e4 HAd hgx hfx
              rcases hne with ⟨rfl, hn1⟩ | ⟨hn1, hn2⟩
              · cases z with
                | false =>
                  have HG := Lib.hid (fun w' h => getint_no w' tb pb bx 10 _ ((q : Int) + 1) 1 _ FUx GEx (HT4.out.ext h) (G2.out.stale hP10) (by omega) (by omega))
                  have HS := Lib.hid (fun w' h => setint_no w' tb pb bx 10 _ ((q : Int) + 1) 1 _ FUx GEx 5 (HT4.out.ext h) (G2.out.stale hP10) (by omega) (by omega))
                  have HR := Lib.hid (fun w' h => removeint_no w' tb pb bx 10 _ ((q : Int) + 1) 1 _ FUx GEx (HT4.out.ext h) (G2.out.stale hP10) (by omega) (by omega))
                  have HTn := Lib.hid (fun w' h => TabI.ext (w' := w') HT4.out h)
                  have E4 := Lib.hid (Ext.refl (w4.alloc (.cells #[.int .i64 ((q : Int) + 1), .int .i64 gq] 29)))
                  go_wp2_with fail
                  refine (HG.out _ E4.out).mono ?_
                  rintro e w5 ⟨rfl, e5⟩
                  have F5 := Lib.hid (F4.out.ext e5)
                  have E5 := Lib.hid (E4.out.trans e5)
                  have EW5 := Lib.hid (EW.out.trans e5)
                  obtain ⟨c0, c1⟩ := HGO.out _ F5.out
                  clear e5 d0 d1
                  go_wp2_with fail
                  refine (HS.out _ E5.out).mono ?_
                  rintro e w6 ⟨rfl, e6⟩
                  have F6 := Lib.hid (F5.out.ext e6)
                  have E6 := Lib.hid (E5.out.trans e6)
                  have EW6 := Lib.hid (EW5.out.trans e6)
                  obtain ⟨d0, d1⟩ := HGO.out _ F6.out
                  clear e6 c0 c1
                  go_wp2_with fail
                  refine (HR.out _ E6.out).mono ?_
                  rintro e w7 ⟨rfl, e7⟩
                  have F7 := Lib.hid (F6.out.ext e7)
                  have E7 := Lib.hid (E6.out.trans e7)
                  have EW7 := Lib.hid (EW6.out.trans e7)
                  clear e7 d0 d1
                  go_wp2
                  go_roundw
                  case rel => exact ⟨j + 1, _, _, _, _, by omega, by omega, by go_num, by omega, by omega, HTn.out _ E7.out, G2.out, F7.out, EW7.out⟩
                  case measure => simp [intOf]; omega
                | true =>
                  have HRq := Lib.hid (remove_int_ok _ tb pb bx 10 (full + 1) gq q THx FUx GEx HT4.out hq1 HFX.out HGX.out (by omega) (by omega))
                  have G3 := G2.out.rem (q := q)
                  rw [HGX.out] at G3
                  have GX := Lib.hid G3
                  clear G3
                  go_wp2_with fail
                  refine (HRq.out).mono ?_
                  rintro e wb ⟨rfl, T5, b5, f5⟩
                  have fb := F4.out.trans f5
                  have eb : Ext w wb := Below.trans EW.out (b5 _ l1 l2 EW.out.size)
                  clear d0 d1
                  obtain ⟨d0, d1⟩ := HGO.out _ fb
                  have HT5 := Lib.hid T5
                  clear F4 EW hcb T5 b5 f5
                  have F4 := Lib.hid fb
                  have EW := Lib.hid eb
                  have E4 := Lib.hid (Ext.refl wb)
                  clear fb eb
                  have HG := Lib.hid (fun w' h => getint_no w' tb pb bx 10 _ ((q : Int) + 1) 1 _ _ _ (HT5.out.ext h) (GX.out.stale hP10) (by omega) (by omega))
                  have HS := Lib.hid (fun w' h => setint_no w' tb pb bx 10 _ ((q : Int) + 1) 1 _ _ _ 5 (HT5.out.ext h) (GX.out.stale hP10) (by omega) (by omega))
                  have HR := Lib.hid (fun w' h => removeint_no w' tb pb bx 10 _ ((q : Int) + 1) 1 _ _ _ (HT5.out.ext h) (GX.out.stale hP10) (by omega) (by omega))
                  have HTn := Lib.hid (fun w' h => TabI.ext (w' := w') HT5.out h)
                  go_wp2_with fail
                  refine (HG.out _ E4.out).mono ?_
                  rintro e w5 ⟨rfl, e5⟩
                  have F5 := Lib.hid (F4.out.ext e5)
                  have E5 := Lib.hid (E4.out.trans e5)
                  have EW5 := Lib.hid (EW.out.trans e5)
                  obtain ⟨c0, c1⟩ := HGO.out _ F5.out
                  clear e5 d0 d1
                  go_wp2_with fail
                  refine (HS.out _ E5.out).mono ?_
                  rintro e w6 ⟨rfl, e6⟩
                  have F6 := Lib.hid (F5.out.ext e6)
                  have E6 := Lib.hid (E5.out.trans e6)
                  have EW6 := Lib.hid (EW5.out.trans e6)
                  obtain ⟨d0, d1⟩ := HGO.out _ F6.out
                  clear e6 c0 c1
                  go_wp2_with fail
                  refine (HR.out _ E6.out).mono ?_
                  rintro e w7 ⟨rfl, e7⟩
                  have F7 := Lib.hid (F6.out.ext e7)
                  have E7 := Lib.hid (E6.out.trans e7)
                  have EW7 := Lib.hid (EW6.out.trans e7)
                  clear e7 d0 d1
                  go_wp2
                  go_roundw
                  case rel => exact ⟨j + 1, _, _, _, _, by omega, by omega, by go_num, by omega, by omega, HTn.out _ E7.out, GX.out, F7.out, EW7.out⟩
                  case measure => simp [intOf]; omega
              · cases z with
                | false =>
                  have HG := Lib.hid (fun w' h => getint_no w' tb pb bx 10 _ ((P : Int) + 1) 1 _ FUx GEx (HT4.out.ext h) (G2.out.stale hP10) (by omega) (by omega))
                  have HS := Lib.hid (fun w' h => setint_no w' tb pb bx 10 _ ((P : Int) + 1) 1 _ FUx GEx 5 (HT4.out.ext h) (G2.out.stale hP10) (by omega) (by omega))
                  have HR := Lib.hid (fun w' h => removeint_no w' tb pb bx 10 _ ((P : Int) + 1) 1 _ FUx GEx (HT4.out.ext h) (G2.out.stale hP10) (by omega) (by omega))
                  have HTn := Lib.hid (fun w' h => TabI.ext (w' := w') HT4.out h)
                  have E4 := Lib.hid (Ext.refl (w4.alloc (.cells #[.int .i64 ((q : Int) + 1), .int .i64 gq] 29)))
                  go_wp2_with fail
                  refine (HG.out _ E4.out).mono ?_
                  rintro e w5 ⟨rfl, e5⟩
                  have F5 := Lib.hid (F4.out.ext e5)
                  have E5 := Lib.hid (E4.out.trans e5)
                  have EW5 := Lib.hid (EW.out.trans e5)
                  obtain ⟨c0, c1⟩ := HGO.out _ F5.out
                  clear e5 d0 d1
                  go_wp2_with fail
                  refine (HS.out _ E5.out).mono ?_
                  rintro e w6 ⟨rfl, e6⟩
                  have F6 := Lib.hid (F5.out.ext e6)
                  have E6 := Lib.hid (E5.out.trans e6)
                  have EW6 := Lib.hid (EW5.out.trans e6)
                  obtain ⟨d0, d1⟩ := HGO.out _ F6.out
                  clear e6 c0 c1
                  go_wp2_with fail
                  refine (HR.out _ E6.out).mono ?_
                  rintro e w7 ⟨rfl, e7⟩
                  have F7 := Lib.hid (F6.out.ext e7)
                  have E7 := Lib.hid (E6.out.trans e7)
                  have EW7 := Lib.hid (EW6.out.trans e7)
                  clear e7 d0 d1
                  go_wp2
                  go_roundw
                  case rel => exact ⟨j + 1, _, _, _, _, by omega, by omega, by go_num, by omega, by omega, HTn.out _ E7.out, G2.out, F7.out, EW7.out⟩
                  case measure => simp [intOf]; omega
                | true =>
                  have HRq := Lib.hid (remove_int_ok _ tb pb bx 10 (full + 1) gq q THx FUx GEx HT4.out hq1 HFX.out HGX.out (by omega) (by omega))
                  have G3 := G2.out.rem (q := q)
                  rw [HGX.out] at G3
                  have GX := Lib.hid G3
                  clear G3
                  go_wp2_with fail
                  refine (HRq.out).mono ?_
                  rintro e wb ⟨rfl, T5, b5, f5⟩
                  have fb := F4.out.trans f5
                  have eb : Ext w wb := Below.trans EW.out (b5 _ l1 l2 EW.out.size)
                  clear d0 d1
                  obtain ⟨d0, d1⟩ := HGO.out _ fb
                  have HT5 := Lib.hid T5
                  clear F4 EW hcb T5 b5 f5
                  have F4 := Lib.hid fb
                  have EW := Lib.hid eb
                  have E4 := Lib.hid (Ext.refl wb)
                  clear fb eb
                  have HG := Lib.hid (fun w' h => getint_no w' tb pb bx 10 _ ((P : Int) + 1) 1 _ _ _ (HT5.out.ext h) (GX.out.stale hP10) (by omega) (by omega))
                  have HS := Lib.hid (fun w' h => setint_no w' tb pb bx 10 _ ((P : Int) + 1) 1 _ _ _ 5 (HT5.out.ext h) (GX.out.stale hP10) (by omega) (by omega))
                  have HR := Lib.hid (fun w' h => removeint_no w' tb pb bx 10 _ ((P : Int) + 1) 1 _ _ _ (HT5.out.ext h) (GX.out.stale hP10) (by omega) (by omega))
                  have HTn := Lib.hid (fun w' h => TabI.ext (w' := w') HT5.out h)
                  go_wp2_with fail
                  refine (HG.out _ E4.out).mono ?_
                  rintro e w5 ⟨rfl, e5⟩
                  have F5 := Lib.hid (F4.out.ext e5)
                  have E5 := Lib.hid (E4.out.trans e5)
                  have EW5 := Lib.hid (EW.out.trans e5)
                  obtain ⟨c0, c1⟩ := HGO.out _ F5.out
                  clear e5 d0 d1
                  go_wp2_with fail
                  refine (HS.out _ E5.out).mono ?_
                  rintro e w6 ⟨rfl, e6⟩
                  have F6 := Lib.hid (F5.out.ext e6)
                  have E6 := Lib.hid (E5.out.trans e6)
                  have EW6 := Lib.hid (EW5.out.trans e6)
                  obtain ⟨d0, d1⟩ := HGO.out _ F6.out
                  clear e6 c0 c1
                  go_wp2_with fail
                  refine (HR.out _ E6.out).mono ?_
                  rintro e w7 ⟨rfl, e7⟩
                  have F7 := Lib.hid (F6.out.ext e7)
                  have E7 := Lib.hid (E6.out.trans e7)
                  have EW7 := Lib.hid (EW6.out.trans e7)
                  clear e7 d0 d1
                  go_wp2
                  go_roundw
                  case rel => exact ⟨j + 1, _, _, _, _, by omega, by omega, by go_num, by omega, by omega, HTn.out _ E7.out, GX.out, F7.out, EW7.out⟩
                  case measure => simp [intOf]; omega
          · go_wp2_with fail
            refine (lives10 _).mono ?_
            rintro e w6 ⟨rfl, e6⟩
            go_wp2
            go_ret
            exact ⟨rfl, EX.out.trans e6⟩
        · go_wp2_with fail
          refine (lives10 _).mono ?_
          rintro e w6 ⟨rfl, e6⟩
          go_wp2
          go_ret
          exact ⟨rfl, EX.out.trans e6⟩
end Go.Proofs.Ytmljfaihkcldnaa
