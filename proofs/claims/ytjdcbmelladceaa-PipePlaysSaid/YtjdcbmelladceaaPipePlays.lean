/-
  The statement PipePlays: its walk.
-/
import Derived.Test.YtjdcbmelladceaaPipN
namespace Go.Proofs.Ytjdcbmelladceaa
open Go Go.RowKit
set_option linter.unusedVariables false
set_option linter.unusedSimpArgs false
def PRel (w0 : World) (tb cb wb : Nat) (z : List Int) (As : Option Addr) (L cs k : Nat) (wr : World) : Prop :=
  ∃ (F : Nat → Prop) (T : List (List UInt8)) (At c n : Nat) (A : Option Addr), Pip wr F tb cb T z (At % L) ∧ wr.heap[wb]? = some (.cells #[.slice A n c, .slice As L cs, .int .i64 (At : Int)] 31 (0, 0)) ∧ n = T.length ∧ Sees wr A n c (T.map strV) ∧
    (∀ a, A = some a → 0 < n → ¬ a.block = tb ∧ ¬ a.block = cb ∧ ¬ a.block = wb) ∧ At ≤ k ∧ n ≤ k ∧ T.flatten.length ≤ 20 * k ∧ (∀ j, F j → w0.heap.size ≤ j ∧ j < wr.heap.size) ∧ ¬ F wb ∧ Ext w0 wr
theorem PRel.ext {w0 w w' : World} {tb cb wb : Nat} {z : List Int} {As : Option Addr} {L cs k : Nat} (h : PRel w0 tb cb wb z As L cs k w) (he : Ext w w') : PRel w0 tb cb wb z As L cs k w' := by
  obtain ⟨F, T, At, c, n, A, h1, h2, h3, h4, h5, h6, h7, h8, h9, h10, h11⟩ := h
  exact ⟨F, T, At, c, n, A, h1.keep (Kp.of_ext he), he.heap h2, h3, h4.ext he, h5, h6, h7, h8, fun j q => by have := h9 j q; have := he.size; omega, h10, h11.trans he⟩
theorem take_min (l : List UInt8) (n : Nat) : l.take (min n l.length) = l.take n := by
  by_cases hc : n ≤ l.length
  · rw [Nat.min_eq_left hc]
  · rw [Nat.min_eq_right (by omega), List.take_of_length_le (Nat.le_refl _), List.take_of_length_le (by omega)]
theorem oneT_ne {l : List UInt8} (h : ¬ l = []) : oneT l = [l] := by
  cases l with
  | nil => exact absurd rfl h
  | cons a r => rfl
theorem szF_mem (z : List Int) (a : Nat) (h : ∀ x ∈ z, 0 ≤ x ∧ x ≤ 9) : szF z a ≤ 9 := by
  unfold szF
  rw [List.getD_eq_getElem?_getD]
  cases hz : z[a]? with
  | none => simp
  | some x =>
    have := h x (List.mem_of_getElem? hz)
    simp
    omega
set_option maxRecDepth 20000 in
set_option maxHeartbeats 8000000 in
theorem pplays_walk (A : Option Addr) (n c : Nat) (zs : List Int) (A1 : Option Addr) (n1 c1 : Nat) (rows : List (List Int)) (w : World) (hs : Sees w A n c (zs.map (Value.int .i64))) (hb : ∀ x ∈ zs, -9223372036854775808 ≤ x ∧ x ≤ 9223372036854775807) (h1 : SeesRows .u8 w A1 n1 c1 rows) :
    Calls Try.prog 3 #[.slice A n c, .slice A1 n1 c1] w fun e w' => e = .returned (.bool true) ∧ Ext w w' := by
  have hle1 := h1.2.1
  have hmx1 := h1.2.2.1
  unfold maxLen at hmx1
  have H1 := Lib.hid h1
  have HG := Lib.hid (good_any A n c zs w hs hb)
  obtain ⟨z, hz⟩ : ∃ z, goodZ zs = z := ⟨_, rfl⟩
  have HZ : Hid (Goes z ∧ (okB z && smB z) = true ∧ (∀ x ∈ z, 0 ≤ x ∧ x ≤ 9) ∧ z.length ≤ 6) := Lib.hid (by subst hz; exact ⟨goodZ_goes zs, goodZ_may zs, goodZ_mem zs, (goodZ_len zs).2⟩)
  rw [hz] at HG
  clear h1 hs hb hz
  obtain ⟨L, hL⟩ : ∃ L, z.length = L := ⟨_, rfl⟩
  have hL0 : 0 < L := by have := HZ.out.1.1; omega
  have hL6 : L ≤ 6 := by have := HZ.out.2.2.2; omega
  have HLE := Lib.hid hL
  unfold PGood at HG
  rw [hL] at HG
  clear hL
  go_enter Try.func3, Try.ntmps3
  go_wp2_with fail
  refine HG.out.mono ?_
  rintro e w0 ⟨As, cs, rfl, hss, e0⟩
  have hsl := hss.le
  have hsm := hss.max
  unfold maxLen at hsm
  have HSS := Lib.hid hss
  have E0 := Lib.hid e0
  have HN := Lib.hid (pnew_ok As L cs z w0 hss HZ.out.1.1 HZ.out.2.1 (fun x hx => by have := HZ.out.2.2.1 x hx; omega) (by have := HZ.out.2.2.2; omega))
  clear hss e0 HG
  go_wp2_with fail
  refine HN.out.mono ?_
  rintro e w1 ⟨tb, cb, rfl, hp, e1⟩
  have HT : Hid (w0.heap.size ≤ tb ∧ w0.heap.size ≤ cb) := Lib.hid (by have := hp.1.inF; exact ⟨this.1.1, this.2.1⟩)
  obtain ⟨F1, HP1⟩ : ∃ F : Nat → Prop, Hid (Pip w1 F tb cb [] z 0 ∧ (∀ k, F k → w0.heap.size ≤ k ∧ k < w1.heap.size)) := ⟨_, Lib.hid ⟨hp, fun k q => q⟩⟩
  have E1 := Lib.hid e1
  clear hp e1 HN
  go_wp2_with fail
  refine (rnew_any As L cs hL0 (by omega) w1).mono ?_
  rintro e w2 ⟨rfl, e2⟩
  have ea : Ext w2 (w2.alloc (.cells #[.slice none 0 0, .slice As L cs, .int .i64 0] 31)) := (Ext.refl w2).alloc _
  have hblk := heap_alloc_new w2 (.cells #[.slice none 0 0, .slice As L cs, .int .i64 0] 31)
  have HST : Hid (PRel w0 tb cb w2.heap.size z As L cs 0 (w2.alloc (.cells #[.slice none 0 0, .slice As L cs, .int .i64 0] 31))) := Lib.hid ⟨F1, [], 0, 0, 0, none, by rw [Nat.zero_mod]; exact HP1.out.1.keep (Kp.of_ext (e2.trans ea)), hblk, rfl, Sees.nil _, (fun a ha => by cases ha), by omega, by omega, by simp, fun j q => by
      have := HP1.out.2 j q
      have := e2.size
      have := ea.size
      omega, fun q => by have := HP1.out.2 _ q; have := e2.size; omega, (E1.out.trans e2).trans ea⟩
  have HWB : Hid (w0.heap.size ≤ w2.heap.size) := Lib.hid (by have := E1.out.size; have := e2.size; omega)
  clear ea hblk e2 E1
  go_wp2_with fail
  obtain ⟨w3, hw3⟩ : ∃ w3, w2.alloc (.cells #[.slice none 0 0, .slice As L cs, .int .i64 0] 31) = w3 := ⟨_, rfl⟩
  rw [hw3] at HST ⊢
  obtain ⟨wb, hwb⟩ : ∃ wb, w2.heap.size = wb := ⟨_, rfl⟩
  rw [hwb] at HST HWB ⊢
  clear hw3 hwb HP1
  go_loopw [9] (fun iv wr => ∃ k : Nat, k ≤ n1 ∧ k ≤ 24 ∧ iv = .int .i64 (k : Int) ∧ PRel w0 tb cb wb z As L cs k wr) (fun iv _ => 24 - (intOf iv).toNat)
  case atStart => exact ⟨0, by omega, by omega, rfl, HST.out⟩
  case round =>
    obtain ⟨k, hk, hk24, rfl, F, T, At, c0, n0, A0, hp, hblk, hnT, hst, haw, hAt, hn0k, hfl, hF, hFw, ext⟩ := hrel
    have HP := Lib.hid hp
    have HBK := Lib.hid hblk
    have HNT := Lib.hid hnT
    have HSEE := Lib.hid hst
    have HAW := Lib.hid haw
    have HFL := Lib.hid hfl
    have HF := Lib.hid hF
    have HFW := Lib.hid hFw
    have EX := Lib.hid ext
    have hc0l := hst.le
    have hc0m := hst.max
    unfold maxLen at hc0m
    clear hp hblk hnT hst haw hfl hF hFw ext HST
    by_cases hlt : k < n1 ∧ k < 24
    · obtain ⟨hlt1, hlt2⟩ := hlt
      obtain ⟨br, offr, Ar, nr, cr, r, rfl, hc, hsr⟩ := (H1.out.ext (E0.out.trans EX.out)).bytes k hlt1
      have HSR := Lib.hid hsr
      clear hsr
      go_wp2_with fail
      refine (few_nat Ar nr cr 20 20 (bs r) wr HSR.out (bs_one _) (by omega) (by omega) rfl).mono ?_
      rintro e w4 ⟨v4, rfl, hown4, e4⟩
      rw [bs_take] at hown4
      obtain ⟨m, hm⟩ : ∃ m, min nr 20 = m := ⟨_, rfl⟩
      rw [hm] at hown4
      have hm20 : m ≤ 20 := by omega
      obtain ⟨A4, c4, rfl, hs4⟩ := Sees.of_own hown4
      obtain ⟨bl, hbl⟩ : ∃ bl, r.take 20 = bl := ⟨_, rfl⟩
      rw [hbl] at hs4 hown4
      have HBL : Hid (bl.length = m) := Lib.hid (by have := hown4.1; rw [bs_length] at this; exact (by omega))
      have HB4 : Hid (∀ a, A4 = some a → wr.heap.size ≤ a.block ∧ a.block < w4.heap.size) := Lib.hid (fun a ha => hown4.lt a.block (by rw [ha]; rfl))
      have E4 := Lib.hid e4
      have HS4 := Lib.hid hs4
      have hc4l := hs4.le
      have hc4m := hs4.max
      unfold maxLen at hc4m
      have hblk4 := e4.heap HBK.out
      have HBK4 := Lib.hid hblk4
      have x0 := cell_of_row w4 wb 0 _ _ _ hblk4
      have x1 := cell_of_row w4 wb 1 _ _ _ hblk4
      have x2 := cell_of_row w4 wb 2 _ _ _ hblk4
      simp at x0 x1 x2
      have HSE4 := Lib.hid (HSEE.out.ext e4)
      have HP4 := Lib.hid (HP.out.keep (Kp.of_ext e4))
      have hwbl : wb < wr.heap.size := (Array.getElem?_eq_some_iff.1 HBK.out).1
      clear hown4 hs4 e4 hm hc hbl hblk4
      have hbr : (m = 0 ∨ (0 < m ∧ ∃ (b4 o4 : Nat) (v : Int), A4 = some ⟨b4, o4, none⟩ ∧ w4.cell? ⟨b4, o4, none⟩ = some (.int .u8 v) ∧ 0 ≤ v ∧ v < 256 ∧ v % 3 = 0)) ∨ (0 < m ∧ ∃ (b4 o4 : Nat) (v : Int), A4 = some ⟨b4, o4, none⟩ ∧ w4.cell? ⟨b4, o4, none⟩ = some (.int .u8 v) ∧ 0 ≤ v ∧ v < 256 ∧ ¬ v % 3 = 0) := by
        by_cases hm0 : m = 0
        · exact .inl (.inl hm0)
        · have hm1 : 0 < m := by omega
          obtain ⟨b, off, u, hA, hu, hcl, _⟩ := HS4.out.at_ hm1
          obtain ⟨hj, rfl⟩ := bs_get bl 0 u hu
          have := (bl[0]).toNat_lt
          by_cases h3 : ((bl[0]).toNat : Int) % 3 = 0
          · exact .inl (.inr ⟨hm1, b, off, _, hA, hcl, by omega, by omega, h3⟩)
          · exact .inr ⟨hm1, b, off, _, hA, hcl, by omega, by omega, h3⟩
      rcases hbr with hbr | ⟨hm1, b4, o4, v, rfl, hcv, hv0, hv1, hv3⟩
      · by_cases hT0 : n0 = 0
        · subst hT0
          have HTE : Hid (T = []) := Lib.hid (List.eq_nil_of_length_eq_zero HNT.out.symm)
          rcases hbr with hm0 | ⟨hm1, b4, o4, v, rfl, hcv, hv0, hv1, hv3⟩
          · subst hm0
            go_wp2_with fail
            refine (rnext_none A0 c0 As L cs At w4).mono ?_
            rintro e w5 ⟨rfl, e5⟩
            obtain ⟨A5, hA5⟩ : ∃ A5, A0 = A5 := ⟨_, rfl⟩
            obtain ⟨n5, hn5⟩ : ∃ n5 : Nat, n5 = 0 := ⟨_, rfl⟩
            subst hn5
            obtain ⟨c5, hc5⟩ : ∃ c5, c0 = c5 := ⟨_, rfl⟩
            subst hA5 hc5
            obtain ⟨wn, hwn⟩ : ∃ wn, w5.alloc (.cells #[.slice A0 0 c0, .slice As L cs, .int .i64 (At : Int)] 31) = wn := ⟨_, rfl⟩
            have ea5 : Ext w5 wn := by rw [← hwn]; exact (Ext.refl w5).alloc _
            have hln : wn.heap[w5.heap.size]? = some (.cells #[.slice A0 0 c0, .slice As L cs, .int .i64 (At : Int)] 31 (0, 0)) := by rw [← hwn]; exact heap_alloc_new w5 _
            have hblk5 := (e5.trans ea5).heap HBK4.out
            have u0 := cell_of_row wn wb 0 _ _ _ hblk5
            have u1 := cell_of_row wn wb 1 _ _ _ hblk5
            have u2 := cell_of_row wn wb 2 _ _ _ hblk5
            have l0 := cell_of_row wn w5.heap.size 0 _ _ _ hln
            have l1 := cell_of_row wn w5.heap.size 1 _ _ _ hln
            have l2 := cell_of_row wn w5.heap.size 2 _ _ _ hln
            simp at u0 u1 u2 l0 l1 l2
            have t0 := Lib.frozen_of_heap hblk5 0
            have t1 := Lib.frozen_of_heap hblk5 1
            have t2 := Lib.frozen_of_heap hblk5 2
            obtain ⟨w6, hw6⟩ : ∃ w6, (((wn.setCell ⟨wb, 0, none⟩ (.slice A0 0 c0)).setCell ⟨wb, 1, none⟩ (.slice As L cs)).setCell ⟨wb, 2, none⟩ (.int .i64 (At : Int))) = w6 := ⟨_, rfl⟩
            have hb6 : w6.heap[wb]? = some (.cells #[.slice A0 0 c0, .slice As L cs, .int .i64 (At : Int)] 31 (0, 0)) := by rw [← hw6]; exact set3P hblk5
            have hk6 : Kp (fun j => ¬ j = wb) wn w6 := by rw [← hw6]; exact (((Kp.refl _ wn).set wb 0 _ (fun q => q rfl)).set wb 1 _ (fun q => q rfl)).set wb 2 _ (fun q => q rfl)
            have e45 := e5.trans ea5
            have hk46 : Kp (fun j => ¬ j = wb) w4 w6 := (Kp.of_ext e45).trans hk6
            have e6 : Ext w0 w6 := by
              have hx := (EX.out.trans E4.out).trans e45
              have := HWB.out
              exact ⟨hk6.os.trans hx.os, hk6.tape.trans hx.tape, hk6.output.trans hx.output, Nat.le_trans hx.size hk6.size, fun j hj => (hk6.block j (by omega) (Nat.lt_of_lt_of_le hj hx.size)).trans (hx.block j hj)⟩
            have HB6 := Lib.hid hb6
            have HK6 := Lib.hid hk6
            have HP6 := Lib.hid (HP4.out.keep (hk46.mono fun j q e => HFW.out (e ▸ q)))
            have HK46 := Lib.hid hk46
            have E6 := Lib.hid e6
            have HSZ6 : Hid (w4.heap.size ≤ w6.heap.size) := Lib.hid hk46.size
            have hw0 : w5.heap.size < wn.heap.size := (Array.getElem?_eq_some_iff.1 hln).1
            clear hblk5 e5 ea5 hln hb6 hk6 e45 hk46 e6 x0 x1 x2
            have HPZ := Lib.hid (by have h1 := HP6.out; rw [HTE.out] at h1; exact h1)
            go_wp2_with fail
            refine (pnext_none F tb cb z _ w6 HPZ.out).mono ?_
            rintro e w7 ⟨rfl, rfl⟩
            have ts := str_of (l := []) (Sees.nil w6)
            have HR : Hid (PRel w0 tb cb wb z As L cs (k + 1) w6) := Lib.hid ⟨F, [], At, c0, 0, A0, HPZ.out, HB6.out, rfl, by
                have h1 := HSE4.out
                rw [HTE.out] at h1
                exact ⟨h1.1, h1.2.1, h1.2.2.1, h1.2.2.2.1, fun h => absurd h (by omega)⟩, fun a ha hnn => absurd hnn (by omega), by omega, by omega, by simp, fun j q => by have := HF.out j q; have := HSZ6.out; have := E4.out.size; omega, HFW.out, E6.out⟩
            obtain ⟨wt, hwt⟩ : ∃ wt, wt = w6 := ⟨_, rfl⟩
            subst hwt
            go_wp2_with fail
            have hrel2 := HR.out
            obtain ⟨F2, T2, At2, c2', n2, A2, hp2, hblk2, hn2, hst2, haw2, hAt2, hn2k, hfl2, hF2, hFw2, ext2⟩ := hrel2
            obtain ⟨S, hS⟩ : ∃ S, T2.flatten.length = S := ⟨_, rfl⟩
            have HL1 := Lib.hid (pleft_any F2 tb cb _ _ _ z _ wt.drew ((hp2.keep (Kp.of_ext (Ext.refl wt).drew)).1))
            rw [hS] at HL1
            have HST2 := Lib.hid hst2
            have HP2 := Lib.hid hp2
            have HN2 := Lib.hid hn2
            have HS2 := Lib.hid hS
            have hS480 : S ≤ 1000 := by omega
            have y0 := cell_of_row wt wb 0 _ _ _ hblk2
            have y1 := cell_of_row wt wb 1 _ _ _ hblk2
            have y2 := cell_of_row wt wb 2 _ _ _ hblk2
            simp at y0 y1 y2
            have Y0 := Lib.hid y0
            have Y1 := Lib.hid y1
            have Y2 := Lib.hid y2
            clear hp2 hblk2 hn2 hst2 haw2 hfl2 hF2 hFw2 ext2 hS y0 y1 y2
            refine wp_region_pl (.free 0 (.free 2 (.one 1 (.one 3 (.free 4 (.free 5 (.free 6 (.free 8 (.free 9 (.free 10 (.one 7 (.free 11 (.free 12 .nil))))))))))))) (by kernel_rfl) (by kernel_rfl) (by kernel_rfl) (by kernel_rfl) ?_
            iterate 2 (refine pl_val (v := ?_) rfl rfl (fun w' hw' => ?_) ?_; rotate_left; (· have v0 := hw'.cell Y0.out; have v1 := hw'.cell Y1.out; have v2 := hw'.cell Y2.out; go_simp; try with_reducible rfl); simp only [Act.put, List.setIfInBounds_toArray, List.set_cons_zero, List.set_cons_succ])
            refine pl_call 17 #[.pointer (some ⟨tb, 0, none⟩)] rfl rfl (by go_simp) ?_
            refine HL1.out.mono ?_
            rintro e w7 ⟨rfl, rfl⟩
            refine ⟨_, rfl, Ext.refl _, ?_⟩
            simp only [Act.put, List.setIfInBounds_toArray, List.set_cons_zero, List.set_cons_succ]
            refine pl_call 18 #[refP A2 n2 c2' As L cs At2] rfl rfl (by go_simp) ?_
            refine (rleft_any A2 n2 c2' As L cs At2 T2 _ S HS2.out (HST2.out.ext (Ext.refl wt).drew) (by omega)).mono ?_
            rintro e w8 ⟨rfl, e8⟩
            refine ⟨_, rfl, e8, ?_⟩
            simp only [Act.put, List.setIfInBounds_toArray, List.set_cons_zero, List.set_cons_succ]
            have hx8 := (Ext.refl wt).drew.trans e8
            have E8 := Lib.hid hx8
            have Y8 := Lib.hid (hx8.cell Y0.out)
            have HTX := Lib.hid (ptexts_any F2 tb cb T2 z _ w8 (HP2.out.keep (Kp.of_ext hx8)))
            rw [← HN2.out] at HTX
            clear hx8 e8
            iterate 3 (refine pl_val (v := ?_) rfl rfl (fun w' hw' => ?_) ?_; rotate_left; (· skip; go_simp; try with_reducible rfl); simp only [Act.put, List.setIfInBounds_toArray, List.set_cons_zero, List.set_cons_succ])
            iterate 3 (refine pl_val (v := ?_) rfl rfl (fun w' hw' => ?_) ?_; rotate_left; (· have v0 := hw'.cell Y8.out; go_simp; try with_reducible rfl); simp only [Act.put, List.setIfInBounds_toArray, List.set_cons_zero, List.set_cons_succ])
            refine pl_call 19 #[.pointer (some ⟨tb, 0, none⟩)] rfl rfl (by go_simp) ?_
            refine HTX.out.mono ?_
            rintro e w9 ⟨rfl, rfl⟩
            refine ⟨_, rfl, Ext.refl _, ?_⟩
            simp only [Act.put, List.setIfInBounds_toArray, List.set_cons_zero, List.set_cons_succ]
            iterate 2 (refine pl_val (v := ?_) rfl rfl (fun w' hw' => ?_) ?_; rotate_left; (· skip; go_simp; try with_reducible rfl); simp only [Act.put, List.setIfInBounds_toArray, List.set_cons_zero, List.set_cons_succ])
            refine pl_done ?_
            have HRF := Lib.hid (HR.out.ext E8.out)
            go_wp2_with fail
            go_roundw
            case rel => exact ⟨k + 1, by omega, by omega, by go_num, HRF.out⟩
            case measure => simp [intOf]; omega
          · have hmI : ((m : Int) == 0) = false := by simpa using (show ¬ m = 0 by omega)
            go_wp2_with fail
            refine (rnext_none A0 c0 As L cs At w4).mono ?_
            rintro e w5 ⟨rfl, e5⟩
            obtain ⟨A5, hA5⟩ : ∃ A5, A0 = A5 := ⟨_, rfl⟩
            obtain ⟨n5, hn5⟩ : ∃ n5 : Nat, n5 = 0 := ⟨_, rfl⟩
            subst hn5
            obtain ⟨c5, hc5⟩ : ∃ c5, c0 = c5 := ⟨_, rfl⟩
            subst hA5 hc5
            obtain ⟨wn, hwn⟩ : ∃ wn, w5.alloc (.cells #[.slice A0 0 c0, .slice As L cs, .int .i64 (At : Int)] 31) = wn := ⟨_, rfl⟩
            have ea5 : Ext w5 wn := by rw [← hwn]; exact (Ext.refl w5).alloc _
            have hln : wn.heap[w5.heap.size]? = some (.cells #[.slice A0 0 c0, .slice As L cs, .int .i64 (At : Int)] 31 (0, 0)) := by rw [← hwn]; exact heap_alloc_new w5 _
            have hblk5 := (e5.trans ea5).heap HBK4.out
            have u0 := cell_of_row wn wb 0 _ _ _ hblk5
            have u1 := cell_of_row wn wb 1 _ _ _ hblk5
            have u2 := cell_of_row wn wb 2 _ _ _ hblk5
            have l0 := cell_of_row wn w5.heap.size 0 _ _ _ hln
            have l1 := cell_of_row wn w5.heap.size 1 _ _ _ hln
            have l2 := cell_of_row wn w5.heap.size 2 _ _ _ hln
            simp at u0 u1 u2 l0 l1 l2
            have t0 := Lib.frozen_of_heap hblk5 0
            have t1 := Lib.frozen_of_heap hblk5 1
            have t2 := Lib.frozen_of_heap hblk5 2
            obtain ⟨w6, hw6⟩ : ∃ w6, (((wn.setCell ⟨wb, 0, none⟩ (.slice A0 0 c0)).setCell ⟨wb, 1, none⟩ (.slice As L cs)).setCell ⟨wb, 2, none⟩ (.int .i64 (At : Int))) = w6 := ⟨_, rfl⟩
            have hb6 : w6.heap[wb]? = some (.cells #[.slice A0 0 c0, .slice As L cs, .int .i64 (At : Int)] 31 (0, 0)) := by rw [← hw6]; exact set3P hblk5
            have hk6 : Kp (fun j => ¬ j = wb) wn w6 := by rw [← hw6]; exact (((Kp.refl _ wn).set wb 0 _ (fun q => q rfl)).set wb 1 _ (fun q => q rfl)).set wb 2 _ (fun q => q rfl)
            have e45 := e5.trans ea5
            have hk46 : Kp (fun j => ¬ j = wb) w4 w6 := (Kp.of_ext e45).trans hk6
            have e6 : Ext w0 w6 := by
              have hx := (EX.out.trans E4.out).trans e45
              have := HWB.out
              exact ⟨hk6.os.trans hx.os, hk6.tape.trans hx.tape, hk6.output.trans hx.output, Nat.le_trans hx.size hk6.size, fun j hj => (hk6.block j (by omega) (Nat.lt_of_lt_of_le hj hx.size)).trans (hx.block j hj)⟩
            have HB6 := Lib.hid hb6
            have HK6 := Lib.hid hk6
            have HP6 := Lib.hid (HP4.out.keep (hk46.mono fun j q e => HFW.out (e ▸ q)))
            have HK46 := Lib.hid hk46
            have E6 := Lib.hid e6
            have HSZ6 : Hid (w4.heap.size ≤ w6.heap.size) := Lib.hid hk46.size
            have hw0 : w5.heap.size < wn.heap.size := (Array.getElem?_eq_some_iff.1 hln).1
            clear hblk5 e5 ea5 hln hb6 hk6 e45 hk46 e6 x0 x1 x2
            have HPZ := Lib.hid (by have h1 := HP6.out; rw [HTE.out] at h1; exact h1)
            go_wp2_with fail
            refine (pnext_none F tb cb z _ w6 HPZ.out).mono ?_
            rintro e w7 ⟨rfl, rfl⟩
            have ts := str_of (l := []) (Sees.nil w6)
            have HR : Hid (PRel w0 tb cb wb z As L cs (k + 1) w6) := Lib.hid ⟨F, [], At, c0, 0, A0, HPZ.out, HB6.out, rfl, by
                have h1 := HSE4.out
                rw [HTE.out] at h1
                exact ⟨h1.1, h1.2.1, h1.2.2.1, h1.2.2.2.1, fun h => absurd h (by omega)⟩, fun a ha hnn => absurd hnn (by omega), by omega, by omega, by simp, fun j q => by have := HF.out j q; have := HSZ6.out; have := E4.out.size; omega, HFW.out, E6.out⟩
            obtain ⟨wt, hwt⟩ : ∃ wt, wt = w6 := ⟨_, rfl⟩
            subst hwt
            go_wp2_with fail
            have hrel2 := HR.out
            obtain ⟨F2, T2, At2, c2', n2, A2, hp2, hblk2, hn2, hst2, haw2, hAt2, hn2k, hfl2, hF2, hFw2, ext2⟩ := hrel2
            obtain ⟨S, hS⟩ : ∃ S, T2.flatten.length = S := ⟨_, rfl⟩
            have HL1 := Lib.hid (pleft_any F2 tb cb _ _ _ z _ wt.drew ((hp2.keep (Kp.of_ext (Ext.refl wt).drew)).1))
            rw [hS] at HL1
            have HST2 := Lib.hid hst2
            have HP2 := Lib.hid hp2
            have HN2 := Lib.hid hn2
            have HS2 := Lib.hid hS
            have hS480 : S ≤ 1000 := by omega
            have y0 := cell_of_row wt wb 0 _ _ _ hblk2
            have y1 := cell_of_row wt wb 1 _ _ _ hblk2
            have y2 := cell_of_row wt wb 2 _ _ _ hblk2
            simp at y0 y1 y2
            have Y0 := Lib.hid y0
            have Y1 := Lib.hid y1
            have Y2 := Lib.hid y2
            clear hp2 hblk2 hn2 hst2 haw2 hfl2 hF2 hFw2 ext2 hS y0 y1 y2
            refine wp_region_pl (.free 0 (.free 2 (.one 1 (.one 3 (.free 4 (.free 5 (.free 6 (.free 8 (.free 9 (.free 10 (.one 7 (.free 11 (.free 12 .nil))))))))))))) (by kernel_rfl) (by kernel_rfl) (by kernel_rfl) (by kernel_rfl) ?_
            iterate 2 (refine pl_val (v := ?_) rfl rfl (fun w' hw' => ?_) ?_; rotate_left; (· have v0 := hw'.cell Y0.out; have v1 := hw'.cell Y1.out; have v2 := hw'.cell Y2.out; go_simp; try with_reducible rfl); simp only [Act.put, List.setIfInBounds_toArray, List.set_cons_zero, List.set_cons_succ])
            refine pl_call 17 #[.pointer (some ⟨tb, 0, none⟩)] rfl rfl (by go_simp) ?_
            refine HL1.out.mono ?_
            rintro e w7 ⟨rfl, rfl⟩
            refine ⟨_, rfl, Ext.refl _, ?_⟩
            simp only [Act.put, List.setIfInBounds_toArray, List.set_cons_zero, List.set_cons_succ]
            refine pl_call 18 #[refP A2 n2 c2' As L cs At2] rfl rfl (by go_simp) ?_
            refine (rleft_any A2 n2 c2' As L cs At2 T2 _ S HS2.out (HST2.out.ext (Ext.refl wt).drew) (by omega)).mono ?_
            rintro e w8 ⟨rfl, e8⟩
            refine ⟨_, rfl, e8, ?_⟩
            simp only [Act.put, List.setIfInBounds_toArray, List.set_cons_zero, List.set_cons_succ]
            have hx8 := (Ext.refl wt).drew.trans e8
            have E8 := Lib.hid hx8
            have Y8 := Lib.hid (hx8.cell Y0.out)
            have HTX := Lib.hid (ptexts_any F2 tb cb T2 z _ w8 (HP2.out.keep (Kp.of_ext hx8)))
            rw [← HN2.out] at HTX
            clear hx8 e8
            iterate 3 (refine pl_val (v := ?_) rfl rfl (fun w' hw' => ?_) ?_; rotate_left; (· skip; go_simp; try with_reducible rfl); simp only [Act.put, List.setIfInBounds_toArray, List.set_cons_zero, List.set_cons_succ])
            iterate 3 (refine pl_val (v := ?_) rfl rfl (fun w' hw' => ?_) ?_; rotate_left; (· have v0 := hw'.cell Y8.out; go_simp; try with_reducible rfl); simp only [Act.put, List.setIfInBounds_toArray, List.set_cons_zero, List.set_cons_succ])
            refine pl_call 19 #[.pointer (some ⟨tb, 0, none⟩)] rfl rfl (by go_simp) ?_
            refine HTX.out.mono ?_
            rintro e w9 ⟨rfl, rfl⟩
            refine ⟨_, rfl, Ext.refl _, ?_⟩
            simp only [Act.put, List.setIfInBounds_toArray, List.set_cons_zero, List.set_cons_succ]
            iterate 2 (refine pl_val (v := ?_) rfl rfl (fun w' hw' => ?_) ?_; rotate_left; (· skip; go_simp; try with_reducible rfl); simp only [Act.put, List.setIfInBounds_toArray, List.set_cons_zero, List.set_cons_succ])
            refine pl_done ?_
            have HRF := Lib.hid (HR.out.ext E8.out)
            go_wp2_with fail
            go_roundw
            case rel => exact ⟨k + 1, by omega, by omega, by go_num, HRF.out⟩
            case measure => simp [intOf]; omega
        · have hn0I : 0 < n0 := by omega
          have HTP : Hid (0 < T.flatten.length) := Lib.hid (by
            cases hT : T with
            | nil => have := HNT.out; rw [hT] at this; simp at this; omega
            | cons a l => have h1 := HP.out.2.1; rw [hT] at h1; exact flat_pos h1)
          have HRN := Lib.hid (rnext_some A0 n0 c0 As L cs At z T w4 HSE4.out (by omega) (by omega) HP.out.2.1 (by have := HFL.out; omega) (HSS.out.ext (EX.out.trans E4.out)) hL0 (by omega) (fun x hx => by have := HZ.out.2.2.1 x hx; omega) (by omega))
          rcases hbr with hm0 | ⟨hm1, b4, o4, v, rfl, hcv, hv0, hv1, hv3⟩
          · subst hm0
            go_wp2_with fail
            refine HRN.out.mono ?_
            rintro e w5 ⟨A5, n5, c5, rfl, hs5, hb5, e5⟩
            obtain ⟨wn, hwn⟩ : ∃ wn, w5.alloc (.cells #[.slice A5 n5 c5, .slice As L cs, .int .i64 ((At : Int) + 1)] 31) = wn := ⟨_, rfl⟩
            have ea5 : Ext w5 wn := by rw [← hwn]; exact (Ext.refl w5).alloc _
            have hln : wn.heap[w5.heap.size]? = some (.cells #[.slice A5 n5 c5, .slice As L cs, .int .i64 ((At : Int) + 1)] 31 (0, 0)) := by rw [← hwn]; exact heap_alloc_new w5 _
            have hblk5 := (e5.trans ea5).heap HBK4.out
            have u0 := cell_of_row wn wb 0 _ _ _ hblk5
            have u1 := cell_of_row wn wb 1 _ _ _ hblk5
            have u2 := cell_of_row wn wb 2 _ _ _ hblk5
            have l0 := cell_of_row wn w5.heap.size 0 _ _ _ hln
            have l1 := cell_of_row wn w5.heap.size 1 _ _ _ hln
            have l2 := cell_of_row wn w5.heap.size 2 _ _ _ hln
            simp at u0 u1 u2 l0 l1 l2
            have t0 := Lib.frozen_of_heap hblk5 0
            have t1 := Lib.frozen_of_heap hblk5 1
            have t2 := Lib.frozen_of_heap hblk5 2
            obtain ⟨w6, hw6⟩ : ∃ w6, (((wn.setCell ⟨wb, 0, none⟩ (.slice A5 n5 c5)).setCell ⟨wb, 1, none⟩ (.slice As L cs)).setCell ⟨wb, 2, none⟩ (.int .i64 ((At : Int) + 1))) = w6 := ⟨_, rfl⟩
            have hb6 : w6.heap[wb]? = some (.cells #[.slice A5 n5 c5, .slice As L cs, .int .i64 ((At : Int) + 1)] 31 (0, 0)) := by rw [← hw6]; exact set3P hblk5
            have hk6 : Kp (fun j => ¬ j = wb) wn w6 := by rw [← hw6]; exact (((Kp.refl _ wn).set wb 0 _ (fun q => q rfl)).set wb 1 _ (fun q => q rfl)).set wb 2 _ (fun q => q rfl)
            have e45 := e5.trans ea5
            have hk46 : Kp (fun j => ¬ j = wb) w4 w6 := (Kp.of_ext e45).trans hk6
            have e6 : Ext w0 w6 := by
              have hx := (EX.out.trans E4.out).trans e45
              have := HWB.out
              exact ⟨hk6.os.trans hx.os, hk6.tape.trans hx.tape, hk6.output.trans hx.output, Nat.le_trans hx.size hk6.size, fun j hj => (hk6.block j (by omega) (Nat.lt_of_lt_of_le hj hx.size)).trans (hx.block j hj)⟩
            have HB6 := Lib.hid hb6
            have HK6 := Lib.hid hk6
            have HP6 := Lib.hid (HP4.out.keep (hk46.mono fun j q e => HFW.out (e ▸ q)))
            have HK46 := Lib.hid hk46
            have E6 := Lib.hid e6
            have HSZ6 : Hid (w4.heap.size ≤ w6.heap.size) := Lib.hid hk46.size
            have hwn5 : w5.heap.size < wn.heap.size := (Array.getElem?_eq_some_iff.1 hln).1
            have hs6 := hk6.sees (hs5.ext ea5) (fun a ha hnn e => by have := hb5 a ha hnn; have := E4.out.size; omega)
            have HS6 := Lib.hid hs6
            have HB5 : Hid (∀ a, A5 = some a → 0 < n5 → w4.heap.size ≤ a.block) := Lib.hid hb5
            clear hs5 hb5 hs6 hblk5 e5 ea5 hln hb6 hk6 e45 hk46 e6 x0 x1 x2
            obtain ⟨kk, hkk⟩ : ∃ kk, kk = min (szF z (At % L)) T.flatten.length := ⟨_, rfl⟩
            have HKK : Hid (T.flatten.take kk = T.flatten.take (szF z (At % L)) ∧ cutT kk T = cutT (szF z (At % L)) T) := Lib.hid (by rw [hkk]; exact ⟨take_min _ _, cutT_min T HP.out.2.1 _⟩)
            have HPN := Lib.hid (pnext_some F tb cb T z (At % L) kk w6 HP6.out (fun j q => by have := HF.out j q; have := HSZ6.out; have := E4.out.size; omega) HTP.out (by have := HFL.out; omega) hkk)
            clear hkk
            go_wp2_with fail
            refine HPN.out.mono ?_
            rintro e w7 ⟨Ax, cx, rfl, hownx, hp7, hk7⟩
            rw [HKK.out.1] at hownx
            rw [HKK.out.2, HLE.out, Nat.mod_add_mod] at hp7
            obtain ⟨Ax2, cx2, hvx, hsx⟩ := Sees.of_own hownx
            injection hvx with r1 _ r2
            subst r1 r2
            have ts := str_of hsx
            have hb7 : w7.heap[wb]? = some (.cells #[.slice A5 n5 c5, .slice As L cs, .int .i64 ((At : Int) + 1)] 31 (0, 0)) := hk7.heap HB6.out ⟨fun e => HFW.out (e ▸ HP.out.1.inF.1), fun e => HFW.out (e ▸ HP.out.1.inF.2)⟩
            have HTT : Hid (w4.heap.size > tb ∧ w4.heap.size > cb ∧ w4.heap.size > wb) := Lib.hid (by have h1 := HP4.out.1.lt; have := E4.out.size; omega)
            have HR : Hid (PRel w0 tb cb wb z As L cs (k + 1) w7) := Lib.hid ⟨F, cutT (szF z (At % L)) T, At + 1, c5, n5, A5, hp7, hb7, by have := HS6.out.len; rw [List.length_map] at this; exact this.symm, hk7.sees HS6.out (fun a ha hnn => by have h1 := HB5.out a ha hnn; have h2 := HTT.out; exact ⟨by omega, by omega⟩), fun a ha hnn => by have h1 := HB5.out a ha hnn; have h2 := HTT.out; exact ⟨by omega, by omega, by omega⟩, by omega, by
                have h1 := HS6.out.len
                rw [List.length_map] at h1
                have h2 := cutT_len T (szF z (At % L))
                have h3 := HNT.out
                omega, by
                rw [cutT_flat, List.length_drop]
                have := HFL.out
                omega, fun j q => by have := HF.out j q; have := HSZ6.out; have := E4.out.size; have := hk7.size; omega, HFW.out, ext_two E6.out hk7 HT.out.1 HT.out.2⟩
            clear hownx hp7 hk7 hsx hb7
            unfold strV
            obtain ⟨wt, hwt⟩ : ∃ wt, wt = w7 := ⟨_, rfl⟩
            subst hwt
            go_wp2_with fail
            have hrel2 := HR.out
            obtain ⟨F2, T2, At2, c2', n2, A2, hp2, hblk2, hn2, hst2, haw2, hAt2, hn2k, hfl2, hF2, hFw2, ext2⟩ := hrel2
            obtain ⟨S, hS⟩ : ∃ S, T2.flatten.length = S := ⟨_, rfl⟩
            have HL1 := Lib.hid (pleft_any F2 tb cb _ _ _ z _ wt.drew ((hp2.keep (Kp.of_ext (Ext.refl wt).drew)).1))
            rw [hS] at HL1
            have HST2 := Lib.hid hst2
            have HP2 := Lib.hid hp2
            have HN2 := Lib.hid hn2
            have HS2 := Lib.hid hS
            have hS480 : S ≤ 1000 := by omega
            have y0 := cell_of_row wt wb 0 _ _ _ hblk2
            have y1 := cell_of_row wt wb 1 _ _ _ hblk2
            have y2 := cell_of_row wt wb 2 _ _ _ hblk2
            simp at y0 y1 y2
            have Y0 := Lib.hid y0
            have Y1 := Lib.hid y1
            have Y2 := Lib.hid y2
            clear hp2 hblk2 hn2 hst2 haw2 hfl2 hF2 hFw2 ext2 hS y0 y1 y2
            refine wp_region_pl (.free 0 (.free 2 (.one 1 (.one 3 (.free 4 (.free 5 (.free 6 (.free 8 (.free 9 (.free 10 (.one 7 (.free 11 (.free 12 .nil))))))))))))) (by kernel_rfl) (by kernel_rfl) (by kernel_rfl) (by kernel_rfl) ?_
            iterate 2 (refine pl_val (v := ?_) rfl rfl (fun w' hw' => ?_) ?_; rotate_left; (· have v0 := hw'.cell Y0.out; have v1 := hw'.cell Y1.out; have v2 := hw'.cell Y2.out; go_simp; try with_reducible rfl); simp only [Act.put, List.setIfInBounds_toArray, List.set_cons_zero, List.set_cons_succ])
            refine pl_call 17 #[.pointer (some ⟨tb, 0, none⟩)] rfl rfl (by go_simp) ?_
            refine HL1.out.mono ?_
            rintro e w7 ⟨rfl, rfl⟩
            refine ⟨_, rfl, Ext.refl _, ?_⟩
            simp only [Act.put, List.setIfInBounds_toArray, List.set_cons_zero, List.set_cons_succ]
            refine pl_call 18 #[refP A2 n2 c2' As L cs At2] rfl rfl (by go_simp) ?_
            refine (rleft_any A2 n2 c2' As L cs At2 T2 _ S HS2.out (HST2.out.ext (Ext.refl wt).drew) (by omega)).mono ?_
            rintro e w8 ⟨rfl, e8⟩
            refine ⟨_, rfl, e8, ?_⟩
            simp only [Act.put, List.setIfInBounds_toArray, List.set_cons_zero, List.set_cons_succ]
            have hx8 := (Ext.refl wt).drew.trans e8
            have E8 := Lib.hid hx8
            have Y8 := Lib.hid (hx8.cell Y0.out)
            have HTX := Lib.hid (ptexts_any F2 tb cb T2 z _ w8 (HP2.out.keep (Kp.of_ext hx8)))
            rw [← HN2.out] at HTX
            clear hx8 e8
            iterate 3 (refine pl_val (v := ?_) rfl rfl (fun w' hw' => ?_) ?_; rotate_left; (· skip; go_simp; try with_reducible rfl); simp only [Act.put, List.setIfInBounds_toArray, List.set_cons_zero, List.set_cons_succ])
            iterate 3 (refine pl_val (v := ?_) rfl rfl (fun w' hw' => ?_) ?_; rotate_left; (· have v0 := hw'.cell Y8.out; go_simp; try with_reducible rfl); simp only [Act.put, List.setIfInBounds_toArray, List.set_cons_zero, List.set_cons_succ])
            refine pl_call 19 #[.pointer (some ⟨tb, 0, none⟩)] rfl rfl (by go_simp) ?_
            refine HTX.out.mono ?_
            rintro e w9 ⟨rfl, rfl⟩
            refine ⟨_, rfl, Ext.refl _, ?_⟩
            simp only [Act.put, List.setIfInBounds_toArray, List.set_cons_zero, List.set_cons_succ]
            iterate 2 (refine pl_val (v := ?_) rfl rfl (fun w' hw' => ?_) ?_; rotate_left; (· skip; go_simp; try with_reducible rfl); simp only [Act.put, List.setIfInBounds_toArray, List.set_cons_zero, List.set_cons_succ])
            refine pl_done ?_
            have HRF := Lib.hid (HR.out.ext E8.out)
            go_wp2_with fail
            go_roundw
            case rel => exact ⟨k + 1, by omega, by omega, by go_num, HRF.out⟩
            case measure => simp [intOf]; omega
          · have hmI : ((m : Int) == 0) = false := by simpa using (show ¬ m = 0 by omega)
            go_wp2_with fail
            refine HRN.out.mono ?_
            rintro e w5 ⟨A5, n5, c5, rfl, hs5, hb5, e5⟩
            obtain ⟨wn, hwn⟩ : ∃ wn, w5.alloc (.cells #[.slice A5 n5 c5, .slice As L cs, .int .i64 ((At : Int) + 1)] 31) = wn := ⟨_, rfl⟩
            have ea5 : Ext w5 wn := by rw [← hwn]; exact (Ext.refl w5).alloc _
            have hln : wn.heap[w5.heap.size]? = some (.cells #[.slice A5 n5 c5, .slice As L cs, .int .i64 ((At : Int) + 1)] 31 (0, 0)) := by rw [← hwn]; exact heap_alloc_new w5 _
            have hblk5 := (e5.trans ea5).heap HBK4.out
            have u0 := cell_of_row wn wb 0 _ _ _ hblk5
            have u1 := cell_of_row wn wb 1 _ _ _ hblk5
            have u2 := cell_of_row wn wb 2 _ _ _ hblk5
            have l0 := cell_of_row wn w5.heap.size 0 _ _ _ hln
            have l1 := cell_of_row wn w5.heap.size 1 _ _ _ hln
            have l2 := cell_of_row wn w5.heap.size 2 _ _ _ hln
            simp at u0 u1 u2 l0 l1 l2
            have t0 := Lib.frozen_of_heap hblk5 0
            have t1 := Lib.frozen_of_heap hblk5 1
            have t2 := Lib.frozen_of_heap hblk5 2
            obtain ⟨w6, hw6⟩ : ∃ w6, (((wn.setCell ⟨wb, 0, none⟩ (.slice A5 n5 c5)).setCell ⟨wb, 1, none⟩ (.slice As L cs)).setCell ⟨wb, 2, none⟩ (.int .i64 ((At : Int) + 1))) = w6 := ⟨_, rfl⟩
            have hb6 : w6.heap[wb]? = some (.cells #[.slice A5 n5 c5, .slice As L cs, .int .i64 ((At : Int) + 1)] 31 (0, 0)) := by rw [← hw6]; exact set3P hblk5
            have hk6 : Kp (fun j => ¬ j = wb) wn w6 := by rw [← hw6]; exact (((Kp.refl _ wn).set wb 0 _ (fun q => q rfl)).set wb 1 _ (fun q => q rfl)).set wb 2 _ (fun q => q rfl)
            have e45 := e5.trans ea5
            have hk46 : Kp (fun j => ¬ j = wb) w4 w6 := (Kp.of_ext e45).trans hk6
            have e6 : Ext w0 w6 := by
              have hx := (EX.out.trans E4.out).trans e45
              have := HWB.out
              exact ⟨hk6.os.trans hx.os, hk6.tape.trans hx.tape, hk6.output.trans hx.output, Nat.le_trans hx.size hk6.size, fun j hj => (hk6.block j (by omega) (Nat.lt_of_lt_of_le hj hx.size)).trans (hx.block j hj)⟩
            have HB6 := Lib.hid hb6
            have HK6 := Lib.hid hk6
            have HP6 := Lib.hid (HP4.out.keep (hk46.mono fun j q e => HFW.out (e ▸ q)))
            have HK46 := Lib.hid hk46
            have E6 := Lib.hid e6
            have HSZ6 : Hid (w4.heap.size ≤ w6.heap.size) := Lib.hid hk46.size
            have hwn5 : w5.heap.size < wn.heap.size := (Array.getElem?_eq_some_iff.1 hln).1
            have hs6 := hk6.sees (hs5.ext ea5) (fun a ha hnn e => by have := hb5 a ha hnn; have := E4.out.size; omega)
            have HS6 := Lib.hid hs6
            have HB5 : Hid (∀ a, A5 = some a → 0 < n5 → w4.heap.size ≤ a.block) := Lib.hid hb5
            clear hs5 hb5 hs6 hblk5 e5 ea5 hln hb6 hk6 e45 hk46 e6 x0 x1 x2
            obtain ⟨kk, hkk⟩ : ∃ kk, kk = min (szF z (At % L)) T.flatten.length := ⟨_, rfl⟩
            have HKK : Hid (T.flatten.take kk = T.flatten.take (szF z (At % L)) ∧ cutT kk T = cutT (szF z (At % L)) T) := Lib.hid (by rw [hkk]; exact ⟨take_min _ _, cutT_min T HP.out.2.1 _⟩)
            have HPN := Lib.hid (pnext_some F tb cb T z (At % L) kk w6 HP6.out (fun j q => by have := HF.out j q; have := HSZ6.out; have := E4.out.size; omega) HTP.out (by have := HFL.out; omega) hkk)
            clear hkk
            go_wp2_with fail
            refine HPN.out.mono ?_
            rintro e w7 ⟨Ax, cx, rfl, hownx, hp7, hk7⟩
            rw [HKK.out.1] at hownx
            rw [HKK.out.2, HLE.out, Nat.mod_add_mod] at hp7
            obtain ⟨Ax2, cx2, hvx, hsx⟩ := Sees.of_own hownx
            injection hvx with r1 _ r2
            subst r1 r2
            have ts := str_of hsx
            have hb7 : w7.heap[wb]? = some (.cells #[.slice A5 n5 c5, .slice As L cs, .int .i64 ((At : Int) + 1)] 31 (0, 0)) := hk7.heap HB6.out ⟨fun e => HFW.out (e ▸ HP.out.1.inF.1), fun e => HFW.out (e ▸ HP.out.1.inF.2)⟩
            have HTT : Hid (w4.heap.size > tb ∧ w4.heap.size > cb ∧ w4.heap.size > wb) := Lib.hid (by have h1 := HP4.out.1.lt; have := E4.out.size; omega)
            have HR : Hid (PRel w0 tb cb wb z As L cs (k + 1) w7) := Lib.hid ⟨F, cutT (szF z (At % L)) T, At + 1, c5, n5, A5, hp7, hb7, by have := HS6.out.len; rw [List.length_map] at this; exact this.symm, hk7.sees HS6.out (fun a ha hnn => by have h1 := HB5.out a ha hnn; have h2 := HTT.out; exact ⟨by omega, by omega⟩), fun a ha hnn => by have h1 := HB5.out a ha hnn; have h2 := HTT.out; exact ⟨by omega, by omega, by omega⟩, by omega, by
                have h1 := HS6.out.len
                rw [List.length_map] at h1
                have h2 := cutT_len T (szF z (At % L))
                have h3 := HNT.out
                omega, by
                rw [cutT_flat, List.length_drop]
                have := HFL.out
                omega, fun j q => by have := HF.out j q; have := HSZ6.out; have := E4.out.size; have := hk7.size; omega, HFW.out, ext_two E6.out hk7 HT.out.1 HT.out.2⟩
            clear hownx hp7 hk7 hsx hb7
            unfold strV
            obtain ⟨wt, hwt⟩ : ∃ wt, wt = w7 := ⟨_, rfl⟩
            subst hwt
            go_wp2_with fail
            have hrel2 := HR.out
            obtain ⟨F2, T2, At2, c2', n2, A2, hp2, hblk2, hn2, hst2, haw2, hAt2, hn2k, hfl2, hF2, hFw2, ext2⟩ := hrel2
            obtain ⟨S, hS⟩ : ∃ S, T2.flatten.length = S := ⟨_, rfl⟩
            have HL1 := Lib.hid (pleft_any F2 tb cb _ _ _ z _ wt.drew ((hp2.keep (Kp.of_ext (Ext.refl wt).drew)).1))
            rw [hS] at HL1
            have HST2 := Lib.hid hst2
            have HP2 := Lib.hid hp2
            have HN2 := Lib.hid hn2
            have HS2 := Lib.hid hS
            have hS480 : S ≤ 1000 := by omega
            have y0 := cell_of_row wt wb 0 _ _ _ hblk2
            have y1 := cell_of_row wt wb 1 _ _ _ hblk2
            have y2 := cell_of_row wt wb 2 _ _ _ hblk2
            simp at y0 y1 y2
            have Y0 := Lib.hid y0
            have Y1 := Lib.hid y1
            have Y2 := Lib.hid y2
            clear hp2 hblk2 hn2 hst2 haw2 hfl2 hF2 hFw2 ext2 hS y0 y1 y2
            refine wp_region_pl (.free 0 (.free 2 (.one 1 (.one 3 (.free 4 (.free 5 (.free 6 (.free 8 (.free 9 (.free 10 (.one 7 (.free 11 (.free 12 .nil))))))))))))) (by kernel_rfl) (by kernel_rfl) (by kernel_rfl) (by kernel_rfl) ?_
            iterate 2 (refine pl_val (v := ?_) rfl rfl (fun w' hw' => ?_) ?_; rotate_left; (· have v0 := hw'.cell Y0.out; have v1 := hw'.cell Y1.out; have v2 := hw'.cell Y2.out; go_simp; try with_reducible rfl); simp only [Act.put, List.setIfInBounds_toArray, List.set_cons_zero, List.set_cons_succ])
            refine pl_call 17 #[.pointer (some ⟨tb, 0, none⟩)] rfl rfl (by go_simp) ?_
            refine HL1.out.mono ?_
            rintro e w7 ⟨rfl, rfl⟩
            refine ⟨_, rfl, Ext.refl _, ?_⟩
            simp only [Act.put, List.setIfInBounds_toArray, List.set_cons_zero, List.set_cons_succ]
            refine pl_call 18 #[refP A2 n2 c2' As L cs At2] rfl rfl (by go_simp) ?_
            refine (rleft_any A2 n2 c2' As L cs At2 T2 _ S HS2.out (HST2.out.ext (Ext.refl wt).drew) (by omega)).mono ?_
            rintro e w8 ⟨rfl, e8⟩
            refine ⟨_, rfl, e8, ?_⟩
            simp only [Act.put, List.setIfInBounds_toArray, List.set_cons_zero, List.set_cons_succ]
            have hx8 := (Ext.refl wt).drew.trans e8
            have E8 := Lib.hid hx8
            have Y8 := Lib.hid (hx8.cell Y0.out)
            have HTX := Lib.hid (ptexts_any F2 tb cb T2 z _ w8 (HP2.out.keep (Kp.of_ext hx8)))
            rw [← HN2.out] at HTX
            clear hx8 e8
            iterate 3 (refine pl_val (v := ?_) rfl rfl (fun w' hw' => ?_) ?_; rotate_left; (· skip; go_simp; try with_reducible rfl); simp only [Act.put, List.setIfInBounds_toArray, List.set_cons_zero, List.set_cons_succ])
            iterate 3 (refine pl_val (v := ?_) rfl rfl (fun w' hw' => ?_) ?_; rotate_left; (· have v0 := hw'.cell Y8.out; go_simp; try with_reducible rfl); simp only [Act.put, List.setIfInBounds_toArray, List.set_cons_zero, List.set_cons_succ])
            refine pl_call 19 #[.pointer (some ⟨tb, 0, none⟩)] rfl rfl (by go_simp) ?_
            refine HTX.out.mono ?_
            rintro e w9 ⟨rfl, rfl⟩
            refine ⟨_, rfl, Ext.refl _, ?_⟩
            simp only [Act.put, List.setIfInBounds_toArray, List.set_cons_zero, List.set_cons_succ]
            iterate 2 (refine pl_val (v := ?_) rfl rfl (fun w' hw' => ?_) ?_; rotate_left; (· skip; go_simp; try with_reducible rfl); simp only [Act.put, List.setIfInBounds_toArray, List.set_cons_zero, List.set_cons_succ])
            refine pl_done ?_
            have HRF := Lib.hid (HR.out.ext E8.out)
            go_wp2_with fail
            go_roundw
            case rel => exact ⟨k + 1, by omega, by omega, by go_num, HRF.out⟩
            case measure => simp [intOf]; omega
      · have hmI : ((m : Int) == 0) = false := by simpa using (show ¬ m = 0 by omega)
        have hv3B : (v % 3 == 0) = false := by simpa using hv3
        have HBN : Hid (¬ bl = []) := Lib.hid (fun e => by have := HBL.out; rw [e] at this; simp at this; omega)
        clear hv3
        have ts := str_of HS4.out
        have HRS := Lib.hid (rsend_any A0 n0 c0 As L cs At T bl w4 HSE4.out (by omega) HBN.out)
        go_wp2_with fail
        refine HRS.out.mono ?_
        rintro e w5 ⟨A5, c5, rfl, hs5, hb5, e5⟩
        obtain ⟨n5, hn5⟩ : ∃ n5, n0 + 1 = n5 := ⟨_, rfl⟩
        rw [hn5] at hs5 ⊢
        have HN5 := Lib.hid hn5
        clear hn5 ts
        obtain ⟨wn, hwn⟩ : ∃ wn, w5.alloc (.cells #[.slice A5 n5 c5, .slice As L cs, .int .i64 (At : Int)] 31) = wn := ⟨_, rfl⟩
        have ea5 : Ext w5 wn := by rw [← hwn]; exact (Ext.refl w5).alloc _
        have hln : wn.heap[w5.heap.size]? = some (.cells #[.slice A5 n5 c5, .slice As L cs, .int .i64 (At : Int)] 31 (0, 0)) := by rw [← hwn]; exact heap_alloc_new w5 _
        have hblk5 := (e5.trans ea5).heap HBK4.out
        have u0 := cell_of_row wn wb 0 _ _ _ hblk5
        have u1 := cell_of_row wn wb 1 _ _ _ hblk5
        have u2 := cell_of_row wn wb 2 _ _ _ hblk5
        have l0 := cell_of_row wn w5.heap.size 0 _ _ _ hln
        have l1 := cell_of_row wn w5.heap.size 1 _ _ _ hln
        have l2 := cell_of_row wn w5.heap.size 2 _ _ _ hln
        simp at u0 u1 u2 l0 l1 l2
        have t0 := Lib.frozen_of_heap hblk5 0
        have t1 := Lib.frozen_of_heap hblk5 1
        have t2 := Lib.frozen_of_heap hblk5 2
        obtain ⟨w6, hw6⟩ : ∃ w6, (((wn.setCell ⟨wb, 0, none⟩ (.slice A5 n5 c5)).setCell ⟨wb, 1, none⟩ (.slice As L cs)).setCell ⟨wb, 2, none⟩ (.int .i64 (At : Int))) = w6 := ⟨_, rfl⟩
        have hb6 : w6.heap[wb]? = some (.cells #[.slice A5 n5 c5, .slice As L cs, .int .i64 (At : Int)] 31 (0, 0)) := by rw [← hw6]; exact set3P hblk5
        have hk6 : Kp (fun j => ¬ j = wb) wn w6 := by rw [← hw6]; exact (((Kp.refl _ wn).set wb 0 _ (fun q => q rfl)).set wb 1 _ (fun q => q rfl)).set wb 2 _ (fun q => q rfl)
        have e45 := e5.trans ea5
        have hk46 : Kp (fun j => ¬ j = wb) w4 w6 := (Kp.of_ext e45).trans hk6
        have e6 : Ext w0 w6 := by
          have hx := (EX.out.trans E4.out).trans e45
          have := HWB.out
          exact ⟨hk6.os.trans hx.os, hk6.tape.trans hx.tape, hk6.output.trans hx.output, Nat.le_trans hx.size hk6.size, fun j hj => (hk6.block j (by omega) (Nat.lt_of_lt_of_le hj hx.size)).trans (hx.block j hj)⟩
        have HB6 := Lib.hid hb6
        have HK6 := Lib.hid hk6
        have HP6 := Lib.hid (HP4.out.keep (hk46.mono fun j q e => HFW.out (e ▸ q)))
        have HK46 := Lib.hid hk46
        have E6 := Lib.hid e6
        have HSZ6 : Hid (w4.heap.size ≤ w6.heap.size) := Lib.hid hk46.size
        have hwn5 : w5.heap.size < wn.heap.size := (Array.getElem?_eq_some_iff.1 hln).1
        have hs6 := hk6.sees (hs5.ext ea5) (fun a ha hnn e => by have := hb5 a ha; have := E4.out.size; omega)
        have HS6 := Lib.hid hs6
        have HB5 : Hid (∀ a, A5 = some a → w4.heap.size ≤ a.block) := Lib.hid hb5
        have HS46 := Lib.hid (hk46.sees HS4.out (fun a ha hnn e => by have := HB4.out a ha; omega))
        clear hs5 hb5 hs6 hblk5 e5 ea5 hln hb6 hk6 e45 hk46 e6 x0 x1 x2
        have HPN := Lib.hid (psend_all F tb cb T z (At % L) _ m c4 bl w6 HP6.out (fun j q => by have := HF.out j q; have := HSZ6.out; have := E4.out.size; omega) HS46.out (by have := HNT.out; omega) (by have := HFL.out; omega) (by rw [HBL.out]; omega))
        go_wp2_with fail
        refine HPN.out.mono ?_
        rintro e w7 ⟨F7, rfl, hp7, hF7, hk7⟩
        rw [oneT_ne HBN.out] at hp7
        have hsz67 := hk7.size
        have hb7 : w7.heap[wb]? = some (.cells #[.slice A5 n5 c5, .slice As L cs, .int .i64 (At : Int)] 31 (0, 0)) := hk7.heap HB6.out ⟨fun e => HFW.out (e ▸ HP.out.1.inF.1), fun e => HFW.out (e ▸ HP.out.1.inF.2)⟩
        have HTT : Hid (w4.heap.size > tb ∧ w4.heap.size > cb ∧ w4.heap.size > wb) := Lib.hid (by have h1 := HP4.out.1.lt; have := E4.out.size; omega)
        have HR : Hid (PRel w0 tb cb wb z As L cs (k + 1) w7) := Lib.hid ⟨F7, T ++ [bl], At, c5, n5, A5, hp7, hb7, by rw [← HN5.out, HNT.out]; simp, hk7.sees HS6.out (fun a ha hnn => by have h1 := HB5.out a ha; have h2 := HTT.out; exact ⟨by omega, by omega⟩), fun a ha hnn => by have h1 := HB5.out a ha; have h2 := HTT.out; exact ⟨by omega, by omega, by omega⟩, by omega, by have := HN5.out; omega, by
            rw [flat_snoc, HBL.out]
            have := HFL.out
            omega, fun j q => by
            have h1 := HSZ6.out
            have h2 := E4.out.size
            have h3 := HTT.out
            have h4 := HWB.out
            rcases hF7 j q with q | q
            · have := HF.out j q; omega
            · omega, fun q => by
            have h1 := HSZ6.out
            have h3 := HTT.out
            rcases hF7 wb q with q | q
            · exact HFW.out q
            · omega, ext_two E6.out hk7 HT.out.1 HT.out.2⟩
        clear hp7 hF7 hk7 hb7 hsz67
        obtain ⟨wt, hwt⟩ : ∃ wt, wt = w7 := ⟨_, rfl⟩
        subst hwt
        go_wp2_with fail
        have hrel2 := HR.out
        obtain ⟨F2, T2, At2, c2', n2, A2, hp2, hblk2, hn2, hst2, haw2, hAt2, hn2k, hfl2, hF2, hFw2, ext2⟩ := hrel2
        obtain ⟨S, hS⟩ : ∃ S, T2.flatten.length = S := ⟨_, rfl⟩
        have HL1 := Lib.hid (pleft_any F2 tb cb _ _ _ z _ wt.drew ((hp2.keep (Kp.of_ext (Ext.refl wt).drew)).1))
        rw [hS] at HL1
        have HST2 := Lib.hid hst2
        have HP2 := Lib.hid hp2
        have HN2 := Lib.hid hn2
        have HS2 := Lib.hid hS
        have hS480 : S ≤ 1000 := by omega
        have y0 := cell_of_row wt wb 0 _ _ _ hblk2
        have y1 := cell_of_row wt wb 1 _ _ _ hblk2
        have y2 := cell_of_row wt wb 2 _ _ _ hblk2
        simp at y0 y1 y2
        have Y0 := Lib.hid y0
        have Y1 := Lib.hid y1
        have Y2 := Lib.hid y2
        clear hp2 hblk2 hn2 hst2 haw2 hfl2 hF2 hFw2 ext2 hS y0 y1 y2
        refine wp_region_pl (.free 0 (.free 2 (.one 1 (.one 3 (.free 4 (.free 5 (.free 6 (.free 8 (.free 9 (.free 10 (.one 7 (.free 11 (.free 12 .nil))))))))))))) (by kernel_rfl) (by kernel_rfl) (by kernel_rfl) (by kernel_rfl) ?_
        iterate 2 (refine pl_val (v := ?_) rfl rfl (fun w' hw' => ?_) ?_; rotate_left; (· have v0 := hw'.cell Y0.out; have v1 := hw'.cell Y1.out; have v2 := hw'.cell Y2.out; go_simp; try with_reducible rfl); simp only [Act.put, List.setIfInBounds_toArray, List.set_cons_zero, List.set_cons_succ])
        refine pl_call 17 #[.pointer (some ⟨tb, 0, none⟩)] rfl rfl (by go_simp) ?_
        refine HL1.out.mono ?_
        rintro e w7 ⟨rfl, rfl⟩
        refine ⟨_, rfl, Ext.refl _, ?_⟩
        simp only [Act.put, List.setIfInBounds_toArray, List.set_cons_zero, List.set_cons_succ]
        refine pl_call 18 #[refP A2 n2 c2' As L cs At2] rfl rfl (by go_simp) ?_
        refine (rleft_any A2 n2 c2' As L cs At2 T2 _ S HS2.out (HST2.out.ext (Ext.refl wt).drew) (by omega)).mono ?_
        rintro e w8 ⟨rfl, e8⟩
        refine ⟨_, rfl, e8, ?_⟩
        simp only [Act.put, List.setIfInBounds_toArray, List.set_cons_zero, List.set_cons_succ]
        have hx8 := (Ext.refl wt).drew.trans e8
        have E8 := Lib.hid hx8
        have Y8 := Lib.hid (hx8.cell Y0.out)
        have HTX := Lib.hid (ptexts_any F2 tb cb T2 z _ w8 (HP2.out.keep (Kp.of_ext hx8)))
        rw [← HN2.out] at HTX
        clear hx8 e8
        iterate 3 (refine pl_val (v := ?_) rfl rfl (fun w' hw' => ?_) ?_; rotate_left; (· skip; go_simp; try with_reducible rfl); simp only [Act.put, List.setIfInBounds_toArray, List.set_cons_zero, List.set_cons_succ])
        iterate 3 (refine pl_val (v := ?_) rfl rfl (fun w' hw' => ?_) ?_; rotate_left; (· have v0 := hw'.cell Y8.out; go_simp; try with_reducible rfl); simp only [Act.put, List.setIfInBounds_toArray, List.set_cons_zero, List.set_cons_succ])
        refine pl_call 19 #[.pointer (some ⟨tb, 0, none⟩)] rfl rfl (by go_simp) ?_
        refine HTX.out.mono ?_
        rintro e w9 ⟨rfl, rfl⟩
        refine ⟨_, rfl, Ext.refl _, ?_⟩
        simp only [Act.put, List.setIfInBounds_toArray, List.set_cons_zero, List.set_cons_succ]
        iterate 2 (refine pl_val (v := ?_) rfl rfl (fun w' hw' => ?_) ?_; rotate_left; (· skip; go_simp; try with_reducible rfl); simp only [Act.put, List.setIfInBounds_toArray, List.set_cons_zero, List.set_cons_succ])
        refine pl_done ?_
        have HRF := Lib.hid (HR.out.ext E8.out)
        go_wp2_with fail
        go_roundw
        case rel => exact ⟨k + 1, by omega, by omega, by go_num, HRF.out⟩
        case measure => simp [intOf]; omega
    · have hend : ¬ k < n1 ∨ (k < n1 ∧ ¬ k < 24) := by omega
      clear hlt
      rcases hend with he | ⟨he, he6⟩ <;> go_wp2_with fail
      all_goals
        refine (lives5 wr).mono ?_
        rintro e w8 ⟨rfl, e8⟩
        have E9 := Lib.hid ((E0.out.trans EX.out).trans e8)
        clear e8
        go_wp2
        go_ret
        exact ⟨rfl, E9.out⟩
end Go.Proofs.Ytjdcbmelladceaa
