/-
  The statement PipeDrains: its walk.
-/
import Derived.Test.YtjdcbmelladceaaPipK
namespace Go.Proofs.Ytjdcbmelladceaa
open Go Go.RowKit
set_option linter.unusedVariables false
set_option linter.unusedSimpArgs false
set_option maxRecDepth 20000 in
set_option maxHeartbeats 4000000 in
theorem pdrains_walk (A : Option Addr) (n c : Nat) (zs : List Int) (A1 : Option Addr) (n1 c1 : Nat) (rows : List (List Int)) (w : World) (hs : Sees w A n c (zs.map (Value.int .i64))) (hb : ∀ x ∈ zs, -9223372036854775808 ≤ x ∧ x ≤ 9223372036854775807) (h1 : SeesRows .u8 w A1 n1 c1 rows) :
    Calls Try.prog 4 #[.slice A n c, .slice A1 n1 c1] w fun e w' => e = .returned (.bool true) ∧ Ext w w' := by
  have hle1 := h1.2.1
  have hmx1 := h1.2.2.1
  unfold maxLen at hmx1
  have H1 := Lib.hid h1
  have HG := Lib.hid (good_any A n c zs w hs hb)
  obtain ⟨z, hz⟩ : ∃ z, goodZ zs = z := ⟨_, rfl⟩
  have HZ : Hid (Goes z ∧ (okB z && smB z) = true ∧ (∀ x ∈ z, 0 ≤ x ∧ x ≤ 9) ∧ z.length ≤ 6) := Lib.hid (by subst hz; exact ⟨goodZ_goes zs, goodZ_may zs, goodZ_mem zs, (goodZ_len zs).2⟩)
  rw [hz] at HG
  clear h1 hs hb hz
  obtain ⟨L, hL⟩ : ∃ L, z.length = L := ⟨_, rfl⟩
  have hL0 : 0 < L := by have := HZ.out.1.1; omega
  have hL6 : L ≤ 6 := by have := HZ.out.2.2.2; omega
  have HLE := Lib.hid hL
  unfold PGood at HG
  rw [hL] at HG
  clear hL
  go_enter Try.func4, Try.ntmps4
  go_wp2_with fail
  refine HG.out.mono ?_
  rintro e w0 ⟨As, cs, rfl, hss, e0⟩
  have hsl := hss.le
  have hsm := hss.max
  unfold maxLen at hsm
  have HSS := Lib.hid hss
  have E0 := Lib.hid e0
  have HN := Lib.hid (pnew_ok As L cs z w0 hss HZ.out.1.1 HZ.out.2.1 (fun x hx => by have := HZ.out.2.2.1 x hx; omega) (by have := HZ.out.2.2.2; omega))
  clear hss e0 HG
  go_wp2_with fail
  refine HN.out.mono ?_
  rintro e w1 ⟨tb, cb, rfl, hp, e1⟩
  have hsz0 := e1.size
  have HT : Hid (w0.heap.size ≤ tb ∧ w0.heap.size ≤ cb) := Lib.hid (by have := hp.1.inF; exact ⟨this.1.1, this.2.1⟩)
  obtain ⟨F1, HP1⟩ : ∃ F : Nat → Prop, Hid (Pip w1 F tb cb [] z 0 ∧ (∀ k, F k → w0.heap.size ≤ k ∧ k < w1.heap.size)) := ⟨_, Lib.hid ⟨hp, fun k q => q⟩⟩
  have E1 := Lib.hid e1
  clear hp e1 hsz0 HN
  go_wp2_with fail
  go_loopw [8, 9] (fun av iv wr => ∃ (k : Nat) (F : Nat → Prop) (T : List (List UInt8)) (b : Nat), k ≤ n1 ∧ k ≤ 6 ∧ iv = .int .i64 (k : Int) ∧ Pip wr F tb cb T z 0 ∧ (∀ j, F j → w0.heap.size ≤ j ∧ j < wr.heap.size) ∧ T.length ≤ k ∧ T.flatten.length ≤ 30 * k ∧
    wr.ownsRow w0.heap.size 5 1 av b (bs T.flatten) ∧ (∀ j, av.ownBlock = some j → ¬ F j) ∧ Ext w0 wr) (fun _ iv _ => 6 - (intOf iv).toNat)
  case atStart => exact ⟨0, F1, [], 0, by omega, by omega, rfl, HP1.out.1, HP1.out.2, by simp, by simp, World.ownsRow_nil _ _ _ _, (fun j hj => by cases hj), E1.out⟩
  case round =>
    obtain ⟨k, F, T, b, hk, hk6, rfl, hp, hF, hT, hfl, hown, hoff, ext⟩ := hrel
    obtain ⟨Ab, cb', rfl, hsb⟩ := Sees.of_own hown
    have hbl : b = T.flatten.length := by have := hown.1; rw [bs_length] at this; omega
    have hb180 : b ≤ 180 := by omega
    have hbm := hsb.max
    unfold maxLen at hbm
    have HP := Lib.hid hp
    have HF := Lib.hid hF
    have HTL := Lib.hid hT
    have HFL := Lib.hid hfl
    have HO := Lib.hid hown
    have HOF := Lib.hid hoff
    have EX := Lib.hid ext
    have HBL := Lib.hid hbl
    have HSB := Lib.hid hsb
    clear hp hF hT hfl hown hoff ext hbl hsb HP1 E1
    by_cases hlt : k < n1 ∧ k < 6
    · obtain ⟨hlt1, hlt2⟩ := hlt
      obtain ⟨br, offr, Ar, nr, cr, r, rfl, hc, hsr⟩ := (H1.out.ext (E0.out.trans EX.out)).bytes k hlt1
      have HSR := Lib.hid hsr
      clear hsr
      go_wp2_with fail
      refine (few_nat Ar nr cr 30 30 (bs r) wr HSR.out (bs_one _) (by omega) (by omega) rfl).mono ?_
      rintro e w2 ⟨v2, rfl, hown2, e2⟩
      rw [bs_take] at hown2
      obtain ⟨m, hm⟩ : ∃ m, min nr 30 = m := ⟨_, rfl⟩
      rw [hm] at hown2
      have hm30 : m ≤ 30 := by omega
      obtain ⟨A2, c2, rfl, hs2⟩ := Sees.of_own hown2
      have HL30 : Hid ((r.take 30).length = m) := Lib.hid (by have := hown2.1; rw [bs_length] at this; omega)
      have HB2 : Hid (∀ a, A2 = some a → wr.heap.size ≤ a.block ∧ a.block < w2.heap.size) := Lib.hid (fun a ha => hown2.lt a.block (by rw [ha]; rfl))
      have E2 := Lib.hid e2
      have HS2 := Lib.hid hs2
      have HSD := Lib.hid (psend_all F tb cb T z 0 A2 m c2 (r.take 30) w2 (HP.out.keep (Kp.of_ext e2)) (fun j q => by have := HF.out j q; have := e2.size; omega) hs2 (by have := HTL.out; omega) (by have := HBL.out; omega) (by rw [HL30.out]; omega))
      clear hown2 hs2 e2 hm hc
      go_wp2_with fail
      refine HSD.out.mono ?_
      rintro e w3 ⟨F3, rfl, hp3, hF3, hk3⟩
      have hsz3 := hk3.size
      have hsz2 := E2.out.size
      have hxw := EX.out.size
      have hlt3 := HO.out.lt
      have hff : (T ++ oneT (r.take 30)).flatten = T.flatten ++ r.take 30 := by rw [List.flatten_append, oneT_flat]
      have htn : ∀ j, (Value.slice Ab b cb').ownBlock = some j → Two tb cb j := fun j hj => ⟨fun e => HOF.out j hj (e ▸ HP.out.1.inF.1), fun e => HOF.out j hj (e ▸ HP.out.1.inF.2)⟩
      have hown3 := hk3.own ((Kp.of_ext (X := fun _ => True) E2.out).own HO.out fun _ _ => trivial) htn
      have hs3 := hk3.sees HS2.out fun a ha hn => by
        have h1 := HB2.out a ha
        have h2 := HP.out.1.lt
        exact (⟨by omega, by omega⟩ : Two tb cb a.block)
      obtain ⟨A4, c4, w4, hrun, hown4, hg4, hat4⟩ := own_bytes hown3 hs3 (by omega) (by omega)
      have hsz4 := hg4.size
      have HFIN : Hid (Pip w4 F3 tb cb (T ++ oneT (r.take 30)) z 0 ∧ (∀ j, F3 j → w0.heap.size ≤ j ∧ j < w4.heap.size) ∧ (T ++ oneT (r.take 30)).length ≤ k + 1 ∧ (T ++ oneT (r.take 30)).flatten.length ≤ 30 * (k + 1) ∧
          w4.ownsRow w0.heap.size 5 1 (.slice A4 (b + m) c4) (b + m) (bs (T ++ oneT (r.take 30)).flatten) ∧ (∀ j, (Value.slice A4 (b + m) c4).ownBlock = some j → ¬ F3 j) ∧ Ext w0 w4) := Lib.hid ⟨hp3.keep ((Kp.refl F3 w3).grown hg4 fun j hj q => by
            have h1 := hlt3 j hj
            rcases hF3 j q with q | q
            · exact HOF.out j hj q
            · omega), fun j q => by
            rcases hF3 j q with q | q
            · have := HF.out j q; omega
            · omega, by have := oneT_len (r.take 30); have := HTL.out; simp; omega, by rw [hff, List.length_append, HL30.out]; have := HFL.out; omega, by rw [hff]; exact hown4, fun j hj q => by
            rcases hat4 with e | e
            · rw [e] at hj
              have h1 := hlt3 j hj
              rcases hF3 j q with q | q
              · exact HOF.out j hj q
              · omega
            · rw [e] at hj
              injection hj with hj
              rcases hF3 j q with q | q
              · have := HF.out j q; omega
              · omega, (ext_two (EX.out.trans E2.out) hk3 HT.out.1 HT.out.2).grown hg4 fun j hj => (hlt3 j hj).1⟩
      clear hp3 hF3 hk3 hsz3 hsz2 hxw hlt3 hff htn hown3 hs3 hown4 hg4 hat4 hsz4 HSD
      go_wp2_with (first | (at_builtin; refine wpList_append_run rfl (.tmp 49) (.tmp 50) _ rfl _ _ rfl rfl _ w4 hrun ?_) | fail)
      go_roundw
      case rel => exact ⟨k + 1, F3, _, b + m, by omega, by omega, by go_num, HFIN.out⟩
      case measure => simp [intOf]; omega
    · have hend : ¬ k < n1 ∨ (k < n1 ∧ ¬ k < 6) := by omega
      clear hlt
      have HD := Lib.hid (pdrain_any F tb cb T z 0 wr HP.out (fun j q => (HF.out j q).2) HZ.out.1 (by have := HBL.out; omega) (by
        have h1 := mea_le HZ.out.1 T.flatten.length 0 (by have := HZ.out.1.1; omega)
        have h2 : (T.flatten.length + 1) * z.length ≤ 181 * 6 := Nat.mul_le_mul (by have := HBL.out; omega) (by have := HZ.out.2.2.2; omega)
        omega))
      rcases hend with he | ⟨he, he6⟩ <;> go_wp2_with fail
      all_goals
        refine HD.out.mono ?_
        rintro e w5 ⟨Ag, cg, rs, at5, rfl, hox, hdr, hp5, hk5, hob5, hrl⟩
        have hlt5 := HO.out.lt
        have htn : ∀ j, (Value.slice Ab b cb').ownBlock = some j → Two tb cb j := fun j hj => ⟨fun e => HOF.out j hj (e ▸ HP.out.1.inF.1), fun e => HOF.out j hj (e ▸ HP.out.1.inF.2)⟩
        obtain ⟨Ax, cx, hvx, hsx⟩ := Sees.of_own (hk5.own HO.out htn)
        injection hvx with q1 _ q2
        subst q1 q2
        have HAL := Lib.hid hsx
        have HFLAT := Lib.hid hdr.flat
        have HDR := Lib.hid hdr
        have HP5 := Lib.hid hp5
        have HRS := Lib.hid hox.seesB
        have E5 := Lib.hid (ext_two EX.out hk5 HT.out.1 HT.out.2)
        obtain ⟨N, hN⟩ : ∃ N, rs.length = N := ⟨_, rfl⟩
        have hN2 : N ≤ 90000 := by
          have h1 := mea_le HZ.out.1 T.flatten.length 0 (by have := HZ.out.1.1; omega)
          have h2 : (T.flatten.length + 1) * z.length ≤ 181 * 6 := Nat.mul_le_mul (by have := HBL.out; omega) (by have := HZ.out.2.2.2; omega)
          omega
        have HNL := Lib.hid hN
        have hcg := HRS.out.len
        have hcgm := hcg.2.2
        unfold maxLen at hcgm
        have hcg1 := hcg.2.1
        rw [hN] at HRS hcg1 ⊢
        clear hox hdr hp5 hk5 hob5 hrl hlt5 htn hsx hN hcg HD
        go_wp2_with fail
        go_loopw [12, 13] (fun bv jv wq => ∃ (j p : Nat), j ≤ N ∧ jv = .int .i64 (j : Int) ∧ p ≤ b ∧ wq.ownsRow w5.heap.size 5 1 bv p (bs (rs.take j).flatten) ∧ Dr z (j % L) (T.flatten.drop p) (rs.drop j) ∧ Ext w5 wq) (fun _ jv _ => N - (intOf jv).toNat)
        case atStart => exact ⟨0, 0, by omega, rfl, by omega, World.ownsRow_nil _ _ _ _, HDR.out, Ext.refl _⟩
        case round =>
          obtain ⟨wq, hwq⟩ : ∃ wq, wq = wr := ⟨_, rfl⟩
          subst hwq
          obtain ⟨j, p, hj, rfl, hpb, hown, hdj, ext⟩ := hrel
          obtain ⟨Aq, cq, rfl, hsq⟩ := Sees.of_own hown
          have HOq := Lib.hid hown
          have HDq := Lib.hid hdj
          have EXq := Lib.hid ext
          have HSq := Lib.hid hsq
          have hqm := hsq.max
          unfold maxLen at hqm
          clear hown hdj ext hsq
          by_cases hjN : j < N
          · obtain ⟨r, hr⟩ : ∃ r, rs[j]? = some r := ⟨rs[j]'(by rw [HNL.out]; exact hjN), List.getElem?_eq_getElem _⟩
            obtain ⟨bg, og, Ar, nr, cr, hA5, hcr, hsr⟩ := (HRS.out.ext EXq.out).at_ j r hr
            subst hA5
            have hd := HDq.out
            rw [drop_cons_get hr] at hd
            unfold Dr at hd
            obtain ⟨hd1, hd2, hd3⟩ := hd
            have hjL : j % L < L := Nat.mod_lt _ hL0
            obtain ⟨bz, oz, u, hAs, hu, hcz, _⟩ := (HSS.out.ext (E5.out.trans EXq.out)).at_ hjL
            subst hAs
            obtain ⟨x, hx⟩ : ∃ x, z[j % L]? = some x := ⟨z[j % L]'(by rw [HLE.out]; exact hjL), List.getElem?_eq_getElem _⟩
            have hu2 : u = .int .i64 x := by
              rw [List.getElem?_map, hx] at hu
              injection hu with hu
              exact hu.symm
            subst hu2
            obtain ⟨hx0, hx1⟩ := HZ.out.2.2.1 x (List.mem_of_getElem? hx)
            have hsz9 : (szF z (j % L) : Int) = x := by
              unfold szF
              rw [List.getD_eq_getElem?_getD, hx]
              simp
              omega
            have hnr : nr = r.length := by have := hsr.len; rw [bs_length] at this; exact this.symm
            have hrl : (nr : Int) = min x ((b : Int) - (p : Int)) := by
              rw [hnr, hd2, List.length_take, List.length_drop, ← HBL.out]
              omega
            have hpn : p + nr ≤ b := by omega
            have gmin : (if (b : Int) - (p : Int) < x then (b : Int) - (p : Int) else x) = (nr : Int) := by split <;> omega
            have gmod : ((j : Int)).tmod (L : Int) = ((j % L : Nat) : Int) := by rw [Int.tmod_eq_emod_of_nonneg (by omega), Int.natCast_emod]
            obtain ⟨jm, hjm⟩ : ∃ jm, j % L = jm := ⟨_, rfl⟩
            rw [hjm] at gmod hjL hcz hsz9
            have g5 : (0 : Int) < (L : Int) := by omega
            have g6 : ((L : Int) == 0) = false := by simpa using (show ¬ L = 0 by omega)
            have g7 : ¬ L = 0 := by omega
            obtain ⟨A6, c6, w6, hrun, hown6, hg6, hat6⟩ := own_bytes HOq.out hsr (by have := EXq.out.size; omega) (by omega)
            have HFIN : Hid (w6.ownsRow w5.heap.size 5 1 (.slice A6 (p + nr) c6) (p + nr) (bs (rs.take (j + 1)).flatten) ∧ Dr z ((j + 1) % L) (T.flatten.drop (p + nr)) (rs.drop (j + 1)) ∧ Ext w5 w6) := Lib.hid ⟨by
                rw [take_snoc_get hr, List.flatten_append]
                simpa using hown6, by
                have e1 : T.flatten.drop (p + nr) = (T.flatten.drop p).drop (szF z (j % L)) := by
                  rw [hjm]
                  by_cases hc : szF z jm ≤ b - p
                  · rw [List.drop_drop, show nr = szF z jm by omega]
                  · rw [List.drop_of_length_le (by have := HBL.out; omega), List.drop_of_length_le (by rw [List.length_drop]; have := HBL.out; omega)]
                rw [e1]
                have e2 : (j % L + 1) % z.length = (j + 1) % L := by rw [HLE.out, Nat.mod_add_mod]
                rw [← e2]
                exact hd3, EXq.out.grown hg6 fun k hk => (HOq.out.lt k hk).1⟩
            clear hown6 hg6 hat6 hd1 hd2 hd3 hx hu hsr hr hjm hnr hrl hsz9
            go_wp2_with (first | (at_builtin; refine wpList_append_run rfl (.tmp 80) (.tmp 84) _ rfl _ _ rfl rfl _ w6 hrun ?_) | fail)
            go_roundw
            case rel => exact ⟨j + 1, p + nr, by omega, by go_num, by omega, HFIN.out⟩
            case measure => simp [intOf]; omega
          · obtain rfl : j = N := by omega
            have hsq := HSq.out
            rw [List.take_of_length_le (by rw [HNL.out]; exact Nat.le_refl _), HFLAT.out] at hsq
            have t1 := str_of hsq
            have t2 := str_of (HAL.out.ext EXq.out)
            have HPq := Lib.hid (HP5.out.keep (Kp.of_ext EXq.out))
            clear hsq
            go_wp2_with fail
            refine (pnext_none F tb cb z at5 wq HPq.out).mono ?_
            rintro e w7 ⟨rfl, rfl⟩
            go_wp2_with fail
            refine (pleft_any F tb cb _ _ _ z at5 wq HPq.out.1).mono ?_
            rintro e w7 ⟨rfl, rfl⟩
            go_wp2_with fail
            refine (ptexts_any F tb cb _ z at5 wq HPq.out).mono ?_
            rintro e w7 ⟨rfl, rfl⟩
            go_wp2_with fail
            refine (lives5 wq).mono ?_
            rintro e w8 ⟨rfl, e8⟩
            have E9 := Lib.hid (((E0.out.trans E5.out).trans EXq.out).trans e8)
            clear e8 t1 t2
            go_wp2
            go_ret
            exact ⟨rfl, E9.out⟩
end Go.Proofs.Ytjdcbmelladceaa
