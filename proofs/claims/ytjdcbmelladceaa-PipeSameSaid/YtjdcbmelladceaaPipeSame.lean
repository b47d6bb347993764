/-
  The statement PipeSame: its walk.
-/
import Derived.Test.YtjdcbmelladceaaPipK
import Derived.Laws.Concat
namespace Go.Proofs.Ytjdcbmelladceaa
open Go Go.RowKit
set_option linter.unusedVariables false
set_option linter.unusedSimpArgs false
def GoodF (z : List Int) : Prop := Goes z ∧ (okB z && smB z) = true ∧ (∀ x ∈ z, 0 ≤ x ∧ x ≤ 9) ∧ z.length ≤ 6
theorem goodF (zs : List Int) : GoodF (goodZ zs) := ⟨goodZ_goes zs, goodZ_may zs, goodZ_mem zs, (goodZ_len zs).2⟩
theorem GoodF.mea {z : List Int} (h : GoodF z) (k : Nat) (hk : k ≤ 180) : mea z k 0 ≤ 90000 := by
  have h1 := mea_le h.1 k 0 (by have := h.1.1; omega)
  have h2 : (k + 1) * z.length ≤ 181 * 6 := Nat.mul_le_mul (by omega) h.2.2.2
  omega
theorem GoodF.wide {z : List Int} (h : GoodF z) : ∀ x ∈ z, 0 ≤ x ∧ x ≤ 9223372036854775807 := fun x hx => by have := h.2.2.1 x hx; omega
/-- Two pipes of the same texts. -/
def Pips (w w0 : World) (F G : Nat → Prop) (tb cb tb2 cb2 : Nat) (T : List (List UInt8)) (z z2 : List Int) : Prop :=
  Pip w F tb cb T z 0 ∧ Pip w G tb2 cb2 T z2 0 ∧ (∀ j, F j → w0.heap.size ≤ j ∧ j < w.heap.size) ∧ (∀ j, G j → w0.heap.size ≤ j ∧ j < w.heap.size) ∧ (∀ j, F j → ¬ G j)
theorem take_flat_len (rs : List (List UInt8)) (j : Nat) : (rs.take j).flatten.length ≤ rs.flatten.length := by
  have h : rs.flatten = (rs.take j).flatten ++ (rs.drop j).flatten := by rw [← List.flatten_append, List.take_append_drop]
  rw [h, List.length_append]
  omega
set_option maxRecDepth 20000 in
set_option maxHeartbeats 4000000 in
theorem psame_walk (A : Option Addr) (n c : Nat) (zs : List Int) (B : Option Addr) (nb cb0 : Nat) (zs2 : List Int) (A1 : Option Addr) (n1 c1 : Nat) (rows : List (List Int)) (w : World) (hs : Sees w A n c (zs.map (Value.int .i64))) (hb : ∀ x ∈ zs, -9223372036854775808 ≤ x ∧ x ≤ 9223372036854775807)
    (hs2 : Sees w B nb cb0 (zs2.map (Value.int .i64))) (hb2 : ∀ x ∈ zs2, -9223372036854775808 ≤ x ∧ x ≤ 9223372036854775807) (h1 : SeesRows .u8 w A1 n1 c1 rows) :
    Calls Try.prog 8 #[.slice A n c, .slice B nb cb0, .slice A1 n1 c1] w fun e w' => e = .returned (.bool true) ∧ Ext w w' := by
  have hle1 := h1.2.1
  have hmx1 := h1.2.2.1
  unfold maxLen at hmx1
  have H1 := Lib.hid h1
  have H2 := Lib.hid hs2
  have HB2 := Lib.hid hb2
  have HG := Lib.hid (good_any A n c zs w hs hb)
  obtain ⟨z, hz⟩ : ∃ z, goodZ zs = z := ⟨_, rfl⟩
  obtain ⟨z2, hz2⟩ : ∃ z2, goodZ zs2 = z2 := ⟨_, rfl⟩
  have HZ : Hid (GoodF z) := Lib.hid (by subst hz; exact goodF zs)
  have HZ2 : Hid (GoodF z2) := Lib.hid (by subst hz2; exact goodF zs2)
  have HE2 := Lib.hid hz2
  rw [hz] at HG
  clear h1 hs hb hz hs2 hb2 hz2
  obtain ⟨L, hL⟩ : ∃ L, z.length = L := ⟨_, rfl⟩
  obtain ⟨L2, hL2⟩ : ∃ L2, z2.length = L2 := ⟨_, rfl⟩
  have hL6 : L ≤ 6 := by have := HZ.out.2.2.2; omega
  have hL62 : L2 ≤ 6 := by have := HZ2.out.2.2.2; omega
  have HLE := Lib.hid hL
  have HLE2 := Lib.hid hL2
  unfold PGood at HG
  rw [hL] at HG
  clear hL hL2
  go_enter Try.func8, Try.ntmps8
  go_wp2_with fail
  refine HG.out.mono ?_
  rintro e w0 ⟨As, cs, rfl, hss, e0⟩
  have hsl := hss.le
  have hsm := hss.max
  unfold maxLen at hsm
  have E0 := Lib.hid e0
  have HN := Lib.hid (pnew_ok As L cs z w0 hss HZ.out.1.1 HZ.out.2.1 HZ.out.wide (by have := HZ.out.2.2.2; omega))
  clear hss e0 HG
  go_wp2_with fail
  refine HN.out.mono ?_
  rintro e w1 ⟨tb, cb, rfl, hp, e1⟩
  have HT : Hid (w0.heap.size ≤ tb ∧ w0.heap.size ≤ cb) := Lib.hid (by have := hp.1.inF; exact ⟨this.1.1, this.2.1⟩)
  obtain ⟨F1, HP1⟩ : ∃ F : Nat → Prop, Hid (Pip w1 F tb cb [] z 0 ∧ (∀ k, F k → w0.heap.size ≤ k ∧ k < w1.heap.size)) := ⟨_, Lib.hid ⟨hp, fun k q => q⟩⟩
  have E1 := Lib.hid e1
  have HG2 := Lib.hid (good_any B nb cb0 zs2 w1 (H2.out.ext (E0.out.trans e1)) HB2.out)
  rw [HE2.out] at HG2
  unfold PGood at HG2
  rw [HLE2.out] at HG2
  clear hp e1 HN
  go_wp2_with fail
  refine HG2.out.mono ?_
  rintro e w2 ⟨As2, cs2, rfl, hss2, e2⟩
  have hsl2 := hss2.le
  have hsm2 := hss2.max
  unfold maxLen at hsm2
  have E2 := Lib.hid (E1.out.trans e2)
  have HN2 := Lib.hid (pnew_ok As2 L2 cs2 z2 w2 hss2 HZ2.out.1.1 HZ2.out.2.1 HZ2.out.wide (by have := HZ2.out.2.2.2; omega))
  have hsz2 := e2.size
  have HP2 := Lib.hid (HP1.out.1.keep (Kp.of_ext e2))
  clear hss2 e2 HG2
  go_wp2_with fail
  refine HN2.out.mono ?_
  rintro e w3 ⟨tb2, cb2, rfl, hq, e3⟩
  have hsz3 := e3.size
  have HT2 : Hid (w0.heap.size ≤ tb2 ∧ w0.heap.size ≤ cb2) := Lib.hid (by have := hq.1.inF; have := E2.out.size; omega)
  have HPS : Hid (∃ F G, Pips w3 w0 F G tb cb tb2 cb2 [] z z2) := Lib.hid ⟨F1, _, HP2.out.keep (Kp.of_ext e3), hq, fun j q => by have := HP1.out.2 j q; omega, fun j q => by have := E2.out.size; omega, fun j q q2 => by have := HP1.out.2 j q; omega⟩
  have E3 := Lib.hid (E2.out.trans e3)
  clear hq e3 HN2 hsz3 hsz2 HP2 HP1 E1 E2
  go_wp2_with fail
  go_loopw [11] (fun iv wr => ∃ (k : Nat) (F G : Nat → Prop) (T : List (List UInt8)), k ≤ n1 ∧ k ≤ 6 ∧ iv = .int .i64 (k : Int) ∧ Pips wr w0 F G tb cb tb2 cb2 T z z2 ∧ T.length ≤ k ∧ T.flatten.length ≤ 30 * k ∧ Ext w0 wr) (fun iv _ => 6 - (intOf iv).toNat)
  case atStart =>
    obtain ⟨F, G, h⟩ := HPS.out
    exact ⟨0, F, G, [], by omega, by omega, rfl, h, by simp, by simp, E3.out⟩
  case round =>
    obtain ⟨k, F, G, T, hk, hk6, rfl, hp, hT, hfl, ext⟩ := hrel
    have HP := Lib.hid hp
    have HTL := Lib.hid hT
    have HFL := Lib.hid hfl
    have EX := Lib.hid ext
    clear hp hT hfl ext HPS E3
    by_cases hlt : k < n1 ∧ k < 6
    · obtain ⟨hlt1, hlt2⟩ := hlt
      obtain ⟨br, offr, Ar, nr, cr, r, rfl, hc, hsr⟩ := (H1.out.ext (E0.out.trans EX.out)).bytes k hlt1
      have HSR := Lib.hid hsr
      clear hsr
      go_wp2_with fail
      refine (few_nat Ar nr cr 30 30 (bs r) wr HSR.out (bs_one _) (by omega) (by omega) rfl).mono ?_
      rintro e w2 ⟨v2, rfl, hown2, e2⟩
      rw [bs_take] at hown2
      obtain ⟨m, hm⟩ : ∃ m, min nr 30 = m := ⟨_, rfl⟩
      rw [hm] at hown2
      have hm30 : m ≤ 30 := by omega
      obtain ⟨A2, c2, rfl, hs2⟩ := Sees.of_own hown2
      have HL30 : Hid ((r.take 30).length = m) := Lib.hid (by have := hown2.1; rw [bs_length] at this; omega)
      have HB2 : Hid (∀ a, A2 = some a → wr.heap.size ≤ a.block ∧ a.block < w2.heap.size) := Lib.hid (fun a ha => hown2.lt a.block (by rw [ha]; rfl))
      have E2 := Lib.hid e2
      have HS2 := Lib.hid hs2
      have hsz2 := e2.size
      have HSD := Lib.hid (psend_all F tb cb T z 0 A2 m c2 (r.take 30) w2 (HP.out.1.keep (Kp.of_ext e2)) (fun j q => by have := HP.out.2.2.1 j q; omega) hs2 (by have := HTL.out; omega) (by have := HFL.out; omega) (by rw [HL30.out]; omega))
      clear hown2 hs2 e2 hm hc
      go_wp2_with fail
      refine HSD.out.mono ?_
      rintro e w3 ⟨F3, rfl, hp3, hF3, hk3⟩
      have hsz3 := hk3.size
      have hGt : ∀ j, G j → Two tb cb j := fun j q => ⟨fun e => HP.out.2.2.2.2 tb HP.out.1.1.inF.1 (e ▸ q), fun e => HP.out.2.2.2.2 cb HP.out.1.1.inF.2 (e ▸ q)⟩
      have hq3 : Pip w3 G tb2 cb2 T z2 0 := (HP.out.2.1.keep (Kp.of_ext E2.out)).keep (hk3.mono hGt)
      have hs3 := hk3.sees HS2.out fun a ha hn => by
        have h1 := HB2.out a ha
        have h2 := HP.out.1.1.lt
        exact (⟨by omega, by omega⟩ : Two tb cb a.block)
      have HF3 := Lib.hid hF3
      have HP3 := Lib.hid hp3
      have E3 := Lib.hid (ext_two (EX.out.trans E2.out) hk3 HT.out.1 HT.out.2)
      have HSQ := Lib.hid (psend_all G tb2 cb2 T z2 0 A2 m c2 (r.take 30) w3 hq3 (fun j q => by have := HP.out.2.2.2.1 j q; omega) hs3 (by have := HTL.out; omega) (by have := HFL.out; omega) (by rw [HL30.out]; omega))
      clear hp3 hF3 hk3 hq3 hs3 hGt HSD
      go_wp2_with fail
      refine HSQ.out.mono ?_
      rintro e w4 ⟨G4, rfl, hq4, hG4, hk4⟩
      have hsz4 := hk4.size
      have hFt : ∀ j, F3 j → Two tb2 cb2 j := fun j q => by
        have h2 := HP.out.2.1.1.lt
        rcases HF3.out j q with q | q
        · exact ⟨fun e => HP.out.2.2.2.2 j q (e ▸ HP.out.2.1.1.inF.1), fun e => HP.out.2.2.2.2 j q (e ▸ HP.out.2.1.1.inF.2)⟩
        · exact ⟨by omega, by omega⟩
      have hff : (T ++ oneT (r.take 30)).flatten = T.flatten ++ r.take 30 := by rw [List.flatten_append, oneT_flat]
      have HFIN : Hid (Pips w4 w0 F3 G4 tb cb tb2 cb2 (T ++ oneT (r.take 30)) z z2 ∧ (T ++ oneT (r.take 30)).length ≤ k + 1 ∧ (T ++ oneT (r.take 30)).flatten.length ≤ 30 * (k + 1) ∧ Ext w0 w4) := Lib.hid ⟨⟨HP3.out.keep (hk4.mono hFt), hq4, fun j q => by
          have := EX.out.size
          rcases HF3.out j q with q | q
          · have := HP.out.2.2.1 j q; omega
          · omega, fun j q => by
          have := EX.out.size
          rcases hG4 j q with q | q
          · have := HP.out.2.2.2.1 j q; omega
          · omega, fun j q q2 => by
          rcases HF3.out j q with q | q
          · rcases hG4 j q2 with q2 | q2
            · exact HP.out.2.2.2.2 j q q2
            · have := HP.out.2.2.1 j q; omega
          · rcases hG4 j q2 with q2 | q2
            · have := HP.out.2.2.2.1 j q2; omega
            · omega⟩, by have := oneT_len (r.take 30); have := HTL.out; simp; omega, by rw [hff, List.length_append, HL30.out]; have := HFL.out; omega, ext_two E3.out hk4 HT2.out.1 HT2.out.2⟩
      clear hq4 hG4 hk4 hFt hff HSQ
      obtain ⟨fl, hfl⟩ : ∃ fl, (T ++ oneT (r.take 30)).flatten.length = fl := ⟨_, rfl⟩
      obtain ⟨tl, htl⟩ : ∃ tl, (T ++ oneT (r.take 30)).length = tl := ⟨_, rfl⟩
      have HL1 := Lib.hid (pleft_any F3 tb cb _ _ _ z 0 w4 HFIN.out.1.1.1)
      have HL2 := Lib.hid (pleft_any G4 tb2 cb2 _ _ _ z2 0 w4 HFIN.out.1.2.1.1)
      have HX1 := Lib.hid (ptexts_any F3 tb cb _ z 0 w4 HFIN.out.1.1)
      have HX2 := Lib.hid (ptexts_any G4 tb2 cb2 _ z2 0 w4 HFIN.out.1.2.1)
      rw [hfl] at HL1 HL2
      rw [htl] at HX1 HX2
      clear hfl htl
      go_wp2_with fail
      refine HL1.out.mono ?_
      rintro e w5 ⟨rfl, rfl⟩
      go_wp2_with fail
      refine HL2.out.mono ?_
      rintro e w5 ⟨rfl, rfl⟩
      go_wp2_with fail
      refine HX1.out.mono ?_
      rintro e w5 ⟨rfl, rfl⟩
      go_wp2_with fail
      refine HX2.out.mono ?_
      rintro e w5 ⟨rfl, rfl⟩
      go_wp2_with fail
      go_roundw
      case rel => exact ⟨k + 1, F3, G4, _, by omega, by omega, by go_num, HFIN.out⟩
      case measure => simp [intOf]; omega
    · have hend : ¬ k < n1 ∨ (k < n1 ∧ ¬ k < 6) := by omega
      clear hlt
      have hfl180 : T.flatten.length ≤ 180 := by have := HFL.out; omega
      have HD := Lib.hid (pdrain_any F tb cb T z 0 wr HP.out.1 (fun j q => (HP.out.2.2.1 j q).2) HZ.out.1 (by omega) (HZ.out.mea _ hfl180))
      have HFL180 := Lib.hid hfl180
      clear hfl180
      rcases hend with he | ⟨he, he6⟩ <;> go_wp2_with fail
      all_goals
        refine HD.out.mono ?_
        rintro e w5 ⟨Ag, cg, rs, at5, rfl, hox, hdr, hp5, hk5, hob5, hrl⟩
        have hGt : ∀ j, G j → Two tb cb j := fun j q => ⟨fun e => HP.out.2.2.2.2 tb HP.out.1.1.inF.1 (e ▸ q), fun e => HP.out.2.2.2.2 cb HP.out.1.1.inF.2 (e ▸ q)⟩
        have HQ5 := Lib.hid (HP.out.2.1.keep (hk5.mono hGt))
        have HFLAT := Lib.hid hdr.flat
        have HRS := Lib.hid hox.seesB
        have E5 := Lib.hid (ext_two EX.out hk5 HT.out.1 HT.out.2)
        have HS5 := Lib.hid hk5.size
        obtain ⟨N, hN⟩ : ∃ N, rs.length = N := ⟨_, rfl⟩
        have HNL := Lib.hid hN
        have hcg := HRS.out.len
        have hcgm := hcg.2.2
        unfold maxLen at hcgm
        have hcg1 := hcg.2.1
        rw [hN] at HRS hcg1 ⊢
        clear hox hdr hp5 hk5 hob5 hrl hGt hN hcg HD
        go_wp2_with fail
        go_loopw [13, 16] (fun xv jv wq => ∃ j : Nat, j ≤ N ∧ jv = .int .i64 (j : Int) ∧ xv = .string ⟨(rs.take j).flatten.toArray⟩ ∧ Ext w5 wq) (fun _ jv _ => N - (intOf jv).toNat)
        case atStart => exact ⟨0, by omega, rfl, rfl, Ext.refl _⟩
        case round =>
          obtain ⟨wq, hwq⟩ : ∃ wq, wq = wr := ⟨_, rfl⟩
          subst hwq
          obtain ⟨j, hj, rfl, rfl, ext⟩ := hrel
          have EXq := Lib.hid ext
          clear ext
          by_cases hjN : j < N
          · obtain ⟨r, hr⟩ : ∃ r, rs[j]? = some r := ⟨rs[j]'(by rw [HNL.out]; exact hjN), List.getElem?_eq_getElem _⟩
            obtain ⟨bg, og, Ar, nr, cr, hA5, hcr, hsr⟩ := (HRS.out.ext EXq.out).at_ j r hr
            subst hA5
            have t1 := str_of hsr
            have e3 : (rs.take (j + 1)).flatten = (rs.take j).flatten ++ r := by rw [take_snoc_get hr]; simp
            have hlen3 : (rs.take (j + 1)).flatten.length ≤ 180 := by
              have := take_flat_len rs (j + 1)
              rw [HFLAT.out] at this
              have := HFL180.out
              omega
            rw [e3, List.length_append] at hlen3
            have hadd := fun w => run_string_add_lists (P := Try.prog) w (rs.take j).flatten r (by omega) (by omega)
            have HE3 := Lib.hid e3
            clear e3 hsr hr hlen3
            go_wp2_with fail
            go_roundw
            case rel => exact ⟨j + 1, by omega, by go_num, by rw [HE3.out], EXq.out⟩
            case measure => simp [intOf]; omega
          · obtain rfl : j = N := by omega
            rw [List.take_of_length_le (by rw [HNL.out]; exact Nat.le_refl _), HFLAT.out]
            have HD2 := Lib.hid (pdrain_any G tb2 cb2 T z2 0 wq (HQ5.out.keep (Kp.of_ext EXq.out)) (fun j q => by have := HP.out.2.2.2.1 j q; have := HS5.out; have := EXq.out.size; omega) HZ2.out.1 (by have := HFL180.out; omega) (HZ2.out.mea _ HFL180.out))
            go_wp2_with fail
            refine HD2.out.mono ?_
            rintro e w6 ⟨Ah, ch, rs2, at6, rfl, hox, hdr, hp6, hk6, hob6, hrl⟩
            have HFLAT2 := Lib.hid hdr.flat
            have HRS2 := Lib.hid hox.seesB
            have E6 := Lib.hid (ext_two (E5.out.trans EXq.out) hk6 HT2.out.1 HT2.out.2)
            obtain ⟨M, hM⟩ : ∃ M, rs2.length = M := ⟨_, rfl⟩
            have HML := Lib.hid hM
            have hch := HRS2.out.len
            have hchm := hch.2.2
            unfold maxLen at hchm
            have hch1 := hch.2.1
            rw [hM] at HRS2 hch1 ⊢
            clear hox hdr hp6 hk6 hob6 hrl hM hch HD2
            go_wp2_with fail
            go_loopw [14, 18] (fun xv jv wz => ∃ j : Nat, j ≤ M ∧ jv = .int .i64 (j : Int) ∧ xv = .string ⟨(rs2.take j).flatten.toArray⟩ ∧ Ext w6 wz) (fun _ jv _ => M - (intOf jv).toNat)
            case atStart => exact ⟨0, by omega, rfl, rfl, Ext.refl _⟩
            case round =>
              obtain ⟨wz, hwz⟩ : ∃ wz, wz = wr := ⟨_, rfl⟩
              subst hwz
              obtain ⟨i, hi, rfl, rfl, ext⟩ := hrel
              have EXz := Lib.hid ext
              clear ext
              by_cases hiM : i < M
              · obtain ⟨r, hr⟩ : ∃ r, rs2[i]? = some r := ⟨rs2[i]'(by rw [HML.out]; exact hiM), List.getElem?_eq_getElem _⟩
                obtain ⟨bg2, og2, Ar, nr, cr, hA6, hcr, hsr⟩ := (HRS2.out.ext EXz.out).at_ i r hr
                subst hA6
                have t1 := str_of hsr
                have e3 : (rs2.take (i + 1)).flatten = (rs2.take i).flatten ++ r := by rw [take_snoc_get hr]; simp
                have hlen3 : (rs2.take (i + 1)).flatten.length ≤ 180 := by
                  have := take_flat_len rs2 (i + 1)
                  rw [HFLAT2.out] at this
                  have := HFL180.out
                  omega
                rw [e3, List.length_append] at hlen3
                have hadd := fun w => run_string_add_lists (P := Try.prog) w (rs2.take i).flatten r (by omega) (by omega)
                have HE3 := Lib.hid e3
                clear e3 hsr hr hlen3
                go_wp2_with fail
                go_roundw
                case rel => exact ⟨i + 1, by omega, by go_num, by rw [HE3.out], EXz.out⟩
                case measure => simp [intOf]; omega
              · obtain rfl : i = M := by omega
                rw [List.take_of_length_le (by rw [HML.out]; exact Nat.le_refl _), HFLAT2.out]
                go_wp2_with fail
                refine (lives5 wz).mono ?_
                rintro e w8 ⟨rfl, e8⟩
                have E9 := Lib.hid (((E0.out.trans E6.out).trans EXz.out).trans e8)
                clear e8
                go_wp2
                go_ret
                exact ⟨rfl, E9.out⟩
end Go.Proofs.Ytjdcbmelladceaa
