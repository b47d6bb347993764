/-
  Layer 5: the document's own pipe: the next piece, byte by byte.
-/
import Derived.Test.YtjdcbmelladceaaPipM
namespace Go.Proofs.Ytjdcbmelladceaa
open Go Go.RowKit
set_option linter.unusedVariables false
set_option linter.unusedSimpArgs false
theorem cutT_min (T : List (List UInt8)) (h : AllNe T) (n : Nat) : cutT (min n T.flatten.length) T = cutT n T := by
  by_cases hc : n ≤ T.flatten.length
  · rw [Nat.min_eq_left hc]
  · rw [Nat.min_eq_right (by omega), cutT_all T h _ (Nat.le_refl _), cutT_all T h n (by omega)]
/-- Texts in a row of the call's own, from a place in its block on. -/
def RowS (w : World) (base : Nat) (A : Option Addr) (T : List (List UInt8)) : Prop :=
  0 < T.length → ∃ g off cur, A = some ⟨g, off, none⟩ ∧ w.heap[g]? = some (.cells cur 9 (0, 0)) ∧ base ≤ g ∧ ∀ q l, T[q]? = some l → cur[off + q]? = some (strV l)
theorem RowS.of_own {w : World} {base : Nat} {A : Option Addr} {n c : Nat} {T : List (List UInt8)} (h : w.ownsRow base 9 1 (.slice A n c) n (T.map strV)) : RowS w base A T := fun hT => by
  obtain ⟨h1, h2⟩ := h
  rw [List.length_map] at h1
  rcases h2 with ⟨h2, _⟩ | ⟨g, cap, cur, hv, hb, hg, hn, hx, hs, ht⟩
  · injection h2 with _ h3
    omega
  · injection hv with hv _ hc
    refine ⟨g, 0, cur, hv, hg, hb, fun q l hq => ?_⟩
    have h4 : (T.map strV)[q]? = some (strV l) := by rw [List.getElem?_map, hq]; rfl
    rw [← ht, List.getElem?_take] at h4
    split at h4
    · rw [Nat.zero_add]
      simpa using h4
    · cases h4
theorem RowS.sees {w : World} {base : Nat} {A : Option Addr} {c : Nat} {T : List (List UInt8)} (h : RowS w base A T) (hc : T.length ≤ c) (hm : c ≤ maxLen) (hn : A = none → c = 0) : Sees w A T.length c (T.map strV) :=
  ⟨by simp, hc, hm, hn, fun hp => by
    obtain ⟨g, off, cur, hA, hg, _, hq⟩ := h hp
    refine ⟨g, off, hA, fun j u hu => ?_⟩
    rw [List.getElem?_map] at hu
    cases hT : T[j]? with
    | none => rw [hT] at hu; cases hu
    | some l =>
      rw [hT] at hu
      injection hu with hu
      rw [cell_of_row w g (off + j) _ _ _ hg, hq j l hT, ← hu]⟩
theorem RowS.keep {w w' : World} {base : Nat} {A : Option Addr} {T : List (List UInt8)} (h : RowS w base A T) (hk : ∀ j, base ≤ j → j < w.heap.size → w'.heap[j]? = w.heap[j]?) : RowS w' base A T := fun hT => by
  obtain ⟨g, off, cur, hA, hg, hb, hq⟩ := h hT
  exact ⟨g, off, cur, hA, (hk g hb (Array.getElem?_eq_some_iff.1 hg).1).trans hg, hb, hq⟩
def lenS : Value → Nat | .string s => s.size | _ => 0
theorem lenS_str (l : List UInt8) : lenS (strV l) = l.length := by simp [lenS, strV, ByteArray.size]
def RNext (w : World) (T : List (List UInt8)) (N : Nat) (As : Option Addr) (L cs k : Nat) (e : Ending) (w' : World) : Prop :=
  ∃ A' m c', e = .returned (.tuple #[refP A' m c' As L cs (k + 1), strV (T.flatten.take N), .bool true]) ∧ Sees w' A' m c' ((cutT N T).map strV) ∧ (∀ a, A' = some a → 0 < m → w.heap.size ≤ a.block) ∧ Ext w w'
def RLoop (w1 : World) (base N : Nat) (T : List (List UInt8)) (ov lv : Value) (wr : World) : Prop :=
  ∃ (T' : List (List UInt8)) (j m : Nat) (A' : Option Addr) (c' : Nat), ov = strV (T.flatten.take j) ∧ j ≤ N ∧ j ≤ T.flatten.length ∧ lv = .slice A' m c' ∧ m = T'.length ∧ RowS wr base A' T' ∧ m ≤ c' ∧ c' ≤ maxLen ∧ (A' = none → c' = 0) ∧ AllNe T' ∧ T'.flatten = T.flatten.drop j ∧ cutT (N - j) T' = cutT N T ∧ Below base w1 wr
set_option maxRecDepth 20000 in
theorem rnext_none (A : Option Addr) (c : Nat) (As : Option Addr) (L cs k : Nat) (w : World) :
    Calls Try.prog 13 #[refP A 0 c As L cs k] w fun e w' => e = .returned (.tuple #[refP A 0 c As L cs k, .string ⟨#[]⟩, .bool false]) ∧ Ext w w' := by
  have HZ := Lib.hid infoP
  go_enter Try.func13, Try.ntmps13
  go_wp2
  refine bodyPost_ret (results_cell_t2 rfl _ _ (w.heap.size + 1) _ _ (0, 0) _ (.string ⟨#[]⟩) (.bool false) rfl rfl rfl (heap_alloc2_new w _ _) Try.underlying31 rfl HZ.out) rfl ?_
  exact ⟨rfl, ((Ext.refl w).alloc _).alloc _⟩
set_option maxRecDepth 20000 in
set_option maxHeartbeats 4000000 in
theorem rnext_some (A : Option Addr) (n c : Nat) (As : Option Addr) (L cs k : Nat) (z : List Int) (T : List (List UInt8)) (w : World) (hs : Sees w A n c (T.map strV)) (hn : 0 < n) (hn2 : n ≤ 1000) (hne : AllNe T) (hfl : T.flatten.length ≤ 100000)
    (hz : Sees w As L cs (z.map (Value.int .i64))) (hL : 0 < L) (hL2 : L ≤ 1000) (hzb : ∀ x ∈ z, 0 ≤ x ∧ x ≤ 100000) (hk : k ≤ 1000) :
    Calls Try.prog 13 #[refP A n c As L cs k] w (RNext w T (szF z (k % L)) As L cs k) := by
  have hn0 : ((n : Int) == 0) = false := by simpa using (show ¬ n = 0 by omega)
  have HS := Lib.hid hs
  have HZ := Lib.hid infoP
  have HNE := Lib.hid hne
  have HFL := Lib.hid hfl
  have HZB := Lib.hid hzb
  have hkL : k % L < L := Nat.mod_lt _ hL
  obtain ⟨km, hkm⟩ : ∃ km, k % L = km := ⟨_, rfl⟩
  have gmod : (k : Int).tmod (L : Int) = (km : Int) := by rw [← hkm, Int.tmod_eq_emod_of_nonneg (by omega), Int.natCast_emod]
  rw [hkm] at hkL ⊢
  have HSZ := Lib.hid hz
  have hzl := hz.le
  have hzm := hz.max
  unfold maxLen at hzm
  have hb0 := heap_alloc_new w (.cells #[.slice A n c, .slice As L cs, .int .i64 (k : Int)] 31)
  obtain ⟨w1, hw1⟩ : ∃ w1, (w.alloc (.cells #[.slice A n c, .slice As L cs, .int .i64 (k : Int)] 31)).alloc (.cells #[.slice none 0 0, .slice none 0 0, .int .i64 0] 31) = w1 := ⟨_, rfl⟩
  have e1 : Ext w w1 := by rw [← hw1]; exact ((Ext.refl w).alloc _).alloc _
  have hb1 : w1.heap[w.heap.size]? = some (.cells #[.slice A n c, .slice As L cs, .int .i64 (k : Int)] 31 (0, 0)) := by rw [← hw1]; exact ((Ext.refl _).alloc _).heap hb0
  have hb2 : w1.heap[w.heap.size + 1]? = some (.cells #[.slice none 0 0, .slice none 0 0, .int .i64 0] 31 (0, 0)) := by rw [← hw1]; exact heap_alloc2_new w _ _
  have hsz1 : w1.heap.size = w.heap.size + 2 := by rw [← hw1]; simp
  have x0 := cell_of_row w1 w.heap.size 0 _ _ _ hb1
  have x1 := cell_of_row w1 w.heap.size 1 _ _ _ hb1
  have x2 := cell_of_row w1 w.heap.size 2 _ _ _ hb1
  have f2 := Lib.frozen_of_heap hb1 2
  simp at x0 x1 x2
  obtain ⟨bz, oz, u, hAs, hu, hcz, _⟩ := (HSZ.out.ext e1).at_ hkL
  subst hAs
  have hzlen := hz.len
  rw [List.length_map] at hzlen
  obtain ⟨x, hx⟩ : ∃ x, z[km]? = some x := ⟨z[km]'(by omega), List.getElem?_eq_getElem _⟩
  have hu2 : u = .int .i64 x := by
    rw [List.getElem?_map, hx] at hu
    injection hu with hu
    exact hu.symm
  subst hu2
  obtain ⟨hx0, hx1⟩ := hzb x (List.mem_of_getElem? hx)
  obtain ⟨N, rfl⟩ := Int.eq_ofNat_of_zero_le hx0
  have hN : szF z km = N := by
    unfold szF
    rw [List.getD_eq_getElem?_getD, hx]
    rfl
  rw [hN]
  have g5 : (0 : Int) < (L : Int) := by omega
  have g6 : ((L : Int) == 0) = false := by simpa using (show ¬ L = 0 by omega)
  have g7 : ¬ L = 0 := by omega
  have E1 := Lib.hid e1
  have HB1 := Lib.hid hb1
  have HB2 := Lib.hid hb2
  have HSZ1 := Lib.hid hsz1
  clear hs hne hfl hz hzb hkm hb0 hb1 hb2 e1 hsz1 hu hx hN hzlen
  go_enter Try.func13, Try.ntmps13
  go_wp2_with fail
  clear hw1
  refine wp_region_pl (.free 0 (.free 1 (.free 2 (.free 3 (.free 4 (.free 5 (.free 6 (.free 7 (.free 8 (.free 9 (.free 10 .nil))))))))))) (by kernel_rfl) (by kernel_rfl) (by kernel_rfl) (by kernel_rfl) ?_
  iterate 11 (refine pl_val (v := ?_) rfl rfl (fun w' hw' => ?_) ?_; rotate_left; (· have y1 := hw'.cell x1; have y2 := hw'.cell x2; have yz := hw'.cell hcz; go_simp; try with_reducible rfl); simp only [Act.put, List.setIfInBounds_toArray, List.set_cons_zero, List.set_cons_succ])
  refine pl_done ?_
  obtain ⟨wd, hwd⟩ : ∃ wd, w1.drew = wd := ⟨_, rfl⟩
  have ed : Ext w1 wd := by rw [← hwd]; exact (Ext.refl w1).drew
  rw [hwd]
  have hbd1 := ed.heap HB1.out
  have hbd2 := ed.heap HB2.out
  have hsb : Sees (wd.setCell ⟨w.heap.size, 2, none⟩ (.int .i64 ((k : Int) + 1))) A n c (T.map strV) := ((Kp.refl (fun q => ¬ q = w.heap.size) wd).set w.heap.size 2 (.int .i64 ((k : Int) + 1)) (fun q => q rfl)).sees (HS.out.ext (E1.out.trans ed)) (fun a ha hnn e => by
    obtain ⟨b, off, u, hA, _, _, hlt⟩ := HS.out.at_ hn
    rw [ha] at hA
    injection hA with hA
    subst hA
    simp only at e
    omega)
  obtain ⟨A2, c2, w2, hrun2, hown2, e2⟩ := own_strs hsb (by omega)
  have y0 := cell_of_row wd w.heap.size 0 _ _ _ hbd1
  have y2 := cell_of_row wd w.heap.size 2 _ _ _ hbd1
  have fd2 := Lib.frozen_of_heap hbd1 2
  simp at y0 y2
  have hrow := RowS.of_own hown2
  have hsee2 := hown2
  obtain ⟨A9, c9, hv9, hs9⟩ := Sees.of_own hsee2
  injection hv9 with p1 _ p2
  subst p1 p2
  have hTl := HS.out.len
  rw [List.length_map] at hTl
  have hszd : (wd.setCell ⟨w.heap.size, 2, none⟩ (.int .i64 ((k : Int) + 1))).heap.size = wd.heap.size := by simp [World.setCell]
  have hg1 : w2.heap[w.heap.size]? = some (.cells #[.slice A n c, .slice (some ⟨bz, oz, none⟩) L cs, .int .i64 ((k : Int) + 1)] 31 (0, 0)) := e2.heap (by simpa using set_blkP hbd1 2 (.int .i64 ((k : Int) + 1)))
  have hg2 : w2.heap[w.heap.size + 1]? = some (.cells #[.slice none 0 0, .slice none 0 0, .int .i64 0] 31 (0, 0)) := e2.heap (by rw [heap_setCell_other _ _ _ _ (by simp)]; exact hbd2)
  have HG1 := Lib.hid hg1
  have HG2 := Lib.hid hg2
  have HC2 : Hid (n ≤ c2 ∧ c2 ≤ maxLen ∧ (A2 = none → c2 = 0)) := Lib.hid ⟨hs9.le, hs9.max, hs9.2.2.2.1⟩
  have HROW := Lib.hid hrow
  have HTL := Lib.hid hTl
  have hb2s := ed.size
  have hb1s := HSZ1.out
  obtain ⟨B, hB⟩ : ∃ B, wd.heap.size = B := ⟨_, rfl⟩
  have hBb : w.heap.size + 2 ≤ B := by omega
  rw [hszd, hB] at HROW
  have hw2B : B ≤ w2.heap.size := by have := e2.size; omega
  have HW2 : Hid (Ext w w2) := Lib.hid ⟨e2.os.trans (ed.os.trans E1.out.os), e2.tape.trans (ed.tape.trans E1.out.tape), e2.output.trans (ed.output.trans E1.out.output), by omega, fun j hj => by
    rw [e2.block j (by omega), heap_setCell_other _ _ _ _ (by simp only; omega)]
    exact (E1.out.trans ed).block j hj⟩
  clear hwd ed hbd1 hbd2 hsb hown2 e2 hrow hsee2 hs9 hszd hg1 hg2 hTl hB x0 x1 x2 f2 hcz hb2s hb1s
  go_wp2_with (first | (at_builtin; refine wpList_append_run rfl (.tmp 27) (.tmp 29) _ rfl _ _ rfl rfl _ w2 hrun2 ?_) | fail)
  clear hrun2 y0 y2 fd2
  go_loopw [5, 7] (fun ov lv wr => RLoop w2 B N T ov lv wr) (fun ov _ _ => N - lenS ov)
  case atStart => exact ⟨T, 0, n, A2, c2, rfl, by omega, by omega, rfl, HTL.out.symm, HROW.out, HC2.out.1, HC2.out.2.1, HC2.out.2.2, HNE.out, by simp, by simp, Below.refl _ _⟩
  case round =>
    obtain ⟨T', j, m, A', c', rfl, hjN, hjT, rfl, hmT, hrow, hmc, hcm, hAn, hneT, hflT, hcut, hbel⟩ := hrel
    have HROW' := Lib.hid hrow
    have HNE' := Lib.hid hneT
    have HFL' := Lib.hid hflT
    have HCT' := Lib.hid hcut
    have HBE := Lib.hid hbel
    have HAN := Lib.hid hAn
    have HMT := Lib.hid hmT
    unfold maxLen at hcm
    have hlo : ((T.flatten.take j).length) = j := by rw [List.length_take]; omega
    have HLO := Lib.hid hlo
    have hjF := HFL.out
    clear hrow hneT hflT hcut hbel hAn hmT hlo
    by_cases hin : j < N ∧ 0 < m
    · obtain ⟨hin1, hin2⟩ := hin
      cases T' with
      | nil => exact absurd HMT.out (by simp; omega)
      | cons hh tt =>
        cases hh with
        | nil => exact absurd rfl (HNE'.out [] (by simp))
        | cons a r =>
          obtain ⟨g, off, cur, hA', hg, hgb, hq⟩ := HROW'.out (by simp)
          subst hA'
          have d0 : wr.cell? ⟨g, off, none⟩ = some (.string ⟨(a :: r).toArray⟩) := by
            rw [cell_of_row wr g off _ _ _ hg]
            have h9 := hq 0 (a :: r) rfl
            rwa [Nat.add_zero] at h9
          have fz := Lib.frozen_of_heap hg off
          have HG := Lib.hid hg
          have HQ := Lib.hid hq
          obtain ⟨O, hO⟩ : ∃ O, T.flatten.take j = O := ⟨_, rfl⟩
          have hOl := HLO.out
          rw [hO] at hOl ⊢
          have HO := Lib.hid hO
          have hsx : (ByteArray.mk (a :: r).toArray).extract 0 1 = ⟨[a].toArray⟩ := by
            apply ByteArray.ext
            simp
          have hsy : (ByteArray.mk (a :: r).toArray).extract 1 (r.length + 1) = ⟨r.toArray⟩ := by
            apply ByteArray.ext
            simp
          have hadd := fun w => run_string_add_lists (P := Try.prog) w O [a] (by omega) (by simp)
          have hjN' : (j : Int) < (N : Int) := by omega
          have hm0 : (0 : Int) < (m : Int) := by omega
          have hm1 : (1 : Int) ≤ (m : Int) := by omega
          clear hg hq hO
          unfold strV
          by_cases hr : r = []
          · subst hr
            have HPRE : Hid (strV (O ++ [a]) = strV (T.flatten.take (j + 1)) ∧ j + 1 ≤ T.flatten.length ∧ m - 1 = tt.length ∧ AllNe tt ∧ tt.flatten = T.flatten.drop (j + 1) ∧ cutT (N - (j + 1)) tt = cutT N T ∧ Below B w2 (wr.setCell ⟨g, off, none⟩ (.string ⟨#[]⟩))) := Lib.hid ⟨by rw [← HO.out, take_snoc_get (x := a)]; rw [← Nat.add_zero j, ← List.getElem?_drop, ← HFL'.out]; rfl, by
                have := congrArg List.length HFL'.out
                rw [List.length_drop] at this
                have h9 : 0 < ([a] :: tt).flatten.length := by simp
                omega, by have := HMT.out; simp at this; omega, HNE'.out.tail, by
                have h1 := HFL'.out
                rw [← List.drop_drop, ← h1]
                rfl, by
                have h1 := HCT'.out
                rw [← h1]
                conv => rhs; unfold cutT
                rw [if_neg (by simp; omega)]
                rfl, Below.setCell HBE.out hgb _⟩
            have HROWT : Hid (∀ A'', (0 < tt.length → A'' = some ⟨g, off + 1, none⟩) → RowS (wr.setCell ⟨g, off, none⟩ (.string ⟨#[]⟩)) B A'' tt) := Lib.hid (fun A'' hA'' ht => ⟨g, off + 1, _, hA'' ht, set_blkP HG.out off _, hgb, fun q l hl => by
                rw [Array.getElem?_setIfInBounds_ne (by omega), Nat.add_assoc, Nat.add_comm 1 q]
                exact HQ.out (q + 1) l hl⟩)
            by_cases hc1 : c' = 1
            · subst hc1
              have HFIN : Hid (RLoop w2 B N T (strV (O ++ [a])) (.slice (some ⟨g, off, none⟩) (m - 1) 0) (wr.setCell ⟨g, off, none⟩ (.string ⟨#[]⟩))) := Lib.hid ⟨tt, j + 1, m - 1, some ⟨g, off, none⟩, 0, HPRE.out.1, by omega, HPRE.out.2.1, rfl, HPRE.out.2.2.1, HROWT.out _ (fun ht => by have := HPRE.out.2.2.1; omega), by omega, by simp [maxLen], (fun h => by cases h), HPRE.out.2.2.2⟩
              have hm11 : m = 1 := by omega
              subst hm11
              go_wp2
              go_roundw
              case rel => exact HFIN.out
              case measure =>
                show N - lenS (strV (O ++ [a])) < N - lenS (strV O)
                rw [lenS_str, lenS_str, List.length_append]
                simp
                omega
            · have HFIN : Hid (RLoop w2 B N T (strV (O ++ [a])) (.slice (some ⟨g, off + 1, none⟩) (m - 1) (c' - 1)) (wr.setCell ⟨g, off, none⟩ (.string ⟨#[]⟩))) := Lib.hid ⟨tt, j + 1, m - 1, some ⟨g, off + 1, none⟩, c' - 1, HPRE.out.1, by omega, HPRE.out.2.1, rfl, HPRE.out.2.2.1, HROWT.out _ (fun _ => rfl), by omega, by unfold maxLen; omega, (fun h => by cases h), HPRE.out.2.2.2⟩
              have hc2 : ¬ c' ≤ 1 := by omega
              go_wp2
              go_roundw
              case rel => exact HFIN.out
              case measure =>
                show N - lenS (strV (O ++ [a])) < N - lenS (strV O)
                rw [lenS_str, lenS_str, List.length_append]
                simp
                omega
          · have hrE : r.isEmpty = false := by
              cases r with
              | nil => exact absurd rfl hr
              | cons x y => rfl
            have HFIN : Hid (RLoop w2 B N T (strV (O ++ [a])) (.slice (some ⟨g, off, none⟩) m c') (wr.setCell ⟨g, off, none⟩ (.string ⟨r.toArray⟩))) := Lib.hid ⟨r :: tt, j + 1, m, some ⟨g, off, none⟩, c', by rw [← HO.out, take_snoc_get (x := a)]; rw [← Nat.add_zero j, ← List.getElem?_drop, ← HFL'.out]; rfl, by omega, by
                have := congrArg List.length HFL'.out
                rw [List.length_drop] at this
                have h9 : 0 < ((a :: r) :: tt).flatten.length := by simp
                omega, rfl, by have := HMT.out; simpa using this, fun _ => ⟨g, off, _, rfl, set_blkP HG.out off _, hgb, fun q l hl => by
                  cases q with
                  | zero =>
                    simp at hl
                    subst hl
                    have := (Array.getElem?_eq_some_iff.1 (HQ.out 0 (a :: r) rfl)).1
                    simp at this
                    simp [this, strV]
                  | succ q =>
                    rw [Array.getElem?_setIfInBounds_ne (by omega)]
                    exact HQ.out (q + 1) l hl⟩, hmc, hcm, HAN.out, fun x hx => by
                  simp at hx
                  rcases hx with rfl | hx
                  · exact hr
                  · exact HNE'.out.tail x hx, by
                  have h1 := HFL'.out
                  rw [← List.drop_drop, ← h1]
                  rfl, by
                  have h1 := HCT'.out
                  rw [← h1]
                  conv => rhs; unfold cutT
                  conv => lhs; unfold cutT
                  simp only [List.length_cons]
                  by_cases hc : N - j < r.length + 1
                  · rw [if_pos (by omega), if_pos hc, show N - j = (N - (j + 1)) + 1 by omega]
                    rfl
                  · rw [if_neg (by omega), if_neg hc, show N - j - (r.length + 1) = N - (j + 1) - r.length by omega], Below.setCell HBE.out hgb _⟩
            go_wp2
            go_roundw
            case rel => exact HFIN.out
            case measure =>
              show N - lenS (strV (O ++ [a])) < N - lenS (strV O)
              rw [lenS_str, lenS_str, List.length_append]
              simp
              omega
    · have hTT : T' = cutT N T ∧ T.flatten.take j = T.flatten.take N := by
        by_cases hjN2 : j = N
        · subst hjN2
          refine ⟨?_, rfl⟩
          have h1 := HCT'.out
          rw [Nat.sub_self, cutT_zero _ HNE'.out] at h1
          exact h1
        · have hm0 : T' = [] := List.eq_nil_of_length_eq_zero (by have := HMT.out; omega)
          have h1 := HCT'.out
          have h2 := HFL'.out
          rw [hm0] at h1 h2
          have h3 : T.flatten.length ≤ j := by
            have := congrArg List.length h2
            rw [List.length_drop] at this
            simp only [List.flatten_nil, List.length_nil] at this
            omega
          exact ⟨by rw [hm0, ← h1]; rfl, by rw [List.take_of_length_le h3, List.take_of_length_le (by omega)]⟩
      have hg1 := (HBE.out.block w.heap.size (by omega)).trans HG1.out
      have hg2 := (HBE.out.block (w.heap.size + 1) (by omega)).trans HG2.out
      have v0 := cell_of_row wr w.heap.size 0 _ _ _ hg1
      have v1 := cell_of_row wr w.heap.size 1 _ _ _ hg1
      have v2 := cell_of_row wr w.heap.size 2 _ _ _ hg1
      have z0 := cell_of_row wr (w.heap.size + 1) 0 _ _ _ hg2
      have z1 := cell_of_row wr (w.heap.size + 1) 1 _ _ _ hg2
      have z2 := cell_of_row wr (w.heap.size + 1) 2 _ _ _ hg2
      simp at v0 v1 v2 z0 z1 z2
      have q0 := Lib.frozen_of_heap hg1 0
      have p0 := Lib.frozen_of_heap hg2 0
      have p1 := Lib.frozen_of_heap hg2 1
      have p2 := Lib.frozen_of_heap hg2 2
      have HGR := Lib.hid hg2
      have HSE : Hid (Sees wr A' m c' (T'.map strV)) := Lib.hid (by
        have h1 := HMT.out
        subst h1
        exact HROW'.out.sees hmc (by unfold maxLen; omega) HAN.out)
      obtain ⟨O, hO⟩ : ∃ O, T.flatten.take j = O := ⟨_, rfl⟩
      have hOl := HLO.out
      have HTT := Lib.hid hTT
      have hend : ¬ j < N ∨ (j < N ∧ m = 0) := by omega
      rw [hO] at hOl ⊢
      have HO := Lib.hid hO
      unfold strV
      clear hg1 hg2 hTT hO hin
      have HEND : Hid (∀ w9, w9 = ((((wr.setCell ⟨w.heap.size, 0, none⟩ (.slice A' m c')).setCell ⟨w.heap.size + 1, 0, none⟩ (.slice A' m c')).setCell ⟨w.heap.size + 1, 1, none⟩ (.slice (some ⟨bz, oz, none⟩) L cs)).setCell ⟨w.heap.size + 1, 2, none⟩ (.int .i64 ((k : Int) + 1))) →
          RNext w T N (some ⟨bz, oz, none⟩) L cs k (.returned (.tuple #[refP A' m c' (some ⟨bz, oz, none⟩) L cs (k + 1), strV O, .bool true])) w9) := Lib.hid (fun w9 hw9 => by
        have hkx : Kp (fun j => ¬ j = w.heap.size ∧ ¬ j = w.heap.size + 1) wr w9 := by
          rw [hw9]
          exact ((((Kp.refl _ wr).set w.heap.size 0 _ (fun q => q.1 rfl)).set (w.heap.size + 1) 0 _ (fun q => q.2 rfl)).set (w.heap.size + 1) 1 _ (fun q => q.2 rfl)).set (w.heap.size + 1) 2 _ (fun q => q.2 rfl)
        have hblk : ∀ a, A' = some a → 0 < m → B ≤ a.block := fun a ha hm => by
          obtain ⟨g, off, cur, hA, _, hb, _⟩ := HROW'.out (by have := HMT.out; omega)
          rw [ha] at hA
          injection hA with hA
          subst hA
          exact hb
        have hx : Ext w wr := HW2.out.trans' (Below.mono HBE.out (by omega))
        refine ⟨A', m, c', by rw [← HTT.out.2, HO.out], ?_, fun a ha hm => by have := hblk a ha hm; omega, ⟨hkx.os.trans hx.os, hkx.tape.trans hx.tape, hkx.output.trans hx.output, Nat.le_trans hx.size hkx.size, fun j hj => (hkx.block j ⟨by omega, by omega⟩ (Nat.lt_of_lt_of_le hj hx.size)).trans (hx.block j hj)⟩⟩
        rw [← HTT.out.1]
        exact hkx.sees HSE.out fun a ha hm => by have := hblk a ha hm; exact ⟨by omega, by omega⟩)
      rcases hend with he | ⟨he, rfl⟩
      · go_wp2
        refine bodyPost_ret (results_cell_t2 rfl _ _ (w.heap.size + 1) _ _ (0, 0) _ (.string ⟨O.toArray⟩) (.bool true) rfl rfl rfl (set3P (by rw [heap_setCell_other _ _ _ _ (by simp)]; exact HGR.out)) Try.underlying31 rfl HZ.out) rfl ?_
        exact HEND.out _ rfl
      · go_wp2
        refine bodyPost_ret (results_cell_t2 rfl _ _ (w.heap.size + 1) _ _ (0, 0) _ (.string ⟨O.toArray⟩) (.bool true) rfl rfl rfl (set3P (by rw [heap_setCell_other _ _ _ _ (by simp)]; exact HGR.out)) Try.underlying31 rfl HZ.out) rfl ?_
        exact HEND.out _ rfl
end Go.Proofs.Ytjdcbmelladceaa
