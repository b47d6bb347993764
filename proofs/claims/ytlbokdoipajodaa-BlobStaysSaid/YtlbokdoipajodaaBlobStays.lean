/-
  The statement BlobStays: its walk.
-/
import Derived.Test.YtlbokdoipajodaaBlobD
import Derived.Test.YtlbokdoipajodaaRws
namespace Go.Proofs.Ytlbokdoipajodaa
open Go Go.RowKit
set_option linter.unusedVariables false
set_option linter.unusedSimpArgs false

theorem one_at (l : List UInt8) (K : Nat) (hK : K < l.length) : (l.drop K).take 1 = [l.getD K 0] := by
  rw [List.drop_eq_getElem_cons hK, List.getD_eq_getElem?_getD, List.getElem?_eq_getElem hK]
  rfl
theorem one_eq (l : List UInt8) (K : Nat) (u : UInt8) (h : l[K]? = some u) : (l.drop K).take 1 = [u] := by
  obtain ⟨hK, rfl⟩ := List.getElem?_eq_some_iff.1 h
  rw [one_at l K hK]
  simp [List.getD_eq_getElem?_getD, List.getElem?_eq_getElem hK]
/-- One byte of a slice. -/
theorem Sees.one {w : World} {A : Option Addr} {n c : Nat} {l : List UInt8} (h : Sees w A n c (bs l)) (K : Nat) (hK : K < n) : Sees w (Option.map (fun x => x.add K) A) 1 (c - K) (bs [l.getD K 0]) := by
  have hl := h.len
  rw [bs_length] at hl
  have hc := h.le
  have := (h.drop K (by omega) (by omega)).take 1 (by omega)
  rw [bs_drop, bs_take, one_at l K (by omega)] at this
  exact this

set_option maxRecDepth 4000 in
set_option maxHeartbeats 1000000 in
theorem stays_walk (A A2 : Option Addr) (n c n2 c2 : Nat) (l s : List UInt8) (o k : Int) (w : World) (hs : Sees w A n c (bs l)) (hs2 : Sees w A2 n2 c2 (bs s)) (ho0 : -9223372036854775808 ≤ o) (ho1 : o ≤ 9223372036854775807)
    (hk0 : -9223372036854775808 ≤ k) (hk1 : k ≤ 9223372036854775807) :
    Calls Try.prog 13 #[.slice A n c, .int .i64 o, .slice A2 n2 c2, .int .i64 k] w fun e w' => e = .returned (.bool true) ∧ Ext w w' := by
  go_enter Try.func13, Try.ntmps13
  go_wp2_with fail
  refine (few_nat A n c _ 40 _ _ hs (bs_one _) (by omega) (by omega) rfl).mono ?_
  rintro e w1 ⟨v1, rfl, own1, e1⟩
  rw [bs_take] at own1
  obtain ⟨A1, c1, rfl, see1⟩ := Sees.of_own own1
  go_wp2_with fail
  refine (few_nat A2 n2 c2 _ 20 _ _ (hs2.ext e1) (bs_one _) (by omega) (by omega) rfl).mono ?_
  rintro e w2 ⟨v2, rfl, own2, e2⟩
  rw [bs_take] at own2
  obtain ⟨A3, c3, rfl, see3⟩ := Sees.of_own own2
  have see1 := see1.ext e2
  have e02 := e1.trans e2
  have hd0 := see3.len
  rw [bs_length] at hd0
  have hl0 := see1.len
  rw [bs_length] at hl0
  generalize hN : min n 40 = N at *
  generalize hM : min n2 20 = M at *
  generalize l.take 40 = b at *
  generalize s.take 20 = d at *
  have hN40 : N ≤ 40 := by omega
  have hM20 : M ≤ 20 := by omega
  have HD := Lib.hid hd0
  have HL := Lib.hid hl0
  clear hd0 hl0 hN hM own1 own2 e1 e2 hs hs2
  go_wp2_with fail
  refine (around_any o 51 _ ho0 ho1 (by omega) (by omega)).mono ?_
  rintro e w3 ⟨rfl, rfl⟩
  have ho := aroundZ_bound o 51 (by omega)
  generalize aroundZ o 51 = o' at *
  obtain ⟨O, rfl⟩ := Int.eq_ofNat_of_zero_le ho.1
  have hO : O ≤ 50 := by omega
  clear ho
  go_wp2_with fail
  refine (write_le A1 N c1 b _ O _ see1 (by omega) A3 M c3 d see3 rfl (by omega)).mono ?_
  rintro e w3 ⟨v3, rfl, own3, e3⟩
  have hwl : (writeL b O d).length ≤ 100 := by
    by_cases hd : d = []
    · subst hd
      rw [writeL_nil, HL.out]
      omega
    · rw [writeL_length b O d hd, HL.out, HD.out]
      omega
  obtain ⟨Ax, cx, rfl, seex⟩ := Sees.of_own own3
  have see1b := see1.ext e3
  have see3b := see3.ext e3
  have e03 := e02.trans e3
  clear own3 e3 e02 see1 see3
  go_wp2_with fail
  refine (around_any k 71 _ hk0 hk1 (by omega) (by omega)).mono ?_
  rintro e w4 ⟨rfl, rfl⟩
  have ho := aroundZ_bound k 71 (by omega)
  generalize aroundZ k 71 = k' at *
  obtain ⟨K, rfl⟩ := Int.eq_ofNat_of_zero_le ho.1
  have hK : K ≤ 70 := by omega
  clear ho
  have hXin : M = 0 ∨ 0 < M := by omega
  have hX1 : ∀ u, O ≤ K → K < O + M → d[K - O]? = some u → (writeL b O d)[K]? = some u := fun u h1 h2 h3 => by
    have hd : d ≠ [] := fun h => by have := HD.out; rw [h] at this; simp at this; omega
    rw [writeL_get b O d hd, if_neg (by omega), if_pos (by rw [HD.out]; omega)]
    exact h3
  have hX2 : K < N → ¬ (O ≤ K ∧ K < O + M) → (writeL b O d)[K]? = some (b.getD K 0) := fun h1 h2 => by
    have hb : b[K]? = some (b.getD K 0) := by
      have h5 : K < b.length := by rw [HL.out]; exact h1
      simp [List.getD_eq_getElem?_getD, List.getElem?_eq_getElem h5]
    by_cases hd : d = []
    · rw [hd, writeL_nil]
      exact hb
    · rw [writeL_get b O d hd]
      by_cases h3 : K < O
      · rw [if_pos h3]
      · rw [if_neg h3, if_neg (by rw [HD.out]; omega)]
        exact hb
  have hX3 : ¬ K < N → K < O → 0 < M → (writeL b O d)[K]? = some 0 := fun h1 h2 h3 => by
    have hd : d ≠ [] := fun h => by have := HD.out; rw [h] at this; simp at this; omega
    rw [writeL_get b O d hd, if_pos h2, List.getD_eq_getElem?_getD, List.getElem?_eq_none (by rw [HL.out]; omega)]
    rfl
  have hX4 : ¬ K < N → ¬ (O ≤ K ∧ K < O + M) → ¬ (K < O ∧ 0 < M) → (writeL b O d).drop K = [] := fun h1 h2 h3 => by
    refine List.drop_eq_nil_of_le ?_
    by_cases hd : d = []
    · rw [hd, writeL_nil, HL.out]
      omega
    · have hM : 0 < M := by
        rcases Nat.eq_zero_or_pos M with h | h
        · exact absurd (List.eq_nil_of_length_eq_zero (by rw [HD.out]; exact h)) hd
        · exact h
      rw [writeL_length b O d hd, HL.out, HD.out]
      omega
  go_wp2_with fail
  refine (read_any12 Ax _ cx _ K 1 _ seex (by omega) (by omega) (by omega) (by omega) (by omega)).mono ?_
  rintro e w5 ⟨v5, rfl, own5, e5⟩
  have h0 : (K : Int).toNat = K := by simp
  have h1 : (1 : Int).toNat = 1 := rfl
  rw [h0, h1] at own5
  obtain ⟨Ay, cy, rfl, seey⟩ := Sees.of_own own5
  have see1 := see1b.ext e5
  have see3 := see3b.ext e5
  have e05 := e03.trans e5
  have hc1 := see1.le
  have hm1 := see1.max
  have hc3 := see3.le
  have hm3 := see3.max
  unfold maxLen at hm1 hm3
  clear own5 seex see1b see3b e03 e5 h0 h1
  have HX1 := Lib.hid hX1
  have HX2 := Lib.hid hX2
  have HX3 := Lib.hid hX3
  have HX4 := Lib.hid hX4
  clear hX1 hX2 hX3 hX4 hXin
  generalize decide (((writeL b O d).length : Int) - (K : Int) ≤ 1) = ov at *
  have hgd : ∀ i, i < M → d[i]? = some (d.getD i 0) := fun i hi => by
    have h5 : i < d.length := by rw [HD.out]; exact hi
    simp [List.getD_eq_getElem?_getD, List.getElem?_eq_getElem h5]
  have HGD := Lib.hid hgd
  clear hgd
  by_cases hKN : K < N
  · have ne1 : ¬ c1 = K := by omega
    have hb1 := str_of (see1.one K hKN)
    by_cases hin : O ≤ K ∧ K < O + M
    · obtain ⟨h1, h2⟩ := hin
      have hJ : K - O < M := by omega
      have hd1 := str_of (see3.one (K - O) hJ)
      have hY := one_eq _ _ _ (HX1.out _ h1 h2 (HGD.out _ hJ))
      rw [hY] at seey
      have hy := str_of (n := 1) seey
      clear seey see1 see3 HX1 HX2 HX3 HX4
      go_wp2_with fail
      refine (blobLives_any _).mono ?_
      rintro e w6 ⟨rfl, e6⟩
      go_wp2
      go_ret
      exact ⟨rfl, e05.trans e6⟩
    · have hY := one_eq _ _ _ (HX2.out hKN hin)
      rw [hY] at seey
      have hin' : K < O ∨ O + M ≤ K := by omega
      clear hin
      rcases hin' with hin | hin
      · have hy := str_of (n := 1) seey
        clear seey see1 see3 HX1 HX2 HX3 HX4
        go_wp2_with fail
        refine (blobLives_any _).mono ?_
        rintro e w6 ⟨rfl, e6⟩
        go_wp2
        go_ret
        exact ⟨rfl, e05.trans e6⟩
      · have hy := str_of (n := 1) seey
        clear seey see1 see3 HX1 HX2 HX3 HX4
        go_wp2_with fail
        refine (blobLives_any _).mono ?_
        rintro e w6 ⟨rfl, e6⟩
        go_wp2
        go_ret
        exact ⟨rfl, e05.trans e6⟩
  · by_cases hin : O ≤ K ∧ K < O + M
    · obtain ⟨h1, h2⟩ := hin
      have hJ : K - O < M := by omega
      have hd1 := str_of (see3.one (K - O) hJ)
      have hY := one_eq _ _ _ (HX1.out _ h1 h2 (HGD.out _ hJ))
      rw [hY] at seey
      have hy := str_of (n := 1) seey
      clear seey see1 see3 HX1 HX2 HX3 HX4
      go_wp2_with fail
      refine (blobLives_any _).mono ?_
      rintro e w6 ⟨rfl, e6⟩
      go_wp2
      go_ret
      exact ⟨rfl, e05.trans e6⟩
    · by_cases hz : K < O ∧ 0 < M
      · have hY := one_eq _ _ _ (HX3.out hKN hz.1 hz.2)
        rw [hY] at seey
        obtain ⟨h1, h2⟩ := hz
        clear hin
        have hy := str_of (n := 1) seey
        clear seey see1 see3 HX1 HX2 HX3 HX4
        go_wp2_with fail
        refine (blobLives_any _).mono ?_
        rintro e w6 ⟨rfl, e6⟩
        go_wp2
        go_ret
        exact ⟨rfl, e05.trans e6⟩
      · have hY := HX4.out hKN hin hz
        rw [hY, List.take_nil] at seey
        have hin' : (K < O ∧ M < 1) ∨ (O ≤ K ∧ O + M ≤ K) := by omega
        clear hin hz
        rcases hin' with ⟨h1, h2⟩ | ⟨h1, h2⟩
        · have hy := str_of (n := 0) seey
          clear seey see1 see3 HX1 HX2 HX3 HX4
          go_wp2_with fail
          refine (blobLives_any _).mono ?_
          rintro e w6 ⟨rfl, e6⟩
          go_wp2
          go_ret
          exact ⟨rfl, e05.trans e6⟩
        · have hy := str_of (n := 0) seey
          clear seey see1 see3 HX1 HX2 HX3 HX4
          go_wp2_with fail
          refine (blobLives_any _).mono ?_
          rintro e w6 ⟨rfl, e6⟩
          go_wp2
          go_ret
          exact ⟨rfl, e05.trans e6⟩
end Go.Proofs.Ytlbokdoipajodaa
