/-
  The statement BlobTwice: its walk.
-/
import Derived.Test.YtlbokdoipajodaaBlobC
namespace Go.Proofs.Ytlbokdoipajodaa
open Go Go.RowKit
set_option linter.unusedVariables false
set_option linter.unusedSimpArgs false

theorem twice_walk (A A2 : Option Addr) (n c n2 c2 : Nat) (l s : List UInt8) (o k : Int) (w : World) (hs : Sees w A n c (bs l)) (hs2 : Sees w A2 n2 c2 (bs s)) (ho0 : -9223372036854775808 ≤ o) (ho1 : o ≤ 9223372036854775807)
    (hk0 : -9223372036854775808 ≤ k) (hk1 : k ≤ 9223372036854775807) :
    Calls Try.prog 14 #[.slice A n c, .int .i64 o, .slice A2 n2 c2, .int .i64 k] w fun e w' => e = .returned (.bool true) ∧ Ext w w' := by
  go_enter Try.func14, Try.ntmps14
  go_wp2_with fail
  refine (few_nat A n c _ 40 _ _ hs (bs_one _) (by omega) (by omega) rfl).mono ?_
  rintro e w1 ⟨v1, rfl, own1, e1⟩
  rw [bs_take] at own1
  obtain ⟨A1, c1, rfl, see1⟩ := Sees.of_own own1
  go_wp2_with fail
  refine (few_nat A2 n2 c2 _ 30 _ _ (hs2.ext e1) (bs_one _) (by omega) (by omega) rfl).mono ?_
  rintro e w2 ⟨v2, rfl, own2, e2⟩
  rw [bs_take] at own2
  obtain ⟨A3, c3, rfl, see3⟩ := Sees.of_own own2
  have see1 := see1.ext e2
  have e02 := e1.trans e2
  have hd0 := see3.len
  rw [bs_length] at hd0
  have hl0 := see1.len
  rw [bs_length] at hl0
  generalize hN : min n 40 = N at *
  generalize hM : min n2 30 = M at *
  generalize l.take 40 = b at *
  generalize s.take 30 = d at *
  have hN40 : N ≤ 40 := by omega
  have hM30 : M ≤ 30 := by omega
  have HD := Lib.hid hd0
  have HL := Lib.hid hl0
  clear hd0 hl0 hN hM own1 own2 e1 e2 hs hs2
  go_wp2_with fail
  refine (around_any o 51 _ ho0 ho1 (by omega) (by omega)).mono ?_
  rintro e w3 ⟨rfl, rfl⟩
  have ho := aroundZ_bound o 51 (by omega)
  generalize aroundZ o 51 = o' at *
  obtain ⟨O, rfl⟩ := Int.eq_ofNat_of_zero_le ho.1
  have hO : O ≤ 50 := by omega
  clear ho
  go_wp2_with fail
  refine (around_any k _ _ hk0 hk1 (by omega) (by omega)).mono ?_
  rintro e w3 ⟨rfl, rfl⟩
  have hk := aroundZ_bound k ((M : Int) + 1) (by omega)
  generalize aroundZ k ((M : Int) + 1) = k' at *
  obtain ⟨K, rfl⟩ := Int.eq_ofNat_of_zero_le hk.1
  have hK : K ≤ M := by omega
  clear hk
  go_wp2_with fail
  refine (write_le A1 N c1 b _ O _ see1 (by omega) A3 M c3 d see3 rfl (by omega)).mono ?_
  rintro e w3 ⟨v3, rfl, own3, e3⟩
  have hwl : (writeL b O d).length ≤ 100 := by
    by_cases hd : d = []
    · subst hd
      rw [writeL_nil, HL.out]
      omega
    · rw [writeL_length b O d hd, HL.out, HD.out]
      omega
  obtain ⟨Ax, cx, rfl, seex⟩ := Sees.of_own own3
  have see1b := see1.ext e3
  have see3b := see3.ext e3
  have e03 := e02.trans e3
  clear own3 e3 e02 see1 see3
  go_wp2_with fail
  refine (write_le Ax _ cx _ _ O _ seex (by omega) A3 M c3 d see3b rfl (by omega)).mono ?_
  rintro e w4 ⟨v4, rfl, own4, e4⟩
  rw [writeL_twice] at own4
  obtain ⟨Ay, cy, rfl, seey⟩ := Sees.of_own own4
  have seex := seex.ext e4
  have see1 := see1b.ext e4
  have see3 := see3b.ext e4
  have e04 := e03.trans e4
  clear own4 e4 e03 see1b see3b
  have hc3 := see3.le
  have hm3 := see3.max
  unfold maxLen at hm3
  have seeK := see3.take K hK
  rw [bs_take] at seeK
  go_wp2_with fail
  refine (write_le A1 N c1 b _ O _ see1 (by omega) A3 K c3 _ seeK rfl (by omega)).mono ?_
  rintro e w5 ⟨v5, rfl, own5, e5⟩
  have hzl : (writeL b O (d.take K)).length ≤ 100 := by
    by_cases hd : d.take K = []
    · rw [hd, writeL_nil, HL.out]
      omega
    · rw [writeL_length b O _ hd, HL.out, List.length_take]
      omega
  obtain ⟨Az, cz, rfl, seez⟩ := Sees.of_own own5
  have seex := seex.ext e5
  have seey := seey.ext e5
  have see3 := see3.ext e5
  have e05 := e04.trans e5
  clear own5 e5 e04 see1 seeK
  have HLen := Lib.hid (show (writeL b O (d.take K)).length = (writeL b O (d.take K)).length from rfl)
  have htwo := writeL_two b O d K (by rw [HD.out]; exact hK)
  have HT := Lib.hid htwo
  clear htwo
  by_cases hck : c3 = K
  · have seeD := see3.drop_all K hK hck
    rw [bs_drop] at seeD
    subst hck
    rw [show M - c3 = 0 from by omega] at seeD
    go_wp2_with fail
    refine (write_le Az _ cz _ _ (O + c3) _ seez (by omega) A3 _ 0 _ seeD (by omega) (by omega)).mono ?_
    rintro e w6 ⟨v6, rfl, own6, e6⟩
    rw [HT.out] at own6
    obtain ⟨Av, cv, rfl, seev⟩ := Sees.of_own own6
    have seex := seex.ext e6
    have seey := seey.ext e6
    have e06 := e05.trans e6
    have hx := str_of seex
    have hy := str_of seey
    have hv := str_of seev
    clear own6 e6 e05 seev seex seey seez see3 seeD
    go_wp2_with fail
    refine (blobLives_any _).mono ?_
    rintro e w7 ⟨rfl, e7⟩
    go_wp2
    go_ret
    exact ⟨rfl, e06.trans e7⟩
  · have seeD := see3.drop K hK hck
    rw [bs_drop] at seeD
    go_wp2_with fail
    refine (write_le Az _ cz _ _ (O + K) _ seez (by omega) _ _ _ _ seeD (by omega) (by omega)).mono ?_
    rintro e w6 ⟨v6, rfl, own6, e6⟩
    rw [HT.out] at own6
    obtain ⟨Av, cv, rfl, seev⟩ := Sees.of_own own6
    have seex := seex.ext e6
    have seey := seey.ext e6
    have e06 := e05.trans e6
    have hx := str_of seex
    have hy := str_of seey
    have hv := str_of seev
    clear own6 e6 e05 seev seex seey seez see3 seeD
    go_wp2_with fail
    refine (blobLives_any _).mono ?_
    rintro e w7 ⟨rfl, e7⟩
    go_wp2
    go_ret
    exact ⟨rfl, e06.trans e7⟩
end Go.Proofs.Ytlbokdoipajodaa
