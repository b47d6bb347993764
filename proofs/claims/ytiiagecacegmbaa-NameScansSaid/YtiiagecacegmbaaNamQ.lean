/-
  Layer 9: prints on the document's side.
-/
import Derived.Test.YtiiagecacegmbaaNamP
namespace Go.Proofs.Ytiiagecacegmbaa
open Go Go.RowKit
set_option linter.unusedVariables false
set_option linter.unusedSimpArgs false
set_option maxRecDepth 20000 in
set_option maxHeartbeats 1000000 in
theorem rbyte_any (c : UInt8) (w : World) :
    Calls Try.prog 59 #[.int .u8 (c.toNat : Int)] w fun e w' => e = .returned (.string ⟨(byteB c).toArray⟩) ∧ Ext w w' := by
  have hb : c.toNat < 256 := c.toNat_lt
  have h37 := c_eq37 c
  have hpl : plainB c = (decide (32 < c.toNat) && decide (c.toNat < 127) && !(c == 37)) := rfl
  cases hp : plainB c with
  | true =>
    have hv : byteB c = [c] := by unfold byteB; rw [hp]; rfl
    rw [hv]
    have hs1 := sees_new w 5 #[.int .u8 (c.toNat : Int)] (by simp [maxLen])
    have hcl : (#[Value.int .u8 (c.toNat : Int)] : Array Value).toList = bs [c] := by simp [bs]
    rw [hcl] at hs1
    have hst : (convert 22 9 (.slice (some ⟨w.heap.size, 0, none⟩) 1 1)).run Try.prog (w.alloc (.cells #[.int .u8 (c.toNat : Int)] 5)) = .ok (.string ⟨[c].toArray⟩) (w.alloc (.cells #[.int .u8 (c.toNat : Int)] 5)) := str_of hs1
    have e1 : Ext w (w.alloc (.cells #[.int .u8 (c.toNat : Int)] 5)) := (Ext.refl _).alloc _
    rw [hp] at hpl
    have hq : (c == 37) = false ∧ 32 < c.toNat ∧ c.toNat < 127 := by
      cases h3 : (c == 37) <;> rw [h3] at hpl <;> simp at hpl <;> exact ⟨rfl, hpl⟩
    obtain ⟨hq1, hq2, hq3⟩ := hq
    rw [hq1] at h37
    clear hpl hv hs1 hcl hq1 hp
    generalize hn : c.toNat = n at *
    go_enter Try.func59, Try.ntmps59
    go_wp2
    go_ret
    exact ⟨rfl, e1⟩
  | false =>
    have hv : byteB c = escB c := by unfold byteB; rw [hp]; rfl
    have hx1 := hex_at (c.toNat / 16) (by omega)
    have hx2 := hex_at (c.toNat % 16) (by omega)
    have hout : escB c = [37, hexD.getD (c.toNat / 16) 0, hexD.getD (c.toNat % 16) 0] := rfl
    rw [hv, hout]
    clear hout hv
    generalize hexD.getD (c.toNat / 16) 0 = a at *
    generalize hexD.getD (c.toNat % 16) 0 = b at *
    have h4 : decide (32 < c.toNat) = false ∨ decide (c.toNat < 127) = false ∨ (c == 37) = true := by
      rw [hp] at hpl
      cases h1 : decide (32 < c.toNat)
      · exact .inl rfl
      · cases h2 : decide (c.toNat < 127)
        · exact .inr (.inl rfl)
        · cases h3 : (c == 37)
          · rw [h1, h2, h3] at hpl
            cases hpl
          · exact .inr (.inr rfl)
    clear hpl hp
    generalize (c == 37) = eq37 at *
    generalize c.toNat = n at *
    have hw1 : IntKind.u8.wrap ((n : Int) / 16 + 1) = (n : Int) / 16 + 1 := by
      show ((n : Int) / 16 + 1) % 256 = (n : Int) / 16 + 1
      omega
    have hw2 : IntKind.u8.wrap ((n : Int) % 16 + 1) = (n : Int) % 16 + 1 := by
      show ((n : Int) % 16 + 1) % 256 = (n : Int) % 16 + 1
      omega
    have hw0 : IntKind.u8.wrap ((n : Int) / 16) = (n : Int) / 16 := by
      show ((n : Int) / 16) % 256 = (n : Int) / 16
      omega
    have htm : (n : Int).tmod 16 = (n : Int) % 16 := Int.tmod_eq_emod_of_nonneg (by omega)
    have hw3 : IntKind.u8.wrap ((n : Int) % 16) = (n : Int) % 16 := by
      show ((n : Int) % 16) % 256 = (n : Int) % 16
      omega
    go_enter Try.func59, Try.ntmps59
    by_cases g1 : 32 < n
    all_goals by_cases g2 : n < 127
    all_goals try (exfalso; omega)
    all_goals
      first
      | (have g3 : eq37 = true := by
          rcases h4 with h | h | h
          · exact absurd g1 (of_decide_eq_false h)
          · exact absurd g2 (of_decide_eq_false h)
          · exact h)
      | (have g3 : True := trivial)
      try subst g3
      clear h4
      go_wp2
      refine wp_region_ord [0, 1, 2, 3, 4, 5, 6, 7, 8, 9, 10, 11, 12, 13, 14, 15, 16] [] (by kernel_rfl) (by kernel_rfl) rfl (by kernel_rfl) ?_
      iterate 6 (refine lex_val (v := ?_) rfl rfl (fun w' hw' => ?_) ?_; rotate_left; (· go_simp; try with_reducible rfl); simp only [Act.put, List.setIfInBounds_toArray, List.set_cons_zero, List.set_cons_succ])
      refine lex_val (v := .string ⟨#[a]⟩) rfl rfl (fun w' hw' => ?_) ?_
      · go_simp
        rw [if_pos (by omega), if_pos (by omega)]
        have e1 : ((n : Int) / 16).toNat = n / 16 := by omega
        have e2 : ((n : Int) / 16 + 1).toNat = n / 16 + 1 := by omega
        rw [e1, e2, hx1]
      simp only [Act.put, List.setIfInBounds_toArray, List.set_cons_zero, List.set_cons_succ]
      iterate 7 (refine lex_val (v := ?_) rfl rfl (fun w' hw' => ?_) ?_; rotate_left; (· go_simp; try with_reducible rfl); simp only [Act.put, List.setIfInBounds_toArray, List.set_cons_zero, List.set_cons_succ])
      refine lex_val (v := .string ⟨#[b]⟩) rfl rfl (fun w' hw' => ?_) ?_
      · go_simp
        rw [if_pos (by omega), if_pos (by omega)]
        have e1 : ((n : Int) % 16).toNat = n % 16 := by omega
        have e2 : ((n : Int) % 16 + 1).toNat = n % 16 + 1 := by omega
        rw [e1, e2, hx2]
      simp only [Act.put, List.setIfInBounds_toArray, List.set_cons_zero, List.set_cons_succ]
      repeat (refine lex_val (v := ?_) rfl rfl (fun w' hw' => ?_) ?_; rotate_left; (· go_simp; try with_reducible rfl); simp only [Act.put, List.setIfInBounds_toArray, List.set_cons_zero, List.set_cons_succ])
      refine lex_done ?_
      go_wp2
      go_ret
      exact ⟨rfl, (Ext.refl w).drew⟩
theorem str_add (a b : List UInt8) : (⟨a.toArray⟩ : ByteArray) ++ ⟨b.toArray⟩ = ⟨(a ++ b).toArray⟩ := by
  apply ByteArray.ext
  simp
set_option maxRecDepth 20000 in
set_option maxHeartbeats 1000000 in
theorem rprint_any (t : List UInt8) (w : World) (ht : t.length ≤ 1000000) :
    Calls Try.prog 35 #[.string ⟨t.toArray⟩] w fun e w' => e = .returned (.string ⟨(printB t).toArray⟩) ∧ Ext w w' := by
  have hsz : (ByteArray.mk t.toArray).size = t.length := by simp [ByteArray.size]
  go_enter Try.func35, Try.ntmps35
  by_cases h0 : t = []
  · subst h0
    go_wp2
    go_ret
    exact ⟨rfl, Ext.refl _⟩
  by_cases h1 : t = [45]
  · subst h1
    go_wp2
    go_ret
    exact ⟨rfl, Ext.refl _⟩
  have hq0 : (t == []) = false := by simpa using h0
  have hq1 : (t == [45]) = false := by simpa using h1
  have HV : Hid (printB t = t.flatMap byteB) := Lib.hid (by unfold printB; rw [if_neg h0, if_neg h1])
  go_wp2_with fail
  go_loopw [3, 4] (fun v i wr => ∃ k : Nat, k ≤ t.length ∧ i = .int .i64 k ∧ v = .string ⟨(upto t k).toArray⟩ ∧ Ext w wr) (fun _ i _ => t.length - (intOf i).toNat)
  case atStart => exact ⟨0, by omega, rfl, by rw [upto_zero], Ext.refl _⟩
  case round =>
    obtain ⟨k, hk, rfl, rfl, ext⟩ := hrel
    have HX := Lib.hid ext
    have hul := upto_le t k
    by_cases hlt : k < t.length
    · have hix := idx_str t k hlt
      have HS := Lib.hid (upto_succ t k hlt)
      generalize t[k] = c at *
      generalize hpre : upto t k = pre at *
      have HP := Lib.hid (fun w => rbyte_any c w)
      have hcl := byteB_le c
      generalize byteB c = q at *
      have hs1 : (ByteArray.mk pre.toArray).size = pre.length := by simp [ByteArray.size]
      have hs2 : (ByteArray.mk q.toArray).size = q.length := by simp [ByteArray.size]
      go_wp2_with fail
      refine (HP.out _).mono ?_
      rintro e w1 ⟨rfl, e1⟩
      have E2 := Lib.hid (HX.out.trans e1)
      clear e1 ext
      go_wp2
      go_roundw
      case rel => exact ⟨k + 1, by omega, by go_num, by rw [HS.out, ← str_add], E2.out⟩
      case measure => simp [intOf]; omega
    · obtain rfl : k = t.length := by omega
      rw [upto_all] at hul ⊢
      rw [← HV.out]
      go_wp2
      go_ret
      exact ⟨rfl, HX.out⟩
end Go.Proofs.Ytiiagecacegmbaa
