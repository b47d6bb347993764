/-
  Layer 9: which texts are names, on both sides; plain contracts.
-/
import Derived.Test.YtiiagecacegmbaaCom0
import Derived.WalkMore
import Derived.Test.YtiiagecacegmbaaOrd
namespace Go.Proofs.Ytiiagecacegmbaa
open Go Go.RowKit
set_option linter.unusedVariables false
set_option linter.unusedSimpArgs false

def badB (b : UInt8) : Bool := b == 0 || b == 47
/-- Is a text a name, a step? -/
def nmB (t : List UInt8) : Bool := decide (0 < t.length) && decide (t.length ≤ 32) && !(t == [46]) && !(t == [46, 46]) && t.all fun b => !badB b
def stB (t : List UInt8) : Bool := (t == [46, 46]) || nmB t
theorem idx_str (t : List UInt8) (k : Nat) (hk : k < t.length) (w : World) : (Instr.index 9 (.string ⟨t.toArray⟩) (.int .i64 (k : Int))).run Try.prog w = .ok (.int .u8 ((t[k]).toNat : Int)) w := by
  rw [run_index_string w _ _ _ _ Try.underlying9]
  have h1 : k < (ByteArray.mk t.toArray).size := by simpa [ByteArray.size] using hk
  have h2 : (0 : Int) ≤ (k : Int) ∧ (k : Int).toNat < (ByteArray.mk t.toArray).size := ⟨by omega, by simpa using h1⟩
  simp [hk]
  rw [dif_pos h1]
  rfl
theorem bad_int (b : UInt8) : ((b.toNat : Int) == 0) = (b == 0) ∧ ((b.toNat : Int) == 47) = (b == 47) := by
  constructor
  · by_cases h : b = 0
    · subst h; rfl
    · have h2 : ¬ b.toNat = 0 := fun e => h (UInt8.toNat_inj.1 (by simpa using e))
      have h3 : (b == 0) = false := by simpa using h
      rw [h3]
      simp
      omega
  · by_cases h : b = 47
    · subst h; rfl
    · have h2 : ¬ b.toNat = 47 := fun e => h (UInt8.toNat_inj.1 (by simpa using e))
      have h3 : (b == 47) = false := by simpa using h
      rw [h3]
      simp
      omega
theorem nm_no (t : List UInt8) (h : ¬ (0 < t.length ∧ t.length ≤ 32 ∧ (t == [46]) = false ∧ (t == [46, 46]) = false)) : nmB t = false := by
  cases h' : nmB t
  · rfl
  · exfalso
    apply h
    unfold nmB at h'
    rw [Bool.and_eq_true, Bool.and_eq_true, Bool.and_eq_true, Bool.and_eq_true, Bool.not_eq_true', Bool.not_eq_true'] at h'
    obtain ⟨⟨⟨⟨a, b⟩, c⟩, d⟩, e⟩ := h'
    exact ⟨of_decide_eq_true a, of_decide_eq_true b, c, d⟩
theorem nm_yes (t : List UInt8) (h3 : 0 < t.length) (h4 : t.length ≤ 32) (h1 : (t == [46]) = false) (h2 : (t == [46, 46]) = false) : nmB t = t.all fun b => !badB b := by
  unfold nmB
  rw [h1, h2]
  simp [h3, h4]
set_option maxHeartbeats 1000000 in
theorem name_any (t : List UInt8) (w : World) (ht : t.length ≤ 1000000) :
    Calls Try.prog 60 #[.string ⟨t.toArray⟩] w fun e w' => e = .returned (.bool (nmB t)) ∧ w = w' := by
  have hsz : (ByteArray.mk t.toArray).size = t.length := by simp [ByteArray.size]
  go_enter Try.func60, Try.ntmps60
  by_cases hg : (0 < t.length ∧ t.length ≤ 32 ∧ (t == [46]) = false ∧ (t == [46, 46]) = false)
  · obtain ⟨h3, h4, h1, h2⟩ := hg
    have HV := Lib.hid (nm_yes t h3 h4 h1 h2)
    have h5 : ¬ 32 < t.length := by omega
    have h6 : ((t.length : Int) == 0) = false := by rw [beq_eq_false_iff_ne]; omega
    have h7 : decide ((32 : Int) < (t.length : Int)) = false := by rw [decide_eq_false_iff_not]; omega
    have hl1 : ¬ t = [46] := by simpa using h1
    have hl2 : ¬ t = [46, 46] := by simpa using h2
    go_wp2
    go_step3
    go_wp2
    go_step3
    go_wp2
    go_loopw [3, 23] (fun g i wr => g = .bool true ∧ ∃ k : Nat, k ≤ t.length ∧ i = .int .i64 k ∧ (∀ j, (hj : j < t.length) → j < k → badB t[j] = false) ∧ wr = w) (fun _ i _ => t.length - (intOf i).toNat)
    case atStart => exact ⟨rfl, 0, by omega, rfl, fun j _ h => absurd h (by omega), rfl⟩
    case round =>
      obtain ⟨rfl, k, hk, rfl, hno, rfl⟩ := hrel
      have HNo := Lib.hid hno
      clear hno
      by_cases hlt : k < t.length
      · have hix := idx_str t k hlt
        obtain ⟨hb0, hb1⟩ := bad_int t[k]
        cases hbad : badB t[k] with
        | true =>
          have HV : Hid (nmB t = false) := Lib.hid (by
            rw [HV.out, List.all_eq_false]
            exact ⟨t[k], List.getElem_mem hlt, by simp [hbad]⟩)
          unfold badB at hbad
          generalize t[k] = b at *
          cases h0 : (b == 0) with
          | true =>
            rw [h0] at hb0
            clear hbad hb1 h0
            generalize (b.toNat : Int) = bi at *
            go_wp2
            rw [Exit.noGoto_ret]
            go_ret
            exact ⟨by rw [HV.out]; rfl, rfl⟩
          | false =>
            rw [h0] at hb0 hbad
            have h47 : (b == 47) = true := by simpa using hbad
            rw [h47] at hb1
            clear hbad h47 h0
            generalize (b.toNat : Int) = bi at *
            go_wp2
            rw [Exit.noGoto_ret]
            go_ret
            exact ⟨by rw [HV.out]; rfl, rfl⟩
        | false =>
          have HB : Hid (∀ j, (hj : j < t.length) → j < k + 1 → badB t[j] = false) := Lib.hid fun j hj hjk => by
            by_cases h : j = k
            · subst h; exact hbad
            · exact HNo.out j hj (by omega)
          unfold badB at hbad
          generalize t[k] = b at *
          have h0 : (b == 0) = false := by cases h : (b == 0) <;> simp_all
          have h47 : (b == 47) = false := by cases h : (b == 47) <;> simp_all
          rw [h0] at hb0
          rw [h47] at hb1
          clear hbad h0 h47
          generalize (b.toNat : Int) = bi at *
          go_wp2
          go_roundw
          case rel => exact ⟨rfl, k + 1, by omega, by go_num, HB.out, trivial⟩
          case measure => simp [intOf]; omega
      · obtain rfl : k = t.length := by omega
        have HV : Hid (nmB t = true) := Lib.hid (by
          rw [HV.out, List.all_eq_true]
          intro b hb
          obtain ⟨j, hj, rfl⟩ := List.getElem_of_mem hb
          simp [HNo.out j hj hj])
        clear HNo
        go_wp2
        rw [Exit.noGoto_ret]
        go_ret
        exact ⟨by rw [HV.out]; rfl, rfl⟩
  · have HV := Lib.hid (nm_no t hg)
    have hg0 := hg
    clear hg
    cases h1 : (t == [46])
    all_goals cases h2 : (t == [46, 46])
    all_goals
      by_cases h3 : 0 < t.length
      all_goals by_cases h4 : 32 < t.length
    all_goals
      first
      | (have hl1 : ¬ t = [46] := by simpa using h1)
      | (have hl1 : t = [46] := by simpa using h1)
      first
      | (have hl2 : ¬ t = [46, 46] := by simpa using h2)
      | (have hl2 : t = [46, 46] := by simpa using h2)
      first
      | (have h5 : ((t.length : Int) == 0) = false := by rw [beq_eq_false_iff_ne]; omega)
      | (have h5 : ((t.length : Int) == 0) = true := by rw [beq_iff_eq]; omega)
      first
      | (have h6 : decide ((32 : Int) < (t.length : Int)) = false := by rw [decide_eq_false_iff_not]; omega)
      | (have h6 : decide ((32 : Int) < (t.length : Int)) = true := by rw [decide_eq_true_iff]; omega)
      first
      | (exfalso; omega)
      | (exfalso; have hx := hl1.symm.trans hl2; simp at hx; done)
      | (exfalso; exact hg0 ⟨h3, by omega, by first | exact h1 | rfl, by first | exact h2 | rfl⟩)
      | (go_wp2
         go_step3
         go_wp2
         try rw [Exit.noGoto_ret]
         first
         | go_ret
         | trace_state
         exact ⟨by rw [HV.out]; rfl, rfl⟩)
end Go.Proofs.Ytiiagecacegmbaa
