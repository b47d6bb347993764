/-
  Layer 3: contracts for every size, both sides; the example is met.
-/
import Derived.Test.YtjajkagpfbemiaaMarkB
namespace Go.Proofs.Ytjajkagpfbemiaa
open Go Go.RowKit
set_option linter.unusedVariables false
set_option linter.unusedSimpArgs false

theorem rmark_no (A : Option Addr) (n c : Nat) (s : Int) (w : World) (hn : n ≤ 900000) (hs0 : -9223372036854775808 ≤ s) (hs1 : s ≤ 9223372036854775807) (hE : ¬ mkE n s = 0) :
    Calls Try.prog 21 #[.slice A n c, .int .i64 s] w fun e w' => e = .returned (.tuple #[.slice none 0 0, .int .i64 (mkE n s)]) ∧ Ext w w' := by
  by_cases h1 : s < 1
  · have e1 : mkE n s = 1 := by unfold mkE; rw [if_pos h1]
    rw [e1]
    clear e1 hE
    go_enter Try.func21, Try.ntmps21
    go_wp2
    go_ret2
    exact ⟨rfl, Ext.refl _⟩
  · by_cases h2 : 4096 < n
    · have e1 : mkE n s = 4 := by unfold mkE; rw [if_neg h1, if_pos h2]
      rw [e1]
      clear e1 hE
      go_enter Try.func21, Try.ntmps21
      go_wp2
      go_ret2
      exact ⟨rfl, Ext.refl _⟩
    · obtain ⟨S, rfl⟩ := Int.eq_ofNat_of_zero_le (show 0 ≤ s by omega)
      have hS : (S : Int).toNat = S := by simp
      have h3 : 64 < cnt n S := by
        unfold mkE at hE
        rw [if_neg h1, if_neg h2, hS] at hE
        by_cases h : 64 < cnt n S
        · exact h
        · rw [if_neg h] at hE
          exact absurd rfl hE
      have e1 : mkE n S = 5 := by unfold mkE; rw [if_neg h1, if_neg h2, hS, if_pos h3]
      rw [e1]
      have hl := szs_length n S
      rw [← hl] at h3
      clear e1 hE hS hl
      go_enter Try.func21, Try.ntmps21
      go_wp2_with fail
      refine (rsizes_any n S _ (by omega) (by omega) (by omega)).mono ?_
      rintro e w1 ⟨vS, rfl, ownS, e1⟩
      obtain ⟨As, cs, rfl, sees⟩ := Sees.of_own ownS
      clear ownS sees
      generalize (szs n S).length = L at *
      go_wp2
      go_ret2
      exact ⟨rfl, e1⟩

/-- The fragments of a record by a size; none, if it may not be. -/
def mkL (n : Nat) (s : Int) (r : List UInt8) : List UInt8 := if mkE n s = 0 then frg (szs n s.toNat) r else []
theorem mkE_ok {n : Nat} {s : Int} (h : mkE n s = 0) : 0 < s ∧ n ≤ 4096 ∧ cnt n s.toNat ≤ 64 := by
  unfold mkE at h
  split at h
  · cases h
  · split at h
    · cases h
    · split at h
      · cases h
      · omega
theorem rmark_all (A : Option Addr) (n c : Nat) (s : Int) (r : List UInt8) (w : World) (hs : Sees w A n c (bs r)) (hn : n ≤ 900000) (hs0 : -9223372036854775808 ≤ s) (hs1 : s ≤ 9223372036854775807) :
    Calls Try.prog 21 #[.slice A n c, .int .i64 s] w fun e w' => ∃ v, e = .returned (.tuple #[v, .int .i64 (mkE n s)]) ∧ w'.ownsRow w.heap.size 5 1 v (mkL n s r).length (bs (mkL n s r)) ∧ Ext w w' := by
  by_cases hE : mkE n s = 0
  · obtain ⟨h1, h2, _⟩ := mkE_ok hE
    obtain ⟨S, rfl⟩ := Int.eq_ofNat_of_zero_le (show 0 ≤ s by omega)
    have hS : (S : Int).toNat = S := by simp
    have h := rmark_ok A n c S r w hs h2 (by omega) (by omega) hE
    unfold mkL
    rw [if_pos hE, hE, hS]
    exact h
  · refine (rmark_no A n c s w hn hs0 hs1 hE).mono ?_
    rintro x w' ⟨rfl, hx⟩
    unfold mkL
    rw [if_neg hE]
    exact ⟨_, rfl, World.ownsRow_nil _ _ _ _, hx⟩

end Go.Proofs.Ytjajkagpfbemiaa
