/-
  Layer 14: what is made is what may be, and its bytes are some.
-/
import Derived.Test.YtpjigdfllbhknaaCam
import Derived.Test.YtpjigdfllbhknaaCalX
namespace Go.Proofs.Ytpjigdfllbhknaa
open Go Go.RowKit
set_option linter.unusedVariables false
set_option linter.unusedSimpArgs false
theorem lw_W32 (x : Int) : W32 (lw x) := by
  have := aroundZ_bound x 4294967296 (by omega)
  unfold W32 lw
  omega
theorem mkA_ok {k : Int} {a : AR} {A : Option Addr} {n c : Nat} (hn : n ≤ 30) : (mkA k a A n c).ok := by
  have h := aroundZ_bound a.off 4611686018427387905 (by omega)
  exact ⟨⟨h.1, by show aroundZ _ _ ≤ _; omega⟩, lw_W32 _, lw_W32 _, lw_W32 _, lw_W32 _, lw_W32 _, lw_W32 _, lw_W32 _, by show (a.nm.take 40).length ≤ 64; rw [List.length_take]; omega, by show (a.n2.take 40).length ≤ 64; rw [List.length_take]; omega, by show n ≤ 2048; omega⟩
theorem ownA_ok {a : AR} (h : a.ok) : (ownA a).ok := by
  have z : W32 0 := ⟨by omega, by omega⟩
  obtain ⟨h0, h1, h2, h3, h4, h5, h6, h7, h8, h9, h10⟩ := h
  constructor <;> simp only [ownA] <;> (try split) <;> first | assumption | (exact ⟨by omega, by omega⟩) | (show (0 : Nat) ≤ _; omega) | simp
theorem gdA_ok {a : AR} {A : Option Addr} {n c : Nat} (hn : n ≤ 30) : (gdA a A n c).ok := ownA_ok (mkA_ok hn)
theorem gdA_pr (a : AR) (A : Option Addr) (n c : Nat) : (gdA a A n c).pr = gk a.pr := rfl
theorem gk_cases (x : Int) : gk x = 1 ∨ gk x = 2 ∨ gk x = 3 ∨ gk x = 6 ∨ gk x = 7 ∨ gk x = 8 ∨ gk x = 9 ∨ gk x = 12 ∨ gk x = 13 ∨ gk x = 14 ∨ gk x = 16 := by
  have h := gk_mem x
  unfold gpL at h
  simpa using h
theorem ownL_len (k : Int) (l : List UInt8) (m : Nat) (h : l.length ≤ m) : (ownL k l).length ≤ m := by
  unfold ownL
  split
  · exact h
  · exact Nat.zero_le _
theorem gdL_len (a : AR) (l : List UInt8) : (gdL a l).length ≤ 30 := ownL_len _ _ _ (by rw [List.length_take]; omega)
theorem gdA_nm (a : AR) (A : Option Addr) (n c : Nat) : (gdA a A n c).nm.length ≤ 40 ∧ (gdA a A n c).n2.length ≤ 40 := by
  constructor <;> simp only [gdA, ownA] <;> split <;> simp [mkA] <;> omega
/-- The bytes of what is made: some, and not many. -/
theorem gd_bytes (a : AR) (A : Option Addr) (n c : Nat) (l : List UInt8) : 0 < (bytesB (gdA a A n c) (gdL a l) (fld (gk a.pr))).length ∧ (bytesB (gdA a A n c) (gdL a l) (fld (gk a.pr))).length ≤ 300 := by
  obtain ⟨h1, h2⟩ := gdA_nm a A n c
  have h3 := gdL_len a l
  have t1 := txt_le (gdA a A n c).nm
  have t2 := txt_le (gdA a A n c).n2
  have t3 := txt_le (gdL a l)
  generalize gdA a A n c = G at *
  generalize gdL a l = L at *
  rcases gk_cases a.pr with h | h | h | h | h | h | h | h | h | h | h <;> rw [h] <;> simp [fld, bytesB, fieldB, be4_length, be8_length] <;> omega
theorem cEq_self (x y : AR) (d : List UInt8) (h : x.wd none 0 0 = y.wd none 0 0) : cEq x y d d = true := by
  obtain ⟨pr, off, ct, sz, md, h1, h2, g1, g2, nm, n2, dA, dn, dk⟩ := x
  obtain ⟨pr', off', ct', sz', md', h1', h2', g1', g2', nm', n2', dA', dn', dk'⟩ := y
  simp only [AR.wd, AR.mk.injEq] at h
  obtain ⟨rfl, rfl, rfl, rfl, rfl, rfl, rfl, rfl, rfl, rfl, rfl, _⟩ := h
  simp [cEq]
end Go.Proofs.Ytpjigdfllbhknaa
