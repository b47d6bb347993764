/-
  Layer 14: the program and the document mean the same by what may be.
-/
import Derived.Test.YtpjigdfllbhknaaCalT
namespace Go.Proofs.Ytpjigdfllbhknaa
open Go Go.RowKit
set_option linter.unusedVariables false
set_option linter.unusedSimpArgs false
set_option maxRecDepth 20000 in
set_option maxHeartbeats 1000000 in
theorem may_1 (off ct sz md h1 h2 g1 g2 : Int) (nm n2 : List UInt8) (dA : Option Addr) (dk : Nat) (d : List UInt8) : mayA ⟨1, off, ct, sz, md, h1, h2, g1, g2, nm, n2, dA, d.length, dk⟩ d = mayR ⟨1, off, ct, sz, md, h1, h2, g1, g2, nm, n2, dA, d.length, dk⟩ d := by
  rw [Bool.eq_iff_iff]
  simp [mayA, psM, psA, stA, woA, bnA, kn, fl, mayR, wdA, bdA, ownA, ownL, fld, hasB, cEq, AR.zero, dlA, bi]
  simp only [← List.length_eq_zero_iff]
  constructor <;> intro h <;> omega
set_option maxRecDepth 20000 in
set_option maxHeartbeats 1000000 in
theorem may_2 (off ct sz md h1 h2 g1 g2 : Int) (nm n2 : List UInt8) (dA : Option Addr) (dk : Nat) (d : List UInt8) : mayA ⟨2, off, ct, sz, md, h1, h2, g1, g2, nm, n2, dA, d.length, dk⟩ d = mayR ⟨2, off, ct, sz, md, h1, h2, g1, g2, nm, n2, dA, d.length, dk⟩ d := by
  rw [Bool.eq_iff_iff]
  simp [mayA, psM, psA, stA, woA, bnA, kn, fl, mayR, wdA, bdA, ownA, ownL, fld, hasB, cEq, AR.zero, dlA, bi]
  simp only [← List.length_eq_zero_iff]
  constructor <;> intro h <;> omega
set_option maxRecDepth 20000 in
set_option maxHeartbeats 1000000 in
theorem may_3 (off ct sz md h1 h2 g1 g2 : Int) (nm n2 : List UInt8) (dA : Option Addr) (dk : Nat) (d : List UInt8) : mayA ⟨3, off, ct, sz, md, h1, h2, g1, g2, nm, n2, dA, d.length, dk⟩ d = mayR ⟨3, off, ct, sz, md, h1, h2, g1, g2, nm, n2, dA, d.length, dk⟩ d := by
  rw [Bool.eq_iff_iff]
  simp [mayA, psM, psA, stA, woA, bnA, kn, fl, mayR, wdA, bdA, ownA, ownL, fld, hasB, cEq, AR.zero, dlA, bi]
  simp only [← List.length_eq_zero_iff]
  constructor <;> intro h <;> omega
set_option maxRecDepth 20000 in
set_option maxHeartbeats 1000000 in
theorem may_12 (off ct sz md h1 h2 g1 g2 : Int) (nm n2 : List UInt8) (dA : Option Addr) (dk : Nat) (d : List UInt8) : mayA ⟨12, off, ct, sz, md, h1, h2, g1, g2, nm, n2, dA, d.length, dk⟩ d = mayR ⟨12, off, ct, sz, md, h1, h2, g1, g2, nm, n2, dA, d.length, dk⟩ d := by
  rw [Bool.eq_iff_iff]
  simp [mayA, psM, psA, stA, woA, bnA, kn, fl, mayR, wdA, bdA, ownA, ownL, fld, hasB, cEq, AR.zero, dlA, bi]
  simp only [← List.length_eq_zero_iff]
  constructor <;> intro h <;> omega
set_option maxRecDepth 20000 in
set_option maxHeartbeats 1000000 in
theorem may_13 (off ct sz md h1 h2 g1 g2 : Int) (nm n2 : List UInt8) (dA : Option Addr) (dk : Nat) (d : List UInt8) : mayA ⟨13, off, ct, sz, md, h1, h2, g1, g2, nm, n2, dA, d.length, dk⟩ d = mayR ⟨13, off, ct, sz, md, h1, h2, g1, g2, nm, n2, dA, d.length, dk⟩ d := by
  rw [Bool.eq_iff_iff]
  simp [mayA, psM, psA, stA, woA, bnA, kn, fl, mayR, wdA, bdA, ownA, ownL, fld, hasB, cEq, AR.zero, dlA, bi]
  simp only [← List.length_eq_zero_iff]
  constructor <;> intro h <;> omega
set_option maxRecDepth 20000 in
set_option maxHeartbeats 1000000 in
theorem may_6 (off ct sz md h1 h2 g1 g2 : Int) (nm n2 : List UInt8) (dA : Option Addr) (dk : Nat) (d : List UInt8) : mayA ⟨6, off, ct, sz, md, h1, h2, g1, g2, nm, n2, dA, d.length, dk⟩ d = mayR ⟨6, off, ct, sz, md, h1, h2, g1, g2, nm, n2, dA, d.length, dk⟩ d := by
  rw [Bool.eq_iff_iff]
  simp [mayA, psM, psA, stA, woA, bnA, kn, fl, mayR, wdA, bdA, ownA, ownL, fld, hasB, cEq, AR.zero, dlA, bi]
  simp only [← List.length_eq_zero_iff]
  constructor <;> intro h <;> omega
set_option maxRecDepth 20000 in
set_option maxHeartbeats 1000000 in
theorem may_16 (off ct sz md h1 h2 g1 g2 : Int) (nm n2 : List UInt8) (dA : Option Addr) (dk : Nat) (d : List UInt8) : mayA ⟨16, off, ct, sz, md, h1, h2, g1, g2, nm, n2, dA, d.length, dk⟩ d = mayR ⟨16, off, ct, sz, md, h1, h2, g1, g2, nm, n2, dA, d.length, dk⟩ d := by
  rw [Bool.eq_iff_iff]
  simp [mayA, psM, psA, stA, woA, bnA, kn, fl, mayR, wdA, bdA, ownA, ownL, fld, hasB, cEq, AR.zero, dlA, bi]
  simp only [← List.length_eq_zero_iff]
  constructor <;> intro h <;> omega
set_option maxRecDepth 20000 in
set_option maxHeartbeats 1000000 in
theorem may_7 (off ct sz md h1 h2 g1 g2 : Int) (nm n2 : List UInt8) (dA : Option Addr) (dk : Nat) (d : List UInt8) : mayA ⟨7, off, ct, sz, md, h1, h2, g1, g2, nm, n2, dA, d.length, dk⟩ d = mayR ⟨7, off, ct, sz, md, h1, h2, g1, g2, nm, n2, dA, d.length, dk⟩ d := by
  rw [Bool.eq_iff_iff]
  simp [mayA, psM, psA, stA, woA, bnA, kn, fl, mayR, wdA, bdA, ownA, ownL, fld, hasB, cEq, AR.zero, dlA, bi]
  simp only [← List.length_eq_zero_iff]
  constructor <;> intro h <;> omega
set_option maxRecDepth 20000 in
set_option maxHeartbeats 1000000 in
theorem may_8 (off ct sz md h1 h2 g1 g2 : Int) (nm n2 : List UInt8) (dA : Option Addr) (dk : Nat) (d : List UInt8) : mayA ⟨8, off, ct, sz, md, h1, h2, g1, g2, nm, n2, dA, d.length, dk⟩ d = mayR ⟨8, off, ct, sz, md, h1, h2, g1, g2, nm, n2, dA, d.length, dk⟩ d := by
  rw [Bool.eq_iff_iff]
  simp [mayA, psM, psA, stA, woA, bnA, kn, fl, mayR, wdA, bdA, ownA, ownL, fld, hasB, cEq, AR.zero, dlA, bi]
  simp only [← List.length_eq_zero_iff]
  constructor <;> intro h <;> omega
set_option maxRecDepth 20000 in
set_option maxHeartbeats 1000000 in
theorem may_9 (off ct sz md h1 h2 g1 g2 : Int) (nm n2 : List UInt8) (dA : Option Addr) (dk : Nat) (d : List UInt8) : mayA ⟨9, off, ct, sz, md, h1, h2, g1, g2, nm, n2, dA, d.length, dk⟩ d = mayR ⟨9, off, ct, sz, md, h1, h2, g1, g2, nm, n2, dA, d.length, dk⟩ d := by
  rw [Bool.eq_iff_iff]
  simp [mayA, psM, psA, stA, woA, bnA, kn, fl, mayR, wdA, bdA, ownA, ownL, fld, hasB, cEq, AR.zero, dlA, bi]
  simp only [← List.length_eq_zero_iff]
  constructor <;> intro h <;> omega
set_option maxRecDepth 20000 in
set_option maxHeartbeats 1000000 in
theorem may_14 (off ct sz md h1 h2 g1 g2 : Int) (nm n2 : List UInt8) (dA : Option Addr) (dk : Nat) (d : List UInt8) : mayA ⟨14, off, ct, sz, md, h1, h2, g1, g2, nm, n2, dA, d.length, dk⟩ d = mayR ⟨14, off, ct, sz, md, h1, h2, g1, g2, nm, n2, dA, d.length, dk⟩ d := by
  rw [Bool.eq_iff_iff]
  simp [mayA, psM, psA, stA, woA, bnA, kn, fl, mayR, wdA, bdA, ownA, ownL, fld, hasB, cEq, AR.zero, dlA, bi]
  simp only [← List.length_eq_zero_iff]
  constructor <;> intro h <;> omega
theorem may_eq (a : AR) (d : List UInt8) (hd : d.length = a.dn) : mayA a d = mayR a d := by
  obtain ⟨pr, off, ct, sz, md, h1, h2, g1, g2, nm, n2, dA, dn, dk⟩ := a
  simp only at hd
  subst hd
  by_cases c1 : pr = 1
  · subst c1; exact may_1 _ _ _ _ _ _ _ _ _ _ _ _ _
  by_cases c2 : pr = 2
  · subst c2; exact may_2 _ _ _ _ _ _ _ _ _ _ _ _ _
  by_cases c3 : pr = 3
  · subst c3; exact may_3 _ _ _ _ _ _ _ _ _ _ _ _ _
  by_cases c12 : pr = 12
  · subst c12; exact may_12 _ _ _ _ _ _ _ _ _ _ _ _ _
  by_cases c13 : pr = 13
  · subst c13; exact may_13 _ _ _ _ _ _ _ _ _ _ _ _ _
  by_cases c6 : pr = 6
  · subst c6; exact may_6 _ _ _ _ _ _ _ _ _ _ _ _ _
  by_cases c16 : pr = 16
  · subst c16; exact may_16 _ _ _ _ _ _ _ _ _ _ _ _ _
  by_cases c7 : pr = 7
  · subst c7; exact may_7 _ _ _ _ _ _ _ _ _ _ _ _ _
  by_cases c8 : pr = 8
  · subst c8; exact may_8 _ _ _ _ _ _ _ _ _ _ _ _ _
  by_cases c9 : pr = 9
  · subst c9; exact may_9 _ _ _ _ _ _ _ _ _ _ _ _ _
  by_cases c14 : pr = 14
  · subst c14; exact may_14 _ _ _ _ _ _ _ _ _ _ _ _ _
  have k1 : kn pr = false := by simp only [kn, fl, c1, c2, c3, c12, c13, c6, c16, c7, c8, c9, c14, if_false]; rfl
  have k2 : fld pr = [] := by simp only [fld, c1, c2, c3, c12, c13, c6, c16, c7, c8, c9, c14, if_false]
  have k3 : fl pr = [] := by simp only [fl, c1, c2, c3, c12, c13, c6, c16, c7, c8, c9, c14, if_false]
  have h4 : mayA ⟨pr, off, ct, sz, md, h1, h2, g1, g2, nm, n2, dA, d.length, dk⟩ d = false := by simp [mayA, psM, psA, k1, k3]
  have h5 : mayR ⟨pr, off, ct, sz, md, h1, h2, g1, g2, nm, n2, dA, d.length, dk⟩ d = false := by simp [mayR, bdA, k2]
  rw [h4, h5]
theorem may_ok {a : AR} {d : List UInt8} (h : mayR a d = true) : a.ok ∧ ¬ fld a.pr = [] := by
  simp [mayR, wdA, bdA, bi] at h
  obtain ⟨⟨h1, h2, h3, h4, h5, h6, h7⟩, ⟨g0, g1, g2, g3, g4, g5⟩, _⟩ := h
  exact ⟨⟨⟨g1, g2⟩, h6, h5, h7, h1, h2, h3, h4, by omega, by omega, by omega⟩, g0⟩
end Go.Proofs.Ytpjigdfllbhknaa
