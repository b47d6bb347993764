/-
  Slices of slices of bytes: read; and such as the call has made: an element appended.
-/
import Derived.Test.YtdoijbjmhnncdaaCom0
import Derived.Test.YtdoijbjmhnncdaaOrd
namespace Go.Proofs.Ytdoijbjmhnncdaa
open Go Go.RowKit
set_option linter.unusedVariables false
set_option linter.unusedSimpArgs false

/-- The slice reads as a row of rows of bytes. -/
def SeesB (w : World) (A : Option Addr) (n c : Nat) (rs : List (List UInt8)) : Prop :=
  ∃ vs : List Value, Sees w A n c vs ∧ vs.length = rs.length ∧ ∀ (j : Nat) (r : List UInt8), rs[j]? = some r → ∃ A' n' c', vs[j]? = some (Value.slice A' n' c') ∧ Sees w A' n' c' (bs r)
theorem SeesB.ext {w w' : World} {A : Option Addr} {n c : Nat} {rs : List (List UInt8)} (h : SeesB w A n c rs) (he : Ext w w') : SeesB w' A n c rs := by
  obtain ⟨vs, h1, h2, h3⟩ := h
  refine ⟨vs, h1.ext he, h2, fun j r hr => ?_⟩
  obtain ⟨A', n', c', h4, h5⟩ := h3 j r hr
  exact ⟨A', n', c', h4, h5.ext he⟩
theorem SeesB.len {w : World} {A : Option Addr} {n c : Nat} {rs : List (List UInt8)} (h : SeesB w A n c rs) : rs.length = n ∧ n ≤ c ∧ c ≤ maxLen := by
  obtain ⟨vs, h1, h2, _⟩ := h
  exact ⟨by rw [← h2]; exact h1.len, h1.le, h1.max⟩
theorem SeesB.at_ {w : World} {A : Option Addr} {n c : Nat} {rs : List (List UInt8)} (h : SeesB w A n c rs) (j : Nat) (r : List UInt8) (hr : rs[j]? = some r) :
    ∃ b off A' n' c', A = some ⟨b, off, none⟩ ∧ w.cell? ⟨b, off + j, none⟩ = some (Value.slice A' n' c') ∧ Sees w A' n' c' (bs r) := by
  have hl := h.len.1
  have hj := (List.getElem?_eq_some_iff.1 hr).1
  obtain ⟨vs, h1, h2, h3⟩ := h
  obtain ⟨A', n', c', h4, h5⟩ := h3 j r hr
  obtain ⟨b, off, u, hA, hu, hc, _⟩ := h1.at_ (show j < n by omega)
  rw [h4] at hu
  injection hu with hu
  subst hu
  exact ⟨b, off, A', n', c', hA, hc, h5⟩

theorem infoS : (Try.prog.info? 26).map (fun i => (i.zero, i.size, i.bytes)) = some (some (.slice none 0 0), 1, 24) := by kernel_rfl
theorem info_partsS {i : Option TypeInfo} (h : i.map (fun i => (i.zero, i.size, i.bytes)) = some (some (.slice none 0 0), 1, 24)) : ∃ j, i = some j ∧ j.zero = some (.slice none 0 0) ∧ j.size = 1 ∧ j.bytes = 24 := by
  cases i with
  | none => cases h
  | some j =>
    simp at h
    exact ⟨j, rfl, h⟩
theorem Sees.grown {w w' : World} {A : Option Addr} {n c : Nat} {xs : List Value} {row : Option Nat} (h : Sees w A n c xs) (hg : w.grownBy w' row) (hne : ∀ a, A = some a → 0 < n → row ≠ some a.block) : Sees w' A n c xs :=
  ⟨h.1, h.2.1, h.2.2.1, h.2.2.2.1, fun hn => by
    obtain ⟨b, off, hA, hc⟩ := h.2.2.2.2 hn
    refine ⟨b, off, hA, fun j u hu => ?_⟩
    have hcell := hc j u hu
    have hlt := World.block_lt_of_cell? w ⟨b, off + j, none⟩ hcell
    exact (World.cell?_of_block (hg.block b hlt (fun e => hne _ hA hn e.symm))).trans hcell⟩
/-- An element: its bytes, which do not lie in the block ob. -/
def ElB (w : World) (ob : Option Nat) (u : Value) (r : List UInt8) : Prop := ∃ A' n' c', u = Value.slice A' n' c' ∧ Sees w A' n' c' (bs r) ∧ ∀ a, A' = some a → 0 < n' → ob ≠ some a.block
def OwnB (w : World) (base : Nat) (v : Value) (rs : List (List UInt8)) : Prop :=
  ∃ vs : List Value, w.ownsRow base 26 1 v rs.length vs ∧ ∀ (j : Nat) (r : List UInt8), rs[j]? = some r → ∃ u, vs[j]? = some u ∧ ElB w v.ownBlock u r
theorem OwnB.nil (w : World) (base : Nat) : OwnB w base (.slice none 0 0) [] := ⟨[], World.ownsRow_nil _ _ _ _, fun j r h => by simp at h⟩
theorem OwnB.ext {w w' : World} {base : Nat} {v : Value} {rs : List (List UInt8)} (h : OwnB w base v rs) (he : Ext w w') : OwnB w' base v rs := by
  obtain ⟨vs, h1, h2⟩ := h
  refine ⟨vs, own_ext h1 he, fun j r hr => ?_⟩
  obtain ⟨u, h3, A', n', c', h4, h5, h6⟩ := h2 j r hr
  exact ⟨u, h3, A', n', c', h4, h5.ext he, h6⟩
theorem OwnB.sees {w : World} {base : Nat} {v : Value} {rs : List (List UInt8)} (h : OwnB w base v rs) : ∃ A c, v = .slice A rs.length c ∧ SeesB w A rs.length c rs := by
  obtain ⟨vs, h1, h2⟩ := h
  obtain ⟨A, c, hv, hs⟩ := Sees.of_own h1
  refine ⟨A, c, hv, vs, hs, hs.len, fun j r hr => ?_⟩
  obtain ⟨u, h3, A', n', c', rfl, h5, _⟩ := h2 j r hr
  exact ⟨A', n', c', h3, h5⟩
theorem OwnB.lt {w : World} {base : Nat} {v : Value} {rs : List (List UInt8)} (h : OwnB w base v rs) : ∀ k, v.ownBlock = some k → base ≤ k ∧ k < w.heap.size := by
  obtain ⟨vs, h1, _⟩ := h
  exact h1.lt
end Go.Proofs.Ytdoijbjmhnncdaa
