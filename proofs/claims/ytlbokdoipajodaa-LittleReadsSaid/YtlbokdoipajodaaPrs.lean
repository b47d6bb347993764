/-
  Slices of pairs of integers ([][2]int) that came in: what is read of them.
-/
import Derived.Test.YtlbokdoipajodaaCom
import Derived.Deep.Slices
import Derived.OpenShut
namespace Go.Proofs.Ytlbokdoipajodaa
open Go Go.RowKit Go.Deep
set_option linter.unusedVariables false
set_option linter.unusedSimpArgs false

/-- The slice .slice A n c reads as pairs of integers. -/
def SeesPairs (k : IntKind) (w : World) (A : Option Addr) (n c : Nat) (z : Nat → Int × Int) : Prop :=
  n ≤ c ∧ c ≤ maxLen ∧ (A = none → c = 0) ∧ ∀ j, j < n → ∃ b off, A = some ⟨b, off, none⟩ ∧ b < w.heap.size ∧ w.cell? ⟨b, off + j * 2, none⟩ = some (.int k (z j).1) ∧ w.cell? ⟨b, off + j * 2 + 1, none⟩ = some (.int k (z j).2) ∧ (Lit.int k (z j).1).wf = true ∧ (Lit.int k (z j).2).wf = true
theorem SeesPairs.ext {k : IntKind} {w w' : World} {A : Option Addr} {n c : Nat} {z : Nat → Int × Int} (h : SeesPairs k w A n c z) (he : Ext w w') : SeesPairs k w' A n c z :=
  ⟨h.1, h.2.1, h.2.2.1, fun j hj => by
    obtain ⟨b, off, h1, h2, h3, h4, h5⟩ := h.2.2.2 j hj
    exact ⟨b, off, h1, Nat.lt_of_lt_of_le h2 he.size, he.cell h3, he.cell h4, h5⟩⟩

section
variable {H : Type} {enc : TypeId × Value → H} {P : Program} {w : World} {base : Nat} {spare : Nat → Bool} {held : Bool}
theorem open_pairs {t e q : TypeId} {k : IntKind} {fuel : Nat} {A : Option Addr} {n c : Nat} {x : DataW H × List MemPlace} (ht : P.underlying t = some (.slice e)) (he : P.underlying e = some (.array 2 q)) (hq : P.underlying q = some (.int k))
    (ce : P.cellsOf e = 2) (cq : P.cellsOf q = 1) (h : DataW.trod enc P w base spare held fuel t [.slice A n c] = some x) : ∃ z, SeesPairs k w A n c z := by
  rcases open_slice ht h with ⟨h0, _⟩ | ⟨a, len, cap, m, nn, D, Pl, h0, hb, hl, hm, hmm, _, hx⟩
  · simp at h0
    obtain ⟨rfl, rfl, rfl⟩ := h0
    exact ⟨fun _ => (0, 0), Nat.le_refl _, by simp [maxLen], fun _ => rfl, fun j hj => by omega⟩
  · simp at h0
    obtain ⟨rfl, rfl, rfl⟩ := h0
    have hlm : n ≤ m := by rw [hmm]; split <;> omega
    have each : ∀ i, i < n → ∃ z : Int × Int, ∃ b off, (some a : Option Addr) = some ⟨b, off, none⟩ ∧ b < w.heap.size ∧ w.cell? ⟨b, off + i * 2, none⟩ = some (.int k z.1) ∧ w.cell? ⟨b, off + i * 2 + 1, none⟩ = some (.int k z.2) ∧ (Lit.int k z.1).wf = true ∧ (Lit.int k z.2).wf = true := by
      intro i hi
      obtain ⟨cs', h1, h2⟩ := hx i (by omega)
      rw [ce] at h1
      obtain ⟨_, hlen, hcell⟩ := World.cells?_some h1
      obtain ⟨xs, mm, _, _, _, hxl, hf⟩ := DataW.trod_array he h2
      match xs, hxl, cs', hlen with
      | [y0, y1], _, [v0, v1], _ =>
        have g0 := hf 0 (by omega)
        have g1 := hf 1 (by omega)
        simp [cq] at g0 g1
        obtain ⟨z0, hz0, _, hw0⟩ := DataW.trod_int hq g0
        obtain ⟨z1, hz1, _, hw1⟩ := DataW.trod_int hq g1
        simp at hz0 hz1
        subst hz0 hz1
        have e0 := hcell 0 (by omega)
        have e1 := hcell 1 (by omega)
        rw [add_add] at e0 e1
        simp at e0 e1
        obtain ⟨b, off, spot⟩ := a
        have hspot : spot = none := by
          obtain ⟨cs0, k1, _⟩ := hx 0 (by omega)
          rw [ce] at k1
          obtain ⟨_, k2, k3⟩ := World.cells?_some k1
          have k4 := k3 0 (by omega)
          rw [List.getElem?_eq_getElem (by omega)] at k4
          simpa [Addr.add] using World.cell?_spot k4
        subst hspot
        rw [addr_add] at e0 e1
        exact ⟨(z0, z1), b, off, rfl, World.block_lt_of_cell? w _ e0, e0, by rw [Nat.add_assoc]; exact e1, hw0, hw1⟩
    obtain ⟨z, hz⟩ := choose_lt each
    exact ⟨z, hl, hm, nofun, hz⟩
end
end Go.Proofs.Ytlbokdoipajodaa
