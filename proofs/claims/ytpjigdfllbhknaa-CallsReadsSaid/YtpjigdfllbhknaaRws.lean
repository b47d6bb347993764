/-
  Slices of slices of integers that came in: what is read of them.
-/
import Derived.Test.YtpjigdfllbhknaaCom
import Derived.Deep.Matrix
namespace Go.Proofs.Ytpjigdfllbhknaa
open Go Go.RowKit
set_option linter.unusedVariables false
set_option linter.unusedSimpArgs false

/-- The slice .slice A n c reads as rows of integers. -/
def SeesRows (k : IntKind) (w : World) (A : Option Addr) (n c : Nat) (rows : List (List Int)) : Prop :=
  rows.length = n ∧ n ≤ c ∧ c ≤ maxLen ∧ (A = none → c = 0) ∧ (0 < n → ∃ b off, A = some ⟨b, off, none⟩ ∧ ∀ j r, rows[j]? = some r → ∃ A' c', w.cell? ⟨b, off + j, none⟩ = some (.slice A' r.length c') ∧ Sees w A' r.length c' (r.map (Value.int k)) ∧ ∀ m ∈ r, (Lit.int k m).wf = true)
theorem SeesRows.nil {k : IntKind} (w : World) : SeesRows k w none 0 0 [] := ⟨rfl, Nat.le_refl _, by simp [maxLen], fun _ => rfl, fun h => absurd h (by omega)⟩
theorem seesRows_of {k : IntKind} {w : World} {a : Addr} {len cap : Nat} {A : Nat → Option Addr} {L C : Nat → Nat} {Z : Nat → List Int} (hl : len ≤ cap) (hm : cap ≤ maxLen)
    (h : ∀ r, r < cap → w.cell? (a.add r) = some (.slice (A r) (L r) (C r)) ∧ L r ≤ C r ∧ C r ≤ maxLen ∧ (Z r).length = C r ∧ (∀ n ∈ Z r, (Lit.int k n).wf = true) ∧ (A r = none → C r = 0) ∧
      ∀ a', A r = some a' → 0 ≤ a'.block ∧ ∀ c, c < C r → w.cell? (a'.add c) = some (.int k ((Z r).getD c 0))) : ∃ zs, SeesRows k w (some a) len cap zs := by
  refine ⟨(List.range len).map fun r => (Z r).take (L r), by simp, hl, hm, nofun, fun hn => ?_⟩
  obtain ⟨b, off, spot⟩ := a
  have h0 := (h 0 (by omega)).1
  have hspot : spot = none := by simpa [Addr.add] using World.cell?_spot h0
  subst hspot
  refine ⟨b, off, rfl, fun j r hr => ?_⟩
  have hj : j < len := by
    have := (List.getElem?_eq_some_iff.1 hr).1
    simpa using this
  have hrow : r = (Z j).take (L j) := by
    simp [hj] at hr
    exact hr.symm
  obtain ⟨g1, g2, g3, g4, g5, g6, g7⟩ := h j (by omega)
  rw [addr_add] at g1
  have hrl : r.length = L j := by rw [hrow, List.length_take]; omega
  refine ⟨A j, C j, by rw [hrl]; exact g1, ?_, fun m hm => g5 m (by rw [hrow] at hm; exact List.mem_of_mem_take hm)⟩
  refine ⟨by simp, by omega, g3, g6, fun hp => ?_⟩
  cases hA : A j with
  | none => have := g6 hA; omega
  | some a' =>
    obtain ⟨b', off', spot'⟩ := a'
    have g8 := (g7 _ hA).2
    have h0 := g8 0 (by omega)
    have hspot : spot' = none := by simpa [Addr.add] using World.cell?_spot h0
    subst hspot
    refine ⟨b', off', rfl, fun i u hu => ?_⟩
    have hi : i < r.length := by
      have := (List.getElem?_eq_some_iff.1 hu).1
      simpa using this
    have hc := g8 i (by omega)
    rw [addr_add] at hc
    rw [hc]
    simp [List.getElem?_eq_getElem hi] at hu
    rw [← hu]
    have hiZ : i < (Z j).length := by omega
    simp [List.getD, List.getElem?_eq_getElem hiZ]
    simp [hrow]
/-- Row number j. -/
theorem SeesRows.at_ {k : IntKind} {w : World} {A : Option Addr} {n c : Nat} {rows : List (List Int)} (h : SeesRows k w A n c rows) (j : Nat) (hj : j < n) :
    ∃ b off A' c' r, A = some ⟨b, off, none⟩ ∧ rows[j]? = some r ∧ w.cell? ⟨b, off + j, none⟩ = some (.slice A' r.length c') ∧ Sees w A' r.length c' (r.map (Value.int k)) ∧ ∀ m ∈ r, (Lit.int k m).wf = true := by
  obtain ⟨b, off, e, hc⟩ := h.2.2.2.2 (by omega)
  have hl : j < rows.length := by rw [h.1]; exact hj
  obtain ⟨A', c', h1, h2, h3⟩ := hc j _ (List.getElem?_eq_getElem hl)
  exact ⟨b, off, A', c', rows[j], e, List.getElem?_eq_getElem hl, h1, h2, h3⟩
theorem SeesRows.keep {k : IntKind} {w w' : World} {A : Option Addr} {n c : Nat} {rows : List (List Int)} (h : SeesRows k w A n c rows) (hk : ∀ (p : Addr) (u : Value), w.cell? p = some u → w'.cell? p = some u) : SeesRows k w' A n c rows :=
  ⟨h.1, h.2.1, h.2.2.1, h.2.2.2.1, fun hn => by
    obtain ⟨b, off, e, hc⟩ := h.2.2.2.2 hn
    refine ⟨b, off, e, fun j r hr => ?_⟩
    obtain ⟨A', c', h1, h2, h3⟩ := hc j r hr
    exact ⟨A', c', hk _ _ h1, h2.keep hk, h3⟩⟩
theorem SeesRows.ext {k : IntKind} {w w' : World} {A : Option Addr} {n c : Nat} {rows : List (List Int)} (h : SeesRows k w A n c rows) (he : Ext w w') : SeesRows k w' A n c rows := h.keep fun _ _ hc => he.cell hc
/-- Integers of 8 bits as bytes. -/
theorem ints_bytes {l : List Int} (hw : ∀ n ∈ l, (Lit.int .u8 n).wf = true) : l.map (Value.int .u8) = bs (l.map fun n => UInt8.ofNat n.toNat) := by
  simp only [bs, List.map_map]
  exact List.map_congr_left fun n hn => u8_wf n (hw n hn)
end Go.Proofs.Ytpjigdfllbhknaa
