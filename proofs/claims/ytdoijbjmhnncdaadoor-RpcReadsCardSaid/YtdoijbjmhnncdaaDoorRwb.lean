/-
  Slices of slices of bytes: read; and such as the call has made: an element appended.
-/
import Derived.Test.YtdoijbjmhnncdaaDoorCom0
import Derived.Test.YtdoijbjmhnncdaaDoorOrd
namespace Go.Proofs.YtdoijbjmhnncdaaDoor
open Go Go.RowKit
set_option linter.unusedVariables false
set_option linter.unusedSimpArgs false

/-- The slice reads as a row of rows of bytes. -/
def SeesB (w : World) (A : Option Addr) (n c : Nat) (rs : List (List UInt8)) : Prop :=
  ∃ vs : List Value, Sees w A n c vs ∧ vs.length = rs.length ∧ ∀ (j : Nat) (r : List UInt8), rs[j]? = some r → ∃ A' n' c', vs[j]? = some (Value.slice A' n' c') ∧ Sees w A' n' c' (bs r)
theorem SeesB.ext {w w' : World} {A : Option Addr} {n c : Nat} {rs : List (List UInt8)} (h : SeesB w A n c rs) (he : Ext w w') : SeesB w' A n c rs := by
  obtain ⟨vs, h1, h2, h3⟩ := h
  refine ⟨vs, h1.ext he, h2, fun j r hr => ?_⟩
  obtain ⟨A', n', c', h4, h5⟩ := h3 j r hr
  exact ⟨A', n', c', h4, h5.ext he⟩
theorem SeesB.len {w : World} {A : Option Addr} {n c : Nat} {rs : List (List UInt8)} (h : SeesB w A n c rs) : rs.length = n ∧ n ≤ c ∧ c ≤ maxLen := by
  obtain ⟨vs, h1, h2, _⟩ := h
  exact ⟨by rw [← h2]; exact h1.len, h1.le, h1.max⟩
theorem SeesB.at_ {w : World} {A : Option Addr} {n c : Nat} {rs : List (List UInt8)} (h : SeesB w A n c rs) (j : Nat) (r : List UInt8) (hr : rs[j]? = some r) :
    ∃ b off A' n' c', A = some ⟨b, off, none⟩ ∧ w.cell? ⟨b, off + j, none⟩ = some (Value.slice A' n' c') ∧ Sees w A' n' c' (bs r) := by
  have hl := h.len.1
  have hj := (List.getElem?_eq_some_iff.1 hr).1
  obtain ⟨vs, h1, h2, h3⟩ := h
  obtain ⟨A', n', c', h4, h5⟩ := h3 j r hr
  obtain ⟨b, off, u, hA, hu, hc, _⟩ := h1.at_ (show j < n by omega)
  rw [h4] at hu
  injection hu with hu
  subst hu
  exact ⟨b, off, A', n', c', hA, hc, h5⟩

theorem infoS : (Tryd.prog.info? 22).map (fun i => (i.zero, i.size, i.bytes)) = some (some (.slice none 0 0), 1, 24) := by kernel_rfl
theorem info_partsS {i : Option TypeInfo} (h : i.map (fun i => (i.zero, i.size, i.bytes)) = some (some (.slice none 0 0), 1, 24)) : ∃ j, i = some j ∧ j.zero = some (.slice none 0 0) ∧ j.size = 1 ∧ j.bytes = 24 := by
  cases i with
  | none => cases h
  | some j =>
    simp at h
    exact ⟨j, rfl, h⟩
theorem Sees.grown {w w' : World} {A : Option Addr} {n c : Nat} {xs : List Value} {row : Option Nat} (h : Sees w A n c xs) (hg : w.grownBy w' row) (hne : ∀ a, A = some a → 0 < n → row ≠ some a.block) : Sees w' A n c xs :=
  ⟨h.1, h.2.1, h.2.2.1, h.2.2.2.1, fun hn => by
    obtain ⟨b, off, hA, hc⟩ := h.2.2.2.2 hn
    refine ⟨b, off, hA, fun j u hu => ?_⟩
    have hcell := hc j u hu
    have hlt := World.block_lt_of_cell? w ⟨b, off + j, none⟩ hcell
    exact (World.cell?_of_block (hg.block b hlt (fun e => hne _ hA hn e.symm))).trans hcell⟩
/-- An element: its bytes, which do not lie in the block ob. -/
def ElB (w : World) (ob : Option Nat) (u : Value) (r : List UInt8) : Prop := ∃ A' n' c', u = Value.slice A' n' c' ∧ Sees w A' n' c' (bs r) ∧ ∀ a, A' = some a → 0 < n' → ob ≠ some a.block
def OwnB (w : World) (base : Nat) (v : Value) (rs : List (List UInt8)) : Prop :=
  ∃ vs : List Value, w.ownsRow base 22 1 v rs.length vs ∧ ∀ (j : Nat) (r : List UInt8), rs[j]? = some r → ∃ u, vs[j]? = some u ∧ ElB w v.ownBlock u r
theorem OwnB.nil (w : World) (base : Nat) : OwnB w base (.slice none 0 0) [] := ⟨[], World.ownsRow_nil _ _ _ _, fun j r h => by simp at h⟩
theorem OwnB.ext {w w' : World} {base : Nat} {v : Value} {rs : List (List UInt8)} (h : OwnB w base v rs) (he : Ext w w') : OwnB w' base v rs := by
  obtain ⟨vs, h1, h2⟩ := h
  refine ⟨vs, own_ext h1 he, fun j r hr => ?_⟩
  obtain ⟨u, h3, A', n', c', h4, h5, h6⟩ := h2 j r hr
  exact ⟨u, h3, A', n', c', h4, h5.ext he, h6⟩
theorem OwnB.sees {w : World} {base : Nat} {v : Value} {rs : List (List UInt8)} (h : OwnB w base v rs) : ∃ A c, v = .slice A rs.length c ∧ SeesB w A rs.length c rs := by
  obtain ⟨vs, h1, h2⟩ := h
  obtain ⟨A, c, hv, hs⟩ := Sees.of_own h1
  refine ⟨A, c, hv, vs, hs, hs.len, fun j r hr => ?_⟩
  obtain ⟨u, h3, A', n', c', rfl, h5, _⟩ := h2 j r hr
  exact ⟨A', n', c', h3, h5⟩
theorem OwnB.lt {w : World} {base : Nat} {v : Value} {rs : List (List UInt8)} (h : OwnB w base v rs) : ∀ k, v.ownBlock = some k → base ≤ k ∧ k < w.heap.size := by
  obtain ⟨vs, h1, _⟩ := h
  exact h1.lt
theorem own_push {w : World} {base : Nat} {v : Value} {rs : List (List UInt8)} {A' : Option Addr} {n' c' : Nat} {r : List UInt8} (h : OwnB w base v rs) (hb : base ≤ w.heap.size) (hl : rs.length ≤ 1000) (hs : Sees w A' n' c' (bs r))
    (hne : ∀ a, A' = some a → 0 < n' → v.ownBlock ≠ some a.block) :
    ∃ v' w', (Builtin.append_ #[30, 30] 30 #[v, .slice (some ⟨w.heap.size, 0, none⟩) 1 1]).run Tryd.prog (w.alloc (.cells #[.slice A' n' c'] 22)) = .ok v' w' ∧ OwnB w' base v' (rs ++ [r]) ∧ (w.alloc (.cells #[.slice A' n' c'] 22)).grownBy w' v.ownBlock := by
  obtain ⟨i0, hi, hz0, hz1, hz2⟩ := info_partsS infoS
  obtain ⟨vs, h1, h2⟩ := h
  obtain ⟨v', w', hrun, hown', hg, hat⟩ := run_append_sees (P := Tryd.prog) (w := w.alloc (.cells #[.slice A' n' c'] 22)) base 30 30 22 i0 _ 24 Tryd.underlying30 hi hz0 hz1 hz2 rfl v _ _ (h1.alloc _)
    _ 1 1 _ (sees_new w 22 #[.slice A' n' c'] (by simp [maxLen])) (by simp [Value.oneCell']) (by unfold maxLen; omega) (by omega) (by simp; omega)
  have he : Ext w (w.alloc (.cells #[.slice A' n' c'] 22)) := (Ext.refl _).alloc _
  have hlv : vs.length = rs.length := by have := h1.1; simpa using this
  have key : ∀ A0 n0 c0 r0, Sees w A0 n0 c0 (bs r0) → (∀ a, A0 = some a → 0 < n0 → v.ownBlock ≠ some a.block) → ElB w' v'.ownBlock (.slice A0 n0 c0) r0 := fun A0 n0 c0 r0 hs0 hne0 => by
    refine ⟨A0, n0, c0, rfl, (hs0.ext he).grown hg hne0, fun a hA hn => ?_⟩
    rcases hat with h | h
    · rw [h]
      exact hne0 a hA hn
    · rw [h]
      obtain ⟨b, off, hA0, hc⟩ := hs0.2.2.2.2 hn
      obtain ⟨b1, off1, u, hA1, _, _, hlt⟩ := hs0.at_ (show 0 < n0 from hn)
      rw [hA] at hA1
      injection hA1 with hA1
      subst hA1
      intro e
      injection e with e
      simp at e
      omega
  refine ⟨v', w', hrun, ⟨vs ++ [.slice A' n' c'], by rw [List.length_append]; exact hown', fun j r0 hr => ?_⟩, hg⟩
  by_cases hj : j < rs.length
  · rw [List.getElem?_append_left hj] at hr
    obtain ⟨u, h3, A0, n0, c0, rfl, h5, h6⟩ := h2 j r0 hr
    exact ⟨_, by rw [List.getElem?_append_left (by omega)]; exact h3, key _ _ _ _ h5 h6⟩
  · have hj2 := (List.getElem?_eq_some_iff.1 hr).1
    simp at hj2
    obtain rfl : j = rs.length := by omega
    simp at hr
    subst hr
    exact ⟨_, by rw [← hlv]; simp, key _ _ _ _ hs hne⟩
end Go.Proofs.YtdoijbjmhnncdaaDoor
