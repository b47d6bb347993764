/-
  Layer 5: a text that is sent, empty or not; the next piece of a script of one size; rows of any bytes.
-/
import Derived.Test.YtjdcbmelladceaaPipH
namespace Go.Proofs.Ytjdcbmelladceaa
open Go Go.RowKit
set_option linter.unusedVariables false
set_option linter.unusedSimpArgs false
/-- A text, or none. -/
def oneT (l : List UInt8) : List (List UInt8) := match l with
  | [] => []
  | a :: r => [a :: r]
theorem oneT_flat (l : List UInt8) : (oneT l).flatten = l := by cases l <;> simp [oneT]
theorem oneT_len (l : List UInt8) : (oneT l).length ≤ 1 := by cases l <;> simp [oneT]
def PSentA (w : World) (F : Nat → Prop) (tb cb : Nat) (T : List (List UInt8)) (z : List Int) (at_ : Nat) (l : List UInt8) (e : Ending) (w' : World) : Prop :=
  ∃ F' : Nat → Prop, e = .returned (.int .i64 0) ∧ Pip w' F' tb cb (T ++ oneT l) z at_ ∧ (∀ j, F' j → F j ∨ (w.heap.size ≤ j ∧ j < w'.heap.size)) ∧ Kp (Two tb cb) w w'
theorem psend_all (F : Nat → Prop) (tb cb : Nat) (T : List (List UInt8)) (z : List Int) (at_ : Nat) (A : Option Addr) (n c : Nat) (l : List UInt8) (w : World) (h : Pip w F tb cb T z at_) (hF : ∀ j, F j → j < w.heap.size)
    (hs : Sees w A n c (bs l)) (hT : T.length < 64) (hl1 : T.flatten.length ≤ 100000) (hl2 : l.length ≤ 100000) :
    Calls Try.prog 16 #[.pointer (some ⟨tb, 0, none⟩), .slice A n c] w (PSentA w F tb cb T z at_ l) := by
  cases l with
  | nil =>
    have hn : n = 0 := by have := hs.len; simpa [bs] using this.symm
    subst hn
    refine (psend_nil _ A c w).mono ?_
    rintro e w' ⟨rfl, rfl⟩
    exact ⟨F, rfl, by simpa [oneT] using h, fun j q => .inl q, Kp.refl _ _⟩
  | cons a r =>
    refine (psend_ok F tb cb T z at_ A n c (a :: r) w h hF hs (by simp) hT hl1 hl2).mono ?_
    rintro e w' ⟨rfl, hp, hk⟩
    exact ⟨_, rfl, hp, fun j q => q, hk⟩
def PNextA (w : World) (F : Nat → Prop) (tb cb : Nat) (T : List (List UInt8)) (s : Nat) (e : Ending) (w' : World) : Prop :=
  ∃ A m c b T', e = .returned (.tuple #[.slice A m c, .bool b]) ∧ w'.ownsRow w.heap.size 5 1 (.slice A m c) m (bs (T.flatten.take s)) ∧ Pip w' F tb cb T' [(s : Int)] 0 ∧ T'.flatten = T.flatten.drop s ∧ Kp (Two tb cb) w w' ∧ m ≤ s
theorem szF_one1 (s : Nat) : szF [(s : Int)] 0 = s := by simp [szF]
theorem pnext_one (F : Nat → Prop) (tb cb : Nat) (T : List (List UInt8)) (s : Nat) (w : World) (h : Pip w F tb cb T [(s : Int)] 0) (hF : ∀ j, F j → j < w.heap.size) (hl : T.flatten.length ≤ 100000) :
    Calls Try.prog 14 #[.pointer (some ⟨tb, 0, none⟩)] w (PNextA w F tb cb T s) := by
  by_cases hT : T = []
  · subst hT
    refine (pnext_none F tb cb _ 0 w h).mono ?_
    rintro e w' ⟨rfl, rfl⟩
    exact ⟨none, 0, 0, false, [], rfl, by simpa [bs] using World.ownsRow_nil w w.heap.size _ 1, h, by simp, Kp.refl _ _, by omega⟩
  · have hpos : 0 < T.flatten.length := by
      rcases Nat.eq_zero_or_pos T.flatten.length with e | e
      · exact absurd (flat_nil h.2.1 e) hT
      · exact e
    refine (pnext_some F tb cb T _ 0 (min s T.flatten.length) w h hF hpos hl (by rw [szF_one1])).mono ?_
    rintro e w' ⟨A, c, rfl, hown, hp, hk⟩
    have e1 : T.flatten.take (min s T.flatten.length) = T.flatten.take s := by
      by_cases hc : s ≤ T.flatten.length
      · rw [Nat.min_eq_left hc]
      · rw [Nat.min_eq_right (by omega), List.take_of_length_le (Nat.le_refl _), List.take_of_length_le (by omega)]
    have e2 : T.flatten.drop (min s T.flatten.length) = T.flatten.drop s := by
      by_cases hc : s ≤ T.flatten.length
      · rw [Nat.min_eq_left hc]
      · rw [Nat.min_eq_right (by omega), List.drop_of_length_le (Nat.le_refl _), List.drop_of_length_le (by omega)]
    rw [e1] at hown
    have h9 : (0 + 1) % [(s : Int)].length = 0 := by simp [Nat.mod_one]
    rw [h9] at hp
    exact ⟨A, _, c, true, cutT (min s T.flatten.length) T, rfl, hown, hp, by rw [cutT_flat, e2], hk, by omega⟩
/-- Bytes of a block from its first cell on, whatever they are. -/
def AnyRow (w : World) (A : Option Addr) (m : Nat) : Prop := 0 < m → ∃ g cur, A = some ⟨g, 0, none⟩ ∧ w.heap[g]? = some (.cells cur 5 (0, 0)) ∧ ∀ q, q < m → ∃ v, cur[q]? = some (.int .u8 v)
theorem AnyRow.of_own {w : World} {base : Nat} {A : Option Addr} {m c : Nat} {l : List UInt8} (h : w.ownsRow base 5 1 (.slice A m c) m (bs l)) : AnyRow w A m := fun hm => by
  obtain ⟨h1, h2⟩ := h
  rcases h2 with ⟨h2, _⟩ | ⟨g, cap, cur, hv, hb, hg, hn, hx, hs, ht⟩
  · injection h2 with _ h3
    omega
  · injection hv with hv _ hc
    refine ⟨g, cur, hv, hg, fun q hq => ?_⟩
    rw [bs_length] at h1
    have hq2 : q < l.length := by omega
    have h4 : (bs l)[q]? = some (.int .u8 ((l[q]).toNat : Int)) := by simp [bs, List.getElem?_eq_getElem hq2]
    rw [← ht, List.getElem?_take] at h4
    split at h4
    · exact ⟨_, by simpa using h4⟩
    · cases h4
theorem AnyRow.keep {w w' : World} {A : Option Addr} {m : Nat} (h : AnyRow w A m) (hk : ∀ a, A = some a → 0 < m → w'.heap[a.block]? = w.heap[a.block]?) : AnyRow w' A m := fun hm => by
  obtain ⟨g, cur, hA, hg, hc⟩ := h hm
  exact ⟨g, cur, hA, (hk _ hA hm).trans hg, hc⟩
theorem AnyRow.at_ {w : World} {A : Option Addr} {m : Nat} (h : AnyRow w A m) (q : Nat) (hq : q < m) : ∃ g v, A = some ⟨g, 0, none⟩ ∧ w.cell? ⟨g, q, none⟩ = some (.int .u8 v) ∧ w.frozen? ⟨g, q, none⟩ = false ∧ g < w.heap.size ∧ ∀ x : Int, AnyRow (w.setCell ⟨g, q, none⟩ (.int .u8 x)) A m := by
  obtain ⟨g, cur, hA, hg, hc⟩ := h (by omega)
  obtain ⟨v, hv⟩ := hc q hq
  refine ⟨g, v, hA, (cell_of_row w g q _ _ _ hg).trans hv, Lib.frozen_of_heap hg q, (Array.getElem?_eq_some_iff.1 hg).1, fun x hm => ⟨g, _, hA, heap_setCell_same w g q _ _ (.int .u8 x) hg, fun p hp => ?_⟩⟩
  obtain ⟨u, hu⟩ := hc p hp
  by_cases e : p = q
  · subst e
    have := (Array.getElem?_eq_some_iff.1 hu).1
    exact ⟨x, by simp [this]⟩
  · exact ⟨u, by simp [Array.getElem?_setIfInBounds_ne (Ne.symm e), hu]⟩
end Go.Proofs.Ytjdcbmelladceaa
