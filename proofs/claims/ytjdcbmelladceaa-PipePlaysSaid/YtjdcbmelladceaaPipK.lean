/-
  Layer 5: bytes of the call's own, appended to; a pipe apart from other blocks.
-/
import Derived.Test.YtjdcbmelladceaaPipJ
import Derived.Test.YtjdcbmelladceaaRws
namespace Go.Proofs.Ytjdcbmelladceaa
open Go Go.RowKit
set_option linter.unusedVariables false
set_option linter.unusedSimpArgs false
/-- append(v, b...), v bytes of the call's own. -/
theorem own_bytes {w : World} {base n m c : Nat} {v : Value} {A : Option Addr} {l r : List UInt8} (h : w.ownsRow base 5 1 v n (bs l)) (hs : Sees w A m c (bs r)) (hb : base ≤ w.heap.size) (hn : n + m ≤ 100000) :
    ∃ A' c' w', (Builtin.append_ #[33, 33] 33 #[v, .slice A m c]).run Try.prog w = .ok (.slice A' (n + m) c') w' ∧ w'.ownsRow base 5 1 (.slice A' (n + m) c') (n + m) (bs (l ++ r)) ∧ w.grownBy w' v.ownBlock ∧
      ((Value.slice A' (n + m) c').ownBlock = v.ownBlock ∨ (Value.slice A' (n + m) c').ownBlock = some w.heap.size) := by
  obtain ⟨i0, hi, hz0, hz1, hz2⟩ := info_parts infoB
  obtain ⟨v', w', hrun, hown, hg, hat⟩ := run_append_sees (P := Try.prog) (w := w) base 33 33 5 i0 _ 1 Try.underlying33 hi hz0 hz1 hz2 rfl v n _ h
    A m c (bs r) hs (bs_one _) (by unfold maxLen; omega) (by omega) hb
  obtain ⟨A', c', rfl, _⟩ := Sees.of_own hown
  exact ⟨A', c', w', hrun, by rw [bs_append]; exact hown, hg, hat⟩
theorem SeesRows.bytes {w : World} {A : Option Addr} {n c : Nat} {rows : List (List Int)} (h : SeesRows .u8 w A n c rows) (j : Nat) (hj : j < n) :
    ∃ b off A' n' c' r, A = some ⟨b, off, none⟩ ∧ w.cell? ⟨b, off + j, none⟩ = some (.slice A' n' c') ∧ Sees w A' n' c' (bs r) := by
  obtain ⟨b, off, A', c', r, h1, h2, h3, h4, h5⟩ := h.at_ j hj
  rw [ints_bytes h5] at h4
  exact ⟨b, off, A', _, c', _, h1, h3, h4⟩
theorem drop_cons_get {α : Type} {l : List α} {j : Nat} {x : α} (h : l[j]? = some x) : l.drop j = x :: l.drop (j + 1) := by
  obtain ⟨hj, rfl⟩ := List.getElem?_eq_some_iff.1 h
  exact List.drop_eq_getElem_cons hj
theorem take_snoc_get {α : Type} {l : List α} {j : Nat} {x : α} (h : l[j]? = some x) : l.take (j + 1) = l.take j ++ [x] := by
  rw [List.take_add_one, h]
  rfl
end Go.Proofs.Ytjdcbmelladceaa
