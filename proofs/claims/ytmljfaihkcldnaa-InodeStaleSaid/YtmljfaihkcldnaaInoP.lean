/-
  Layer 10: a slice of handles that the call makes; the first free place of a table.
-/
import Derived.Test.YtmljfaihkcldnaaInoF
import Derived.Maps.AppendAt
namespace Go.Proofs.Ytmljfaihkcldnaa
open Go Go.RowKit
set_option linter.unusedVariables false
set_option linter.unusedSimpArgs false
theorem Fr.trans {tb pb : Nat} {a b c : World} (h : Fr tb pb a b) (h2 : Fr tb pb b c) : Fr tb pb a c :=
  ⟨Nat.le_trans h.1 h2.1, fun k hk h3 h4 => (h2.2 k (Nat.lt_of_lt_of_le hk h.1) h3 h4).trans (h.2 k hk h3 h4)⟩
theorem TabI.grown {w w' : World} {nf : FuncId} {tt pt vt : TypeId} {tb pb bx most : Nat} {full : Int} {TH : Nat → Value} {FU : Nat → Bool} {GE : Nat → Int} {row : Option Nat} (h : TabI w nf tt pt vt tb pb bx most full TH FU GE) (hg : w.grownBy w' row)
    (h1 : row ≠ some tb) (h2 : row ≠ some pb) (h3 : row ≠ some bx) : TabI w' nf tt pt vt tb pb bx most full TH FU GE := by
  obtain ⟨l1, l2, l3⟩ := h.lt
  obtain ⟨k1, k2, ⟨cur, k3, k4⟩, k5⟩ := h
  exact ⟨(hg.block tb l1 (fun e => h1 e.symm)).trans k1, (hg.block bx l3 (fun e => h3 e.symm)).trans k2, ⟨cur, (hg.block pb l2 (fun e => h2 e.symm)).trans k3, k4⟩, k5⟩
/-- The first place that is free. -/
theorem first_free (FU : Nat → Bool) (n : Nat) : (∀ j, j < n → FU j = true) ∨ ∃ q, q < n ∧ FU q = false ∧ ∀ j, j < q → FU j = true := by
  induction n with
  | zero => exact .inl fun j hj => absurd hj (by omega)
  | succ n ih =>
    rcases ih with h | ⟨q, h1, h2, h3⟩
    · cases hn : FU n with
      | true =>
        refine .inl fun j hj => ?_
        by_cases e : j = n
        · rw [e]; exact hn
        · exact h j (by omega)
      | false => exact .inr ⟨n, by omega, hn, h⟩
    · exact .inr ⟨q, by omega, h2, h3⟩
theorem infoH : (Try.prog.info? 29).map (fun i => (i.zero, i.size, i.bytes)) = some (some (.agg #[.int .i64 0, .int .i64 0]), 2, 16) := by kernel_rfl
/-- A row of the handles of the first n places, all of generation 1. -/
def OwnH (w : World) (base : Nat) (v : Value) (n : Nat) : Prop :=
  ∃ xs : List Value, w.ownsRow base 29 2 v n xs ∧ ∀ i, i < n → xs[i * 2]? = some (.int .i64 ((i : Int) + 1)) ∧ xs[i * 2 + 1]? = some (.int .i64 1)
theorem OwnH.nil (w : World) (base : Nat) : OwnH w base (.slice none 0 0) 0 := ⟨[], World.ownsRow_nil _ _ _ _, fun i h => absurd h (by omega)⟩
theorem OwnH.heap {w w' : World} {base n : Nat} {v : Value} (h : OwnH w base v n) (he : ∀ k, base ≤ k → k < w.heap.size → w'.heap[k]? = w.heap[k]?) : OwnH w' base v n := by
  obtain ⟨xs, ⟨h1, h2⟩, h3⟩ := h
  refine ⟨xs, ⟨h1, ?_⟩, h3⟩
  rcases h2 with h2 | ⟨g, cap, cur, hv, hb, hg, h4⟩
  · exact .inl h2
  · exact .inr ⟨g, cap, cur, hv, hb, (he g hb (Array.getElem?_eq_some_iff.1 hg).1).trans hg, h4⟩
theorem OwnH.ext {w w' : World} {base n : Nat} {v : Value} (h : OwnH w base v n) (he : Ext w w') : OwnH w' base v n := h.heap fun k _ hk => he.block k hk
theorem OwnH.fr {w w' : World} {tb pb base n : Nat} {v : Value} (h : OwnH w base v n) (he : Fr tb pb w w') (h1 : tb < base) (h2 : pb < base) : OwnH w' base v n :=
  h.heap fun k hb hk => he.2 k hk (by omega) (by omega)
theorem OwnH.lt {w : World} {base n : Nat} {v : Value} (h : OwnH w base v n) : ∀ k, v.ownBlock = some k → base ≤ k := by
  obtain ⟨xs, ⟨_, h2⟩, _⟩ := h
  rcases h2 with ⟨rfl, _⟩ | ⟨g, cap, cur, rfl, hb, _⟩
  · intro k hk; cases hk
  · intro k hk
    simp [Value.ownBlock] at hk
    omega
theorem OwnH.at_ {w : World} {base n : Nat} {v : Value} (h : OwnH w base v n) (i : Nat) (hi : i < n) :
    ∃ g cap, v = .slice (some ⟨g, 0, none⟩) n cap ∧ base ≤ g ∧ w.cell? ⟨g, i * 2, none⟩ = some (.int .i64 ((i : Int) + 1)) ∧ w.cell? ⟨g, i * 2 + 1, none⟩ = some (.int .i64 1) := by
  obtain ⟨xs, ⟨h1, h2⟩, h3⟩ := h
  obtain ⟨h4, h5⟩ := h3 i hi
  rcases h2 with ⟨_, rfl⟩ | ⟨g, cap, cur, rfl, hb, hg, hn, hm, hs, ht⟩
  · omega
  · have key : ∀ j u, xs[j]? = some u → w.cell? ⟨g, j, none⟩ = some u := fun j u hu => by
      rw [cell_of_row w g j _ _ _ hg]
      rw [← ht, List.getElem?_take] at hu
      split at hu
      · simpa using hu
      · cases hu
    exact ⟨g, cap, rfl, hb, key _ _ h4, key _ _ h5⟩
theorem OwnH.push {w : World} {base n : Nat} {v : Value} (h : OwnH w base v n) (hb : base ≤ w.heap.size) (hn : n ≤ 1000) :
    ∃ v' w', (Builtin.append_ #[38, 38] 38 #[v, .slice (some ⟨w.heap.size, 0, none⟩) 1 1]).run Try.prog (w.alloc (.cells #[.int .i64 ((n : Int) + 1), .int .i64 1] 29)) = .ok v' w' ∧
      OwnH w' base v' (n + 1) ∧ (w.alloc (.cells #[.int .i64 ((n : Int) + 1), .int .i64 1] 29)).grownBy w' v.ownBlock := by
  have ea : Ext w (w.alloc (.cells #[.int .i64 ((n : Int) + 1), .int .i64 1] 29)) := (Ext.refl w).alloc _
  obtain ⟨xs, h1, h3⟩ := h.ext ea
  have hblk := heap_alloc_new w (.cells #[.int .i64 ((n : Int) + 1), .int .i64 1] 29)
  obtain ⟨i0, hi, hz0, hz1, hz2⟩ : ∃ j, Try.prog.info? 29 = some j ∧ j.zero = some (.agg #[.int .i64 0, .int .i64 0]) ∧ j.size = 2 ∧ j.bytes = 16 := by
    have := infoH
    cases hh : Try.prog.info? 29 with
    | none => rw [hh] at this; cases this
    | some j =>
      rw [hh] at this
      simp at this
      exact ⟨j, rfl, this⟩
  have hxl := h1.1
  obtain ⟨v', w', hrun, hown, hg, _, _⟩ := run_append_own_at (P := Try.prog) (w := w.alloc (.cells #[.int .i64 ((n : Int) + 1), .int .i64 1] 29)) base 38 38 29 i0 _ 2 16 Try.underlying38 hi hz0 hz1 hz2 rfl (by omega) v n xs h1
    ⟨w.heap.size, 0, none⟩ 1 1 [.int .i64 ((n : Int) + 1), .int .i64 1] rfl (fun j u hu => by
      rw [addr_add, cell_of_row _ w.heap.size _ _ _ _ hblk]
      simpa using hu) (by simp [Value.oneCell']) (by unfold maxLen; omega) (by omega) (by simp; omega)
  refine ⟨v', w', hrun, ⟨_, hown, fun i hi => ?_⟩, hg⟩
  by_cases hin : i < n
  · obtain ⟨h4, h5⟩ := h3 i hin
    exact ⟨by rw [List.getElem?_append_left (by omega)]; exact h4, by rw [List.getElem?_append_left (by omega)]; exact h5⟩
  · obtain rfl : i = n := by omega
    exact ⟨by rw [List.getElem?_append_right (by omega), hxl]; simp, by rw [List.getElem?_append_right (by omega), hxl, show i * 2 + 1 - i * 2 = 1 by omega]; rfl⟩
theorem sees_bools {w : World} {x : Addr} {len cap : Nat} {B : Nat → Bool} (hl : len ≤ cap) (hm : cap ≤ maxLen) (hcell : ∀ i, i < cap → w.cell? (x.add i) = some (.bool (B i))) : ∃ zs : List Bool, Sees w (some x) len cap (zs.map Value.bool) := by
  refine ⟨(List.range len).map B, ⟨by simp, hl, hm, nofun, fun hn => ?_⟩⟩
  obtain ⟨b, off, spot⟩ := x
  have h0 := hcell 0 (by omega)
  have hspot : spot = none := by simpa [Addr.add] using World.cell?_spot h0
  subst hspot
  refine ⟨b, off, rfl, fun j u hu => ?_⟩
  have hj : j < len := by
    have := (List.getElem?_eq_some_iff.1 hu).1
    simpa using this
  have hc := hcell j (by omega)
  rw [addr_add] at hc
  rw [hc]
  simp [hj] at hu
  simp [hu]
end Go.Proofs.Ytmljfaihkcldnaa
