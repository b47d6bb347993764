/-
  Layer 6: no error at all; numbers that the call gathers.
-/
import Derived.Test.YtdoijbjmhnncdaaDoorRpcI
import Derived.Test.YtdoijbjmhnncdaaDoorXdrQ
namespace Go.Proofs.YtdoijbjmhnncdaaDoor
open Go Go.RowKit
set_option linter.unusedVariables false
set_option linter.unusedSimpArgs false
theorem as_nil (w : World) : (Instr.typeAssert .nilIface 34 46 true).run Tryd.prog w = .ok (.tuple #[.pointer none, .bool false]) w := by kernel_rfl
set_option maxRecDepth 20000 in
theorem errorsAs_nil (t : Value) (w : World) : Calls Tryd.prog 31 #[.nilIface, t] w fun e w' => e = .returned (.bool false) ∧ w = w' := by
  go_enter Tryd.func31, Tryd.ntmps31
  go_wp2_with fail
  go_ret
  exact ⟨rfl, rfl⟩
set_option maxRecDepth 20000 in
theorem find_nil (w : World) : Calls Tryd.prog 23 #[.nilIface] w fun e w' => e = .returned (.pointer none) ∧ Ext w w' := by
  have ta := as_nil w
  obtain ⟨w1, hw1⟩ : ∃ w1, w.alloc (.cells #[.pointer none] 46) = w1 := ⟨_, rfl⟩
  have e1 : Ext w w1 := by rw [← hw1]; exact (Ext.refl w).alloc _
  go_enter Tryd.func23, Tryd.ntmps23
  go_wp2_with fail
  refine (errorsAs_nil _ w1).mono ?_
  rintro e w2 ⟨rfl, rfl⟩
  go_wp2_with fail
  go_ret
  exact ⟨rfl, e1⟩
theorem number_nil (w : World) : Calls Tryd.prog 13 #[.nilIface] w fun e w' => e = .returned (.int .i64 0) ∧ Ext w w' := by
  go_enter Tryd.func13, Tryd.ntmps13
  go_wp2_with fail
  go_ret
  exact ⟨rfl, Ext.refl _⟩
theorem place_nil (w : World) : Calls Tryd.prog 14 #[.nilIface] w fun e w' => e = .returned (.int .i64 (-1)) ∧ Ext w w' := by
  go_enter Tryd.func14, Tryd.ntmps14
  go_wp2_with fail
  refine (find_nil w).mono ?_
  rintro e w1 ⟨rfl, e1⟩
  go_wp2_with fail
  go_ret
  exact ⟨rfl, e1⟩
theorem infoU : (Tryd.prog.info? 23).map (fun i => (i.zero, i.size, i.bytes)) = some (some (.int .u32 0), 1, 4) := by kernel_rfl
def OwnU (w : World) (base : Nat) (v : Value) (n : Nat) (X : Nat → Int) : Prop :=
  ∃ xs : List Value, w.ownsRow base 23 1 v n xs ∧ ∀ i, i < n → xs[i]? = some (.int .u32 (X i))
theorem OwnU.nil (w : World) (base : Nat) (X : Nat → Int) : OwnU w base (.slice none 0 0) 0 X := ⟨[], World.ownsRow_nil _ _ _ _, fun i h => absurd h (by omega)⟩
theorem OwnU.heap {w w' : World} {base n : Nat} {v : Value} {X : Nat → Int} (h : OwnU w base v n X) (he : ∀ k, v.ownBlock = some k → base ≤ k → k < w.heap.size → w'.heap[k]? = w.heap[k]?) : OwnU w' base v n X := by
  obtain ⟨xs, ⟨h1, h2⟩, h3⟩ := h
  refine ⟨xs, ⟨h1, ?_⟩, h3⟩
  rcases h2 with h2 | ⟨g, cap, cur, hv, hb, hg, h4⟩
  · exact .inl h2
  · exact .inr ⟨g, cap, cur, hv, hb, (he g (by rw [hv]; rfl) hb (Array.getElem?_eq_some_iff.1 hg).1).trans hg, h4⟩
theorem OwnU.lt {w : World} {base n : Nat} {v : Value} {X : Nat → Int} (h : OwnU w base v n X) : ∀ k, v.ownBlock = some k → base ≤ k ∧ k < w.heap.size := by
  obtain ⟨xs, ⟨_, h2⟩, _⟩ := h
  rcases h2 with ⟨rfl, _⟩ | ⟨g, cap, cur, rfl, hb, hg, _⟩
  · intro k hk; cases hk
  · intro k hk
    simp [Value.ownBlock] at hk
    have := (Array.getElem?_eq_some_iff.1 hg).1
    omega
theorem OwnU.shape {w : World} {base n : Nat} {v : Value} {X : Nat → Int} (h : OwnU w base v n X) : ∃ A c, v = .slice A n c := by
  obtain ⟨xs, ⟨h1, h2⟩, _⟩ := h
  rcases h2 with ⟨rfl, rfl⟩ | ⟨g, cap, cur, rfl, _⟩
  · simp at h1
    subst h1
    exact ⟨_, _, rfl⟩
  · exact ⟨_, _, rfl⟩
theorem OwnU.at_ {w : World} {base n : Nat} {v : Value} {X : Nat → Int} (h : OwnU w base v n X) (i : Nat) (hi : i < n) :
    ∃ g cap, v = .slice (some ⟨g, 0, none⟩) n cap ∧ base ≤ g ∧ w.cell? ⟨g, i, none⟩ = some (.int .u32 (X i)) := by
  obtain ⟨xs, ⟨h1, h2⟩, h3⟩ := h
  have h4 := h3 i hi
  rcases h2 with ⟨_, rfl⟩ | ⟨g, cap, cur, rfl, hb, hg, hn, hm, hs, ht⟩
  · first | omega | (simp at h1; omega) | (simp at h4)
  · refine ⟨g, cap, rfl, hb, ?_⟩
    rw [cell_of_row w g i _ _ _ hg]
    rw [← ht, List.getElem?_take] at h4
    split at h4
    · simpa using h4
    · cases h4
theorem OwnU.push {w : World} {base n : Nat} {v : Value} {X : Nat → Int} (h : OwnU w base v n X) (hb : base ≤ w.heap.size) (hn : n ≤ 1000) (x : Int) (hx : x = X n) :
    ∃ v' w', (Builtin.append_ #[55, 55] 55 #[v, .slice (some ⟨w.heap.size, 0, none⟩) 1 1]).run Tryd.prog (w.alloc (.cells #[.int .u32 x] 23)) = .ok v' w' ∧
      OwnU w' base v' (n + 1) X ∧ (w.alloc (.cells #[.int .u32 x] 23)).grownBy w' v.ownBlock ∧ (v'.ownBlock = v.ownBlock ∨ v'.ownBlock = some (w.heap.size + 1)) := by
  have h0 := h.heap (w' := w.alloc (.cells #[.int .u32 x] 23)) fun k _ _ hk => Below.heap_alloc _ _ _ (by omega)
  obtain ⟨xs, h1, h3⟩ := h0
  have hblk := heap_alloc_new w (.cells #[.int .u32 x] 23)
  obtain ⟨i0, hi, hz0, hz1, hz2⟩ : ∃ j, Tryd.prog.info? 23 = some j ∧ j.zero = some (.int .u32 0) ∧ j.size = 1 ∧ j.bytes = 4 := by
    have := infoU
    cases hh : Tryd.prog.info? 23 with
    | none => rw [hh] at this; cases this
    | some j =>
      rw [hh] at this
      simp at this
      exact ⟨j, rfl, this⟩
  have hxl := h1.1
  obtain ⟨v', w', hrun, hown, hg, _, ho⟩ := run_append_own_at (P := Tryd.prog) (w := w.alloc (.cells #[.int .u32 x] 23)) base 55 55 23 i0 _ 1 4 Tryd.underlying55 hi hz0 hz1 hz2 rfl (by omega) v n xs h1
    ⟨w.heap.size, 0, none⟩ 1 1 [.int .u32 x] rfl (fun j u hu => by
      rw [addr_add, cell_of_row _ w.heap.size _ _ _ _ hblk]
      simpa using hu) (by simp [Value.oneCell']) (by unfold maxLen; omega) (by omega) (by simp; omega)
  refine ⟨v', w', hrun, ⟨_, hown, fun i hi => ?_⟩, hg, by simpa using ho⟩
  by_cases hin : i < n
  · rw [List.getElem?_append_left (by omega)]
    exact h3 i hin
  · obtain rfl : i = n := by omega
    rw [List.getElem?_append_right (by omega), hxl]
    simp [hx]
end Go.Proofs.YtdoijbjmhnncdaaDoor
