/-
  Layer 7: two rows of uint32 that the call makes; calls one behind the other, each of its own procedure.
-/
import Derived.Test.YtallbmobjhfhpaaMuxD
import Derived.Maps.AppendAt
namespace Go.Proofs.Ytallbmobjhfhpaa
open Go Go.RowKit
set_option linter.unusedVariables false
set_option linter.unusedSimpArgs false
theorem infoU : (Try.prog.info? 22).map (fun i => (i.zero, i.size, i.bytes)) = some (some (.int .u32 0), 1, 4) := by kernel_rfl
def OwnU (w : World) (base : Nat) (v : Value) (n : Nat) (X : Nat → Int) : Prop :=
  ∃ xs : List Value, w.ownsRow base 22 1 v n xs ∧ ∀ i, i < n → xs[i]? = some (.int .u32 (X i))
theorem OwnU.nil (w : World) (base : Nat) (X : Nat → Int) : OwnU w base (.slice none 0 0) 0 X := ⟨[], World.ownsRow_nil _ _ _ _, fun i h => absurd h (by omega)⟩
theorem OwnU.heap {w w' : World} {base n : Nat} {v : Value} {X : Nat → Int} (h : OwnU w base v n X) (he : ∀ k, v.ownBlock = some k → base ≤ k → k < w.heap.size → w'.heap[k]? = w.heap[k]?) : OwnU w' base v n X := by
  obtain ⟨xs, ⟨h1, h2⟩, h3⟩ := h
  refine ⟨xs, ⟨h1, ?_⟩, h3⟩
  rcases h2 with h2 | ⟨g, cap, cur, hv, hb, hg, h4⟩
  · exact .inl h2
  · exact .inr ⟨g, cap, cur, hv, hb, (he g (by rw [hv]; rfl) hb (Array.getElem?_eq_some_iff.1 hg).1).trans hg, h4⟩
theorem OwnU.lt {w : World} {base n : Nat} {v : Value} {X : Nat → Int} (h : OwnU w base v n X) : ∀ k, v.ownBlock = some k → base ≤ k ∧ k < w.heap.size := by
  obtain ⟨xs, ⟨_, h2⟩, _⟩ := h
  rcases h2 with ⟨rfl, _⟩ | ⟨g, cap, cur, rfl, hb, hg, _⟩
  · intro k hk; cases hk
  · intro k hk
    simp [Value.ownBlock] at hk
    have := (Array.getElem?_eq_some_iff.1 hg).1
    omega
theorem OwnU.shape {w : World} {base n : Nat} {v : Value} {X : Nat → Int} (h : OwnU w base v n X) : ∃ A c, v = .slice A n c := by
  obtain ⟨xs, ⟨h1, h2⟩, _⟩ := h
  rcases h2 with ⟨rfl, rfl⟩ | ⟨g, cap, cur, rfl, _⟩
  · simp at h1
    subst h1
    exact ⟨_, _, rfl⟩
  · exact ⟨_, _, rfl⟩
theorem OwnU.at_ {w : World} {base n : Nat} {v : Value} {X : Nat → Int} (h : OwnU w base v n X) (i : Nat) (hi : i < n) :
    ∃ g cap, v = .slice (some ⟨g, 0, none⟩) n cap ∧ base ≤ g ∧ w.cell? ⟨g, i, none⟩ = some (.int .u32 (X i)) := by
  obtain ⟨xs, ⟨h1, h2⟩, h3⟩ := h
  have h4 := h3 i hi
  rcases h2 with ⟨_, rfl⟩ | ⟨g, cap, cur, rfl, hb, hg, hn, hm, hs, ht⟩
  · first | omega | (simp at h1; omega) | (simp at h4)
  · refine ⟨g, cap, rfl, hb, ?_⟩
    rw [cell_of_row w g i _ _ _ hg]
    rw [← ht, List.getElem?_take] at h4
    split at h4
    · simpa using h4
    · cases h4
theorem OwnU.push {w : World} {base n : Nat} {v : Value} {X : Nat → Int} (h : OwnU w base v n X) (hb : base ≤ w.heap.size) (hn : n ≤ 1000) (x : Int) (hx : x = X n) :
    ∃ v' w', (Builtin.append_ #[32, 32] 32 #[v, .slice (some ⟨w.heap.size, 0, none⟩) 1 1]).run Try.prog (w.alloc (.cells #[.int .u32 x] 22)) = .ok v' w' ∧
      OwnU w' base v' (n + 1) X ∧ (w.alloc (.cells #[.int .u32 x] 22)).grownBy w' v.ownBlock ∧ (v'.ownBlock = v.ownBlock ∨ v'.ownBlock = some (w.heap.size + 1)) := by
  have h0 := h.heap (w' := w.alloc (.cells #[.int .u32 x] 22)) fun k _ _ hk => Below.heap_alloc _ _ _ (by omega)
  obtain ⟨xs, h1, h3⟩ := h0
  have hblk := heap_alloc_new w (.cells #[.int .u32 x] 22)
  obtain ⟨i0, hi, hz0, hz1, hz2⟩ : ∃ j, Try.prog.info? 22 = some j ∧ j.zero = some (.int .u32 0) ∧ j.size = 1 ∧ j.bytes = 4 := by
    have := infoU
    cases hh : Try.prog.info? 22 with
    | none => rw [hh] at this; cases this
    | some j =>
      rw [hh] at this
      simp at this
      exact ⟨j, rfl, this⟩
  have hxl := h1.1
  obtain ⟨v', w', hrun, hown, hg, _, ho⟩ := run_append_own_at (P := Try.prog) (w := w.alloc (.cells #[.int .u32 x] 22)) base 32 32 22 i0 _ 1 4 Try.underlying32 hi hz0 hz1 hz2 rfl (by omega) v n xs h1
    ⟨w.heap.size, 0, none⟩ 1 1 [.int .u32 x] rfl (fun j u hu => by
      rw [addr_add, cell_of_row _ w.heap.size _ _ _ _ hblk]
      simpa using hu) (by simp [Value.oneCell']) (by unfold maxLen; omega) (by omega) (by simp; omega)
  refine ⟨v', w', hrun, ⟨_, hown, fun i hi => ?_⟩, hg, by simpa using ho⟩
  by_cases hin : i < n
  · rw [List.getElem?_append_left (by omega)]
    exact h3 i hin
  · obtain rfl : i = n := by omega
    rw [List.getElem?_append_right (by omega), hxl]
    simp [hx]
/-- Two rows, their blocks apart. -/
def Rows2 (w : World) (B : Nat) (v u : Value) (n m : Nat) (X Y : Nat → Int) : Prop :=
  OwnU w B v n X ∧ OwnU w B u m Y ∧ (∀ k, v.ownBlock = some k → ¬ u.ownBlock = some k) ∧ B ≤ w.heap.size
section
variable {w w' : World} {B n m : Nat} {v u : Value} {X Y : Nat → Int}
theorem Rows2.nil (w : World) (B : Nat) (X Y : Nat → Int) (h : B ≤ w.heap.size) : Rows2 w B (.slice none 0 0) (.slice none 0 0) 0 0 X Y := ⟨OwnU.nil _ _ _, OwnU.nil _ _ _, (fun k h => by cases h), h⟩
theorem Rows2.swap (h : Rows2 w B v u n m X Y) : Rows2 w B u v m n Y X := ⟨h.2.1, h.1, (fun k h1 h2 => h.2.2.1 k h2 h1), h.2.2.2⟩
theorem Rows2.heap (h : Rows2 w B v u n m X Y) (hs : w.heap.size ≤ w'.heap.size) (he : ∀ k, B ≤ k → k < w.heap.size → w'.heap[k]? = w.heap[k]?) : Rows2 w' B v u n m X Y :=
  ⟨h.1.heap fun k _ h1 h2 => he k h1 h2, h.2.1.heap fun k _ h1 h2 => he k h1 h2, h.2.2.1, Nat.le_trans h.2.2.2 hs⟩
theorem Rows2.ext (h : Rows2 w B v u n m X Y) (he : Ext w w') : Rows2 w' B v u n m X Y := h.heap he.size fun k _ h2 => he.block k h2
theorem Rows2.onm {tb mb : Nat} (h : Rows2 w B v u n m X Y) (he : Onm tb mb w w') (h1 : tb < B) (h2 : mb < B) : Rows2 w' B v u n m X Y := h.heap he.size fun k hb hk => he.block k hk (by omega) (by omega)
theorem Rows2.push (h : Rows2 w B v u n m X Y) (hn : n ≤ 1000) (x : Int) (hx : x = X n) :
    ∃ v' w', (Builtin.append_ #[32, 32] 32 #[v, .slice (some ⟨w.heap.size, 0, none⟩) 1 1]).run Try.prog (w.alloc (.cells #[.int .u32 x] 22)) = .ok v' w' ∧
      Rows2 w' B v' u (n + 1) m X Y ∧ Below B w w' := by
  obtain ⟨v', w', hrun, ho, hg, hb⟩ := h.1.push h.2.2.2 hn x hx
  have hbel : Below B w w' := Below.grown (Below.alloc (Below.refl B w) h.2.2.2 (.cells #[.int .u32 x] 22)) hg (by have := h.2.2.2; simp; omega) fun k hk => (h.1.lt k hk).1
  refine ⟨v', w', hrun, ⟨ho, h.2.1.heap fun k hk h1 h2 => ?_, fun k hk hk2 => ?_, ?_⟩, hbel⟩
  · have := hg.block k (by simp; omega) (fun e => h.2.2.1 k e.symm hk)
    exact this.trans (Below.heap_alloc _ _ _ (by omega))
  · rcases hb with hb | hb
    · exact h.2.2.1 k (by rw [← hb]; exact hk) hk2
    · rw [hb] at hk
      injection hk with hk
      have := (h.2.1.lt k hk2).2
      omega
  · have := hbel.size
    have := h.2.2.2
    omega
end
theorem MuxI.below {w w' : World} {tb mb most B : Nat} {next : Int} {L : List (Int × Value)} (h : MuxI w tb mb most next L) (hb : Below B w w') (h1 : tb < B) (h2 : mb < B) : MuxI w' tb mb most next L :=
  ⟨(hb.block tb h1).trans h.1, h.2.1.keep (hb.block mb h2), h.2.2⟩
/-- So many calls from a number on, of procedures. -/
def Lp (x : Int) (P : Nat → Int) : Nat → List (Int × Value)
  | 0 => []
  | i + 1 => putL (Lp x P i) (nxt x i) (.agg #[.int .u32 (P i), .int .i64 (i : Int)])
theorem Lp_no (x : Int) (P : Nat → Int) (y : Int) : ∀ i, (∀ j, j < i → ¬ y = nxt x j) → hasL (Lp x P i) y = false
  | 0, _ => rfl
  | i + 1, h => by
    unfold Lp
    rw [has_put_other _ _ _ _ (h i (by omega))]
    exact Lp_no x P y i fun j hj => h j (by omega)
theorem Lp_free (x : Int) (P : Nat → Int) (i : Nat) (h : i < 4294967296) : hasL (Lp x P i) (nxt x i) = false := Lp_no x P _ i fun j hj => nxt_ne x j i hj h
theorem Lp_len (x : Int) (P : Nat → Int) : ∀ i, i < 4294967296 → (Lp x P i).length = i
  | 0, _ => rfl
  | i + 1, h => by
    unfold Lp
    rw [len_put_new _ (Lp_free x P i (by omega)), Lp_len x P i (by omega)]
theorem Lp_lk (x : Int) (P : Nat → Int) (j : Nat) : ∀ i, j < i → i < 4294967296 → lkL (Lp x P i) (nxt x j) = some (.agg #[.int .u32 (P j), .int .i64 (j : Int)])
  | 0, h, _ => absurd h (by omega)
  | i + 1, h, h2 => by
    unfold Lp
    by_cases hj : j = i
    · subst hj
      exact lk_put_same _ _ _
    · rw [lk_put_other _ _ _ _ (fun e => nxt_ne x j i (by omega) (by omega) e.symm)]
      exact Lp_lk x P j i (by omega) (by omega)
/-- What waits of the first n calls, where some are done. -/
def Waits (L : List (Int × Value)) (x : Int) (P : Nat → Int) (n : Nat) (DN : Nat → Bool) : Prop :=
  ∀ q, q < n → lkL L (nxt x q) = if DN q then none else some (.agg #[.int .u32 (P q), .int .i64 (q : Int)])
theorem Waits.start (x : Int) (P : Nat → Int) (n : Nat) (h : n < 4294967296) : Waits (Lp x P n) x P n fun _ => false := fun q hq => by
  rw [Lp_lk x P q n hq h]
  rfl
theorem Waits.done {L : List (Int × Value)} {x : Int} {P : Nat → Int} {n : Nat} {DN : Nat → Bool} (h : Waits L x P n DN) (hn : n < 4294967296) (k : Nat) (hk : k < n) : Waits (delL L (nxt x k)) x P n fun q => if q = k then true else DN q := fun q hq => by
  by_cases e : q = k
  · subst e
    rw [lk_del_same]
    simp
  · rw [lk_del_other _ _ _ (fun e2 => by
      rcases Nat.lt_or_gt_of_ne e with h1 | h1
      · exact nxt_ne x q k h1 (by omega) e2.symm
      · exact nxt_ne x k q h1 (by omega) e2), h q hq]
    show _ = if (if q = k then true else DN q) = true then none else some _
    rw [if_neg e]
theorem Waits.has {L : List (Int × Value)} {x : Int} {P : Nat → Int} {n : Nat} {DN : Nat → Bool} (h : Waits L x P n DN) (q : Nat) (hq : q < n) (hd : DN q = true) : hasL L (nxt x q) = false := by
  unfold hasL
  rw [h q hq, hd]
  rfl
theorem Waits.get {L : List (Int × Value)} {x : Int} {P : Nat → Int} {n : Nat} {DN : Nat → Bool} (h : Waits L x P n DN) (q : Nat) (hq : q < n) (hd : DN q = false) : lkL L (nxt x q) = some (.agg #[.int .u32 (P q), .int .i64 (q : Int)]) := by
  rw [h q hq, hd]
  rfl
/-- A block of bools. -/
def OwnD (w : World) (g n : Nat) (DN : Nat → Bool) : Prop := ∃ cur : Array Value, w.heap[g]? = some (.cells cur 4 (0, 0)) ∧ ∀ q, q < n → cur[q]? = some (.bool (DN q))
theorem OwnD.heap {w w' : World} {g n : Nat} {DN : Nat → Bool} (h : OwnD w g n DN) (he : w'.heap[g]? = w.heap[g]?) : OwnD w' g n DN := by
  obtain ⟨cur, h1, h2⟩ := h
  exact ⟨cur, he.trans h1, h2⟩
theorem OwnD.lt {w : World} {g n : Nat} {DN : Nat → Bool} (h : OwnD w g n DN) : g < w.heap.size := by
  obtain ⟨cur, h1, h2⟩ := h
  exact (Array.getElem?_eq_some_iff.1 h1).1
theorem OwnD.cell {w : World} {g n : Nat} {DN : Nat → Bool} (h : OwnD w g n DN) (q : Nat) (hq : q < n) : w.cell? ⟨g, q, none⟩ = some (.bool (DN q)) := by
  obtain ⟨cur, h1, h2⟩ := h
  rw [cell_of_row w g q _ _ _ h1]
  exact h2 q hq
theorem OwnD.frozen {w : World} {g n : Nat} {DN : Nat → Bool} (h : OwnD w g n DN) (q : Nat) : w.frozen? ⟨g, q, none⟩ = false := by
  obtain ⟨cur, h1, h2⟩ := h
  exact Lib.frozen_of_heap h1 q
theorem OwnD.set {w : World} {g n : Nat} {DN : Nat → Bool} (h : OwnD w g n DN) (q : Nat) (hq : q < n) : OwnD (w.setCell ⟨g, q, none⟩ (.bool true)) g n fun k => if k = q then true else DN k := by
  obtain ⟨cur, h1, h2⟩ := h
  refine ⟨_, heap_setCell_same w g q _ _ (.bool true) h1, fun k hk => ?_⟩
  have hlq : q < cur.size := (Array.getElem?_eq_some_iff.1 (h2 q hq)).1
  by_cases e : k = q
  · subst e
    simp [hlq]
  · have := h2 k hk
    simp [e, Array.getElem?_setIfInBounds, Ne.symm (show k ≠ q from e), this]
theorem infoBool : (Try.prog.info? 4).map (fun i => (i.zero, i.size, i.bytes)) = some (some (.bool false), 1, 1) := by kernel_rfl
theorem make_bools (n : Nat) (hn : n ≤ 1000) (w : World) :
    (Instr.makeSlice 61 (.int .i64 (n : Int)) (.int .i64 (n : Int))).run Try.prog w = .ok (.slice (some ⟨w.heap.size, 0, none⟩) n n) (w.alloc (.cells (madeCells #[.bool false] n) 4)) := by
  obtain ⟨i0, hi, hz0, hz1, hz2⟩ : ∃ j, Try.prog.info? 4 = some j ∧ j.zero = some (.bool false) ∧ j.size = 1 ∧ j.bytes = 1 := by
    have := infoBool
    cases hh : Try.prog.info? 4 with
    | none => rw [hh] at this; cases this
    | some j =>
      rw [hh] at this
      simp at this
      exact ⟨j, rfl, this⟩
  have h := run_make (P := Try.prog) w 61 4 i0 _ Try.underlying61 hi hz0 .i64 .i64 (n : Int) (n : Int) (by omega) (by omega) (by rw [hz2]; omega) (by omega)
  rw [hz1] at h
  simpa [Value.cells] using h
theorem OwnD.made (w : World) (n : Nat) : OwnD (w.alloc (.cells (madeCells #[.bool false] n) 4)) w.heap.size n fun _ => false :=
  ⟨_, heap_alloc_new w _, fun q hq => by
    have h : (madeCells #[Value.bool false] n).toList = List.replicate n (.bool false) := toList_madeCells_one _ _
    rw [← Array.getElem?_toList, h]
    simp [hq]⟩
end Go.Proofs.Ytallbmobjhfhpaa
