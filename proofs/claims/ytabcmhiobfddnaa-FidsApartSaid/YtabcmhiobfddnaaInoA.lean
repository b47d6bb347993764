/-
  Layer 10: a table of places: words.
-/
import Derived.Test.YtabcmhiobfddnaaCom00
import Derived.Test.YtabcmhiobfddnaaPln
import Derived.Laws.MakeOwn
import Derived.Laws.Rows
import Derived.Laws.EntriesVeiled
namespace Go.Proofs.Ytabcmhiobfddnaa
open Go Go.RowKit
set_option linter.unusedVariables false
set_option linter.unusedSimpArgs false
/-- The block of places. -/
def Plc (w : World) (pb most : Nat) (pt : TypeId) (TH : Nat → Value) (FU : Nat → Bool) (GE : Nat → Int) : Prop :=
  ∃ cur, w.heap[pb]? = some (.cells cur pt (0, 0)) ∧ cur.size = most * 3 ∧ ∀ i, i < most → cur[i * 3]? = some (TH i) ∧ cur[i * 3 + 1]? = some (.bool (FU i)) ∧ cur[i * 3 + 2]? = some (.int .i64 (GE i))
/-- A table, its places, the variable that its function has. -/
def TabI (w : World) (nf : FuncId) (tt pt vt : TypeId) (tb pb bx most : Nat) (full : Int) (TH : Nat → Value) (FU : Nat → Bool) (GE : Nat → Int) : Prop :=
  w.heap[tb]? = some (.cells #[.slice (some ⟨pb, 0, none⟩) most most, .int .i64 full, .func (.func nf) #[] #[.pointer (some ⟨bx, 0, none⟩)]] tt (0, 0)) ∧
  w.heap[bx]? = some (.cells #[.pointer (some ⟨tb, 0, none⟩)] vt (0, 0)) ∧ Plc w pb most pt TH FU GE ∧ tb ≠ pb ∧ tb ≠ bx ∧ bx ≠ pb ∧ 1 ≤ most ∧ most ≤ 64
section
variable {w w' : World} {nf : FuncId} {tt pt vt : TypeId} {tb pb bx most : Nat} {full : Int} {TH : Nat → Value} {FU : Nat → Bool} {GE : Nat → Int}
theorem TabI.lt (h : TabI w nf tt pt vt tb pb bx most full TH FU GE) : tb < w.heap.size ∧ pb < w.heap.size ∧ bx < w.heap.size := by
  obtain ⟨h1, h2, ⟨cur, h3, _⟩, _⟩ := h
  exact ⟨(Array.getElem?_eq_some_iff.1 h1).1, (Array.getElem?_eq_some_iff.1 h3).1, (Array.getElem?_eq_some_iff.1 h2).1⟩
theorem TabI.ext (h : TabI w nf tt pt vt tb pb bx most full TH FU GE) (he : Ext w w') : TabI w' nf tt pt vt tb pb bx most full TH FU GE := by
  obtain ⟨h1, h2, ⟨cur, h3, h4⟩, h5⟩ := h
  exact ⟨he.heap h1, he.heap h2, ⟨cur, he.heap h3, h4⟩, h5⟩
theorem TabI.at_ (h : TabI w nf tt pt vt tb pb bx most full TH FU GE) (i : Nat) (hi : i < most) :
    w.cell? ⟨pb, i * 3, none⟩ = some (TH i) ∧ w.cell? ⟨pb, i * 3 + 1, none⟩ = some (.bool (FU i)) ∧ w.cell? ⟨pb, i * 3 + 2, none⟩ = some (.int .i64 (GE i)) := by
  obtain ⟨_, _, ⟨cur, h3, _, h4⟩, _⟩ := h
  obtain ⟨a, b, c⟩ := h4 i hi
  exact ⟨by rw [cell_of_row w pb _ _ _ _ h3]; exact a, by rw [cell_of_row w pb _ _ _ _ h3]; exact b, by rw [cell_of_row w pb _ _ _ _ h3]; exact c⟩
theorem TabI.head (h : TabI w nf tt pt vt tb pb bx most full TH FU GE) :
    w.cell? ⟨tb, 0, none⟩ = some (.slice (some ⟨pb, 0, none⟩) most most) ∧ w.cell? ⟨tb, 1, none⟩ = some (.int .i64 full) ∧ w.cell? ⟨tb, 2, none⟩ = some (.func (.func nf) #[] #[.pointer (some ⟨bx, 0, none⟩)]) ∧ w.cell? ⟨bx, 0, none⟩ = some (.pointer (some ⟨tb, 0, none⟩)) := by
  obtain ⟨h1, h2, _⟩ := h
  exact ⟨by rw [cell_of_row w tb _ _ _ _ h1]; rfl, by rw [cell_of_row w tb _ _ _ _ h1]; rfl, by rw [cell_of_row w tb _ _ _ _ h1]; rfl, by rw [cell_of_row w bx _ _ _ _ h2]; rfl⟩
theorem made3 (x y z : Value) (n i : Nat) (hi : i < n) : (madeCells #[x, y, z] (n * 3))[i * 3]? = some x ∧ (madeCells #[x, y, z] (n * 3))[i * 3 + 1]? = some y ∧ (madeCells #[x, y, z] (n * 3))[i * 3 + 2]? = some z := by
  unfold madeCells
  have a0 : i * 3 < n * 3 := by omega
  have a1 : i * 3 + 1 < n * 3 := by omega
  have a2 : i * 3 + 2 < n * 3 := by omega
  have m0 : i * 3 % 3 = 0 := by omega
  have m1 : (i * 3 + 1) % 3 = 1 := by omega
  have m2 : (i * 3 + 2) % 3 = 2 := by omega
  refine ⟨?_, ?_, ?_⟩
  · simp [a0]
  · simp [a1, m1]
  · simp [a2, m2]
end
def upd {α : Type} (f : Nat → α) (i : Nat) (v : α) : Nat → α := fun j => if j = i then v else f j
theorem upd_same {α : Type} (f : Nat → α) (i : Nat) (v : α) : upd f i v i = v := by simp [upd]
theorem upd_ne {α : Type} (f : Nat → α) (i j : Nat) (v : α) (h : j ≠ i) : upd f i v j = f j := by simp [upd, h]
theorem set3_get (cur : Array Value) (most i : Nat) (hs : cur.size = most * 3) (hi : i < most) (a b c : Value) (j : Nat) (hj : j < most) :
    (((cur.setIfInBounds (i * 3) a).setIfInBounds (i * 3 + 1) b).setIfInBounds (i * 3 + 2) c)[j * 3]? = (if j = i then some a else cur[j * 3]?) ∧
    (((cur.setIfInBounds (i * 3) a).setIfInBounds (i * 3 + 1) b).setIfInBounds (i * 3 + 2) c)[j * 3 + 1]? = (if j = i then some b else cur[j * 3 + 1]?) ∧
    (((cur.setIfInBounds (i * 3) a).setIfInBounds (i * 3 + 1) b).setIfInBounds (i * 3 + 2) c)[j * 3 + 2]? = (if j = i then some c else cur[j * 3 + 2]?) := by
  simp only [Array.getElem?_setIfInBounds, Array.size_setIfInBounds]
  by_cases h : j = i
  · subst h
    refine ⟨?_, ?_, ?_⟩
    · rw [if_neg (by omega), if_neg (by omega), if_pos rfl, if_pos (by omega), if_pos rfl]
    · rw [if_neg (by omega), if_pos rfl, if_pos (by omega), if_pos rfl]
    · rw [if_pos rfl, if_pos (by omega), if_pos rfl]
  · refine ⟨?_, ?_, ?_⟩ <;> rw [if_neg (by omega), if_neg (by omega), if_neg (by omega), if_neg h]
theorem TabI.put {w : World} {nf : FuncId} {tt pt vt : TypeId} {tb pb bx most : Nat} {full : Int} {TH : Nat → Value} {FU : Nat → Bool} {GE : Nat → Int} (h : TabI w nf tt pt vt tb pb bx most full TH FU GE) (i : Nat) (hi : i < most) (v : Value) (b : Bool) (g f : Int) :
    TabI ((((w.setCell ⟨pb, i * 3, none⟩ v).setCell ⟨pb, i * 3 + 1, none⟩ (.bool b)).setCell ⟨pb, i * 3 + 2, none⟩ (.int .i64 g)).setCell ⟨tb, 1, none⟩ (.int .i64 f)) nf tt pt vt tb pb bx most f (upd TH i v) (upd FU i b) (upd GE i g) := by
  obtain ⟨h1, h2, ⟨cur, h3, hs, h4⟩, n1, n2, n3, m1, m2⟩ := h
  have a1 := heap_setCell_same w pb (i * 3) cur _ v h3
  have a2 := heap_setCell_same _ pb (i * 3 + 1) _ _ (.bool b) a1
  have a3 := heap_setCell_same _ pb (i * 3 + 2) _ _ (.int .i64 g) a2
  have t3 : (((w.setCell ⟨pb, i * 3, none⟩ v).setCell ⟨pb, i * 3 + 1, none⟩ (.bool b)).setCell ⟨pb, i * 3 + 2, none⟩ (.int .i64 g)).heap[tb]? = w.heap[tb]? := by
    rw [heap_setCell_other _ _ _ _ n1, heap_setCell_other _ _ _ _ n1, heap_setCell_other _ _ _ _ n1]
  have b3 : (((w.setCell ⟨pb, i * 3, none⟩ v).setCell ⟨pb, i * 3 + 1, none⟩ (.bool b)).setCell ⟨pb, i * 3 + 2, none⟩ (.int .i64 g)).heap[bx]? = w.heap[bx]? := by
    rw [heap_setCell_other _ _ _ _ n3, heap_setCell_other _ _ _ _ n3, heap_setCell_other _ _ _ _ n3]
  refine ⟨?_, ?_, ⟨((cur.setIfInBounds (i * 3) v).setIfInBounds (i * 3 + 1) (.bool b)).setIfInBounds (i * 3 + 2) (.int .i64 g), ?_, ?_, ?_⟩, n1, n2, n3, m1, m2⟩
  · have := heap_setCell_same _ tb 1 _ _ (.int .i64 f) (t3.trans h1)
    simpa using this
  · rw [heap_setCell_other _ _ _ _ (fun e => n2 e.symm)]
    exact b3.trans h2
  · rw [heap_setCell_other _ _ _ _ (fun e => n1 e.symm)]
    exact a3
  · simp [hs]
  · intro j hj
    obtain ⟨g0, g1, g2⟩ := h4 j hj
    obtain ⟨s0, s1, s2⟩ := set3_get cur most i hs hi v (.bool b) (.int .i64 g) j hj
    rw [s0, s1, s2]
    unfold upd
    by_cases h : j = i
    · simp [h]
    · simp [h, g0, g1, g2]
theorem TabI.set1 {w : World} {nf : FuncId} {tt pt vt : TypeId} {tb pb bx most : Nat} {full : Int} {TH : Nat → Value} {FU : Nat → Bool} {GE : Nat → Int} (h : TabI w nf tt pt vt tb pb bx most full TH FU GE) (i : Nat) (hi : i < most) (v : Value) :
    TabI (w.setCell ⟨pb, i * 3, none⟩ v) nf tt pt vt tb pb bx most full (upd TH i v) FU GE := by
  obtain ⟨h1, h2, ⟨cur, h3, hs, h4⟩, n1, n2, n3, m1, m2⟩ := h
  have a1 := heap_setCell_same w pb (i * 3) cur _ v h3
  refine ⟨?_, ?_, ⟨_, a1, by simp [hs], ?_⟩, n1, n2, n3, m1, m2⟩
  · rw [heap_setCell_other _ _ _ _ n1]; exact h1
  · rw [heap_setCell_other _ _ _ _ n3]; exact h2
  · intro j hj
    obtain ⟨g0, g1, g2⟩ := h4 j hj
    simp only [Array.getElem?_setIfInBounds]
    unfold upd
    by_cases h : j = i
    · subst h
      rw [if_pos (show j * 3 = j * 3 from rfl), if_pos (show j * 3 < cur.size by omega), if_neg (show ¬ j * 3 = j * 3 + 1 by omega), if_neg (show ¬ j * 3 = j * 3 + 2 by omega)]
      simp [g1, g2]
    · rw [if_neg (show ¬ i * 3 = j * 3 by omega), if_neg (show ¬ i * 3 = j * 3 + 1 by omega), if_neg (show ¬ i * 3 = j * 3 + 2 by omega)]
      simp [h, g0, g1, g2]
theorem TabI.setF {w : World} {nf : FuncId} {tt pt vt : TypeId} {tb pb bx most : Nat} {full : Int} {TH : Nat → Value} {FU : Nat → Bool} {GE : Nat → Int} (h : TabI w nf tt pt vt tb pb bx most full TH FU GE) (i : Nat) (hi : i < most) (b : Bool) :
    TabI (w.setCell ⟨pb, i * 3 + 1, none⟩ (.bool b)) nf tt pt vt tb pb bx most full TH (upd FU i b) GE := by
  obtain ⟨h1, h2, ⟨cur, h3, hs, h4⟩, n1, n2, n3, m1, m2⟩ := h
  have a1 := heap_setCell_same w pb (i * 3 + 1) cur _ (.bool b) h3
  refine ⟨?_, ?_, ⟨_, a1, by simp [hs], ?_⟩, n1, n2, n3, m1, m2⟩
  · rw [heap_setCell_other _ _ _ _ n1]; exact h1
  · rw [heap_setCell_other _ _ _ _ n3]; exact h2
  · intro j hj
    obtain ⟨g0, g1, g2⟩ := h4 j hj
    simp only [Array.getElem?_setIfInBounds]
    unfold upd
    by_cases h : j = i
    · subst h
      rw [if_neg (show ¬ j * 3 + 1 = j * 3 by omega), if_pos (show j * 3 + 1 = j * 3 + 1 from rfl), if_pos (show j * 3 + 1 < cur.size by omega), if_neg (show ¬ j * 3 + 1 = j * 3 + 2 by omega)]
      simp [g0, g1, g2]
    · rw [if_neg (show ¬ i * 3 + 1 = j * 3 by omega), if_neg (show ¬ i * 3 + 1 = j * 3 + 1 by omega), if_neg (show ¬ i * 3 + 1 = j * 3 + 2 by omega)]
      simp [h, g0, g1, g2]
theorem TabI.setG {w : World} {nf : FuncId} {tt pt vt : TypeId} {tb pb bx most : Nat} {full : Int} {TH : Nat → Value} {FU : Nat → Bool} {GE : Nat → Int} (h : TabI w nf tt pt vt tb pb bx most full TH FU GE) (i : Nat) (hi : i < most) (g : Int) :
    TabI (w.setCell ⟨pb, i * 3 + 2, none⟩ (.int .i64 g)) nf tt pt vt tb pb bx most full TH FU (upd GE i g) := by
  obtain ⟨h1, h2, ⟨cur, h3, hs, h4⟩, n1, n2, n3, m1, m2⟩ := h
  have a1 := heap_setCell_same w pb (i * 3 + 2) cur _ (.int .i64 g) h3
  refine ⟨?_, ?_, ⟨_, a1, by simp [hs], ?_⟩, n1, n2, n3, m1, m2⟩
  · rw [heap_setCell_other _ _ _ _ n1]; exact h1
  · rw [heap_setCell_other _ _ _ _ n3]; exact h2
  · intro j hj
    obtain ⟨g0, g1, g2⟩ := h4 j hj
    simp only [Array.getElem?_setIfInBounds]
    unfold upd
    by_cases h : j = i
    · subst h
      rw [if_neg (show ¬ j * 3 + 2 = j * 3 by omega), if_neg (show ¬ j * 3 + 2 = j * 3 + 1 by omega), if_pos (show j * 3 + 2 = j * 3 + 2 from rfl), if_pos (show j * 3 + 2 < cur.size by omega)]
      simp [g0, g1, g2]
    · rw [if_neg (show ¬ i * 3 + 2 = j * 3 by omega), if_neg (show ¬ i * 3 + 2 = j * 3 + 1 by omega), if_neg (show ¬ i * 3 + 2 = j * 3 + 2 by omega)]
      simp [h, g0, g1, g2]
theorem TabI.setN {w : World} {nf : FuncId} {tt pt vt : TypeId} {tb pb bx most : Nat} {full : Int} {TH : Nat → Value} {FU : Nat → Bool} {GE : Nat → Int} (h : TabI w nf tt pt vt tb pb bx most full TH FU GE) (f : Int) :
    TabI (w.setCell ⟨tb, 1, none⟩ (.int .i64 f)) nf tt pt vt tb pb bx most f TH FU GE := by
  obtain ⟨h1, h2, ⟨cur, h3, hs, h4⟩, n1, n2, n3, m1, m2⟩ := h
  refine ⟨?_, ?_, ⟨cur, ?_, hs, h4⟩, n1, n2, n3, m1, m2⟩
  · have := heap_setCell_same _ tb 1 _ _ (.int .i64 f) h1
    simpa using this
  · rw [heap_setCell_other _ _ _ _ (fun e => n2 e.symm)]
    exact h2
  · rw [heap_setCell_other _ _ _ _ (fun e => n1 e.symm)]
    exact h3
theorem TabI.thaw {w : World} {nf : FuncId} {tt pt vt : TypeId} {tb pb bx most : Nat} {full : Int} {TH : Nat → Value} {FU : Nat → Bool} {GE : Nat → Int} (h : TabI w nf tt pt vt tb pb bx most full TH FU GE) (j : Nat) :
    w.frozen? ⟨pb, j, none⟩ = false ∧ w.frozen? ⟨tb, j, none⟩ = false := by
  obtain ⟨h1, h2, ⟨cur, h3, hs, h4⟩, _⟩ := h
  exact ⟨Lib.frozen_of_heap h3 j, Lib.frozen_of_heap h1 j⟩
theorem put_below {B : Nat} {w : World} {tb pb : Nat} (h1 : B ≤ tb) (h2 : B ≤ pb) (i : Nat) (v : Value) (b g f : Value) :
    Below B w ((((w.setCell ⟨pb, i * 3, none⟩ v).setCell ⟨pb, i * 3 + 1, none⟩ b).setCell ⟨pb, i * 3 + 2, none⟩ g).setCell ⟨tb, 1, none⟩ f) :=
  (((((Below.refl B w).setCell (p := ⟨pb, i * 3, none⟩) h2 v).setCell (p := ⟨pb, i * 3 + 1, none⟩) h2 b).setCell (p := ⟨pb, i * 3 + 2, none⟩) h2 g).setCell (p := ⟨tb, 1, none⟩) h1 f)
theorem TabI.off {w : World} {nf : FuncId} {tt pt vt : TypeId} {tb pb bx most : Nat} {full : Int} {TH : Nat → Value} {FU : Nat → Bool} {GE : Nat → Int} (h : TabI w nf tt pt vt tb pb bx most full TH FU GE) (g j : Nat) (v : Value) (h1 : tb ≠ g) (h2 : pb ≠ g) (h3 : bx ≠ g) :
    TabI (w.setCell ⟨g, j, none⟩ v) nf tt pt vt tb pb bx most full TH FU GE := by
  obtain ⟨k1, k2, ⟨cur, k3, k4⟩, k5⟩ := h
  exact ⟨by rw [heap_setCell_other _ _ _ _ h1]; exact k1, by rw [heap_setCell_other _ _ _ _ h3]; exact k2, ⟨cur, by rw [heap_setCell_other _ _ _ _ h2]; exact k3, k4⟩, k5⟩
theorem set2_row {w : World} {g : Nat} {x y a b : Value} {t : TypeId} (h : w.heap[g]? = some (.cells #[x, y] t (0, 0))) :
    ((w.setCell ⟨g, 0, none⟩ a).setCell ⟨g, 1, none⟩ b).heap[g]? = some (.cells #[a, b] t (0, 0)) := by
  have h1 := heap_setCell_same w g 0 _ _ a h
  have h2 := heap_setCell_same _ g 1 _ _ b h1
  simpa using h2
/-- All but two blocks are as they were. -/
def Fr (tb pb : Nat) (w w' : World) : Prop := w.heap.size ≤ w'.heap.size ∧ ∀ k, k < w.heap.size → k ≠ tb → k ≠ pb → w'.heap[k]? = w.heap[k]?
theorem Fr.refl (tb pb : Nat) (w : World) : Fr tb pb w w := ⟨Nat.le_refl _, fun _ _ _ _ => rfl⟩
theorem Fr.set {tb pb : Nat} {a w : World} (h : Fr tb pb a w) (p : Addr) (v : Value) (hp : p.block = tb ∨ p.block = pb ∨ a.heap.size ≤ p.block) : Fr tb pb a (w.setCell p v) :=
  ⟨by simpa [World.setCell] using h.1, fun k hk h1 h2 => by
    rw [heap_setCell_other _ _ _ _ (fun e => by rcases hp with hp | hp | hp <;> omega)]
    exact h.2 k hk h1 h2⟩
theorem Fr.ext {tb pb : Nat} {a b c : World} (h : Fr tb pb a b) (he : Ext b c) : Fr tb pb a c :=
  ⟨Nat.le_trans h.1 he.size, fun k hk h1 h2 => (he.block k (Nat.lt_of_lt_of_le hk h.1)).trans (h.2 k hk h1 h2)⟩
theorem Fr.heap {tb pb k : Nat} {a b : World} {o : Obj} (h : Fr tb pb a b) (hk : a.heap[k]? = some o) (h1 : k ≠ tb) (h2 : k ≠ pb) : b.heap[k]? = some o :=
  (h.2 k (Array.getElem?_eq_some_iff.1 hk).1 h1 h2).trans hk
theorem results_cell_tmp {P : Program} {fn : Func} {p q : Tmp} {ty : TypeId} (h : fn.results = #[.cell p ty, .tmp q]) (tmps : Array Value) (w : World) (g : Nat) (t : TypeId) (cs : Array Value) (fr : Nat × Nat) (d : TypeDesc) (u : Value)
    (hp : tmps.getD p undef = .pointer (some ⟨g, 0, none⟩)) (hq : tmps.getD q undef = u) (hg : w.heap[g]? = some (.cells cs t fr))
    (hu : P.underlying ty = some d) (hd : (match d with | .struct _ | .array _ _ => true | _ => false) = true) (hi : (P.info? ty).map (·.size) = some cs.size) :
    (results fn tmps).run P w = .ok (.tuple #[.agg cs, u]) w := by
  have hp' : tmps[p]?.getD undef = .pointer (some ⟨g, 0, none⟩) := by simpa using hp
  have hq' : tmps[q]?.getD undef = u := by simpa using hq
  simp [results, h, hp', hq', asAddr, run_loadVar_row w g t ty cs fr d hg hu hd hi]
end Go.Proofs.Ytabcmhiobfddnaa
