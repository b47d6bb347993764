/-
  Layer 14: the hand that looks at fields: each of its ways with one field.
-/
import Derived.Test.YtpjigdfllbhknaaCom0
import Derived.Test.YtpjigdfllbhknaaPln
namespace Go.Proofs.Ytpjigdfllbhknaa
open Go Go.RowKit
set_option linter.unusedVariables false
set_option linter.unusedSimpArgs false
def bi (x m : Int) : Bool := decide (0 ≤ x) && decide (x ≤ m)
/-- All blocks but two are as they were. -/
structure On2 (tb mb : Nat) (w w' : World) : Prop where
  os : w'.os = w.os
  tape : w'.tape = w.tape
  output : w'.output = w.output
  size : w.heap.size ≤ w'.heap.size
  block : ∀ k, k < w.heap.size → ¬ k = tb → ¬ k = mb → w'.heap[k]? = w.heap[k]?
theorem On2.refl (tb mb : Nat) (w : World) : On2 tb mb w w := ⟨rfl, rfl, rfl, Nat.le_refl _, fun _ _ _ _ => rfl⟩
theorem On2.of_ext {tb mb : Nat} {a b : World} (h : Ext a b) : On2 tb mb a b := ⟨h.os, h.tape, h.output, h.size, fun k hk _ _ => h.block k hk⟩
theorem On2.trans {tb mb : Nat} {a b c : World} (h : On2 tb mb a b) (k : On2 tb mb b c) : On2 tb mb a c :=
  ⟨k.os.trans h.os, k.tape.trans h.tape, k.output.trans h.output, Nat.le_trans h.size k.size, fun i hi h1 h2 => (k.block i (Nat.lt_of_lt_of_le hi h.size) h1 h2).trans (h.block i hi h1 h2)⟩
theorem On2.set {tb mb : Nat} (w : World) (p : Addr) (v : Value) (hp : p.block = tb ∨ p.block = mb) : On2 tb mb w (w.setCell p v) :=
  ⟨rfl, rfl, rfl, by simp [World.setCell], fun k hk h1 h2 => Below.heap_setCell w p v k (fun e => by rcases hp with q | q <;> omega)⟩
theorem On2.ext {tb mb : Nat} {a b c : World} (h : Ext a b) (k : On2 tb mb b c) (h1 : a.heap.size ≤ tb) (h2 : a.heap.size ≤ mb) : Ext a c :=
  ⟨k.os.trans h.os, k.tape.trans h.tape, k.output.trans h.output, Nat.le_trans h.size k.size, fun i hi => (k.block i (Nat.lt_of_lt_of_le hi h.size) (by omega) (by omega)).trans (h.block i hi)⟩
theorem On2.heap {tb mb k : Nat} {a b : World} {o : Obj} (h : On2 tb mb a b) (hk : a.heap[k]? = some o) (h1 : ¬ k = tb) (h2 : ¬ k = mb) : b.heap[k]? = some o :=
  (h.block k (Array.getElem?_eq_some_iff.1 hk).1 h1 h2).trans hk
theorem set_blkC {w : World} {g : Nat} {cs : Array Value} {t : TypeId} {fr : Nat × Nat} (h : w.heap[g]? = some (.cells cs t fr)) (i : Nat) (v : Value) :
    (w.setCell ⟨g, i, none⟩ v).heap[g]? = some (.cells (cs.setIfInBounds i v) t fr) := by
  simp [World.setCell, Array.getElem?_modify, h]
theorem blk_freeC {w : World} {g : Nat} {cs : Array Value} {t : TypeId} (h : w.heap[g]? = some (.cells cs t (0, 0))) (i : Nat) : w.frozen? ⟨g, i, none⟩ = false := by
  simp [World.frozen?, h]
/-- The frame's block, the look's. -/
def FrC (w : World) (fb lb : Nat) (g : Bool) (cs : Array Value) : Prop := w.heap[fb]? = some (.cells cs 59 (0, 0)) ∧ w.heap[lb]? = some (.cells #[.bool g] 62 (0, 0)) ∧ ¬ fb = lb
theorem FrC.ext {w w' : World} {fb lb : Nat} {g : Bool} {cs : Array Value} (h : FrC w fb lb g cs) (he : Ext w w') : FrC w' fb lb g cs := ⟨he.heap h.1, he.heap h.2.1, h.2.2⟩
theorem FrC.set {w : World} {fb lb : Nat} {g : Bool} {cs : Array Value} (h : FrC w fb lb g cs) (i : Nat) (g' : Bool) (v : Value) :
    FrC ((w.setCell ⟨lb, 0, none⟩ (.bool g')).setCell ⟨fb, i, none⟩ v) fb lb g' (cs.setIfInBounds i v) := by
  have h1 := set_blkC h.2.1 0 (.bool g')
  have h2 : (w.setCell ⟨lb, 0, none⟩ (.bool g')).heap[fb]? = some (.cells cs 59 (0, 0)) := (heap_setCell_other _ _ _ _ (by simpa using h.2.2)).trans h.1
  exact ⟨set_blkC h2 i v, (heap_setCell_other _ _ _ _ (by simpa using fun e => h.2.2 e.symm)).trans h1, h.2.2⟩
theorem lwithin_any (fb lb i : Nat) (g : Bool) (cs : Array Value) (x most : Int) (w : World) (h : FrC w fb lb g cs) (hi : cs[i]? = some (.int .i64 x)) :
    Calls Try.prog 89 #[.pointer (some ⟨lb, 0, none⟩), .pointer (some ⟨fb, i, none⟩), .int .i64 most] w fun e w' => e = .returned (.tuple #[]) ∧ FrC w' fb lb (g && bi x most) (cs.setIfInBounds i (.int .i64 0)) ∧ On2 fb lb w w' := by
  have q0 := cell_of_row w lb 0 _ _ _ h.2.1
  simp at q0
  have f0 := blk_freeC h.2.1 0
  have x0 := (cell_of_row w fb i _ _ _ h.1).trans hi
  have hne := h.2.2
  have x1 : ∀ v, (w.setCell ⟨lb, 0, none⟩ v).cell? ⟨fb, i, none⟩ = some (.int .i64 x) := fun v => (World.cell?_of_block (heap_setCell_other _ _ _ _ (by simpa using hne))).trans x0
  have f1 : ∀ v, (w.setCell ⟨lb, 0, none⟩ v).frozen? ⟨fb, i, none⟩ = false := fun v => blk_freeC ((heap_setCell_other _ _ _ _ (by simpa using hne)).trans h.1) i
  have HS : Hid (∀ g', FrC ((w.setCell ⟨lb, 0, none⟩ (.bool g')).setCell ⟨fb, i, none⟩ (.int .i64 0)) fb lb g' (cs.setIfInBounds i (.int .i64 0)) ∧ On2 fb lb w ((w.setCell ⟨lb, 0, none⟩ (.bool g')).setCell ⟨fb, i, none⟩ (.int .i64 0))) := Lib.hid fun g' => ⟨h.set i g' _, (On2.set (tb := fb) (mb := lb) w ⟨lb, 0, none⟩ _ (.inr rfl)).trans (On2.set (tb := fb) (mb := lb) _ ⟨fb, i, none⟩ _ (.inl rfl))⟩
  clear h hi
  cases g
  · go_enter Try.func89, Try.ntmps89
    go_wp2
    go_end0
    exact ⟨rfl, (HS.out false).1, (HS.out false).2⟩
  · by_cases h1 : 0 ≤ x
    · by_cases h2 : x ≤ most
      · have hb : (true && bi x most) = true := by simp [bi, h1, h2]
        rw [hb]
        go_enter Try.func89, Try.ntmps89
        go_wp2
        go_end0
        exact ⟨rfl, (HS.out true).1, (HS.out true).2⟩
      · have hb : (true && bi x most) = false := by simp [bi, h1, h2]
        rw [hb]
        go_enter Try.func89, Try.ntmps89
        go_wp2
        go_end0
        exact ⟨rfl, (HS.out false).1, (HS.out false).2⟩
    · have hb : (true && bi x most) = false := by simp [bi, h1]
      rw [hb]
      go_enter Try.func89, Try.ntmps89
      go_wp2
      go_end0
      exact ⟨rfl, (HS.out false).1, (HS.out false).2⟩
theorem lnumber_any (fb lb i : Nat) (g : Bool) (cs : Array Value) (x : Int) (w : World) (h : FrC w fb lb g cs) (hi : cs[i]? = some (.int .i64 x)) :
    Calls Try.prog 86 #[.pointer (some ⟨lb, 0, none⟩), .pointer (some ⟨fb, i, none⟩)] w fun e w' => e = .returned (.tuple #[]) ∧ FrC w' fb lb (g && bi x 4294967295) (cs.setIfInBounds i (.int .i64 0)) ∧ On2 fb lb w w' := by
  have HW := Lib.hid (lwithin_any fb lb i g cs x 4294967295 w h hi)
  clear h hi
  go_enter Try.func86, Try.ntmps86
  go_wp2_with fail
  refine HW.out.mono ?_
  rintro e w1 ⟨rfl, h1, o1⟩
  go_wp2_with fail
  go_end0
  exact ⟨rfl, h1, o1⟩
theorem lplace_any (fb lb i : Nat) (g : Bool) (cs : Array Value) (x : Int) (w : World) (h : FrC w fb lb g cs) (hi : cs[i]? = some (.int .i64 x)) :
    Calls Try.prog 87 #[.pointer (some ⟨lb, 0, none⟩), .pointer (some ⟨fb, i, none⟩)] w fun e w' => e = .returned (.tuple #[]) ∧ FrC w' fb lb (g && bi x 4611686018427387904) (cs.setIfInBounds i (.int .i64 0)) ∧ On2 fb lb w w' := by
  have HW := Lib.hid (lwithin_any fb lb i g cs x 4611686018427387904 w h hi)
  clear h hi
  go_enter Try.func87, Try.ntmps87
  go_wp2_with fail
  refine HW.out.mono ?_
  rintro e w1 ⟨rfl, h1, o1⟩
  go_wp2_with fail
  go_end0
  exact ⟨rfl, h1, o1⟩
theorem lhandle_any (fb lb i : Nat) (g : Bool) (cs : Array Value) (x y : Int) (w : World) (h : FrC w fb lb g cs) (hi : cs[i]? = some (.int .i64 x)) (hj : cs[i + 1]? = some (.int .i64 y)) :
    Calls Try.prog 85 #[.pointer (some ⟨lb, 0, none⟩), .pointer (some ⟨fb, i, none⟩)] w fun e w' => e = .returned (.tuple #[]) ∧ FrC w' fb lb ((g && bi x 4294967295) && bi y 4294967295) ((cs.setIfInBounds i (.int .i64 0)).setIfInBounds (i + 1) (.int .i64 0)) ∧ On2 fb lb w w' := by
  have HW := Lib.hid (lnumber_any fb lb i g cs x w h hi)
  have HJ : Hid ((cs.setIfInBounds i (.int .i64 0))[i + 1]? = some (.int .i64 y)) := Lib.hid (by rw [Array.getElem?_setIfInBounds_ne (by omega)]; exact hj)
  clear h hi hj
  go_enter Try.func85, Try.ntmps85
  go_wp2_with fail
  refine HW.out.mono ?_
  rintro e w1 ⟨rfl, h1, o1⟩
  go_wp2_with fail
  refine (lnumber_any fb lb (i + 1) _ _ y w1 h1 HJ.out).mono ?_
  rintro e w2 ⟨rfl, h2, o2⟩
  go_wp2_with fail
  go_end0
  exact ⟨rfl, h2, o1.trans o2⟩
theorem ltext_look (fb lb i : Nat) (g : Bool) (cs : Array Value) (t : List UInt8) (w : World) (h : FrC w fb lb g cs) (hi : cs[i]? = some (.string ⟨t.toArray⟩)) :
    Calls Try.prog 88 #[.pointer (some ⟨lb, 0, none⟩), .pointer (some ⟨fb, i, none⟩)] w fun e w' => e = .returned (.tuple #[]) ∧ FrC w' fb lb (g && decide ((t.length : Int) ≤ 64)) (cs.setIfInBounds i (.string ⟨#[]⟩)) ∧ On2 fb lb w w' := by
  have q0 := cell_of_row w lb 0 _ _ _ h.2.1
  simp at q0
  have f0 := blk_freeC h.2.1 0
  have x0 := (cell_of_row w fb i _ _ _ h.1).trans hi
  have hne := h.2.2
  have x1 : ∀ v, (w.setCell ⟨lb, 0, none⟩ v).cell? ⟨fb, i, none⟩ = some (.string ⟨t.toArray⟩) := fun v => (World.cell?_of_block (heap_setCell_other _ _ _ _ (by simpa using hne))).trans x0
  have f1 : ∀ v, (w.setCell ⟨lb, 0, none⟩ v).frozen? ⟨fb, i, none⟩ = false := fun v => blk_freeC ((heap_setCell_other _ _ _ _ (by simpa using hne)).trans h.1) i
  have HS : Hid (∀ g', FrC ((w.setCell ⟨lb, 0, none⟩ (.bool g')).setCell ⟨fb, i, none⟩ (.string ⟨#[]⟩)) fb lb g' (cs.setIfInBounds i (.string ⟨#[]⟩)) ∧ On2 fb lb w ((w.setCell ⟨lb, 0, none⟩ (.bool g')).setCell ⟨fb, i, none⟩ (.string ⟨#[]⟩))) := Lib.hid fun g' => ⟨h.set i g' _, (On2.set (tb := fb) (mb := lb) w ⟨lb, 0, none⟩ _ (.inr rfl)).trans (On2.set (tb := fb) (mb := lb) _ ⟨fb, i, none⟩ _ (.inl rfl))⟩
  clear h hi
  cases g
  · go_enter Try.func88, Try.ntmps88
    go_wp2
    go_end0
    exact ⟨rfl, (HS.out false).1, (HS.out false).2⟩
  · by_cases h1 : (t.length : Int) ≤ 64
    · have hb : (true && decide ((t.length : Int) ≤ 64)) = true := by simp [h1]
      rw [hb]
      go_enter Try.func88, Try.ntmps88
      go_wp2
      go_end0
      exact ⟨rfl, (HS.out true).1, (HS.out true).2⟩
    · have hb : (true && decide ((t.length : Int) ≤ 64)) = false := by simpa using h1
      rw [hb]
      go_enter Try.func88, Try.ntmps88
      go_wp2
      go_end0
      exact ⟨rfl, (HS.out false).1, (HS.out false).2⟩
theorem ldata_look (fb lb i : Nat) (g : Bool) (cs : Array Value) (A : Option Addr) (n c : Nat) (w : World) (h : FrC w fb lb g cs) (hi : cs[i]? = some (.slice A n c)) :
    Calls Try.prog 84 #[.pointer (some ⟨lb, 0, none⟩), .pointer (some ⟨fb, i, none⟩)] w fun e w' => e = .returned (.tuple #[]) ∧ FrC w' fb lb (g && decide ((n : Int) ≤ 2048)) (cs.setIfInBounds i (.slice none 0 0)) ∧ On2 fb lb w w' := by
  have q0 := cell_of_row w lb 0 _ _ _ h.2.1
  simp at q0
  have f0 := blk_freeC h.2.1 0
  have x0 := (cell_of_row w fb i _ _ _ h.1).trans hi
  have hne := h.2.2
  have x1 : ∀ v, (w.setCell ⟨lb, 0, none⟩ v).cell? ⟨fb, i, none⟩ = some (.slice A n c) := fun v => (World.cell?_of_block (heap_setCell_other _ _ _ _ (by simpa using hne))).trans x0
  have f1 : ∀ v, (w.setCell ⟨lb, 0, none⟩ v).frozen? ⟨fb, i, none⟩ = false := fun v => blk_freeC ((heap_setCell_other _ _ _ _ (by simpa using hne)).trans h.1) i
  have HS : Hid (∀ g', FrC ((w.setCell ⟨lb, 0, none⟩ (.bool g')).setCell ⟨fb, i, none⟩ (.slice none 0 0)) fb lb g' (cs.setIfInBounds i (.slice none 0 0)) ∧ On2 fb lb w ((w.setCell ⟨lb, 0, none⟩ (.bool g')).setCell ⟨fb, i, none⟩ (.slice none 0 0))) := Lib.hid fun g' => ⟨h.set i g' _, (On2.set (tb := fb) (mb := lb) w ⟨lb, 0, none⟩ _ (.inr rfl)).trans (On2.set (tb := fb) (mb := lb) _ ⟨fb, i, none⟩ _ (.inl rfl))⟩
  clear h hi
  cases g
  · go_enter Try.func84, Try.ntmps84
    go_wp2
    go_end0
    exact ⟨rfl, (HS.out false).1, (HS.out false).2⟩
  · by_cases h1 : (n : Int) ≤ 2048
    · have hb : (true && decide ((n : Int) ≤ 2048)) = true := by simp [h1]
      rw [hb]
      go_enter Try.func84, Try.ntmps84
      go_wp2
      go_end0
      exact ⟨rfl, (HS.out true).1, (HS.out true).2⟩
    · have hb : (true && decide ((n : Int) ≤ 2048)) = false := by simpa using h1
      rw [hb]
      go_enter Try.func84, Try.ntmps84
      go_wp2
      go_end0
      exact ⟨rfl, (HS.out false).1, (HS.out false).2⟩
end Go.Proofs.Ytpjigdfllbhknaa
