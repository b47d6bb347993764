/-
  All blocks but two are as they were.
-/
import Derived.Test.YtihiclnbbpablaaCom0
namespace Go.Proofs.Ytihiclnbbpablaa
open Go Go.RowKit
set_option linter.unusedVariables false
set_option linter.unusedSimpArgs false
/-- All blocks but two are as they were. -/
structure On2 (tb mb : Nat) (w w' : World) : Prop where
  os : w'.os = w.os
  tape : w'.tape = w.tape
  output : w'.output = w.output
  size : w.heap.size ≤ w'.heap.size
  block : ∀ k, k < w.heap.size → ¬ k = tb → ¬ k = mb → w'.heap[k]? = w.heap[k]?
theorem On2.refl (tb mb : Nat) (w : World) : On2 tb mb w w := ⟨rfl, rfl, rfl, Nat.le_refl _, fun _ _ _ _ => rfl⟩
theorem On2.of_ext {tb mb : Nat} {a b : World} (h : Ext a b) : On2 tb mb a b := ⟨h.os, h.tape, h.output, h.size, fun k hk _ _ => h.block k hk⟩
theorem On2.trans {tb mb : Nat} {a b c : World} (h : On2 tb mb a b) (k : On2 tb mb b c) : On2 tb mb a c :=
  ⟨k.os.trans h.os, k.tape.trans h.tape, k.output.trans h.output, Nat.le_trans h.size k.size, fun i hi h1 h2 => (k.block i (Nat.lt_of_lt_of_le hi h.size) h1 h2).trans (h.block i hi h1 h2)⟩
theorem On2.set {tb mb : Nat} (w : World) (p : Addr) (v : Value) (hp : p.block = tb ∨ p.block = mb) : On2 tb mb w (w.setCell p v) :=
  ⟨rfl, rfl, rfl, by simp [World.setCell], fun k hk h1 h2 => Below.heap_setCell w p v k (fun e => by rcases hp with q | q <;> omega)⟩
theorem On2.ext {tb mb : Nat} {a b c : World} (h : Ext a b) (k : On2 tb mb b c) (h1 : a.heap.size ≤ tb) (h2 : a.heap.size ≤ mb) : Ext a c :=
  ⟨k.os.trans h.os, k.tape.trans h.tape, k.output.trans h.output, Nat.le_trans h.size k.size, fun i hi => (k.block i (Nat.lt_of_lt_of_le hi h.size) (by omega) (by omega)).trans (h.block i hi)⟩
theorem On2.heap {tb mb k : Nat} {a b : World} {o : Obj} (h : On2 tb mb a b) (hk : a.heap[k]? = some o) (h1 : ¬ k = tb) (h2 : ¬ k = mb) : b.heap[k]? = some o :=
  (h.block k (Array.getElem?_eq_some_iff.1 hk).1 h1 h2).trans hk
theorem set_blkC {w : World} {g : Nat} {cs : Array Value} {t : TypeId} {fr : Nat × Nat} (h : w.heap[g]? = some (.cells cs t fr)) (i : Nat) (v : Value) :
    (w.setCell ⟨g, i, none⟩ v).heap[g]? = some (.cells (cs.setIfInBounds i v) t fr) := by
  simp [World.setCell, Array.getElem?_modify, h]
theorem blk_freeC {w : World} {g : Nat} {cs : Array Value} {t : TypeId} (h : w.heap[g]? = some (.cells cs t (0, 0))) (i : Nat) : w.frozen? ⟨g, i, none⟩ = false := by
  simp [World.frozen?, h]
/-- No byte lies in the block. -/
theorem sees_offB {w w' : World} {g n c : Nat} {A : Option Addr} {m : List UInt8} {t : TypeId} {fr : Nat × Nat} {cs : Array Value} (h : Sees w A n c (bs m)) (hb : w.heap[g]? = some (.cells cs t fr)) (hq : ∀ (i : Nat) (x : Int), ¬ cs[i]? = some (Value.int .u8 x)) (ho : On2 g g w w') : Sees w' A n c (bs m) :=
  ⟨h.1, h.2.1, h.2.2.1, h.2.2.2.1, fun hn => by
    obtain ⟨b, off, hA, hc⟩ := h.2.2.2.2 hn
    refine ⟨b, off, hA, fun j u hu => ?_⟩
    have hcc := hc j u hu
    have hbg : ¬ b = g := by
      rintro rfl
      obtain ⟨hj, rfl⟩ := bs_get m j u hu
      rw [cell_of_row w b (off + j) _ t fr hb] at hcc
      exact hq _ _ hcc
    exact (World.cell?_of_block (ho.block b (World.block_lt_of_cell? w _ hcc) hbg hbg)).trans hcc⟩
end Go.Proofs.Ytihiclnbbpablaa
