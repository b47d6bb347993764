/-
  Layer 7: calls that wait, in memory.
-/
import Derived.Test.YtabcmhiobfddnaaMapA
import Derived.Test.YtabcmhiobfddnaaCom00
namespace Go.Proofs.Ytabcmhiobfddnaa
open Go Go.RowKit
set_option linter.unusedVariables false
set_option linter.unusedSimpArgs false
theorem MapL.tight {P : Program} {w : World} {k : TypeId} {q : IntKind} {b n : Nat} {L : List (Int × Value)} (h : MapL P w k q b n L) : MapL P w k q b L.length L := by
  obtain ⟨⟨es, clock, hb, F, hs, hD⟩, h2⟩ := h
  refine ⟨⟨es, clock, hb, F, ?_, hD⟩, h2⟩
  have e : Maps.size (enM q L) = es.size := by
    rw [hD]
    simp [Maps.size, length_sorted]
  rw [enM_size] at e
  omega
theorem u32_wf {x : Int} (h0 : 0 ≤ x) (h1 : x < 4294967296) : (Lit.int .u32 x).wf = true := by
  have e1 : IntKind.u32.min = 0 := by decide
  have e2 : IntKind.u32.max = 4294967295 := by decide
  show (decide (IntKind.u32.min ≤ x) && decide (x ≤ IntKind.u32.max)) = true
  rw [e1, e2, decide_eq_true h0, decide_eq_true (show x ≤ 4294967295 by omega)]
  rfl
/-- The number so many behind the first one. -/
def nxt (x : Int) (j : Nat) : Int := (x + (j : Int)) % 4294967296
theorem nxt_bound (x : Int) (j : Nat) : 0 ≤ nxt x j ∧ nxt x j < 4294967296 := by
  unfold nxt
  omega
theorem nxt_zero {x : Int} (h0 : 0 ≤ x) (h1 : x < 4294967296) : nxt x 0 = x := by
  unfold nxt
  omega
theorem nxt_succ (x : Int) (j : Nat) : IntKind.u32.wrap (nxt x j + 1) = nxt x (j + 1) := by
  have h : ∀ a : Int, IntKind.u32.wrap a = a % 4294967296 := fun a => by unfold IntKind.wrap; rfl
  rw [h]
  unfold nxt
  omega
theorem nxt_add (x : Int) (i j : Nat) : nxt (nxt x i) j = nxt x (i + j) := by
  unfold nxt
  omega
theorem nxt_ne (x : Int) (i j : Nat) (h : i < j) (h2 : j < 4294967296) : ¬ nxt x j = nxt x i := by
  unfold nxt
  omega
theorem nxt_wf (x : Int) (j : Nat) : (Lit.int .u32 (nxt x j)).wf = true := by
  have := nxt_bound x j
  exact u32_wf this.1 this.2
/-- Without the first ones. -/
def remL (L : List (Int × Value)) (x : Int) : Nat → List (Int × Value)
  | 0 => L
  | j + 1 => delL (remL L x j) (nxt x j)
theorem rem_has (L : List (Int × Value)) (x y : Int) : ∀ j, (∀ i, i < j → ¬ y = nxt x i) → hasL (remL L x j) y = hasL L y
  | 0, _ => rfl
  | j + 1, h => by
    unfold remL
    rw [has_del_other _ _ _ (h j (by omega))]
    exact rem_has L x y j fun i hi => h i (by omega)
theorem rem_ris {L : List (Int × Value)} (hr : RisL L) (x : Int) : ∀ j, RisL (remL L x j)
  | 0 => hr
  | j + 1 => ris_del (rem_ris hr x j) _
theorem rem_len {L : List (Int × Value)} (hr : RisL L) (x : Int) : ∀ j, j ≤ 1000000 → (∀ i, i < j → hasL L (nxt x i) = true) → (remL L x j).length + j = L.length
  | 0, _, _ => rfl
  | j + 1, hj, h => by
    have ih := rem_len hr x j (by omega) fun i hi => h i (by omega)
    have h2 : hasL (remL L x j) (nxt x j) = true := by
      rw [rem_has L x _ j fun i hi => nxt_ne x i j hi (by omega)]
      exact h j (by omega)
    have := len_del_has (rem_ris hr x j) h2
    unfold remL
    omega
/-- The next number that does not wait. -/
def FreeAt (L : List (Int × Value)) (x : Int) (j : Nat) : Prop := (∀ i, i < j → hasL L (nxt x i) = true) ∧ hasL L (nxt x j) = false
theorem FreeAt.uniq {L : List (Int × Value)} {x : Int} {i j : Nat} (h : FreeAt L x i) (k : FreeAt L x j) : i = j := by
  rcases Nat.lt_trichotomy i j with q | q | q
  · have := k.1 i q
    rw [h.2] at this
    cases this
  · exact q
  · have := h.1 j q
    rw [k.2] at this
    cases this
/-- Each value is a procedure's number and what is kept. -/
def Vals (S : Value → Prop) (L : List (Int × Value)) : Prop := ∀ p ∈ L, ∃ (a : Int) (v : Value), p.2 = .agg #[.int .u32 a, v] ∧ S v ∧ 0 ≤ a ∧ a < 4294967296
theorem Vals.nil (S : Value → Prop) : Vals S [] := fun p h => by cases h
theorem Vals.del {S : Value → Prop} {L : List (Int × Value)} (h : Vals S L) (k : Int) : Vals S (delL L k) := fun p hp => h p (del_mem hp).1
theorem Vals.put {S : Value → Prop} {L : List (Int × Value)} (h : Vals S L) (k a : Int) (v : Value) (hv : S v) (h0 : 0 ≤ a) (h1 : a < 4294967296) : Vals S (putL L k (.agg #[.int .u32 a, v])) := fun p hp => by
  rcases mem_ins hp with rfl | hp
  · exact ⟨a, v, rfl, hv, h0, h1⟩
  · exact h p (del_mem hp).1
theorem Vals.at_ {S : Value → Prop} {L : List (Int × Value)} (h : Vals S L) (k : Int) (z : Value) (hz : S z) : ∃ (a : Int) (v : Value), (lkL L k).getD (.agg #[.int .u32 0, z]) = .agg #[.int .u32 a, v] ∧ S v ∧ 0 ≤ a ∧ a < 4294967296 := by
  unfold lkL
  cases hf : L.find? (fun p => p.1 == k) with
  | none => exact ⟨0, z, rfl, hz, by omega, by omega⟩
  | some p =>
    obtain ⟨a, v, h1, h2⟩ := h p (List.mem_of_find?_eq_some hf)
    exact ⟨a, v, h1, h2⟩
/-- All blocks but two are as they were. -/
structure Onm (tb mb : Nat) (w w' : World) : Prop where
  os : w'.os = w.os
  tape : w'.tape = w.tape
  output : w'.output = w.output
  size : w.heap.size ≤ w'.heap.size
  block : ∀ k, k < w.heap.size → ¬ k = tb → ¬ k = mb → w'.heap[k]? = w.heap[k]?
theorem Onm.refl (tb mb : Nat) (w : World) : Onm tb mb w w := ⟨rfl, rfl, rfl, Nat.le_refl _, fun _ _ _ _ => rfl⟩
theorem Onm.of_ext {tb mb : Nat} {a b : World} (h : Ext a b) : Onm tb mb a b := ⟨h.os, h.tape, h.output, h.size, fun k hk _ _ => h.block k hk⟩
theorem Onm.trans {tb mb : Nat} {a b c : World} (h : Onm tb mb a b) (k : Onm tb mb b c) : Onm tb mb a c :=
  ⟨k.os.trans h.os, k.tape.trans h.tape, k.output.trans h.output, Nat.le_trans h.size k.size, fun i hi h1 h2 => (k.block i (Nat.lt_of_lt_of_le hi h.size) h1 h2).trans (h.block i hi h1 h2)⟩
theorem Onm.set {tb mb : Nat} {w : World} {p : Addr} {v : Value} (hp : p.block = tb ∨ p.block = mb) : Onm tb mb w (w.setCell p v) :=
  ⟨rfl, rfl, rfl, by simp [World.setCell], fun k hk h1 h2 => Below.heap_setCell w p v k (fun e => by rcases hp with q | q <;> omega)⟩
theorem Onm.grown {tb mb : Nat} {a b c : World} (h : Ext a b) (hg : b.grownBy c (some mb)) : Onm tb mb a c :=
  (Onm.of_ext h).trans ⟨hg.os, hg.tape, hg.output, hg.size, fun k hk _ h2 => hg.block k hk (fun e => h2 (by injection e))⟩
theorem Onm.ext {tb mb : Nat} {a b c : World} (h : Ext a b) (k : Onm tb mb b c) (h1 : a.heap.size ≤ tb) (h2 : a.heap.size ≤ mb) : Ext a c :=
  ⟨k.os.trans h.os, k.tape.trans h.tape, k.output.trans h.output, Nat.le_trans h.size k.size, fun i hi => (k.block i (Nat.lt_of_lt_of_le hi h.size) (by omega) (by omega)).trans (h.block i hi)⟩
theorem Onm.heap {tb mb k : Nat} {a b : World} {o : Obj} (h : Onm tb mb a b) (hk : a.heap[k]? = some o) (h1 : ¬ k = tb) (h2 : ¬ k = mb) : b.heap[k]? = some o :=
  (h.block k (Array.getElem?_eq_some_iff.1 hk).1 h1 h2).trans hk
theorem Onm.cell {tb mb : Nat} {a b : World} {p : Addr} {v : Value} (h : Onm tb mb a b) (hc : a.cell? p = some v) (h1 : ¬ p.block = tb) (h2 : ¬ p.block = mb) : b.cell? p = some v :=
  (World.cell?_of_block (h.block p.block (World.block_lt_of_cell? a p hc) h1 h2)).trans hc
/-- A builtin delete at the operation, by its run. -/
theorem wpList_delete_run {P : Program} {w : World} {ops : Array Oper} {rest : List Oper} {o : Oper} {a : Act} {Q : Exit → Act → World → Prop} (hgd : o.guard = none) (s x : Operand) (t k : TypeId)
    (ho : o.op = .call { callee := .builtin .delete, args := #[s, x], argTypes := #[t, k] }) (v u : Value) (hs : a.eval s = v) (hx : a.eval x = u) (w' : World)
    (hrun : (Builtin.delete_ #[t, k] o.type #[v, u]).run P w = .ok (.tuple #[]) w') (h : wpList P ops Q rest (a.put o.dst (.tuple #[])) w') : wpList P ops Q (o :: rest) a w := by
  refine wpList_plain hgd fun K hK => ?_
  unfold Oper.wp
  simp [execOp, ho, resolve, invoke, builtin, hs, hx, hrun, Result.andThen]
  exact hK _ _ h
/-- A store into a map at the operation, by its run. -/
theorem wpList_update_run {P : Program} {w : World} {ops : Array Oper} {rest : List Oper} {o : Oper} {a : Act} {Q : Exit → Act → World → Prop} (hgd : o.guard = none) (m x v : Operand) (t : TypeId)
    (ho : o.op = Op.mapUpdate t m x v) (mv xv vv : Value) (hm : a.eval m = mv) (hx : a.eval x = xv) (hv : a.eval v = vv) (w' : World)
    (hrun : (Instr.mapUpdate t mv xv vv).run P w = .ok () w') (h : wpList P ops Q rest (a.put o.dst undef) w') : wpList P ops Q (o :: rest) a w := by
  refine wpList_plain hgd fun K hK => ?_
  unfold Oper.wp
  simp [execOp, ho, hm, hx, hv, hrun, Result.andThen]
  exact hK _ _ h
def IsI (v : Value) : Prop := ∃ i : Int, v = .int .i64 i
def IsS (v : Value) : Prop := ∃ s : ByteArray, v = .string s

/-! int -/
section
variable {w w' : World} {tb mb most : Nat} {next : Int} {L : List (Int × Value)}
end
/-! string -/
section
variable {w w' : World} {tb mb most : Nat} {next : Int} {L : List (Int × Value)}
end
end Go.Proofs.Ytabcmhiobfddnaa
