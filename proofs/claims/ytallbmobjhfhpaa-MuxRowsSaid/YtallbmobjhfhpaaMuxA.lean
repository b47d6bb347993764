/-
  Layer 7: calls that wait, in memory.
-/
import Derived.Test.YtallbmobjhfhpaaMapA
import Derived.Test.YtallbmobjhfhpaaCom00
namespace Go.Proofs.Ytallbmobjhfhpaa
open Go Go.RowKit
set_option linter.unusedVariables false
set_option linter.unusedSimpArgs false
theorem MapL.tight {P : Program} {w : World} {k : TypeId} {q : IntKind} {b n : Nat} {L : List (Int × Value)} (h : MapL P w k q b n L) : MapL P w k q b L.length L := by
  obtain ⟨⟨es, clock, hb, F, hs, hD⟩, h2⟩ := h
  refine ⟨⟨es, clock, hb, F, ?_, hD⟩, h2⟩
  have e : Maps.size (enM q L) = es.size := by
    rw [hD]
    simp [Maps.size, length_sorted]
  rw [enM_size] at e
  omega
theorem u32_wf {x : Int} (h0 : 0 ≤ x) (h1 : x < 4294967296) : (Lit.int .u32 x).wf = true := by
  have e1 : IntKind.u32.min = 0 := by decide
  have e2 : IntKind.u32.max = 4294967295 := by decide
  show (decide (IntKind.u32.min ≤ x) && decide (x ≤ IntKind.u32.max)) = true
  rw [e1, e2, decide_eq_true h0, decide_eq_true (show x ≤ 4294967295 by omega)]
  rfl
/-- The number so many behind the first one. -/
def nxt (x : Int) (j : Nat) : Int := (x + (j : Int)) % 4294967296
theorem nxt_bound (x : Int) (j : Nat) : 0 ≤ nxt x j ∧ nxt x j < 4294967296 := by
  unfold nxt
  omega
theorem nxt_zero {x : Int} (h0 : 0 ≤ x) (h1 : x < 4294967296) : nxt x 0 = x := by
  unfold nxt
  omega
theorem nxt_succ (x : Int) (j : Nat) : IntKind.u32.wrap (nxt x j + 1) = nxt x (j + 1) := by
  have h : ∀ a : Int, IntKind.u32.wrap a = a % 4294967296 := fun a => by unfold IntKind.wrap; rfl
  rw [h]
  unfold nxt
  omega
theorem nxt_add (x : Int) (i j : Nat) : nxt (nxt x i) j = nxt x (i + j) := by
  unfold nxt
  omega
theorem nxt_ne (x : Int) (i j : Nat) (h : i < j) (h2 : j < 4294967296) : ¬ nxt x j = nxt x i := by
  unfold nxt
  omega
theorem nxt_wf (x : Int) (j : Nat) : (Lit.int .u32 (nxt x j)).wf = true := by
  have := nxt_bound x j
  exact u32_wf this.1 this.2
/-- Without the first ones. -/
def remL (L : List (Int × Value)) (x : Int) : Nat → List (Int × Value)
  | 0 => L
  | j + 1 => delL (remL L x j) (nxt x j)
theorem rem_has (L : List (Int × Value)) (x y : Int) : ∀ j, (∀ i, i < j → ¬ y = nxt x i) → hasL (remL L x j) y = hasL L y
  | 0, _ => rfl
  | j + 1, h => by
    unfold remL
    rw [has_del_other _ _ _ (h j (by omega))]
    exact rem_has L x y j fun i hi => h i (by omega)
theorem rem_ris {L : List (Int × Value)} (hr : RisL L) (x : Int) : ∀ j, RisL (remL L x j)
  | 0 => hr
  | j + 1 => ris_del (rem_ris hr x j) _
theorem rem_len {L : List (Int × Value)} (hr : RisL L) (x : Int) : ∀ j, j ≤ 1000000 → (∀ i, i < j → hasL L (nxt x i) = true) → (remL L x j).length + j = L.length
  | 0, _, _ => rfl
  | j + 1, hj, h => by
    have ih := rem_len hr x j (by omega) fun i hi => h i (by omega)
    have h2 : hasL (remL L x j) (nxt x j) = true := by
      rw [rem_has L x _ j fun i hi => nxt_ne x i j hi (by omega)]
      exact h j (by omega)
    have := len_del_has (rem_ris hr x j) h2
    unfold remL
    omega
/-- The next number that does not wait. -/
def FreeAt (L : List (Int × Value)) (x : Int) (j : Nat) : Prop := (∀ i, i < j → hasL L (nxt x i) = true) ∧ hasL L (nxt x j) = false
theorem FreeAt.uniq {L : List (Int × Value)} {x : Int} {i j : Nat} (h : FreeAt L x i) (k : FreeAt L x j) : i = j := by
  rcases Nat.lt_trichotomy i j with q | q | q
  · have := k.1 i q
    rw [h.2] at this
    cases this
  · exact q
  · have := h.1 j q
    rw [k.2] at this
    cases this
/-- Each value is a procedure's number and what is kept. -/
def Vals (S : Value → Prop) (L : List (Int × Value)) : Prop := ∀ p ∈ L, ∃ (a : Int) (v : Value), p.2 = .agg #[.int .u32 a, v] ∧ S v ∧ 0 ≤ a ∧ a < 4294967296
theorem Vals.nil (S : Value → Prop) : Vals S [] := fun p h => by cases h
theorem Vals.del {S : Value → Prop} {L : List (Int × Value)} (h : Vals S L) (k : Int) : Vals S (delL L k) := fun p hp => h p (del_mem hp).1
theorem Vals.put {S : Value → Prop} {L : List (Int × Value)} (h : Vals S L) (k a : Int) (v : Value) (hv : S v) (h0 : 0 ≤ a) (h1 : a < 4294967296) : Vals S (putL L k (.agg #[.int .u32 a, v])) := fun p hp => by
  rcases mem_ins hp with rfl | hp
  · exact ⟨a, v, rfl, hv, h0, h1⟩
  · exact h p (del_mem hp).1
theorem Vals.at_ {S : Value → Prop} {L : List (Int × Value)} (h : Vals S L) (k : Int) (z : Value) (hz : S z) : ∃ (a : Int) (v : Value), (lkL L k).getD (.agg #[.int .u32 0, z]) = .agg #[.int .u32 a, v] ∧ S v ∧ 0 ≤ a ∧ a < 4294967296 := by
  unfold lkL
  cases hf : L.find? (fun p => p.1 == k) with
  | none => exact ⟨0, z, rfl, hz, by omega, by omega⟩
  | some p =>
    obtain ⟨a, v, h1, h2⟩ := h p (List.mem_of_find?_eq_some hf)
    exact ⟨a, v, h1, h2⟩
/-- All blocks but two are as they were. -/
structure Onm (tb mb : Nat) (w w' : World) : Prop where
  os : w'.os = w.os
  tape : w'.tape = w.tape
  output : w'.output = w.output
  size : w.heap.size ≤ w'.heap.size
  block : ∀ k, k < w.heap.size → ¬ k = tb → ¬ k = mb → w'.heap[k]? = w.heap[k]?
theorem Onm.refl (tb mb : Nat) (w : World) : Onm tb mb w w := ⟨rfl, rfl, rfl, Nat.le_refl _, fun _ _ _ _ => rfl⟩
theorem Onm.of_ext {tb mb : Nat} {a b : World} (h : Ext a b) : Onm tb mb a b := ⟨h.os, h.tape, h.output, h.size, fun k hk _ _ => h.block k hk⟩
theorem Onm.trans {tb mb : Nat} {a b c : World} (h : Onm tb mb a b) (k : Onm tb mb b c) : Onm tb mb a c :=
  ⟨k.os.trans h.os, k.tape.trans h.tape, k.output.trans h.output, Nat.le_trans h.size k.size, fun i hi h1 h2 => (k.block i (Nat.lt_of_lt_of_le hi h.size) h1 h2).trans (h.block i hi h1 h2)⟩
theorem Onm.set {tb mb : Nat} {w : World} {p : Addr} {v : Value} (hp : p.block = tb ∨ p.block = mb) : Onm tb mb w (w.setCell p v) :=
  ⟨rfl, rfl, rfl, by simp [World.setCell], fun k hk h1 h2 => Below.heap_setCell w p v k (fun e => by rcases hp with q | q <;> omega)⟩
theorem Onm.grown {tb mb : Nat} {a b c : World} (h : Ext a b) (hg : b.grownBy c (some mb)) : Onm tb mb a c :=
  (Onm.of_ext h).trans ⟨hg.os, hg.tape, hg.output, hg.size, fun k hk _ h2 => hg.block k hk (fun e => h2 (by injection e))⟩
theorem Onm.ext {tb mb : Nat} {a b c : World} (h : Ext a b) (k : Onm tb mb b c) (h1 : a.heap.size ≤ tb) (h2 : a.heap.size ≤ mb) : Ext a c :=
  ⟨k.os.trans h.os, k.tape.trans h.tape, k.output.trans h.output, Nat.le_trans h.size k.size, fun i hi => (k.block i (Nat.lt_of_lt_of_le hi h.size) (by omega) (by omega)).trans (h.block i hi)⟩
theorem Onm.heap {tb mb k : Nat} {a b : World} {o : Obj} (h : Onm tb mb a b) (hk : a.heap[k]? = some o) (h1 : ¬ k = tb) (h2 : ¬ k = mb) : b.heap[k]? = some o :=
  (h.block k (Array.getElem?_eq_some_iff.1 hk).1 h1 h2).trans hk
theorem Onm.cell {tb mb : Nat} {a b : World} {p : Addr} {v : Value} (h : Onm tb mb a b) (hc : a.cell? p = some v) (h1 : ¬ p.block = tb) (h2 : ¬ p.block = mb) : b.cell? p = some v :=
  (World.cell?_of_block (h.block p.block (World.block_lt_of_cell? a p hc) h1 h2)).trans hc
/-- A builtin delete at the operation, by its run. -/
theorem wpList_delete_run {P : Program} {w : World} {ops : Array Oper} {rest : List Oper} {o : Oper} {a : Act} {Q : Exit → Act → World → Prop} (hgd : o.guard = none) (s x : Operand) (t k : TypeId)
    (ho : o.op = .call { callee := .builtin .delete, args := #[s, x], argTypes := #[t, k] }) (v u : Value) (hs : a.eval s = v) (hx : a.eval x = u) (w' : World)
    (hrun : (Builtin.delete_ #[t, k] o.type #[v, u]).run P w = .ok (.tuple #[]) w') (h : wpList P ops Q rest (a.put o.dst (.tuple #[])) w') : wpList P ops Q (o :: rest) a w := by
  refine wpList_plain hgd fun K hK => ?_
  unfold Oper.wp
  simp [execOp, ho, resolve, invoke, builtin, hs, hx, hrun, Result.andThen]
  exact hK _ _ h
/-- A store into a map at the operation, by its run. -/
theorem wpList_update_run {P : Program} {w : World} {ops : Array Oper} {rest : List Oper} {o : Oper} {a : Act} {Q : Exit → Act → World → Prop} (hgd : o.guard = none) (m x v : Operand) (t : TypeId)
    (ho : o.op = Op.mapUpdate t m x v) (mv xv vv : Value) (hm : a.eval m = mv) (hx : a.eval x = xv) (hv : a.eval v = vv) (w' : World)
    (hrun : (Instr.mapUpdate t mv xv vv).run P w = .ok () w') (h : wpList P ops Q rest (a.put o.dst undef) w') : wpList P ops Q (o :: rest) a w := by
  refine wpList_plain hgd fun K hK => ?_
  unfold Oper.wp
  simp [execOp, ho, hm, hx, hv, hrun, Result.andThen]
  exact hK _ _ h
def IsI (v : Value) : Prop := ∃ i : Int, v = .int .i64 i
def IsS (v : Value) : Prop := ∃ s : ByteArray, v = .string s

/-! int -/
/-- The calls that wait: their struct in block tb, their map in block mb. -/
def MuxI (w : World) (tb mb most : Nat) (next : Int) (L : List (Int × Value)) : Prop :=
  w.heap[tb]? = some (.cells #[.int .u32 next, .int .i64 (most : Int), .map (some mb)] 70 (0, 0)) ∧ MapL Try.prog w 22 .u32 mb L.length L ∧ ¬ tb = mb ∧ Vals IsI L ∧ 0 ≤ next ∧ next < 4294967296 ∧ most ≤ 16 ∧ L.length ≤ most
/-- All blocks but two are as they were. -/
theorem zeroI (w : World) : (zeroValue 73).run Try.prog w = .ok (.agg #[.int .u32 0, .int .i64 0]) w := by kernel_rfl
section
variable {w w' : World} {tb mb most : Nat} {next : Int} {L : List (Int × Value)}
theorem MuxI.ext (h : MuxI w tb mb most next L) (he : Ext w w') : MuxI w' tb mb most next L := ⟨he.heap h.1, h.2.1.ext he, h.2.2⟩
theorem MuxI.lt (h : MuxI w tb mb most next L) : tb < w.heap.size ∧ mb < w.heap.size := ⟨(Array.getElem?_eq_some_iff.1 h.1).1, h.2.1.lt⟩
end
theorem mnewI_no (x n : Int) (w : World) (h : n < 1 ∨ 16 < n) :
    Calls Try.prog 10 #[.int .u32 x, .int .i64 n] w fun e w' => e = .returned (.tuple #[.pointer none, .int .i64 1]) ∧ w = w' := by
  rcases h with h | h
  · go_enter Try.func10, Try.ntmps10
    go_wp2
    go_ret2
    exact ⟨rfl, rfl⟩
  · have h' : ¬ n < 1 := by omega
    go_enter Try.func10, Try.ntmps10
    go_wp2
    go_ret2
    exact ⟨rfl, rfl⟩
def MNewI (w : World) (N : Nat) (x : Int) (e : Ending) (w' : World) : Prop := ∃ tb mb, e = .returned (.tuple #[.pointer (some ⟨tb, 0, none⟩), .int .i64 0]) ∧ MuxI w' tb mb N x [] ∧ w.heap.size ≤ tb ∧ w.heap.size ≤ mb ∧ Ext w w'
theorem mnewI_ok (x n : Int) (N : Nat) (hN : n = (N : Int)) (w : World) (h1 : 1 ≤ N) (h2 : N ≤ 16) (h0 : 0 ≤ x) (h3 : x < 4294967296) :
    Calls Try.prog 10 #[.int .u32 x, .int .i64 n] w (MNewI w N x) := by
  subst hN
  have hmm := @run_makeMap Try.prog
  have g1 : ¬ (N : Int) < 1 := by omega
  have g2 : ¬ (16 : Int) < (N : Int) := by omega
  go_enter Try.func10, Try.ntmps10
  go_wp2
  go_ret2
  have hm := MapL.made Try.prog w 22 .u32
  have hb := heap_alloc_new (w.alloc (.map #[] 0)) (.cells #[.int .u32 x, .int .i64 (N : Int), .map (some w.heap.size)] 70)
  exact ⟨w.heap.size + 1, w.heap.size, rfl, ⟨by simpa using hb, (hm.ext ((Ext.refl _).alloc _)), by omega, Vals.nil _, h0, h3, h2, by simp⟩, by omega, by omega, ((Ext.refl w).alloc _).alloc _⟩
theorem mlenI_any (tb mb most : Nat) (next : Int) (L : List (Int × Value)) (w : World) (h : MuxI w tb mb most next L) :
    Calls Try.prog 22 #[.pointer (some ⟨tb, 0, none⟩)] w fun e w' => e = .returned (.int .i64 (L.length : Int)) ∧ w = w' := by
  have c2 := cell_of_row w tb 2 _ _ _ h.1
  simp at c2
  have hl := h.2.1.len (t := 68) (e := 73) Try.underlying68 3
  have HM := Lib.hid h
  clear h
  go_enter Try.func22, Try.ntmps22
  go_wp2
  go_ret
  exact ⟨rfl, rfl⟩
theorem mhasI_any (tb mb most : Nat) (next : Int) (L : List (Int × Value)) (x : Int) (b : Bool) (hb : hasL L x = b) (hx0 : 0 ≤ x) (hx1 : x < 4294967296) (w : World) (h : MuxI w tb mb most next L) :
    Calls Try.prog 23 #[.pointer (some ⟨tb, 0, none⟩), .int .u32 x] w fun e w' => e = .returned (.bool b) ∧ Ext w w' := by
  have c2 := cell_of_row w tb 2 _ _ _ h.1
  simp at c2
  have hl := h.2.1.look (t := 68) (e := 73) Try.underlying22 Try.underlying68 (zeroI w) x (u32_wf hx0 hx1)
  obtain ⟨a, v, hv, ⟨i, rfl⟩, _⟩ := h.2.2.2.1.at_ x (.int .i64 0) ⟨_, rfl⟩
  rw [hv, hb] at hl
  clear h hv hb
  go_enter Try.func23, Try.ntmps23
  go_wp2
  go_ret
  exact ⟨rfl, (Ext.refl w).alloc _⟩
theorem mseekI_any (tb mb most : Nat) (next x : Int) (L : List (Int × Value)) (hx0 : 0 ≤ x) (hx1 : x < 4294967296) (w : World) (h : MuxI w tb mb most next L) :
    Calls Try.prog 12 #[.pointer (some ⟨tb, 0, none⟩), .int .u32 x] w fun e w' => e = .returned (.tuple #[]) ∧ MuxI w' tb mb most x L ∧ Onm tb mb w w' := by
  have c0 := cell_of_row w tb 0 _ _ _ h.1
  simp at c0
  have f0 := Lib.frozen_of_heap h.1 0
  have HM := Lib.hid h
  clear h
  go_enter Try.func12, Try.ntmps12
  go_wp2
  go_end0
  exact ⟨rfl, ⟨by simpa using heap_setCell_same w tb 0 _ _ (.int .u32 x) HM.out.1, HM.out.2.1.keep (heap_setCell_other _ _ _ _ (by simpa using fun e => HM.out.2.2.1 e.symm)), HM.out.2.2.1, HM.out.2.2.2.1, hx0, hx1, HM.out.2.2.2.2.2.2⟩, Onm.set (.inl rfl)⟩
theorem mmatchI_no (tb mb most : Nat) (next : Int) (L : List (Int × Value)) (x p : Int) (hb : hasL L x = false) (hx0 : 0 ≤ x) (hx1 : x < 4294967296) (w : World) (h : MuxI w tb mb most next L) :
    Calls Try.prog 14 #[.pointer (some ⟨tb, 0, none⟩), .int .u32 x, .int .u32 p] w fun e w' => e = .returned (.tuple #[.int .i64 0, .int .i64 6]) ∧ Ext w w' := by
  have c2 := cell_of_row w tb 2 _ _ _ h.1
  simp at c2
  have hl := h.2.1.look (t := 68) (e := 73) Try.underlying22 Try.underlying68 (zeroI w) x (u32_wf hx0 hx1)
  obtain ⟨a, v, hv, ⟨i, rfl⟩, _⟩ := h.2.2.2.1.at_ x (.int .i64 0) ⟨_, rfl⟩
  rw [hv, hb] at hl
  clear h hv hb
  go_enter Try.func14, Try.ntmps14
  go_wp2
  go_ret2
  exact ⟨rfl, (Ext.refl w).alloc _⟩
set_option maxRecDepth 20000 in
theorem mmatchI_wrong (tb mb most : Nat) (next : Int) (L : List (Int × Value)) (x p a : Int) (u : Value) (hb : lkL L x = some (.agg #[.int .u32 a, u])) (hp : ¬ a = p) (hx0 : 0 ≤ x) (hx1 : x < 4294967296) (w : World) (h : MuxI w tb mb most next L) :
    Calls Try.prog 14 #[.pointer (some ⟨tb, 0, none⟩), .int .u32 x, .int .u32 p] w fun e w' => e = .returned (.tuple #[.int .i64 0, .int .i64 2]) ∧ Ext w w' := by
  have c2 := cell_of_row w tb 2 _ _ _ h.1
  simp at c2
  have hl := h.2.1.look (t := 68) (e := 73) Try.underlying22 Try.underlying68 (zeroI w) x (u32_wf hx0 hx1)
  obtain ⟨a', v, hv, ⟨i, rfl⟩, _⟩ := h.2.2.2.1.at_ x (.int .i64 0) ⟨_, rfl⟩
  rw [hb] at hv
  injection hv with hv
  injection hv with hv
  injection hv with h1 h2
  injection h1 with _ h1
  injection h2 with h2
  subst h1 h2
  rw [show hasL L x = true by unfold hasL; rw [hb]; rfl, hb] at hl
  rw [show (some (Value.agg #[.int .u32 a, .int .i64 i])).getD (.agg #[.int .u32 0, .int .i64 0]) = .agg #[.int .u32 a, .int .i64 i] from rfl] at hl
  have t1 : (a == p) = false := by simpa using hp
  clear h hb
  go_enter Try.func14, Try.ntmps14
  go_wp2
  go_ret2
  exact ⟨rfl, (Ext.refl w).alloc _⟩
set_option maxRecDepth 20000 in
set_option maxHeartbeats 1000000 in
theorem mmatchI_ok (tb mb most : Nat) (next : Int) (L : List (Int × Value)) (x a : Int) (u : Value) (hb : lkL L x = some (.agg #[.int .u32 a, u])) (hx0 : 0 ≤ x) (hx1 : x < 4294967296) (w : World) (h : MuxI w tb mb most next L) :
    Calls Try.prog 14 #[.pointer (some ⟨tb, 0, none⟩), .int .u32 x, .int .u32 a] w fun e w' => e = .returned (.tuple #[u, .int .i64 0]) ∧ MuxI w' tb mb most next (delL L x) ∧ Onm tb mb w w' := by
  have c2 := cell_of_row w tb 2 _ _ _ h.1
  simp at c2
  have hl := h.2.1.look (t := 68) (e := 73) Try.underlying22 Try.underlying68 (zeroI w) x (u32_wf hx0 hx1)
  obtain ⟨a', v, hv, ⟨i, rfl⟩, _⟩ := h.2.2.2.1.at_ x (.int .i64 0) ⟨_, rfl⟩
  rw [hb] at hv
  injection hv with hv
  injection hv with hv
  injection hv with h1 h2
  injection h1 with _ h1
  injection h2 with h2
  subst h1 h2
  have hhas : hasL L x = true := by unfold hasL; rw [hb]; rfl
  rw [hhas, hb] at hl
  rw [show (some (Value.agg #[.int .u32 a, .int .i64 i])).getD (.agg #[.int .u32 0, .int .i64 0]) = .agg #[.int .u32 a, .int .i64 i] from rfl] at hl
  have e1 : Ext w (w.alloc (.cells #[.int .u32 a, .int .i64 i] 73)) := (Ext.refl w).alloc _
  obtain ⟨w2, hrun, hm2, hg2⟩ := (h.2.1.ext e1).drop (t := 68) (e := 73) Try.underlying22 Try.underlying68 x (u32_wf hx0 hx1) 0
  have hlt := h.lt
  have hb2 : w2.heap[tb]? = _ := (hg2.block tb (by simp; omega) (fun e => h.2.2.1 (by injection e))).trans (e1.heap h.1)
  have hnew := heap_alloc_new w (.cells #[.int .u32 a, .int .i64 i] 73)
  have hn2 : w2.heap[w.heap.size]? = _ := (hg2.block w.heap.size (by simp) (fun e => by injection e; omega)).trans hnew
  have d1 := cell_of_row w2 w.heap.size 1 _ _ _ hn2
  simp at d1
  have c2' := cell_of_row _ tb 2 _ _ _ (e1.heap h.1)
  simp at c2'
  have HM : Hid (MuxI w2 tb mb most next (delL L x)) := Lib.hid ⟨hb2, hm2.tight, h.2.2.1, h.2.2.2.1.del x, h.2.2.2.2.1, h.2.2.2.2.2.1, h.2.2.2.2.2.2.1, by have := len_del_has h.2.1.2 hhas; have := h.2.2.2.2.2.2.2; omega⟩
  have HO := Lib.hid (Onm.grown (tb := tb) e1 hg2)
  have t1 : (a == a) = true := by simp
  clear h hb hhas hm2 hg2 hb2 hnew hn2 e1
  go_enter Try.func14, Try.ntmps14
  go_wp2_with (first | (at_delete; refine wpList_delete_run rfl (.tmp 31) (.tmp 32) _ _ rfl _ _ rfl rfl w2 hrun ?_) | fail)
  go_ret2
  exact ⟨rfl, HM.out, HO.out⟩

/-! string -/
/-- The calls that wait: their struct in block tb, their map in block mb. -/
def MuxS (w : World) (tb mb most : Nat) (next : Int) (L : List (Int × Value)) : Prop :=
  w.heap[tb]? = some (.cells #[.int .u32 next, .int .i64 (most : Int), .map (some mb)] 78 (0, 0)) ∧ MapL Try.prog w 22 .u32 mb L.length L ∧ ¬ tb = mb ∧ Vals IsS L ∧ 0 ≤ next ∧ next < 4294967296 ∧ most ≤ 16 ∧ L.length ≤ most
/-- All blocks but two are as they were. -/
theorem zeroS (w : World) : (zeroValue 80).run Try.prog w = .ok (.agg #[.int .u32 0, .string ByteArray.empty]) w := by kernel_rfl
section
variable {w w' : World} {tb mb most : Nat} {next : Int} {L : List (Int × Value)}
theorem MuxS.ext (h : MuxS w tb mb most next L) (he : Ext w w') : MuxS w' tb mb most next L := ⟨he.heap h.1, h.2.1.ext he, h.2.2⟩
theorem MuxS.lt (h : MuxS w tb mb most next L) : tb < w.heap.size ∧ mb < w.heap.size := ⟨(Array.getElem?_eq_some_iff.1 h.1).1, h.2.1.lt⟩
end
theorem mnewS_no (x n : Int) (w : World) (h : n < 1 ∨ 16 < n) :
    Calls Try.prog 26 #[.int .u32 x, .int .i64 n] w fun e w' => e = .returned (.tuple #[.pointer none, .int .i64 1]) ∧ w = w' := by
  rcases h with h | h
  · go_enter Try.func26, Try.ntmps26
    go_wp2
    go_ret2
    exact ⟨rfl, rfl⟩
  · have h' : ¬ n < 1 := by omega
    go_enter Try.func26, Try.ntmps26
    go_wp2
    go_ret2
    exact ⟨rfl, rfl⟩
def MNewS (w : World) (N : Nat) (x : Int) (e : Ending) (w' : World) : Prop := ∃ tb mb, e = .returned (.tuple #[.pointer (some ⟨tb, 0, none⟩), .int .i64 0]) ∧ MuxS w' tb mb N x [] ∧ w.heap.size ≤ tb ∧ w.heap.size ≤ mb ∧ Ext w w'
theorem mnewS_ok (x n : Int) (N : Nat) (hN : n = (N : Int)) (w : World) (h1 : 1 ≤ N) (h2 : N ≤ 16) (h0 : 0 ≤ x) (h3 : x < 4294967296) :
    Calls Try.prog 26 #[.int .u32 x, .int .i64 n] w (MNewS w N x) := by
  subst hN
  have hmm := @run_makeMap Try.prog
  have g1 : ¬ (N : Int) < 1 := by omega
  have g2 : ¬ (16 : Int) < (N : Int) := by omega
  go_enter Try.func26, Try.ntmps26
  go_wp2
  go_ret2
  have hm := MapL.made Try.prog w 22 .u32
  have hb := heap_alloc_new (w.alloc (.map #[] 0)) (.cells #[.int .u32 x, .int .i64 (N : Int), .map (some w.heap.size)] 78)
  exact ⟨w.heap.size + 1, w.heap.size, rfl, ⟨by simpa using hb, (hm.ext ((Ext.refl _).alloc _)), by omega, Vals.nil _, h0, h3, h2, by simp⟩, by omega, by omega, ((Ext.refl w).alloc _).alloc _⟩
theorem mlenS_any (tb mb most : Nat) (next : Int) (L : List (Int × Value)) (w : World) (h : MuxS w tb mb most next L) :
    Calls Try.prog 28 #[.pointer (some ⟨tb, 0, none⟩)] w fun e w' => e = .returned (.int .i64 (L.length : Int)) ∧ w = w' := by
  have c2 := cell_of_row w tb 2 _ _ _ h.1
  simp at c2
  have hl := h.2.1.len (t := 76) (e := 80) Try.underlying76 3
  have HM := Lib.hid h
  clear h
  go_enter Try.func28, Try.ntmps28
  go_wp2
  go_ret
  exact ⟨rfl, rfl⟩
theorem mhasS_any (tb mb most : Nat) (next : Int) (L : List (Int × Value)) (x : Int) (b : Bool) (hb : hasL L x = b) (hx0 : 0 ≤ x) (hx1 : x < 4294967296) (w : World) (h : MuxS w tb mb most next L) :
    Calls Try.prog 31 #[.pointer (some ⟨tb, 0, none⟩), .int .u32 x] w fun e w' => e = .returned (.bool b) ∧ Ext w w' := by
  have c2 := cell_of_row w tb 2 _ _ _ h.1
  simp at c2
  have hl := h.2.1.look (t := 76) (e := 80) Try.underlying22 Try.underlying76 (zeroS w) x (u32_wf hx0 hx1)
  obtain ⟨a, v, hv, ⟨s, rfl⟩, _⟩ := h.2.2.2.1.at_ x (.string ByteArray.empty) ⟨_, rfl⟩
  rw [hv, hb] at hl
  clear h hv hb
  go_enter Try.func31, Try.ntmps31
  go_wp2
  go_ret
  exact ⟨rfl, (Ext.refl w).alloc _⟩
end Go.Proofs.Ytallbmobjhfhpaa
