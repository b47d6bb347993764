/-
  Structs that lie in a block beside others: read and written as a whole.
-/
import Derived.Test.YtihiclnbbpablaaCom00
import Derived.Laws.Tables
import Derived.Laws.ResultCell
namespace Go.Proofs.Ytihiclnbbpablaa
open Go Go.RowKit
set_option linter.unusedVariables false
set_option linter.unusedSimpArgs false
section
variable {P : Program} {w : World}
theorem run_load_sub (g off : Nat) (t ty : TypeId) (cur xs : Array Value) (fr : Nat × Nat) (d : TypeDesc) (hg : w.heap[g]? = some (.cells cur t fr)) (hx : ∀ j v, xs[j]? = some v → cur[off + j]? = some v)
    (hu : P.underlying ty = some d) (hd : (match d with | .struct _ | .array _ _ => true | _ => false) = true) (hi : (P.info? ty).map (·.size) = some xs.size) :
    (loadVar ty ⟨g, off, none⟩).run P w = .ok (.agg xs) w := by
  have hl : (loadCells ⟨g, off, none⟩ xs.toList.length).run P w = .ok xs.toList.toArray w :=
    run_loadCells_list (P := P) w ⟨g, off, none⟩ xs.toList (fun j v hv => by
      rw [addr_add, cell_of_row w g (off + j) cur t fr hg]
      exact hx j v (by simpa using hv))
  cases hq : P.info? ty with
  | none => simp [hq] at hi
  | some i =>
    have hs : i.size = xs.size := by simpa [hq] using hi
    have hagg : (isAgg ty).run P w = .ok true w := by
      unfold isAgg
      rw [Sem.run_bind, run_underlying hu w]
      cases d <;> simp_all
    simp only [Array.length_toList, Array.toArray_toList] at hl
    simp [loadVar, Sem.run_bind, hagg, sizeOf, typeInfo, hq, hs, hl]
theorem wpList_load_sub {ops : Array Oper} {rest : List Oper} {o : Oper} {a : Act} {Q : Exit → Act → World → Prop} (hw : Region.wanted o (yielded ops a.tmps) = true) (ty : TypeId) (x : Operand) (ho : o.op = .load ty x)
    (g off : Nat) (hx : a.eval x = .pointer (some ⟨g, off, none⟩)) (t : TypeId) (cur xs : Array Value) (fr : Nat × Nat) (d : TypeDesc) (hg : w.heap[g]? = some (.cells cur t fr)) (hxs : ∀ j v, xs[j]? = some v → cur[off + j]? = some v)
    (hu : P.underlying ty = some d) (hd : (match d with | .struct _ | .array _ _ => true | _ => false) = true) (hi : (P.info? ty).map (·.size) = some xs.size)
    (h : wpList P ops Q rest (a.put o.dst (.agg xs)) w) : wpList P ops Q (o :: rest) a w := by
  simp only [wpList, hw, if_true]
  refine .inl ?_
  unfold Oper.wp execOp
  simp only [ho, hx, Instr.loadAt, Instr.sureAddr, Sem.run_bind, Sem.run_pure, Result.andThen_ok, run_load_sub g off t ty cur xs fr d hg hxs hu hd hi]
  exact h
theorem run_storeCells_sub (g off : Nat) (t : TypeId) : ∀ (vs : List Value) (i : Nat) (cur : Array Value) (w : World), w.heap[g]? = some (.cells cur t (0, 0)) → off + i + vs.length ≤ cur.size → (∀ v ∈ vs, v.oneCell' = true) →
    (storeCells ⟨g, off, none⟩ vs i).run P w = .ok () (w.setRow g (cur.toList.take (off + i) ++ vs ++ cur.toList.drop (off + i + vs.length)).toArray)
  | [], i, cur, w, hg, hl, _ => by
    have hlt : g < w.heap.size := (Array.getElem?_eq_some_iff.1 hg).1
    have hv : w.heap[g] = .cells cur t (0, 0) := (Array.getElem?_eq_some_iff.1 hg).2
    simp only [storeCells, List.append_nil, List.length_nil, Nat.add_zero, List.take_append_drop, Array.toArray_toList]
    show Result.ok () w = _
    congr 1
    unfold World.setRow
    cases w with
    | mk heap tape drawn os output =>
      congr 1
      apply Array.ext
      · simp
      · intro k h1 h2
        simp only [Array.getElem_modify]
        split
        · rename_i hk; subst hk; simp at hv; simp [hv]
        · rfl
  | v :: rest, i, cur, w, hg, hl, h1 => by
    have hi : off + i < cur.size := by simp at hl; omega
    have hcell : w.cell? ⟨g, off + i, none⟩ = some cur[off + i] := by simp [World.cell?, hg, hi]
    have hfro : w.frozen? ⟨g, off + i, none⟩ = false := by simp [World.frozen?, hg]
    have hst : (store ((⟨g, off, none⟩ : Addr).add i) v).run P w = .ok () (w.setRow g (cur.setIfInBounds (off + i) v)) := by
      rw [addr_add, run_store P w _ v _ (h1 v (by simp)), hcell]
      simp [hfro, setCell_eq_setRow w g (off + i) cur t (0, 0) v hg]
    have ih := run_storeCells_sub g off t rest (i + 1) (cur.setIfInBounds (off + i) v) (w.setRow g (cur.setIfInBounds (off + i) v)) (setRow_heap w g cur _ t _ hg) (by simp at hl ⊢; omega) (fun x hx => h1 x (by simp [hx]))
    simp only [storeCells, Sem.run_bind, hst, Result.andThen_ok, ih, setRow_setRow]
    congr 3
    apply List.ext_getElem?
    intro k
    have hsz : cur.toList.length = cur.size := Array.length_toList
    have hll : off + i + (rest.length + 1) ≤ cur.size := by simpa using hl
    simp only [Array.toList_setIfInBounds, List.getElem?_append, List.length_append, List.length_take, List.length_set, List.getElem?_drop, List.getElem?_take, List.length_cons, hsz, List.getElem?_set]
    by_cases hk : k < off + i
    · simp [hk, show k < off + (i + 1) from by omega, show k < cur.size from by omega, show off + i ≠ k from by omega, show min (off + i) cur.size = off + i from by omega, show min (off + (i + 1)) cur.size = off + (i + 1) from by omega]
      try simp [show k < off + (i + 1) + rest.length from by omega, show k < off + i + (rest.length + 1) from by omega]
    · by_cases hk2 : k = off + i
      · subst hk2
        simp [show min (off + (i + 1)) cur.size = off + (i + 1) from by omega, show min (off + i) cur.size = off + i from by omega, hi, show off + i < off + (i + 1) from by omega]
        intro h
        exact absurd h (by omega)
      · by_cases hk3 : k < off + i + (rest.length + 1)
        · simp [show min (off + (i + 1)) cur.size = off + (i + 1) from by omega, show min (off + i) cur.size = off + i from by omega, hk, hk3, show ¬ k < off + (i + 1) from by omega, show k < off + (i + 1) + rest.length from by omega, show k - (off + i) = (k - (off + (i + 1))) + 1 from by omega]
        · simp [show min (off + (i + 1)) cur.size = off + (i + 1) from by omega, show min (off + i) cur.size = off + i from by omega, hk, hk3, show ¬ k < off + (i + 1) from by omega, show ¬ k < off + (i + 1) + rest.length from by omega, show off + (i + 1) + rest.length + (k - (off + (i + 1) + rest.length)) = k from by omega, show off + i + (rest.length + 1) + (k - (off + i + (rest.length + 1))) = k from by omega, show off + i ≠ k from by omega]
theorem exec_store_sub {o : Oper} {a : Act} (ty : TypeId) (x y : Operand) (ho : o.op = .store ty x y)
    (g off : Nat) (vs cur new : Array Value) (hx : a.eval x = .pointer (some ⟨g, off, none⟩)) (hy : a.eval y = .agg vs)
    (t : TypeId) (hg : w.heap[g]? = some (.cells cur t (0, 0))) (hi : (P.info? ty).map (·.size) = some vs.size)
    (hl : off + vs.size ≤ cur.size) (h1 : vs.all (·.oneCell') = true) (hn : (cur.toList.take off ++ vs.toList ++ cur.toList.drop (off + vs.size)).toArray = new) : (execOp a.eval o).run P w = .ok .skip (w.setRow g new) := by
  subst hn
  have := run_storeCells_sub (P := P) g off t vs.toList 0 cur w hg (by simpa using hl) (fun v hv => (Array.all_eq_true_iff_forall_mem.1 h1) v (by simpa using hv))
  simp only [Nat.add_zero, Array.length_toList] at this
  have hs : (storeVar ty ⟨g, off, none⟩ (.agg vs)).run P w = .ok () (w.setRow g (cur.toList.take off ++ vs.toList ++ cur.toList.drop (off + vs.size)).toArray) := by
    cases hq : P.info? ty with
    | none => simp [hq] at hi
    | some i =>
      have hs : vs.size = i.size := by simp [hq] at hi; omega
      rw [hs] at this ⊢
      simp [storeVar, sizeOf, typeInfo, hq, Value.cells, hs, this]
  unfold execOp
  simp only [ho, hx, hy, Instr.storeAt, Instr.sureAddr, Sem.run_bind, Sem.run_pure, Result.andThen_ok, hs]
end
end Go.Proofs.Ytihiclnbbpablaa
