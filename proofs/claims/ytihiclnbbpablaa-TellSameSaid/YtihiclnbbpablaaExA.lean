/-
  A call of append, alone; a row of bytes that the call makes, made longer.
-/
import Derived.Test.YtihiclnbbpablaaCom0
namespace Go.Proofs.Ytihiclnbbpablaa
open Go Go.RowKit
set_option linter.unusedVariables false
set_option linter.unusedSimpArgs false
theorem exec_app {P : Program} {w : World} {o : Oper} {a : Act} (s x : Operand) (t : TypeId)
    (ho : o.op = .call { callee := .builtin .append, args := #[s, x], argTypes := #[t, t] }) (v u : Value) (hs : a.eval s = v) (hx : a.eval x = u) (v' : Value) (w' : World)
    (hrun : (Builtin.append_ #[t, t] o.type #[v, u]).run P w = .ok v' w') : (execOp a.eval o).run P w = .ok (.value v') w' := by
  unfold execOp
  simp only [ho, resolve, invoke, builtin, Sem.run_bind, Sem.run_pure, Result.andThen_ok, List.map_toArray, List.map_cons, List.map_nil, hs, hx, hrun]
theorem push_bytes {a w : World} {n m c : Nat} {v : Value} {l r : List UInt8} {A : Option Addr} (hown : w.ownsRow a.heap.size 5 1 v n (bs l)) (hs : Sees w A m c (bs r)) (hn : n + m ≤ 1000000) (he : Ext a w) :
    ∃ v' w', (Builtin.append_ #[25, 25] 25 #[v, .slice A m c]).run Try.prog w = .ok v' w' ∧ w'.ownsRow a.heap.size 5 1 v' (n + m) (bs (l ++ r)) ∧ Ext a w' := by
  obtain ⟨i0, hi, hz0, hz1, hz2⟩ := info_parts infoB
  obtain ⟨v', w', hrun, hown', hg, hat⟩ := run_append_sees (P := Try.prog) a.heap.size 25 25 5 i0 _ 1 Try.underlying25 hi hz0 hz1 hz2 rfl v n _ hown
    A m c _ hs (bs_one _) (by unfold maxLen; omega) (by omega) he.size
  exact ⟨v', w', hrun, by rw [bs_append]; exact hown', he.grown hg fun k hk => (hown.lt k hk).1⟩
end Go.Proofs.Ytihiclnbbpablaa
