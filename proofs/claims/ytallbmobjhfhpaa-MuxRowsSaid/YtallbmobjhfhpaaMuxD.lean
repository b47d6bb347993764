/-
  Layer 7: calls one behind the other: plain words.
-/
import Derived.Test.YtallbmobjhfhpaaMuxC
namespace Go.Proofs.Ytallbmobjhfhpaa
open Go Go.RowKit
set_option linter.unusedVariables false
set_option linter.unusedSimpArgs false
/-- So many calls, from a number on. -/
def Lq (x p : Int) : Nat → List (Int × Value)
  | 0 => []
  | i + 1 => putL (Lq x p i) (nxt x i) (.agg #[.int .u32 p, .int .i64 (i : Int)])
theorem Lq_no (x p y : Int) : ∀ i, (∀ j, j < i → ¬ y = nxt x j) → hasL (Lq x p i) y = false
  | 0, _ => rfl
  | i + 1, h => by
    unfold Lq
    rw [has_put_other _ _ _ _ (h i (by omega))]
    exact Lq_no x p y i fun j hj => h j (by omega)
theorem Lq_has (x p : Int) (j : Nat) : ∀ i, j < i → i < 4294967296 → hasL (Lq x p i) (nxt x j) = true
  | 0, h, _ => absurd h (by omega)
  | i + 1, h, h2 => by
    unfold Lq
    by_cases hj : j = i
    · subst hj
      exact has_put_same _ _ _
    · rw [has_put_other _ _ _ _ (fun e => nxt_ne x j i (by omega) (by omega) e.symm)]
      exact Lq_has x p j i (by omega) (by omega)
theorem Lq_free (x p : Int) (i : Nat) (h : i < 4294967296) : hasL (Lq x p i) (nxt x i) = false := Lq_no x p _ i fun j hj => nxt_ne x j i hj h
theorem Lq_len (x p : Int) : ∀ i, i < 4294967296 → (Lq x p i).length = i
  | 0, _ => rfl
  | i + 1, h => by
    unfold Lq
    rw [len_put_new _ (Lq_free x p i (by omega)), Lq_len x p i (by omega)]
theorem Lq_ris (x p : Int) : ∀ i, RisL (Lq x p i)
  | 0 => ris_nil
  | i + 1 => ris_put (Lq_ris x p i) _ _
theorem wrap_u32 (a : Int) : IntKind.u32.wrap a = a % 4294967296 := by unfold IntKind.wrap; rfl
theorem wrap_nxt (x : Int) (i : Nat) : IntKind.u32.wrap (x + (i : Int)) = nxt x i := wrap_u32 _
/-- Back by some, not behind the beginning. -/
theorem back_le (x : Int) (n k i : Nat) (h : k ≤ n) : nxt (IntKind.u32.wrap (nxt x n - (k : Int))) i = nxt x (n - k + i) := by
  rw [wrap_u32]
  unfold nxt
  omega
theorem back_gt (x : Int) (n k j : Nat) (h : n < k) (hk : k ≤ 1000) (hj : j < n) : ¬ IntKind.u32.wrap (nxt x n - (k : Int)) = nxt x j := by
  rw [wrap_u32]
  unfold nxt
  omega
theorem wrap_bound (a : Int) : 0 ≤ IntKind.u32.wrap a ∧ IntKind.u32.wrap a < 4294967296 := by
  rw [wrap_u32]
  omega
/-- A call put, and matched: as many as before. -/
theorem put_del_len {L : List (Int × Value)} (h : RisL L) (k : Int) (v : Value) (hn : hasL L k = false) : (delL (putL L k v) k).length = L.length := by
  have h1 := len_put_new v hn
  have h2 := len_del_has (ris_put h k v) (has_put_same L k v)
  omega
end Go.Proofs.Ytallbmobjhfhpaa
