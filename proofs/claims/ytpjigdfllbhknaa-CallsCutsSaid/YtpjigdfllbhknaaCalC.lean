/-
  Layer 14: the fields of a procedure; a frame that is passed through by the hand that looks.
-/
import Derived.Test.YtpjigdfllbhknaaCalB
import Derived.Test.YtpjigdfllbhknaaMapA
namespace Go.Proofs.Ytpjigdfllbhknaa
open Go Go.RowKit
set_option linter.unusedVariables false
set_option linter.unusedSimpArgs false
def fl (k : Int) : List Nat :=
  if k = 1 then [0] else if k = 2 then [0, 6] else if k = 3 then [0, 2] else if k = 12 then [0, 2] else if k = 13 then [0, 2] else if k = 6 then [0, 4, 5] else if k = 16 then [0, 4, 5] else if k = 7 then [0, 4, 8] else if k = 8 then [0, 2, 7] else if k = 9 then [0, 2, 7] else if k = 14 then [0, 2, 1, 3] else []
def fv (l : List Nat) : List Value := l.map fun (f : Nat) => Value.int .i64 ((f : Nat) : Int)
theorem fields_1 (w : World) : Calls Try.prog 51 #[.int .i64 1] w fun e w' => ∃ A, e = .returned (.slice A 1 1) ∧ Sees w' A 1 1 (fv [0]) ∧ Ext w w' ∧ ∀ ad, A = some ad → w.heap.size ≤ ad.block := by
  go_enter Try.func51, Try.ntmps51
  go_wp2
  go_ret
  exact ⟨_, rfl, sees_new w 84 #[.int .i64 0] (by unfold maxLen; simp), (Ext.refl w).alloc _, fun ad h => by injection h with h; rw [← h]; exact Nat.le_refl _⟩
theorem fields_2 (w : World) : Calls Try.prog 51 #[.int .i64 2] w fun e w' => ∃ A, e = .returned (.slice A 2 2) ∧ Sees w' A 2 2 (fv [0, 6]) ∧ Ext w w' ∧ ∀ ad, A = some ad → w.heap.size ≤ ad.block := by
  go_enter Try.func51, Try.ntmps51
  go_wp2
  go_ret
  exact ⟨_, rfl, sees_new w 84 #[.int .i64 0, .int .i64 6] (by unfold maxLen; simp), (Ext.refl w).alloc _, fun ad h => by injection h with h; rw [← h]; exact Nat.le_refl _⟩
theorem fields_3 (w : World) : Calls Try.prog 51 #[.int .i64 3] w fun e w' => ∃ A, e = .returned (.slice A 2 2) ∧ Sees w' A 2 2 (fv [0, 2]) ∧ Ext w w' ∧ ∀ ad, A = some ad → w.heap.size ≤ ad.block := by
  go_enter Try.func51, Try.ntmps51
  go_wp2
  go_ret
  exact ⟨_, rfl, sees_new w 84 #[.int .i64 0, .int .i64 2] (by unfold maxLen; simp), (Ext.refl w).alloc _, fun ad h => by injection h with h; rw [← h]; exact Nat.le_refl _⟩
theorem fields_12 (w : World) : Calls Try.prog 51 #[.int .i64 12] w fun e w' => ∃ A, e = .returned (.slice A 2 2) ∧ Sees w' A 2 2 (fv [0, 2]) ∧ Ext w w' ∧ ∀ ad, A = some ad → w.heap.size ≤ ad.block := by
  go_enter Try.func51, Try.ntmps51
  go_wp2
  go_ret
  exact ⟨_, rfl, sees_new w 84 #[.int .i64 0, .int .i64 2] (by unfold maxLen; simp), (Ext.refl w).alloc _, fun ad h => by injection h with h; rw [← h]; exact Nat.le_refl _⟩
theorem fields_13 (w : World) : Calls Try.prog 51 #[.int .i64 13] w fun e w' => ∃ A, e = .returned (.slice A 2 2) ∧ Sees w' A 2 2 (fv [0, 2]) ∧ Ext w w' ∧ ∀ ad, A = some ad → w.heap.size ≤ ad.block := by
  go_enter Try.func51, Try.ntmps51
  go_wp2
  go_ret
  exact ⟨_, rfl, sees_new w 84 #[.int .i64 0, .int .i64 2] (by unfold maxLen; simp), (Ext.refl w).alloc _, fun ad h => by injection h with h; rw [← h]; exact Nat.le_refl _⟩
theorem fields_6 (w : World) : Calls Try.prog 51 #[.int .i64 6] w fun e w' => ∃ A, e = .returned (.slice A 3 3) ∧ Sees w' A 3 3 (fv [0, 4, 5]) ∧ Ext w w' ∧ ∀ ad, A = some ad → w.heap.size ≤ ad.block := by
  go_enter Try.func51, Try.ntmps51
  go_wp2
  go_ret
  exact ⟨_, rfl, sees_new w 84 #[.int .i64 0, .int .i64 4, .int .i64 5] (by unfold maxLen; simp), (Ext.refl w).alloc _, fun ad h => by injection h with h; rw [← h]; exact Nat.le_refl _⟩
theorem fields_16 (w : World) : Calls Try.prog 51 #[.int .i64 16] w fun e w' => ∃ A, e = .returned (.slice A 3 3) ∧ Sees w' A 3 3 (fv [0, 4, 5]) ∧ Ext w w' ∧ ∀ ad, A = some ad → w.heap.size ≤ ad.block := by
  go_enter Try.func51, Try.ntmps51
  go_wp2
  go_ret
  exact ⟨_, rfl, sees_new w 84 #[.int .i64 0, .int .i64 4, .int .i64 5] (by unfold maxLen; simp), (Ext.refl w).alloc _, fun ad h => by injection h with h; rw [← h]; exact Nat.le_refl _⟩
theorem fields_7 (w : World) : Calls Try.prog 51 #[.int .i64 7] w fun e w' => ∃ A, e = .returned (.slice A 3 3) ∧ Sees w' A 3 3 (fv [0, 4, 8]) ∧ Ext w w' ∧ ∀ ad, A = some ad → w.heap.size ≤ ad.block := by
  go_enter Try.func51, Try.ntmps51
  go_wp2
  go_ret
  exact ⟨_, rfl, sees_new w 84 #[.int .i64 0, .int .i64 4, .int .i64 8] (by unfold maxLen; simp), (Ext.refl w).alloc _, fun ad h => by injection h with h; rw [← h]; exact Nat.le_refl _⟩
theorem fields_8 (w : World) : Calls Try.prog 51 #[.int .i64 8] w fun e w' => ∃ A, e = .returned (.slice A 3 3) ∧ Sees w' A 3 3 (fv [0, 2, 7]) ∧ Ext w w' ∧ ∀ ad, A = some ad → w.heap.size ≤ ad.block := by
  go_enter Try.func51, Try.ntmps51
  go_wp2
  go_ret
  exact ⟨_, rfl, sees_new w 84 #[.int .i64 0, .int .i64 2, .int .i64 7] (by unfold maxLen; simp), (Ext.refl w).alloc _, fun ad h => by injection h with h; rw [← h]; exact Nat.le_refl _⟩
theorem fields_9 (w : World) : Calls Try.prog 51 #[.int .i64 9] w fun e w' => ∃ A, e = .returned (.slice A 3 3) ∧ Sees w' A 3 3 (fv [0, 2, 7]) ∧ Ext w w' ∧ ∀ ad, A = some ad → w.heap.size ≤ ad.block := by
  go_enter Try.func51, Try.ntmps51
  go_wp2
  go_ret
  exact ⟨_, rfl, sees_new w 84 #[.int .i64 0, .int .i64 2, .int .i64 7] (by unfold maxLen; simp), (Ext.refl w).alloc _, fun ad h => by injection h with h; rw [← h]; exact Nat.le_refl _⟩
theorem fields_14 (w : World) : Calls Try.prog 51 #[.int .i64 14] w fun e w' => ∃ A, e = .returned (.slice A 4 4) ∧ Sees w' A 4 4 (fv [0, 2, 1, 3]) ∧ Ext w w' ∧ ∀ ad, A = some ad → w.heap.size ≤ ad.block := by
  go_enter Try.func51, Try.ntmps51
  go_wp2
  go_ret
  exact ⟨_, rfl, sees_new w 84 #[.int .i64 0, .int .i64 2, .int .i64 1, .int .i64 3] (by unfold maxLen; simp), (Ext.refl w).alloc _, fun ad h => by injection h with h; rw [← h]; exact Nat.le_refl _⟩
theorem fields_no (k : Int) (w : World) (n1 : ¬ k = 1) (n2 : ¬ k = 2) (n3 : ¬ k = 3) (n12 : ¬ k = 12) (n13 : ¬ k = 13) (n6 : ¬ k = 6) (n16 : ¬ k = 16) (n7 : ¬ k = 7) (n8 : ¬ k = 8) (n9 : ¬ k = 9) (n14 : ¬ k = 14) : Calls Try.prog 51 #[.int .i64 k] w fun e w' => e = .returned (.slice none 0 0) ∧ w = w' := by
  go_enter Try.func51, Try.ntmps51
  go_wp2
  go_ret
  exact ⟨rfl, rfl⟩
theorem fields_any (k : Int) (w : World) : Calls Try.prog 51 #[.int .i64 k] w fun e w' => ∃ A, e = .returned (.slice A (fl k).length (fl k).length) ∧ Sees w' A (fl k).length (fl k).length (fv (fl k)) ∧ Ext w w' ∧ ∀ ad, A = some ad → w.heap.size ≤ ad.block := by
  by_cases h1 : k = 1
  · subst h1; exact fields_1 w
  by_cases h2 : k = 2
  · subst h2; exact fields_2 w
  by_cases h3 : k = 3
  · subst h3; exact fields_3 w
  by_cases h12 : k = 12
  · subst h12; exact fields_12 w
  by_cases h13 : k = 13
  · subst h13; exact fields_13 w
  by_cases h6 : k = 6
  · subst h6; exact fields_6 w
  by_cases h16 : k = 16
  · subst h16; exact fields_16 w
  by_cases h7 : k = 7
  · subst h7; exact fields_7 w
  by_cases h8 : k = 8
  · subst h8; exact fields_8 w
  by_cases h9 : k = 9
  · subst h9; exact fields_9 w
  by_cases h14 : k = 14
  · subst h14; exact fields_14 w
  have e1 : fl k = [] := by simp only [fl, h1, h2, h3, h12, h13, h6, h16, h7, h8, h9, h14, if_false]
  rw [e1]
  refine (fields_no k w h1 h2 h3 h12 h13 h6 h16 h7 h8 h9 h14).mono ?_
  rintro e w1 ⟨rfl, rfl⟩
  exact ⟨none, rfl, Sees.nil w, Ext.refl w, fun _ h => by cases h⟩
theorem fl_le (k : Int) : (fl k).length ≤ 4 ∧ ∀ f ∈ fl k, f ≤ 8 := by
  by_cases h1 : k = 1
  · subst h1; exact ⟨by decide, by decide⟩
  by_cases h2 : k = 2
  · subst h2; exact ⟨by decide, by decide⟩
  by_cases h3 : k = 3
  · subst h3; exact ⟨by decide, by decide⟩
  by_cases h12 : k = 12
  · subst h12; exact ⟨by decide, by decide⟩
  by_cases h13 : k = 13
  · subst h13; exact ⟨by decide, by decide⟩
  by_cases h6 : k = 6
  · subst h6; exact ⟨by decide, by decide⟩
  by_cases h16 : k = 16
  · subst h16; exact ⟨by decide, by decide⟩
  by_cases h7 : k = 7
  · subst h7; exact ⟨by decide, by decide⟩
  by_cases h8 : k = 8
  · subst h8; exact ⟨by decide, by decide⟩
  by_cases h9 : k = 9
  · subst h9; exact ⟨by decide, by decide⟩
  by_cases h14 : k = 14
  · subst h14; exact ⟨by decide, by decide⟩
  have e1 : fl k = [] := by simp only [fl, h1, h2, h3, h12, h13, h6, h16, h7, h8, h9, h14, if_false]
  rw [e1]
  exact ⟨by decide, by decide⟩
theorem fv_get (l : List Nat) (k : Nat) (u : Value) (h : (fv l)[k]? = some u) : ∃ f, l[k]? = some f ∧ u = .int .i64 ((f : Nat) : Int) := by
  simp only [fv, List.getElem?_map, Option.map_eq_some_iff] at h
  obtain ⟨f, h1, h2⟩ := h
  exact ⟨f, h1, h2.symm⟩
def stA (p : AR × Bool) (f : Nat) : AR × Bool := (woA p.1 f, bnA p.1 p.2 f)
def psA (p : AR × Bool) (l : List Nat) : AR × Bool := l.foldl stA p
theorem psA_take (p : AR × Bool) (l : List Nat) (k f : Nat) (h : l[k]? = some f) : psA p (l.take (k + 1)) = stA (psA p (l.take k)) f := by
  rw [psA, List.take_add_one, h]
  simp [psA]
theorem wpList_ins {P : Program} {w : World} {ops : Array Oper} {rest : List Oper} {o : Oper} {a : Act} {Q : Exit → Act → World → Prop} (hgd : o.guard = none) (m k x : Operand) (t : TypeId)
    (ho : o.op = .insert t m k x) (mv kv xv : Value) (hm : a.eval m = mv) (hk : a.eval k = kv) (hx : a.eval x = xv) (w' : World)
    (hrun : (Instr.mapUpdate t mv kv xv).run P w = .ok () w') (h : wpList P ops Q rest (a.put o.dst undef) w') : wpList P ops Q (o :: rest) a w := by
  refine wpList_plain hgd fun K hK => ?_
  unfold Oper.wp
  simp [execOp, ho, hm, hk, hx, hrun, Result.andThen]
  exact hK _ _ h
theorem MapL.look1 {P : Program} {w : World} {k t e : TypeId} {q : IntKind} {b n : Nat} {L : List (Int × Value)} (h : MapL P w k q b n L) (hk : P.underlying k = some (.int q)) (ht : P.underlying t = some (.map k e)) {z : Value} (hz : (zeroValue e).run P w = .ok z w) (x : Int) (hx : (Lit.int q x).wf = true) :
    (Instr.lookup t (.map (some b)) (.int q x) false).run P w = .ok ((lkL L x).getD z) w := by
  obtain ⟨v, ps, hrun, hv⟩ := h.1.lookup (Maps.int_keyed hk) ht hz (zd := .held z) (zp := []) rfl (Maps.keyOf_int_mk hk hx)
  rw [enM_at] at hv
  injection hv with hv
  injection hv with hv _
  injection hv with hv
  rw [hrun, hv]
def clos (fb : Nat) : List (Int × Value) := [(0, (.func (.func 42) #[.pointer (some ⟨fb, 0, none⟩)] #[])), (1, (.func (.func 43) #[.pointer (some ⟨fb, 0, none⟩)] #[])), (2, (.func (.func 44) #[.pointer (some ⟨fb, 0, none⟩)] #[])), (3, (.func (.func 45) #[.pointer (some ⟨fb, 0, none⟩)] #[])), (4, (.func (.func 46) #[.pointer (some ⟨fb, 0, none⟩)] #[])), (5, (.func (.func 47) #[.pointer (some ⟨fb, 0, none⟩)] #[])), (6, (.func (.func 48) #[.pointer (some ⟨fb, 0, none⟩)] #[])), (7, (.func (.func 49) #[.pointer (some ⟨fb, 0, none⟩)] #[])), (8, (.func (.func 50) #[.pointer (some ⟨fb, 0, none⟩)] #[]))]
end Go.Proofs.Ytpjigdfllbhknaa
