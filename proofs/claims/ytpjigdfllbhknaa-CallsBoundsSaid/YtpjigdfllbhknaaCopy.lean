/-
  make and copy over rows of the call's own: plain laws.
-/
import Derived.Test.YtpjigdfllbhknaaCom
import Derived.Laws.CopyOwn
import Derived.Laws.MakeOwn
namespace Go.Proofs.Ytpjigdfllbhknaa
open Go Go.RowKit
set_option linter.unusedVariables false
set_option linter.unusedSimpArgs false

section
variable {P : Program} {w : World}
/-- copy into a row of the call's own, from a place on. -/
theorem run_copy_at (base : Nat) (t ty e : TypeId) (ht : P.underlying t = some (.slice e)) (hsz : (P.info? e).map (·.size) = some 1)
    (g n cap : Nat) (xs : List Value) (hown : w.ownsRow base e 1 (.slice (some ⟨g, 0, none⟩) n cap) n xs) (off : Nat) (hoff : off ≤ n) (dp : Option Addr) (dcap : Nat) (hdp : off < n → dp = some ⟨g, off, none⟩)
    (A : Option Addr) (m c : Nat) (ys : List Value) (hs : Sees w A m c ys) (h1 : ∀ u ∈ ys, u.oneCell' = true) :
    ∃ w', (Builtin.copy_ #[t, t] ty #[.slice dp (n - off) dcap, .slice A m c]).run P w = .ok (goInt (Nat.min m (n - off))) w' ∧
      w'.ownsRow base e 1 (.slice (some ⟨g, 0, none⟩) n cap) n (xs.take off ++ ys.take (n - off) ++ xs.drop (off + m)) ∧ w.grownBy w' (some g) := by
  have hxl : xs.length = n := by simpa using hown.1
  by_cases h0 : Nat.min m (n - off) = 0
  · refine ⟨w, by rw [h0]; exact run_copy_none (P := P) w t t ty e dp A (n - off) dcap m c ht hsz h0, ?_, ⟨rfl, rfl, rfl, Nat.le_refl _, fun _ _ _ => rfl⟩⟩
    have e1 : xs.take off ++ ys.take (n - off) ++ xs.drop (off + m) = xs := by
      rcases Nat.eq_zero_or_pos m with hm | hm
      · subst hm
        obtain rfl : ys = [] := List.eq_nil_of_length_eq_zero hs.1
        simp
      · have hno : n - off = 0 := by
          have : min m (n - off) = 0 := h0
          omega
        rw [hno, List.take_zero, List.append_nil, List.drop_eq_nil_of_le (by omega), List.append_nil, List.take_of_length_le (by omega)]
    rw [e1]
    exact hown
  · have hmin : 0 < min m (n - off) := Nat.pos_of_ne_zero h0
    obtain ⟨b, o, hA, hc⟩ := hs.2.2.2.2 (by omega)
    subst hA
    have hdp' := hdp (by omega)
    subst hdp'
    rcases hown.2 with ⟨h', _⟩ | ⟨g', cap', cur, h', hb, hg, hnc, hcm, hcs, htake⟩
    · simp at h'
    · simp only [Value.slice.injEq, Option.some.injEq, Addr.mk.injEq, and_true, true_and] at h'
      obtain ⟨rfl, rfl⟩ := h'
      have hcl : (ys.take (n - off)).length = Nat.min m (n - off) := by rw [List.length_take, hs.1]; exact Nat.min_comm _ _
      have hmin2 : Nat.min m (n - off) = min m (n - off) := rfl
      have hcz : cur.size = cap := by simpa using hcs
      have hr := run_copy_row (P := P) w t t ty e g off (n - off) dcap ⟨b, o, none⟩ m c cur e (ys.take (n - off)) ht hsz hg hcl
        (fun j v hj => by
          rw [addr_add]
          rw [List.getElem?_take] at hj
          split at hj
          · exact hc j v hj
          · cases hj)
        (by rw [hcl, hmin2, hcz]; omega) (fun v hv => h1 v (List.mem_of_mem_take hv))
      rw [hcl] at hr
      refine ⟨_, hr, ⟨?_, .inr ⟨g, cap, _, rfl, hb, setRow_heap w g cur _ e _ hg, hnc, hcm, ?_, ?_⟩⟩, ⟨rfl, rfl, rfl, by simp [World.setRow], fun k _ hk => setRow_other w g k _ (fun e => hk (by rw [e]))⟩⟩
      · simp only [List.length_append, List.length_take, List.length_drop, hxl, hs.1]
        omega
      · simp only [List.size_toArray, List.length_append, List.length_take, List.length_drop, Array.length_toList, hs.1, hmin2]
        omega
      · have e2 : xs.take off = cur.toList.take off := by
          rw [← htake, List.take_take, Nat.min_eq_left (by omega)]
        have e3 : ∀ k, xs.drop k = (cur.toList.drop k).take (n - k) := fun k => by
          rw [← htake, List.drop_take, Nat.mul_one]
        have e4 : (cur.toList.take off).length = off := by rw [List.length_take, Array.length_toList]; omega
        have hmm : (ys.take (n - off)).length = min m (n - off) := hcl
        have l1 : (cur.toList.take off ++ ys.take (n - off)).length = off + min m (n - off) := by rw [List.length_append, e4, hmm]
        rw [e2, e3, hmin2, Nat.mul_one, List.take_append, List.take_of_length_le (by rw [l1]; omega), l1]
        congr 1
        by_cases hm : m ≤ n - off
        · rw [Nat.min_eq_left hm]
        · rw [show n - (off + m) = 0 from by omega, show n - (off + min m (n - off)) = 0 from by omega, List.take_zero, List.take_zero]

theorem wpList_copy_run {ops : Array Oper} {rest : List Oper} {o : Oper} {a : Act} {Q : Exit → Act → World → Prop} (hgd : o.guard = none) (d s : Operand) (t : TypeId)
    (ho : o.op = .call { callee := .builtin .copy, args := #[d, s], argTypes := #[t, t] }) (v u : Value) (hd : a.eval d = v) (hs : a.eval s = u) (r : Value) (w' : World)
    (hrun : (Builtin.copy_ #[t, t] o.type #[v, u]).run P w = .ok r w') (h : wpList P ops Q rest (a.put o.dst r) w') : wpList P ops Q (o :: rest) a w := by
  refine wpList_plain hgd fun K hK => ?_
  unfold Oper.wp
  simp [execOp, ho, resolve, invoke, builtin, hd, hs, hrun, Result.andThen]
  exact hK _ _ h
end

/-- make([]byte, n, c). -/
theorem make_bytes (n c : Nat) (hnc : n ≤ c) (hc : c ≤ 4194304) (w : World) :
    (Instr.makeSlice 24 (.int .i64 (n : Int)) (.int .i64 (c : Int))).run Try.prog w = .ok (.slice (some ⟨w.heap.size, 0, none⟩) n c) (w.alloc (.cells (madeCells #[.int .u8 0] c) 5)) := by
  obtain ⟨i0, hi, hz0, hz1, hz2⟩ := info_parts infoB
  have h := run_make (P := Try.prog) w 24 5 i0 _ Try.underlying24 hi hz0 .i64 .i64 (n : Int) (c : Int) (by omega) (by omega) (by rw [hz2]; omega) (by omega)
  rw [hz1] at h
  simpa [Value.cells] using h
theorem own_made (w : World) (base n c : Nat) (hb : base ≤ w.heap.size) (hnc : n ≤ c) (hc : c ≤ 4194304) :
    (w.alloc (.cells (madeCells #[.int .u8 0] c) 5)).ownsRow base 5 1 (.slice (some ⟨w.heap.size, 0, none⟩) n c) n (bs (zeros n)) := by
  refine ⟨by simp [bs, zeros], .inr ⟨w.heap.size, c, _, rfl, hb, heap_alloc_new w _, hnc, by unfold maxLen; omega, by rw [size_madeCells, Nat.mul_one], ?_⟩⟩
  rw [toList_madeCells_one, Nat.mul_one, List.take_replicate, Nat.min_eq_left hnc]
  simp [bs, zeros]
theorem infoSz : (Try.prog.info? 5).map (·.size) = some 1 := by kernel_rfl
end Go.Proofs.Ytpjigdfllbhknaa
