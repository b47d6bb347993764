/-
  Layer 18: a reply: its cells; which fields may be.
-/
import Derived.Test.YtihiclnbbpablaaIsTell
import Derived.Test.YtihiclnbbpablaaLitN
import Derived.Test.YtihiclnbbpablaaBytEq
import Derived.ScopeJumps
namespace Go.Proofs.Ytihiclnbbpablaa
open Go Go.RowKit
set_option linter.unusedVariables false
set_option linter.unusedSimpArgs false
/-- A qid's cells. -/
def qc (q : Bool × Int × Int) : List Value := [.bool q.1, .int .i64 q.2.1, .int .i64 q.2.2]
def SeesQ (w : World) (A : Option Addr) (n c : Nat) (l : List (Bool × Int × Int)) : Prop := l.length = n ∧ SeesK 3 w A n c (l.flatMap qc)
theorem SeesQ.ext {w w' : World} {A : Option Addr} {n c : Nat} {l : List (Bool × Int × Int)} (h : SeesQ w A n c l) (he : Ext w w') : SeesQ w' A n c l := ⟨h.1, h.2.ext he⟩
theorem SeesQ.nil (w : World) : SeesQ w none 0 0 [] := ⟨rfl, SeesK.nil 3 w⟩
theorem qcs_get : ∀ (l : List (Bool × Int × Int)) (i j : Nat) (q : Bool × Int × Int), l[i]? = some q → j < 3 → (l.flatMap qc)[3 * i + j]? = (qc q)[j]?
  | a :: l, 0, j, q, h, hj => by
    simp at h
    subst h
    rw [List.flatMap_cons, List.getElem?_append_left (by simp [qc]; omega)]
    simp
  | a :: l, i + 1, j, q, h, hj => by
    rw [List.flatMap_cons, List.getElem?_append_right (by simp [qc]; omega)]
    rw [show 3 * (i + 1) + j - (qc a).length = 3 * i + j from by simp [qc]; omega]
    exact qcs_get l i j q (by simpa using h) hj
theorem SeesQ.at_ {w : World} {A : Option Addr} {n c : Nat} {l : List (Bool × Int × Int)} (h : SeesQ w A n c l) (i : Nat) (hi : i < n) :
    ∃ b off q, A = some ⟨b, off, none⟩ ∧ l[i]? = some q ∧ w.cell? ⟨b, off + i * 3, none⟩ = some (.bool q.1) ∧ w.cell? ⟨b, off + i * 3 + 1, none⟩ = some (.int .i64 q.2.1) ∧ w.cell? ⟨b, off + i * 3 + 2, none⟩ = some (.int .i64 q.2.2) ∧ b < w.heap.size := by
  obtain ⟨h1, h2⟩ := h
  obtain ⟨b, off, e, hc⟩ := h2.2.2.2.2 (by omega)
  have hq : l[i]? = some l[i] := List.getElem?_eq_getElem (by omega)
  have q := fun j hj => qcs_get l i j _ hq hj
  have c0 := hc (3 * i + 0) (.bool l[i].1) (by rw [q 0 (by omega)]; rfl)
  have c1 := hc (3 * i + 1) (.int .i64 l[i].2.1) (by rw [q 1 (by omega)]; rfl)
  have c2 := hc (3 * i + 2) (.int .i64 l[i].2.2) (by rw [q 2 (by omega)]; rfl)
  rw [Nat.mul_comm 3 i] at c0 c1 c2
  exact ⟨b, off, l[i], e, hq, by simpa using c0, by rw [Nat.add_assoc]; exact c1, by rw [Nat.add_assoc]; exact c2, World.block_lt_of_cell? w _ c0⟩
/-- A reply. -/
structure TL where
  (ty tg cd ms io ct : Int)
  (nm : List UInt8)
  (q : Bool × Int × Int)
  (qA : Option Addr) (qn qk : Nat) (ql : List (Bool × Int × Int))
  (dA : Option Addr) (dn dk : Nat) (dl : List UInt8)
  (s : Bool × Int × Int)
  (sm sz : Int)
  (sn : List UInt8)
def TL.cs (t : TL) : Array Value := #[.int .i64 t.ty, .int .i64 t.tg, .int .i64 t.cd, .int .i64 t.ms, .int .i64 t.io, .int .i64 t.ct, .string ⟨t.nm.toArray⟩, .bool t.q.1, .int .i64 t.q.2.1, .int .i64 t.q.2.2, .slice t.qA t.qn t.qk, .slice t.dA t.dn t.dk, .bool t.s.1, .int .i64 t.s.2.1, .int .i64 t.s.2.2, .int .i64 t.sm, .int .i64 t.sz, .string ⟨t.sn.toArray⟩]
theorem TL.size (t : TL) : t.cs.size = 18 := rfl
/-- Its rows are there. -/
def TL.Ok (w : World) (t : TL) : Prop := SeesQ w t.qA t.qn t.qk t.ql ∧ Sees w t.dA t.dn t.dk (bs t.dl)
theorem TL.Ok.ext {w w' : World} {t : TL} (h : t.Ok w) (he : Ext w w') : t.Ok w' := ⟨h.1.ext he, h.2.ext he⟩
def bi (x m : Int) : Bool := decide (0 ≤ x) && decide (x ≤ m)
def bq (q : Bool × Int × Int) : Bool := bi q.2.1 4294967295 && bi q.2.2 4611686018427387904
def bst (t : TL) : Bool := bq t.s && (bi t.sm 4294967295 && (bi t.sz 4611686018427387904 && decide ((t.sn.length : Int) ≤ 255)))
theorem within_any (x m : Int) (w : World) : Calls Try.prog 39 #[.int .i64 x, .int .i64 m] w fun e w' => e = .returned (.bool (bi x m)) ∧ w = w' := by
  by_cases h : 0 ≤ x
  · go_enter Try.func39, Try.ntmps39
    go_wp2
    go_ret
    refine ⟨?_, rfl⟩
    simp [bi, h]
  · go_enter Try.func39, Try.ntmps39
    go_wp2
    go_ret
    refine ⟨?_, rfl⟩
    simp [bi, h]
    omega
theorem mayqid_any (q : Bool × Int × Int) (w : World) : Calls Try.prog 64 #[.agg #[.bool q.1, .int .i64 q.2.1, .int .i64 q.2.2]] w fun e w' => e = .returned (.bool (bq q)) ∧ Ext w w' := by
  obtain ⟨w1, hw1⟩ : ∃ w1, w.alloc (.cells #[.bool q.1, .int .i64 q.2.1, .int .i64 q.2.2] 23) = w1 := ⟨_, rfl⟩
  have e1 : Ext w w1 := by rw [← hw1]; exact (Ext.refl w).alloc _
  have hb : w1.heap[w.heap.size]? = some (.cells #[.bool q.1, .int .i64 q.2.1, .int .i64 q.2.2] 23 (0, 0)) := by rw [← hw1]; exact heap_alloc_new w _
  have x1 := cell_of_row w1 w.heap.size 1 _ _ _ hb
  have x2 := cell_of_row w1 w.heap.size 2 _ _ _ hb
  simp at x1 x2
  have H1 := Lib.hid (within_any q.2.1 4294967295 w1)
  have H2 := Lib.hid (within_any q.2.2 4611686018427387904 w1)
  have E1 := Lib.hid e1
  clear hb e1
  rcases Bool.eq_false_or_eq_true (bi q.2.1 4294967295) with g | g
  · rw [g] at H1
    go_enter Try.func64, Try.ntmps64
    go_wp2_with fail
    refine H1.out.mono ?_
    rintro e w2 ⟨rfl, rfl⟩
    go_wp2_with fail
    refine H2.out.mono ?_
    rintro e w2 ⟨rfl, rfl⟩
    go_wp2_with fail
    go_ret
    exact ⟨by simp [bq, g], E1.out⟩
  · rw [g] at H1
    go_enter Try.func64, Try.ntmps64
    go_wp2_with fail
    refine H1.out.mono ?_
    rintro e w2 ⟨rfl, rfl⟩
    go_wp2_with fail
    go_ret
    exact ⟨by simp [bq, g], E1.out⟩
set_option maxHeartbeats 1000000 in
theorem maystat_any (t : TL) (w : World) : Calls Try.prog 66 #[.agg #[.bool t.s.1, .int .i64 t.s.2.1, .int .i64 t.s.2.2, .int .i64 t.sm, .int .i64 t.sz, .string ⟨t.sn.toArray⟩]] w fun e w' => e = .returned (.bool (bst t)) ∧ Ext w w' := by
  obtain ⟨w1, hw1⟩ : ∃ w1, w.alloc (.cells #[.bool t.s.1, .int .i64 t.s.2.1, .int .i64 t.s.2.2, .int .i64 t.sm, .int .i64 t.sz, .string ⟨t.sn.toArray⟩] 27) = w1 := ⟨_, rfl⟩
  have e1 : Ext w w1 := by rw [← hw1]; exact (Ext.refl w).alloc _
  have hb : w1.heap[w.heap.size]? = some (.cells #[.bool t.s.1, .int .i64 t.s.2.1, .int .i64 t.s.2.2, .int .i64 t.sm, .int .i64 t.sz, .string ⟨t.sn.toArray⟩] 27 (0, 0)) := by rw [← hw1]; exact heap_alloc_new w _
  have x0 := cell_of_row w1 w.heap.size 0 _ _ _ hb
  have x1 := cell_of_row w1 w.heap.size 1 _ _ _ hb
  have x2 := cell_of_row w1 w.heap.size 2 _ _ _ hb
  have x3 := cell_of_row w1 w.heap.size 3 _ _ _ hb
  have x4 := cell_of_row w1 w.heap.size 4 _ _ _ hb
  have x5 := cell_of_row w1 w.heap.size 5 _ _ _ hb
  simp at x0 x1 x2 x3 x4 x5
  have HX := Lib.hid (fun w2 (h : Ext w1 w2) => (⟨h.cell x3, h.cell x4, h.cell x5⟩ : w2.cell? ⟨w.heap.size, 3, none⟩ = some (.int .i64 t.sm) ∧ w2.cell? ⟨w.heap.size, 4, none⟩ = some (.int .i64 t.sz) ∧ w2.cell? ⟨w.heap.size, 5, none⟩ = some (.string ⟨t.sn.toArray⟩)))
  have E1 := Lib.hid e1
  clear hb e1
  have HQ := Lib.hid (mayqid_any t.s w1)
  rcases Bool.eq_false_or_eq_true (bq t.s) with g0 | g0
  · rcases Bool.eq_false_or_eq_true (bi t.sm 4294967295) with g1 | g1
    · rcases Bool.eq_false_or_eq_true (bi t.sz 4611686018427387904) with g2 | g2
      · have K0 := Lib.hid HQ.out
        rw [g0] at K0
        have K1 : Hid (∀ w, Calls Try.prog 39 #[.int .i64 t.sm, .int .i64 4294967295] w fun e w' => e = .returned (.bool true) ∧ w = w') := Lib.hid (fun w => by rw [← g1]; exact within_any _ _ w)
        have K2 : Hid (∀ w, Calls Try.prog 39 #[.int .i64 t.sz, .int .i64 4611686018427387904] w fun e w' => e = .returned (.bool true) ∧ w = w') := Lib.hid (fun w => by rw [← g2]; exact within_any _ _ w)
        go_enter Try.func66, Try.ntmps66
        go_wp2_with fail
        refine K0.out.mono ?_
        rintro e w2 ⟨rfl, e2⟩
        obtain ⟨c3, c4, c5⟩ := HX.out w2 e2
        have E2 := Lib.hid (E1.out.trans e2)
        clear e2 x0 x1 x2 x3 x4 x5
        go_wp2_with fail
        refine (K1.out _).mono ?_
        rintro e w3 ⟨rfl, rfl⟩
        go_wp2_with fail
        refine (K2.out _).mono ?_
        rintro e w3 ⟨rfl, rfl⟩
        go_wp2_with fail
        go_ret
        exact ⟨by simp [bst, g0, g1, g2], E2.out⟩
      · have K0 := Lib.hid HQ.out
        rw [g0] at K0
        have K1 : Hid (∀ w, Calls Try.prog 39 #[.int .i64 t.sm, .int .i64 4294967295] w fun e w' => e = .returned (.bool true) ∧ w = w') := Lib.hid (fun w => by rw [← g1]; exact within_any _ _ w)
        have K2 : Hid (∀ w, Calls Try.prog 39 #[.int .i64 t.sz, .int .i64 4611686018427387904] w fun e w' => e = .returned (.bool false) ∧ w = w') := Lib.hid (fun w => by rw [← g2]; exact within_any _ _ w)
        go_enter Try.func66, Try.ntmps66
        go_wp2_with fail
        refine K0.out.mono ?_
        rintro e w2 ⟨rfl, e2⟩
        obtain ⟨c3, c4, c5⟩ := HX.out w2 e2
        have E2 := Lib.hid (E1.out.trans e2)
        clear e2 x0 x1 x2 x3 x4 x5
        go_wp2_with fail
        refine (K1.out _).mono ?_
        rintro e w3 ⟨rfl, rfl⟩
        go_wp2_with fail
        refine (K2.out _).mono ?_
        rintro e w3 ⟨rfl, rfl⟩
        go_wp2_with fail
        go_ret
        exact ⟨by simp [bst, g0, g1, g2], E2.out⟩
    · have K0 := Lib.hid HQ.out
      rw [g0] at K0
      have K1 : Hid (∀ w, Calls Try.prog 39 #[.int .i64 t.sm, .int .i64 4294967295] w fun e w' => e = .returned (.bool false) ∧ w = w') := Lib.hid (fun w => by rw [← g1]; exact within_any _ _ w)
      go_enter Try.func66, Try.ntmps66
      go_wp2_with fail
      refine K0.out.mono ?_
      rintro e w2 ⟨rfl, e2⟩
      obtain ⟨c3, c4, c5⟩ := HX.out w2 e2
      have E2 := Lib.hid (E1.out.trans e2)
      clear e2 x0 x1 x2 x3 x4 x5
      go_wp2_with fail
      refine (K1.out _).mono ?_
      rintro e w3 ⟨rfl, rfl⟩
      go_wp2_with fail
      go_ret
      exact ⟨by simp [bst, g0, g1], E2.out⟩
  · have K0 := Lib.hid HQ.out
    rw [g0] at K0
    go_enter Try.func66, Try.ntmps66
    go_wp2_with fail
    refine K0.out.mono ?_
    rintro e w2 ⟨rfl, e2⟩
    obtain ⟨c3, c4, c5⟩ := HX.out w2 e2
    have E2 := Lib.hid (E1.out.trans e2)
    clear e2 x0 x1 x2 x3 x4 x5
    go_wp2_with fail
    go_ret
    exact ⟨by simp [bst, g0], E2.out⟩
theorem mayqids_any (A : Option Addr) (n c : Nat) (l : List (Bool × Int × Int)) (w : World) (hs : SeesQ w A n c l) : Calls Try.prog 65 #[.slice A n c] w fun e w' => e = .returned (.bool (l.all bq)) ∧ Ext w w' := by
  have hn := hs.2.2.1
  have hc := hs.2.2.2.1
  have hl := hs.1
  unfold maxLen at hc
  have HS := Lib.hid hs
  clear hs
  have HALL : Hid (∀ k, k = n → (∀ j, j < k → ∃ q, l[j]? = some q ∧ bq q = true) → l.all bq = true) := Lib.hid fun k hk h => by
    rw [List.all_eq_true]
    intro q hq
    obtain ⟨j, hj⟩ := List.getElem?_of_mem hq
    obtain ⟨q', h1, h2⟩ := h j (by have := (List.getElem?_eq_some_iff.1 hj).1; omega)
    rw [hj] at h1
    injection h1 with h1
    rw [h1]
    exact h2
  have HNO : Hid (∀ (k : Nat) q, l[k]? = some q → bq q = false → l.all bq = false) := Lib.hid fun k q h1 h2 => by
    rw [Bool.eq_false_iff]
    intro h
    rw [List.all_eq_true] at h
    have := h q (List.mem_of_getElem? h1)
    rw [h2] at this
    cases this
  go_enter Try.func65, Try.ntmps65
  go_wp2_with fail
  refine wp_scope_jumps 0 (fun a' w' => Ext w w' ∧ ∃ (k : Nat) (u4 u5 u6 u7 u8 u9 u10 u11 u12 u13 u14 u15 : Value), a' = { tmps := #[.slice A n c, undef, .bool false, .int .i64 k, u4, u5, u6, u7, u8, u9, u10, u11, u12, u13, u14, u15], defers := [] } ∧ k ≤ n ∧ ∀ j, j < k → ∃ q, l[j]? = some q ∧ bq q = true) (fun a' _ => n - (intOf (a'.tmps.getD 3 undef)).toNat) rfl ?_ ?_
  · go_wp2_with fail
    go_step3
    by_cases hkn : 0 = n
    · go_wp2_with fail
      simp only [Exit.jump]
      go_ret
      exact ⟨by rw [HALL.out 0 (by omega) (fun j h => absurd h (by omega))]; rfl, Ext.refl w⟩
    · obtain ⟨b, off, q, rfl, hq, c0, c1, c2, hb⟩ := HS.out.at_ 0 (by omega)
      have x0 := c0
      have x1 := c1
      have x2 := c2
      have hb2 : b < w.heap.size := hb
      clear c0 c1 c2
      simp only [Nat.zero_mul, Nat.add_zero] at x0 x1 x2
      have HQ := Lib.hid hq
      clear hq
      go_wp2_with fail
      refine (mayqid_any q w).mono ?_
      rintro e w2 ⟨rfl, e2⟩
      have E2 := Lib.hid (e2)
      clear e2 x0 x1 x2
      rcases Bool.eq_false_or_eq_true (bq q) with g | g
      · rw [g]
        go_wp2_with fail
        go_step3
        refine ⟨rfl, E2.out, 1, _, _, _, _, _, _, _, _, _, _, _, _, rfl, by omega, fun j hj => ⟨q, by rw [show j = 0 from by omega]; exact HQ.out, g⟩⟩
      · rw [g]
        go_wp2_with fail
        simp only [Exit.jump]
        go_ret
        exact ⟨by rw [HNO.out _ _ HQ.out g]; rfl, E2.out⟩
  · rintro a' w' ⟨ext, k, u4, u5, u6, u7, u8, u9, u10, u11, u12, u13, u14, u15, rfl, hk, hall⟩
    have HALL2 := Lib.hid hall
    clear hall
    by_cases hkn : k = n
    · go_wp2_with fail
      simp only [Exit.jump]
      go_ret
      exact ⟨by rw [HALL.out k (by omega) HALL2.out]; rfl, ext⟩
    · obtain ⟨b, off, q, rfl, hq, c0, c1, c2, hb⟩ := HS.out.at_ k (by omega)
      have x0 := ext.cell c0
      have x1 := ext.cell c1
      have x2 := ext.cell c2
      have hb2 : b < w'.heap.size := by have := ext.size; omega
      clear c0 c1 c2
      have HQ := Lib.hid hq
      clear hq
      go_wp2_with fail
      refine (mayqid_any q w').mono ?_
      rintro e w2 ⟨rfl, e2⟩
      have E2 := Lib.hid (ext.trans e2)
      clear e2 x0 x1 x2
      rcases Bool.eq_false_or_eq_true (bq q) with g | g
      · rw [g]
        go_wp2_with fail
        go_step3
        refine ⟨rfl, ⟨E2.out, k + 1, _, _, _, _, _, _, _, _, _, _, _, _, rfl, by omega, fun j hj => ?_⟩, ?_⟩
        · by_cases hjk : j < k
          · exact HALL2.out j hjk
          · exact ⟨q, by rw [show j = k from by omega]; exact HQ.out, g⟩
        · simp [intOf]
          omega
      · rw [g]
        go_wp2_with fail
        simp only [Exit.jump]
        go_ret
        exact ⟨by rw [HNO.out _ _ HQ.out g]; rfl, E2.out⟩
end Go.Proofs.Ytihiclnbbpablaa
