/-
  Layer 18: whether two replies are the same, by the document.
-/
import Derived.Test.YtihiclnbbpablaaTellG
namespace Go.Proofs.Ytihiclnbbpablaa
open Go Go.RowKit
set_option linter.unusedVariables false
set_option linter.unusedSimpArgs false
def fEq (t u : TL) : Bool := t.ty == u.ty && (t.tg == u.tg && (t.cd == u.cd && (t.ms == u.ms && (t.io == u.io && (t.ct == u.ct && (t.nm == u.nm && ((t.q.1 == u.q.1 && (t.q.2.1 == u.q.2.1 && t.q.2.2 == u.q.2.2)) && ((t.s.1 == u.s.1 && (t.s.2.1 == u.s.2.1 && t.s.2.2 == u.s.2.2)) && (t.sm == u.sm && (t.sz == u.sz && (t.sn == u.sn && t.dl == u.dl)))))))))))
def rEq (t u : TL) : Bool := (t.ql == u.ql) && fEq t u
set_option maxRecDepth 20000 in
set_option maxHeartbeats 8000000 in
theorem rsame_any (t u : TL) (w : World) (ht : t.Ok w) (hu : u.Ok w) (hn : t.qn ≤ 1000000) :
    Calls Try.prog 22 #[.agg t.cs, .agg u.cs] w fun e w' => e = .returned (.bool (rEq t u)) ∧ Ext w w' := by
  obtain ⟨w1, hw1⟩ : ∃ w1, (w.alloc (.cells t.cs 29)).alloc (.cells u.cs 29) = w1 := ⟨_, rfl⟩
  have e1 : Ext w w1 := by rw [← hw1]; exact ((Ext.refl w).alloc _).alloc _
  have hb1 : w1.heap[w.heap.size]? = some (.cells t.cs 29 (0, 0)) := by rw [← hw1]; exact ((Ext.refl _).alloc _).heap (heap_alloc_new w _)
  have hb2 : w1.heap[w.heap.size + 1]? = some (.cells u.cs 29 (0, 0)) := by rw [← hw1]; exact heap_alloc2_new w _ _
  have HX : Hid (∀ w2, Ext w1 w2 → w2.heap[w.heap.size]? = some (.cells t.cs 29 (0, 0)) ∧ w2.heap[w.heap.size + 1]? = some (.cells u.cs 29 (0, 0))) := Lib.hid fun w2 h => ⟨h.heap hb1, h.heap hb2⟩
  have HS : Hid (∀ w2, Ext w1 w2 → w2.cell? ⟨w.heap.size, 10, none⟩ = some (.slice t.qA t.qn t.qk) ∧ w2.cell? ⟨w.heap.size + 1, 10, none⟩ = some (.slice u.qA u.qn u.qk)) := Lib.hid fun w2 h => by
    have c1 := cell_of_row w2 w.heap.size 10 _ _ _ (h.heap hb1)
    have c2 := cell_of_row w2 (w.heap.size + 1) 10 _ _ _ (h.heap hb2)
    simp [TL.cs] at c1 c2
    exact ⟨c1, c2⟩
  have HT := Lib.hid (ht.ext e1)
  have HU := Lib.hid (hu.ext e1)
  have E1 := Lib.hid e1
  have x10 := (HS.out w1 (Ext.refl _)).1
  have z10 := (HS.out w1 (Ext.refl _)).2
  have htl := ht.1.1
  have hul := hu.1.1
  have htk := ht.1.2.2.1
  have huk := hu.1.2.2.1
  have htm := ht.1.2.2.2.1
  have hum := hu.1.2.2.2.1
  unfold maxLen at htm hum
  clear hb1 hb2 e1 ht hu
  by_cases hnn : t.qn = u.qn
  · go_enter Try.func22, Try.ntmps22
    go_wp2_with fail
    go_loopw [5] (fun i wr => ∃ k : Nat, k ≤ t.qn ∧ i = .int .i64 k ∧ (∀ j, j < k → t.ql[j]? = u.ql[j]?) ∧ Ext w1 wr) (fun i _ => t.qn - (intOf i).toNat)
    case atStart => exact ⟨0, by omega, rfl, fun j h => absurd h (by omega), Ext.refl _⟩
    case round =>
      obtain ⟨k, hk, rfl, hall, ext⟩ := hrel
      have HALL := Lib.hid hall
      have EX := Lib.hid ext
      have x10 := (HS.out wr ext).1
      have z10 := (HS.out wr ext).2
      clear hall ext
      by_cases hkn : k < t.qn
      · obtain ⟨b, off, q, hA, hq, c0, c1, c2, hb⟩ := HT.out.1.at_ k hkn
        obtain ⟨b', off', q', hA', hq', c0', c1', c2', hb'⟩ := HU.out.1.at_ k (by omega)
        have HC : Hid (∀ w', Ext wr.drew w' → w'.cell? ⟨b, off + k * 3, none⟩ = some (.bool q.1) ∧ w'.cell? ⟨b, off + k * 3 + 1, none⟩ = some (.int .i64 q.2.1) ∧ w'.cell? ⟨b, off + k * 3 + 2, none⟩ = some (.int .i64 q.2.2) ∧ w'.cell? ⟨b', off' + k * 3, none⟩ = some (.bool q'.1) ∧ w'.cell? ⟨b', off' + k * 3 + 1, none⟩ = some (.int .i64 q'.2.1) ∧ w'.cell? ⟨b', off' + k * 3 + 2, none⟩ = some (.int .i64 q'.2.2) ∧ w'.cell? ⟨w.heap.size, 10, none⟩ = some (.slice (some ⟨b, off, none⟩) t.qn t.qk) ∧ w'.cell? ⟨w.heap.size + 1, 10, none⟩ = some (.slice (some ⟨b', off', none⟩) u.qn u.qk)) := Lib.hid fun w' h => by
          have h2 := EX.out.trans ((Ext.refl wr).drew.trans h)
          refine ⟨h2.cell c0, h2.cell c1, h2.cell c2, h2.cell c0', h2.cell c1', h2.cell c2', ?_, ?_⟩
          · rw [← hA]; exact (HS.out w' h2).1
          · rw [← hA']; exact (HS.out w' h2).2
        have HQ := Lib.hid hq
        have HQ' := Lib.hid hq'
        have hku : k < u.qn := by omega
        clear c0 c1 c2 c0' c1' c2' hb hb' hq hq' hA hA'
        go_wp2_with fail
        refine wp_region_pl (.free 0 (.free 1 (.free 2 (.free 3 (.free 4 (.free 5 (.free 6 (.free 7 (.free 8 (.free 9 (.free 10 .nil))))))))))) (by kernel_rfl) (by kernel_rfl) (by kernel_rfl) (by kernel_rfl) ?_
        refine pl_val (v := ?_) rfl rfl (fun w' hw' => ?_) ?_; rotate_left; (· obtain ⟨v0, v1, v2, v3, v4, v5, v6, v7⟩ := HC.out w' hw'; go_simp; try with_reducible rfl); simp only [Act.put, List.setIfInBounds_toArray, List.set_cons_zero, List.set_cons_succ]
        refine pl_val (v := ?_) rfl rfl (fun w' hw' => ?_) ?_; rotate_left; (· obtain ⟨v0, v1, v2, v3, v4, v5, v6, v7⟩ := HC.out w' hw'; go_simp; try with_reducible rfl); simp only [Act.put, List.setIfInBounds_toArray, List.set_cons_zero, List.set_cons_succ]
        refine pl_val (v := ?_) rfl rfl (fun w' hw' => ?_) ?_; rotate_left; (· obtain ⟨v0, v1, v2, v3, v4, v5, v6, v7⟩ := HC.out w' hw'; go_simp; try with_reducible rfl); simp only [Act.put, List.setIfInBounds_toArray, List.set_cons_zero, List.set_cons_succ]
        refine pl_val (v := ?_) rfl rfl (fun w' hw' => ?_) ?_; rotate_left; (· obtain ⟨v0, v1, v2, v3, v4, v5, v6, v7⟩ := HC.out w' hw'; go_simp; try with_reducible rfl); simp only [Act.put, List.setIfInBounds_toArray, List.set_cons_zero, List.set_cons_succ]
        refine pl_val (v := ?_) rfl rfl (fun w' hw' => ?_) ?_; rotate_left; (· obtain ⟨v0, v1, v2, v3, v4, v5, v6, v7⟩ := HC.out w' hw'; go_simp; try with_reducible rfl); simp only [Act.put, List.setIfInBounds_toArray, List.set_cons_zero, List.set_cons_succ]
        refine pl_val (v := ?_) rfl rfl (fun w' hw' => ?_) ?_; rotate_left; (· obtain ⟨v0, v1, v2, v3, v4, v5, v6, v7⟩ := HC.out w' hw'; go_simp; try with_reducible rfl); simp only [Act.put, List.setIfInBounds_toArray, List.set_cons_zero, List.set_cons_succ]
        refine pl_val (v := ?_) rfl rfl (fun w' hw' => ?_) ?_; rotate_left; (· obtain ⟨v0, v1, v2, v3, v4, v5, v6, v7⟩ := HC.out w' hw'; go_simp; try with_reducible rfl); simp only [Act.put, List.setIfInBounds_toArray, List.set_cons_zero, List.set_cons_succ]
        refine pl_val (v := ?_) rfl rfl (fun w' hw' => ?_) ?_; rotate_left; (· obtain ⟨v0, v1, v2, v3, v4, v5, v6, v7⟩ := HC.out w' hw'; go_simp; try with_reducible rfl); simp only [Act.put, List.setIfInBounds_toArray, List.set_cons_zero, List.set_cons_succ]
        refine pl_val (v := ?_) rfl rfl (fun w' hw' => ?_) ?_; rotate_left; (· obtain ⟨v0, v1, v2, v3, v4, v5, v6, v7⟩ := HC.out w' hw'; go_simp; try with_reducible rfl); simp only [Act.put, List.setIfInBounds_toArray, List.set_cons_zero, List.set_cons_succ]
        refine pl_val (v := ?_) rfl rfl (fun w' hw' => ?_) ?_; rotate_left; (· obtain ⟨v0, v1, v2, v3, v4, v5, v6, v7⟩ := HC.out w' hw'; go_simp; try with_reducible rfl); simp only [Act.put, List.setIfInBounds_toArray, List.set_cons_zero, List.set_cons_succ]
        by_cases hqq : q = q'
        · subst hqq
          refine pl_val (v := .bool false) rfl rfl (fun w' hw' => by go_simp; try with_reducible rfl) ?_
          simp only [Act.put, List.setIfInBounds_toArray, List.set_cons_zero, List.set_cons_succ]
          refine pl_done ?_
          clear HC
          go_wp2_with fail
          go_roundw
          case rel => exact ⟨k + 1, by omega, by go_num, fun j hj => by
            by_cases hjk : j < k
            · exact HALL.out j hjk
            · rw [show j = k from by omega, HQ.out, HQ'.out], EX.out.trans (Ext.refl wr).drew⟩
          case measure => simp [intOf]; omega
        · have hR : rEq t u = false := by
            unfold rEq
            have : (t.ql == u.ql) = false := by
              rw [beq_eq_false_iff_ne]
              intro h
              rw [h, HQ'.out] at HQ
              have := HQ.out
              injection this with this
              exact hqq this.symm
            rw [this]; rfl
          obtain ⟨qd, qv, qp⟩ := q
          obtain ⟨rd, rv, rp⟩ := q'
          refine pl_val (v := .bool true) rfl rfl (fun w' hw' => by
            go_simp
            by_cases h1 : qd = rd
            · by_cases h2 : qv = rv
              · by_cases h3 : qp = rp
                · subst h1 h2 h3
                  exact absurd rfl hqq
                · go_simp
              · go_simp
            · go_simp) ?_
          simp only [Act.put, List.setIfInBounds_toArray, List.set_cons_zero, List.set_cons_succ]
          refine pl_done ?_
          have HRR := Lib.hid hR
          clear hR
          go_wp2_with fail
          go_ret
          exact ⟨by rw [HRR.out]; rfl, E1.out.trans (EX.out.trans (Ext.refl wr).drew)⟩
      · obtain rfl : k = t.qn := by omega
        have hQ : (t.ql == u.ql) = true := by
          rw [beq_iff_eq]
          refine List.ext_getElem? fun j => ?_
          by_cases hj : j < t.qn
          · exact HALL.out j hj
          · rw [List.getElem?_eq_none (by omega), List.getElem?_eq_none (by omega)]
        have hR : rEq t u = fEq t u := by unfold rEq; rw [hQ]; rfl
        have HRR := Lib.hid hR
        obtain ⟨hb1, hb2⟩ := HX.out wr EX.out
        have s1 := str_of (HT.out.2.ext EX.out)
        have s2 := str_of (HU.out.2.ext EX.out)
        have E2 := Lib.hid (E1.out.trans EX.out)
        clear hR hQ x10 z10 HX HS HT HU E1 EX HALL hw1
        have x0 := cell_of_row wr w.heap.size 0 _ _ _ hb1
        have z0 := cell_of_row wr (w.heap.size + 1) 0 _ _ _ hb2
        have x1 := cell_of_row wr w.heap.size 1 _ _ _ hb1
        have z1 := cell_of_row wr (w.heap.size + 1) 1 _ _ _ hb2
        have x2 := cell_of_row wr w.heap.size 2 _ _ _ hb1
        have z2 := cell_of_row wr (w.heap.size + 1) 2 _ _ _ hb2
        have x3 := cell_of_row wr w.heap.size 3 _ _ _ hb1
        have z3 := cell_of_row wr (w.heap.size + 1) 3 _ _ _ hb2
        have x4 := cell_of_row wr w.heap.size 4 _ _ _ hb1
        have z4 := cell_of_row wr (w.heap.size + 1) 4 _ _ _ hb2
        have x5 := cell_of_row wr w.heap.size 5 _ _ _ hb1
        have z5 := cell_of_row wr (w.heap.size + 1) 5 _ _ _ hb2
        have x6 := cell_of_row wr w.heap.size 6 _ _ _ hb1
        have z6 := cell_of_row wr (w.heap.size + 1) 6 _ _ _ hb2
        have x7 := cell_of_row wr w.heap.size 7 _ _ _ hb1
        have z7 := cell_of_row wr (w.heap.size + 1) 7 _ _ _ hb2
        have x8 := cell_of_row wr w.heap.size 8 _ _ _ hb1
        have z8 := cell_of_row wr (w.heap.size + 1) 8 _ _ _ hb2
        have x9 := cell_of_row wr w.heap.size 9 _ _ _ hb1
        have z9 := cell_of_row wr (w.heap.size + 1) 9 _ _ _ hb2
        have x10 := cell_of_row wr w.heap.size 10 _ _ _ hb1
        have z10 := cell_of_row wr (w.heap.size + 1) 10 _ _ _ hb2
        have x11 := cell_of_row wr w.heap.size 11 _ _ _ hb1
        have z11 := cell_of_row wr (w.heap.size + 1) 11 _ _ _ hb2
        have x12 := cell_of_row wr w.heap.size 12 _ _ _ hb1
        have z12 := cell_of_row wr (w.heap.size + 1) 12 _ _ _ hb2
        have x13 := cell_of_row wr w.heap.size 13 _ _ _ hb1
        have z13 := cell_of_row wr (w.heap.size + 1) 13 _ _ _ hb2
        have x14 := cell_of_row wr w.heap.size 14 _ _ _ hb1
        have z14 := cell_of_row wr (w.heap.size + 1) 14 _ _ _ hb2
        have x15 := cell_of_row wr w.heap.size 15 _ _ _ hb1
        have z15 := cell_of_row wr (w.heap.size + 1) 15 _ _ _ hb2
        have x16 := cell_of_row wr w.heap.size 16 _ _ _ hb1
        have z16 := cell_of_row wr (w.heap.size + 1) 16 _ _ _ hb2
        have x17 := cell_of_row wr w.heap.size 17 _ _ _ hb1
        have z17 := cell_of_row wr (w.heap.size + 1) 17 _ _ _ hb2
        simp [TL.cs] at x0 z0 x1 z1 x2 z2 x3 z3 x4 z4 x5 z5 x6 z6 x7 z7 x8 z8 x9 z9 x10 z10 x11 z11 x12 z12 x13 z13 x14 z14 x15 z15 x16 z16 x17 z17
        clear hb1 hb2
        go_wp2_with fail
        all_goals (go_ret; exact ⟨congrArg (fun b => Ending.returned (Value.bool b)) (by rw [HRR.out]; simp [fEq, *]), E2.out⟩)
  · have hR : rEq t u = false := by
      unfold rEq
      have : (t.ql == u.ql) = false := by
        rw [beq_eq_false_iff_ne]
        intro h
        exact hnn (by rw [← htl, ← hul, h])
      rw [this]; rfl
    rw [hR]
    go_enter Try.func22, Try.ntmps22
    go_wp2_with fail
    go_ret
    exact ⟨rfl, E1.out⟩
end Go.Proofs.Ytihiclnbbpablaa
