/-
  Layer 18: rows of qids compared by the library; a reply that may be with one field another one.
-/
import Derived.Test.YtihiclnbbpablaaTelP
namespace Go.Proofs.Ytihiclnbbpablaa
open Go Go.RowKit
set_option linter.unusedVariables false
set_option linter.unusedSimpArgs false
set_option maxRecDepth 20000 in
set_option maxHeartbeats 2000000 in
theorem qeq_any (A B : Option Addr) (n m c d : Nat) (l r : List (Bool × Int × Int)) (w : World) (hl : SeesQ w A n c l) (hr : SeesQ w B m d r) :
    Calls Try.prog 53 #[.slice A n c, .slice B m d] w fun e w' => e = .returned (.bool (l == r)) ∧ Ext w w' := by
  have hll := hl.1
  have hrl := hr.1
  have hnc : n ≤ c := hl.2.2.1
  have hmd : m ≤ d := hr.2.2.1
  have hcm : c ≤ maxLen := hl.2.2.2.1
  have hdm : d ≤ maxLen := hr.2.2.2.1
  simp only [maxLen] at hcm hdm
  have HL := Lib.hid hl
  have HR := Lib.hid hr
  clear hl hr
  by_cases hnm : (n : Int) = (m : Int)
  · obtain rfl : n = m := by omega
    go_enter Try.func53, Try.ntmps53
    go_wp2_with fail
    go_loopw [13] (fun i wr => ∃ k : Nat, k ≤ n ∧ i = .int .i64 k ∧ (∀ j, j < k → l[j]? = r[j]?) ∧ Ext w wr) (fun i _ => n - (intOf i).toNat)
    case atStart => exact ⟨0, by omega, rfl, fun j h => absurd h (by omega), Ext.refl _⟩
    case round =>
      obtain ⟨k, hk, rfl, hall, er⟩ := hrel
      have HALL := Lib.hid hall
      have EX := Lib.hid er
      clear hall er
      by_cases hkl : k < n
      · obtain ⟨b, off, q, hA, hq, c0, c1, c2, _⟩ := HL.out.at_ k hkl
        obtain ⟨b', off', q', hA', hq', c0', c1', c2', _⟩ := HR.out.at_ k hkl
        have hkl' : (k : Int) < (n : Int) := by omega
        subst hA hA'
        have HQ := Lib.hid hq
        have HQ' := Lib.hid hq'
        have HC : Hid (∀ w', Ext wr.drew w' → w'.cell? ⟨b, off + k * 3, none⟩ = some (.bool q.1) ∧ w'.cell? ⟨b, off + k * 3 + 1, none⟩ = some (.int .i64 q.2.1) ∧ w'.cell? ⟨b, off + k * 3 + 2, none⟩ = some (.int .i64 q.2.2) ∧ w'.cell? ⟨b', off' + k * 3, none⟩ = some (.bool q'.1) ∧ w'.cell? ⟨b', off' + k * 3 + 1, none⟩ = some (.int .i64 q'.2.1) ∧ w'.cell? ⟨b', off' + k * 3 + 2, none⟩ = some (.int .i64 q'.2.2)) := Lib.hid fun w' h => by
          have h9 := EX.out.trans ((Ext.refl wr).drew.trans h)
          exact ⟨h9.cell c0, h9.cell c1, h9.cell c2, h9.cell c0', h9.cell c1', h9.cell c2'⟩
        clear c0 c1 c2 c0' c1' c2' hq hq'
        go_wp2_with fail
        refine wp_region_pl (.free 0 (.free 1 (.free 2 (.free 3 (.free 4 (.free 5 (.free 6 (.free 7 (.free 8 .nil))))))))) (by kernel_rfl) (by kernel_rfl) (by kernel_rfl) (by kernel_rfl) ?_
        refine pl_val (v := ?_) rfl rfl (fun w' hw' => ?_) ?_; rotate_left; (· obtain ⟨v0, v1, v2, v3, v4, v5⟩ := HC.out w' hw'; go_simp; try with_reducible rfl); simp only [Act.put, List.setIfInBounds_toArray, List.set_cons_zero, List.set_cons_succ]
        refine pl_val (v := ?_) rfl rfl (fun w' hw' => ?_) ?_; rotate_left; (· obtain ⟨v0, v1, v2, v3, v4, v5⟩ := HC.out w' hw'; go_simp; try with_reducible rfl); simp only [Act.put, List.setIfInBounds_toArray, List.set_cons_zero, List.set_cons_succ]
        refine pl_val (v := ?_) rfl rfl (fun w' hw' => ?_) ?_; rotate_left; (· obtain ⟨v0, v1, v2, v3, v4, v5⟩ := HC.out w' hw'; go_simp; try with_reducible rfl); simp only [Act.put, List.setIfInBounds_toArray, List.set_cons_zero, List.set_cons_succ]
        refine pl_val (v := ?_) rfl rfl (fun w' hw' => ?_) ?_; rotate_left; (· obtain ⟨v0, v1, v2, v3, v4, v5⟩ := HC.out w' hw'; go_simp; try with_reducible rfl); simp only [Act.put, List.setIfInBounds_toArray, List.set_cons_zero, List.set_cons_succ]
        refine pl_val (v := ?_) rfl rfl (fun w' hw' => ?_) ?_; rotate_left; (· obtain ⟨v0, v1, v2, v3, v4, v5⟩ := HC.out w' hw'; go_simp; try with_reducible rfl); simp only [Act.put, List.setIfInBounds_toArray, List.set_cons_zero, List.set_cons_succ]
        refine pl_val (v := ?_) rfl rfl (fun w' hw' => ?_) ?_; rotate_left; (· obtain ⟨v0, v1, v2, v3, v4, v5⟩ := HC.out w' hw'; go_simp; try with_reducible rfl); simp only [Act.put, List.setIfInBounds_toArray, List.set_cons_zero, List.set_cons_succ]
        refine pl_val (v := ?_) rfl rfl (fun w' hw' => ?_) ?_; rotate_left; (· obtain ⟨v0, v1, v2, v3, v4, v5⟩ := HC.out w' hw'; go_simp; try with_reducible rfl); simp only [Act.put, List.setIfInBounds_toArray, List.set_cons_zero, List.set_cons_succ]
        refine pl_val (v := ?_) rfl rfl (fun w' hw' => ?_) ?_; rotate_left; (· obtain ⟨v0, v1, v2, v3, v4, v5⟩ := HC.out w' hw'; go_simp; try with_reducible rfl); simp only [Act.put, List.setIfInBounds_toArray, List.set_cons_zero, List.set_cons_succ]
        by_cases hqq : q = q'
        · subst hqq
          refine pl_val (v := .bool false) rfl rfl (fun w' hw' => by go_simp; try with_reducible rfl) ?_; simp only [Act.put, List.setIfInBounds_toArray, List.set_cons_zero, List.set_cons_succ]
          refine pl_done ?_
          clear HC
          go_wp2_with fail
          go_roundw
          case rel => exact ⟨k + 1, by omega, by go_num, fun j hj => by
            by_cases hjk : j < k
            · exact HALL.out j hjk
            · rw [show j = k from by omega, HQ.out, HQ'.out], EX.out.trans (Ext.refl wr).drew⟩
          case measure => simp [intOf]; omega
        · have hR : (l == r) = false := by
            rw [beq_eq_false_iff_ne]
            intro h
            rw [h, HQ'.out] at HQ
            have := HQ.out
            injection this with this
            exact hqq this.symm
          have HRR := Lib.hid hR
          clear hR
          obtain ⟨qd, qw, qp⟩ := q
          obtain ⟨rd, rw0, rp⟩ := q'
          refine pl_val (v := .bool true) rfl rfl (fun w' hw' => by
            go_simp
            by_cases h1 : qd = rd
            · by_cases h2 : qw = rw0
              · by_cases h3 : qp = rp
                · subst h1 h2 h3
                  exact absurd rfl hqq
                · go_simp
              · go_simp
            · go_simp) ?_; simp only [Act.put, List.setIfInBounds_toArray, List.set_cons_zero, List.set_cons_succ]
          refine pl_done ?_
          go_wp2_with fail
          go_ret
          exact ⟨by rw [HRR.out]; rfl, EX.out.trans (Ext.refl wr).drew⟩
      · obtain rfl : k = n := by omega
        have hQ : (l == r) = true := by
          rw [beq_iff_eq]
          refine List.ext_getElem? fun j => ?_
          by_cases hj : j < k
          · exact HALL.out j hj
          · rw [List.getElem?_eq_none (by omega), List.getElem?_eq_none (by omega)]
        have HQQ := Lib.hid hQ
        clear hQ
        go_wp2_with fail
        go_ret
        exact ⟨by rw [HQQ.out]; rfl, EX.out⟩
  · have hQ : (l == r) = false := by
      rw [beq_eq_false_iff_ne]
      intro h
      exact hnm (by rw [← hll, ← hrl, h])
    have HQQ := Lib.hid hQ
    clear hQ
    go_enter Try.func53, Try.ntmps53
    go_wp2_with fail
    go_ret
    exact ⟨by rw [HQQ.out]; rfl, Ext.refl _⟩
/-- A reply that the call makes, its row of qids of its own. -/
def Mine (w : World) (base : Nat) (x : TL) : Prop := w.ownsRow base 23 3 (.slice x.qA x.qn x.qk) x.qn (x.ql.flatMap qc) ∧ x.ql.length = x.qn ∧ x.qn ≤ 9 ∧ w.ownsRow base 5 1 (.slice x.dA x.dn x.dk) x.dn (bs x.dl)
theorem Mine.ok {w : World} {base : Nat} {x : TL} (h : Mine w base x) : x.Ok w := by
  obtain ⟨A, c, e, hs⟩ := seesQ_own h.1 h.2.1
  injection e with e1 e2 e3
  obtain ⟨A', c', e', hs'⟩ := Sees.of_own h.2.2.2
  injection e' with d1 d2 d3
  refine ⟨?_, ?_⟩
  · rw [e1, e3]; exact hs
  · rw [d1, d3]; exact hs'
theorem good18_mine (t : TL) (w : World) (hr0 : t.rng) (hok : t.Ok w) : Calls Try.prog 11 #[.agg t.cs] w fun e w' => ∃ x : TL, e = .returned (.agg x.cs) ∧ Mine w' w.heap.size x ∧ x.qn ≤ 8 ∧ Ext w w' := by
  refine (good18 t w hr0 hok).mono ?_
  rintro e w' ⟨A, n, c, A2, n2, c2, rfl, own, hn, hs, he⟩
  have hn8 : n ≤ 8 := by rw [hn, List.length_map, List.length_take]; omega
  refine ⟨_, rfl, ?_, ?_, he⟩
  · refine ⟨?_, ?_, ?_, ?_⟩
    · simp only [ownT]
      by_cases hb : hasB (fld (mks t (mkd (mkq t A n c ((t.ql.take 8).map gq)) A2 n2 c2 (t.dl.take 30))).ty) 108 = true
      · simp only [hb, if_true]; exact own
      · simp only [hb, if_false]; exact World.ownsRow_nil _ _ _ _
    · simp only [ownT]
      split
      · exact hn.symm
      · rfl
    · simp only [ownT]
      split
      · show n ≤ 9; omega
      · omega
    · simp only [ownT]
      by_cases hb : hasB (fld (mks t (mkd (mkq t A n c ((t.ql.take 8).map gq)) A2 n2 c2 (t.dl.take 30))).ty) 100 = true
      · simp only [hb, if_true]; exact hs
      · simp only [hb, if_false]; exact World.ownsRow_nil _ _ _ _
  · simp only [ownT]
    split
    · exact hn8
    · omega
end Go.Proofs.Ytihiclnbbpablaa
