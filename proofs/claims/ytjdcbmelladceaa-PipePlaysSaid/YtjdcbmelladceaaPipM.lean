/-
  Layer 5: the document's own pipe: a text that is sent.
-/
import Derived.Test.YtjdcbmelladceaaPipL
namespace Go.Proofs.Ytjdcbmelladceaa
open Go Go.RowKit
set_option linter.unusedVariables false
set_option linter.unusedSimpArgs false
theorem set_blkP {w : World} {g : Nat} {cs : Array Value} {t : TypeId} {fr : Nat × Nat} (h : w.heap[g]? = some (.cells cs t fr)) (i : Nat) (v : Value) :
    (w.setCell ⟨g, i, none⟩ v).heap[g]? = some (.cells (cs.setIfInBounds i v) t fr) := by
  simp [World.setCell, Array.getElem?_modify, h]
theorem set3P {w : World} {g : Nat} {x y z a b c : Value} {t : TypeId} (h : w.heap[g]? = some (.cells #[x, y, z] t (0, 0))) :
    (((w.setCell ⟨g, 0, none⟩ a).setCell ⟨g, 1, none⟩ b).setCell ⟨g, 2, none⟩ c).heap[g]? = some (.cells #[a, b, c] t (0, 0)) := by
  have h1 := set_blkP h 0 a
  have h2 := set_blkP h1 1 b
  have h3 := set_blkP h2 2 c
  simpa using h3
/-- Strings behind none: a row of the call's own. -/
theorem own_strs {w : World} {A : Option Addr} {n c : Nat} {T : List (List UInt8)} (h : Sees w A n c (T.map strV)) (hn : n ≤ 1000) :
    ∃ A' c' w', (Builtin.append_ #[29, 29] 29 #[.slice none 0 0, .slice A n c]).run Try.prog w = .ok (.slice A' n c') w' ∧ w'.ownsRow w.heap.size 9 1 (.slice A' n c') n (T.map strV) ∧ Ext w w' := by
  obtain ⟨i0, hi, hz0, hz1, hz2⟩ := infoStr_at
  obtain ⟨v', w1, hrun, hown, hg, hat⟩ := run_append_sees (P := Try.prog) (w := w) w.heap.size 29 29 9 i0 _ 16 Try.underlying29 hi hz0 hz1 hz2 rfl (.slice none 0 0) 0 [] (World.ownsRow_nil _ _ _ _)
    A n c _ h (str_one T) (by unfold maxLen; omega) (by omega) (Nat.le_refl _)
  rw [Nat.zero_add, List.nil_append] at hown
  obtain ⟨vA, vc, rfl, hsv⟩ := Sees.of_own hown
  exact ⟨vA, vc, w1, hrun, hown, (Ext.refl w).grown hg (fun k hk => by cases hk)⟩
theorem own_str {w : World} {base n : Nat} {v : Value} {T : List (List UInt8)} (l : List UInt8) (h : w.ownsRow base 9 1 v n (T.map strV)) (hb : base ≤ w.heap.size) (hn : n ≤ 1000) :
    ∃ A c w', (Builtin.append_ #[29, 29] 29 #[v, .slice (some ⟨w.heap.size, 0, none⟩) 1 1]).run Try.prog (w.alloc (.cells #[.string ⟨l.toArray⟩] 9)) = .ok (.slice A (n + 1) c) w' ∧
      w'.ownsRow base 9 1 (.slice A (n + 1) c) (n + 1) ((T ++ [l]).map strV) ∧ Below base w w' := by
  obtain ⟨i0, hi, hz0, hz1, hz2⟩ := infoStr_at
  have he : Ext w (w.alloc (.cells #[.string ⟨l.toArray⟩] 9)) := (Ext.refl _).alloc _
  obtain ⟨v', w', hrun, hown, hg, hat⟩ := run_append_sees (P := Try.prog) (w := w.alloc (.cells #[.string ⟨l.toArray⟩] 9)) base 29 29 9 i0 _ 16 Try.underlying29 hi hz0 hz1 hz2 rfl v n _ (own_ext h he)
    (some ⟨w.heap.size, 0, none⟩) 1 1 [strV l] (sees_new w 9 #[strV l] (by simp [maxLen])) (by simp [Value.oneCell', strV]) (by unfold maxLen; omega) (by omega) (by simp; omega)
  obtain ⟨A, c, rfl, _⟩ := Sees.of_own hown
  exact ⟨A, c, w', hrun, by rw [List.map_append]; exact hown, Below.grown (Below.alloc (Below.refl base w) hb _) hg (by simp; omega) fun k hk => (h.lt k hk).1⟩
def RSent (w : World) (T : List (List UInt8)) (l : List UInt8) (n : Nat) (As : Option Addr) (L cs k : Nat) (e : Ending) (w' : World) : Prop :=
  ∃ A' c', e = .returned (.tuple #[refP A' (n + 1) c' As L cs k, .int .i64 0]) ∧ Sees w' A' (n + 1) c' ((T ++ [l]).map strV) ∧ (∀ a, A' = some a → w.heap.size ≤ a.block) ∧ Ext w w'
set_option maxRecDepth 20000 in
set_option maxHeartbeats 2000000 in
theorem rsend_any (A : Option Addr) (n c : Nat) (As : Option Addr) (L cs k : Nat) (T : List (List UInt8)) (l : List UInt8) (w : World) (hs : Sees w A n c (T.map strV)) (hn : n < 64) (hl : ¬ l = []) :
    Calls Try.prog 15 #[refP A n c As L cs k, .string ⟨l.toArray⟩] w (RSent w T l n As L cs k) := by
  have hlE : l.isEmpty = false := by
    cases l with
    | nil => exact absurd rfl hl
    | cons a r => rfl
  have hn64 : decide ((64 : Int) ≤ (n : Int)) = false := by simp; omega
  have HS := Lib.hid hs
  have HZ := Lib.hid infoP
  have HLN := Lib.hid hl
  clear hs hl
  have hb0 := heap_alloc_new w (.cells #[.slice A n c, .slice As L cs, .int .i64 (k : Int)] 31)
  obtain ⟨w1, hw1⟩ : ∃ w1, (w.alloc (.cells #[.slice A n c, .slice As L cs, .int .i64 (k : Int)] 31)).alloc (.cells #[.slice none 0 0, .slice none 0 0, .int .i64 0] 31) = w1 := ⟨_, rfl⟩
  have e1 : Ext w w1 := by rw [← hw1]; exact ((Ext.refl w).alloc _).alloc _
  have hb1 : w1.heap[w.heap.size]? = some (.cells #[.slice A n c, .slice As L cs, .int .i64 (k : Int)] 31 (0, 0)) := by rw [← hw1]; exact ((Ext.refl _).alloc _).heap hb0
  have hb2 : w1.heap[w.heap.size + 1]? = some (.cells #[.slice none 0 0, .slice none 0 0, .int .i64 0] 31 (0, 0)) := by rw [← hw1]; exact heap_alloc2_new w _ _
  obtain ⟨A2, c2, w2, hrun2, hown2, e2⟩ := own_strs (HS.out.ext e1) (by omega)
  obtain ⟨A3, c3, w3, hrun3, hown3, hbel3⟩ := own_str l hown2 e2.size (by omega)
  have e3 : Ext w1 w3 := e2.trans' hbel3
  have hg1 := e3.heap hb1
  have hg2 := e3.heap hb2
  have x0 := cell_of_row w1 w.heap.size 0 _ _ _ hb1
  have k0 := cell_of_row w3 w.heap.size 0 _ _ _ hg1
  have k1 := cell_of_row w3 w.heap.size 1 _ _ _ hg1
  have k2 := cell_of_row w3 w.heap.size 2 _ _ _ hg1
  have z0 := cell_of_row w3 (w.heap.size + 1) 0 _ _ _ hg2
  have z1 := cell_of_row w3 (w.heap.size + 1) 1 _ _ _ hg2
  have z2 := cell_of_row w3 (w.heap.size + 1) 2 _ _ _ hg2
  simp at x0 k0 k1 k2 z0 z1 z2
  have y0 := e2.cell x0
  have f0 := Lib.frozen_of_heap hg1 0
  have q0 := Lib.frozen_of_heap hg2 0
  have q1 := Lib.frozen_of_heap hg2 1
  have q2 := Lib.frozen_of_heap hg2 2
  have HG2 := Lib.hid hg2
  have HFIN : Hid (Sees w3 A3 (n + 1) c3 ((T ++ [l]).map strV) ∧ (∀ a, A3 = some a → w1.heap.size ≤ a.block) ∧ Ext w w3) := Lib.hid ⟨by
      obtain ⟨A9, c9, hv, hs9⟩ := Sees.of_own hown3
      injection hv with p1 _ p2
      subst p1 p2
      exact hs9, fun a ha => (hown3.lt a.block (by rw [ha]; rfl)).1, e1.trans e3⟩
  have hsz1 : w1.heap.size = w.heap.size + 2 := by rw [← hw1]; simp
  have HSZ := Lib.hid hsz1
  clear hb0 hb1 hb2 hg1 hg2 hown2 hown3 hbel3 e1 e2 e3 hsz1
  go_enter Try.func15, Try.ntmps15
  go_wp2_with (first | (at_builtin; refine wpList_append_run rfl (.tmp 15) (.tmp 17) _ rfl _ _ rfl rfl _ w2 hrun2 ?_) | (at_builtin; refine wpList_append_run rfl (.tmp 19) (.tmp 21) _ rfl _ _ rfl rfl _ w3 hrun3 ?_) | fail)
  refine bodyPost_ret (results_cell_t1 rfl _ _ (w.heap.size + 1) _ _ (0, 0) _ (.int .i64 0) rfl rfl (set3P (by rw [heap_setCell_other _ _ _ _ (by simp)]; exact HG2.out)) Try.underlying31 rfl HZ.out) rfl ?_
  have hwx : ∀ b, w1.heap.size ≤ b → ¬ b = w.heap.size ∧ ¬ b = w.heap.size + 1 := fun b hb => by have := HSZ.out; omega
  have hkx : Kp (fun j => ¬ j = w.heap.size ∧ ¬ j = w.heap.size + 1) w3 _ := ((((Kp.refl _ w3).set w.heap.size 0 (.slice A3 (n + 1) c3) (fun q => q.1 rfl)).set (w.heap.size + 1) 0 (.slice A3 (n + 1) c3) (fun q => q.2 rfl)).set (w.heap.size + 1) 1 (.slice As L cs) (fun q => q.2 rfl)).set (w.heap.size + 1) 2 (.int .i64 (k : Int)) (fun q => q.2 rfl)
  exact ⟨A3, c3, rfl, hkx.sees HFIN.out.1 fun a ha _ => hwx _ (HFIN.out.2.1 a ha), fun a ha => by have := HFIN.out.2.1 a ha; have := HSZ.out; omega, ⟨hkx.os.trans HFIN.out.2.2.os, hkx.tape.trans HFIN.out.2.2.tape, hkx.output.trans HFIN.out.2.2.output, Nat.le_trans HFIN.out.2.2.size hkx.size, fun j hj => (hkx.block j ⟨by omega, by omega⟩ (Nat.lt_of_lt_of_le hj HFIN.out.2.2.size)).trans (HFIN.out.2.2.block j hj)⟩⟩
end Go.Proofs.Ytjdcbmelladceaa
