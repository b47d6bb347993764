/-
  Layer 18: a reply that may be, with one field another one.
-/
import Derived.Test.YtihiclnbbpablaaTelQ
namespace Go.Proofs.Ytihiclnbbpablaa
open Go Go.RowKit
set_option linter.unusedVariables false
set_option linter.unusedSimpArgs false
theorem own_ne_type {w : World} {base sz tb n : Nat} {e t : TypeId} {v : Value} {xs : List Value} {cs : Array Value} {fr : Nat × Nat} (h : w.ownsRow base e sz v n xs) (hb : w.heap[tb]? = some (.cells cs t fr)) (ht : ¬ e = t) : v.ownBlock ≠ some tb := by
  obtain ⟨_, h2⟩ := h
  rcases h2 with ⟨rfl, _⟩ | ⟨g, cap, cur, rfl, _, hh, _⟩
  · intro e; cases e
  · intro e
    injection e with e
    subst e
    rw [hb] at hh
    injection hh with hh
    injection hh with _ h3 _
    exact ht h3.symm
theorem ne_types : ¬ 23 = 29 := by decide
theorem Mine.on2 {w w' : World} {base tb : Nat} {x : TL} {cs : Array Value} {fr : Nat × Nat} (h : Mine w base x) (hb : w.heap[tb]? = some (.cells cs 29 fr)) (hq : ∀ (i : Nat) (y : Int), ¬ cs[i]? = some (Value.int .u8 y)) (ho : On2 tb tb w w') : Mine w' base x :=
  ⟨own_on2 h.1 ho (own_ne_type h.1 hb ne_types), h.2.1, h.2.2.1, own_on2 h.2.2.2 ho (own_ne_type h.2.2.2 hb (by decide))⟩
theorem Mine.ext {w w' : World} {base : Nat} {x : TL} (h : Mine w base x) (he : Ext w w') : Mine w' base x := ⟨own_ext3 h.1 he, h.2.1, h.2.2.1, own_ext3 h.2.2.2 he⟩
theorem own_keep {w w' : World} {base sz n : Nat} {e : TypeId} {v : Value} {xs : List Value} (h : w.ownsRow base e sz v n xs) (hk : ∀ (k : Nat) (cs : Array Value) (fr : Nat × Nat), w.heap[k]? = some (.cells cs e fr) → w'.heap[k]? = some (.cells cs e fr)) : w'.ownsRow base e sz v n xs := by
  obtain ⟨h1, h2⟩ := h
  refine ⟨h1, ?_⟩
  rcases h2 with h2 | ⟨g, cap, cur, hv, hg, hh, r⟩
  · exact .inl h2
  · exact .inr ⟨g, cap, cur, hv, hg, hk _ _ _ hh, r⟩
theorem push_qid3 {a w : World} {base n : Nat} {v : Value} {l : List (Bool × Int × Int)} {q : Bool × Int × Int} {b : Nat} (hown : w.ownsRow base 23 3 v n (l.flatMap qc)) (hb : w.heap[b]? = some (.cells (qv q) 23 (0, 0))) (hn : n ≤ 1000) (he : Ext a w) (ha : a.heap.size ≤ base) (hbs : base ≤ w.heap.size) :
    ∃ v' w', (Builtin.append_ #[24, 24] 24 #[v, .slice (some ⟨b, 0, none⟩) 1 1]).run Try.prog w = .ok v' w' ∧ w'.ownsRow base 23 3 v' (n + 1) ((l ++ [q]).flatMap qc) ∧ (∀ (k : Nat) (cs : Array Value) (fr : Nat × Nat), w.heap[k]? = some (.cells cs 29 fr) → w'.heap[k]? = some (.cells cs 29 fr)) ∧ (∀ (k : Nat) (cs : Array Value) (t : TypeId) (fr : Nat × Nat), ¬ t = 23 → w.heap[k]? = some (.cells cs t fr) → w'.heap[k]? = some (.cells cs t fr)) ∧ Ext a w' := by
  have hi : ∃ i, Try.prog.info? 23 = some i ∧ i.size = 3 ∧ i.bytes = 24 ∧ ∃ z, i.zero = some z ∧ z.cells.size = 3 := by
    have h : (Try.prog.info? 23).map (fun i => (i.size, i.bytes, i.zero.map (·.cells.size))) = some (3, 24, some 3) := by kernel_rfl
    obtain ⟨i, hi, h1⟩ := Option.map_eq_some_iff.1 h
    injection h1 with h1 h2
    injection h2 with h2 h3
    obtain ⟨z, hz, hzs⟩ := Option.map_eq_some_iff.1 h3
    exact ⟨i, hi, h1, h2, z, hz, hzs⟩
  obtain ⟨i, hi, hs, hby, z, hz, hzs⟩ := hi
  obtain ⟨v', w', hrun, hown', hg, _⟩ := run_append_own (P := Try.prog) w base 24 24 23 i z 3 24 Try.underlying24 hi hz hs hby hzs (by omega) v n _ hown ⟨b, 0, none⟩ 1 1 (qc q) rfl
    (fun j u hu => by
      rw [addr_add, Nat.zero_add, cell_of_row w b j _ _ _ hb]
      simpa [qv, qc] using hu) (fun u hu => by simp [qc] at hu; rcases hu with rfl | rfl | rfl <;> rfl) (by unfold maxLen; omega) (by omega) hbs
  refine ⟨v', w', hrun, ?_, fun k cs fr hko => (hg.block k (Array.getElem?_eq_some_iff.1 hko).1 (fun e => own_ne_type hown hko ne_types e.symm)).trans hko, fun k cs t fr hne hko => (hg.block k (Array.getElem?_eq_some_iff.1 hko).1 (fun e => own_ne_type hown hko (fun e9 => hne e9.symm) e.symm)).trans hko, he.grown hg fun k hk => Nat.le_trans ha (hown.lt k hk).1⟩
  rw [List.flatMap_append]
  simpa using hown'
set_option maxRecDepth 20000 in
set_option maxHeartbeats 4000000 in
theorem odd18 (t : TL) (wh n : Int) (s : List UInt8) (w : World) (hr0 : t.rng) (hok : t.Ok w) (hw : I64 wh) (hsl : s.length ≤ 9223372036854775807) :
    Calls Try.prog 12 #[.agg t.cs, .int .i64 wh, .int .i64 n, .string ⟨s.toArray⟩] w fun e w' => ∃ x : TL, e = .returned (.agg x.cs) ∧ x.Ok w' ∧ x.qn ≤ 9 ∧ Ext w w' := by
  have hr := Lib.hid hr0
  obtain ⟨ab, hab⟩ : ∃ ab, w.heap.size = ab := ⟨_, rfl⟩
  obtain ⟨w2, hw2⟩ : ∃ w2, (w.alloc (.cells t.cs 29)).alloc (.cells #[.int .i64 0, .int .i64 0, .int .i64 0, .int .i64 0, .int .i64 0, .int .i64 0, .string ⟨#[]⟩, .bool false, .int .i64 0, .int .i64 0, .slice none 0 0, .slice none 0 0, .bool false, .int .i64 0, .int .i64 0, .int .i64 0, .int .i64 0, .string ⟨#[]⟩] 29) = w2 := ⟨_, rfl⟩
  have e2 : Ext w w2 := by rw [← hw2]; exact ((Ext.refl w).alloc _).alloc _
  have hb : w2.heap[ab]? = some (.cells t.cs 29 (0, 0)) := by rw [← hw2, ← hab]; exact ((Ext.refl _).alloc _).heap (heap_alloc_new w _)
  have hz : w2.heap[ab + 1]? = some (.cells #[.int .i64 0, .int .i64 0, .int .i64 0, .int .i64 0, .int .i64 0, .int .i64 0, .string ⟨#[]⟩, .bool false, .int .i64 0, .int .i64 0, .slice none 0 0, .slice none 0 0, .bool false, .int .i64 0, .int .i64 0, .int .i64 0, .int .i64 0, .string ⟨#[]⟩] 29 (0, 0)) := by rw [← hw2, ← hab]; exact heap_alloc2_new w _ _
  have hlt := (Array.getElem?_eq_some_iff.1 hz).1
  have HOK := Lib.hid (hok.ext e2)
  have HB := Lib.hid hb
  have HZ := Lib.hid hz
  have E2 := Lib.hid e2
  have HI := Lib.hid (fun b : TL => tl_info b)
  have HU := Lib.hid (fun b : TL => TL.one b)
  have HR := Lib.hid (aroundZ_bound wh 14 (by omega))
  have HW := Lib.hid hw
  have HSL := Lib.hid hsl
  clear hb hz e2 hok hr0 hw hsl
  go_enter Try.func12, Try.ntmps12
  go_wp2_with (first | (with_reducible refine wpList_load_row rfl 29 (.tmp 4) rfl ab rfl _ _ _ _ HB.out Try.underlying29 rfl (HI.out _) ?_) | fail)
  refine (good18_mine t _ hr.out HOK.out).mono ?_
  rintro e w3 ⟨G, rfl, hm, hg8, e3⟩
  obtain ⟨xb, hxb⟩ : ∃ xb, w3.heap.size = xb := ⟨_, rfl⟩
  have hx9 := e3.size
  have HZ3 := Lib.hid (e3.heap HZ.out)
  have HXA : Hid ((w3.alloc (.cells #[.int .i64 0, .int .i64 0, .int .i64 0, .int .i64 0, .int .i64 0, .int .i64 0, .string ⟨#[]⟩, .bool false, .int .i64 0, .int .i64 0, .slice none 0 0, .slice none 0 0, .bool false, .int .i64 0, .int .i64 0, .int .i64 0, .int .i64 0, .string ⟨#[]⟩] 29)).heap[xb]? = some (.cells #[.int .i64 0, .int .i64 0, .int .i64 0, .int .i64 0, .int .i64 0, .int .i64 0, .string ⟨#[]⟩, .bool false, .int .i64 0, .int .i64 0, .slice none 0 0, .slice none 0 0, .bool false, .int .i64 0, .int .i64 0, .int .i64 0, .int .i64 0, .string ⟨#[]⟩] 29 (0, 0))) := Lib.hid (by rw [← hxb]; exact heap_alloc_new _ _)
  obtain ⟨w4, hw4⟩ : ∃ w4, (w3.alloc (.cells #[.int .i64 0, .int .i64 0, .int .i64 0, .int .i64 0, .int .i64 0, .int .i64 0, .string ⟨#[]⟩, .bool false, .int .i64 0, .int .i64 0, .slice none 0 0, .slice none 0 0, .bool false, .int .i64 0, .int .i64 0, .int .i64 0, .int .i64 0, .string ⟨#[]⟩] 29)).setRow xb G.cs = w4 := ⟨_, rfl⟩
  have E34 : Hid (Ext w3 w4) := Lib.hid (by rw [← hw4]; exact below_setRow ((Ext.refl w3).alloc _) (by omega) _)
  have HX4 : Hid (w4.heap[xb]? = some (.cells G.cs 29 (0, 0))) := Lib.hid (by rw [← hw4]; exact setRow_heap _ xb _ _ _ _ HXA.out)
  have HZ4 := Lib.hid (E34.out.heap HZ3.out)
  have HM4 := Lib.hid (hm.ext E34.out)
  have E4 := Lib.hid ((E2.out.trans e3).trans E34.out)
  have HG8 := Lib.hid hg8
  have hne : ¬ ab + 1 = xb := by omega
  have hsz : w.heap.size ≤ ab + 1 := by omega
  have hsz2 : w.heap.size ≤ xb := by omega
  have HB2 : Hid (w.heap.size ≤ w2.heap.size ∧ w2.heap.size ≤ w4.heap.size) := Lib.hid ⟨E2.out.size, Nat.le_trans e3.size E34.out.size⟩
  clear hm e3 hx9 hg8
  go_wp2_with (first | (with_reducible refine wpList_store_row rfl 29 (.tmp 9) (.tmp 11) rfl xb _ rfl rfl _ _ HXA.out (HI.out _) rfl (HU.out _) ?_) | fail)
  refine (around_any wh 14 _ HW.out.1 HW.out.2 (by omega) (by omega)).mono ?_
  rintro e w5 ⟨rfl, rfl⟩
  obtain ⟨z, hz, hz9⟩ : ∃ z : Nat, aroundZ wh 14 = z ∧ z < 14 := ⟨(aroundZ wh 14).toNat, by have := HR.out; omega, by have := HR.out; omega⟩
  rw [hz]
  have hz3 : z = 0 ∨ z = 1 ∨ z = 2 ∨ z = 3 ∨ z = 4 ∨ z = 5 ∨ z = 6 ∨ z = 7 ∨ z = 8 ∨ z = 9 ∨ z = 10 ∨ z = 11 ∨ z = 12 ∨ z = 13 := by omega
  clear hz
  rcases hz3 with rfl | rfl | rfl | rfl | rfl | rfl | rfl | rfl | rfl | rfl | rfl | rfl | rfl | rfl
  · have x1 : ∃ o, w4.cell? ⟨xb, 0, none⟩ = some o := ⟨_, (cell_of_row _ xb 0 _ _ _ HX4.out).trans rfl⟩
    obtain ⟨o1, x1⟩ := x1
    have f1 := blk_freeC HX4.out 0
    have HO : Hid (On2 xb xb w4 (w4.setCell ⟨xb, 0, none⟩ (.int .i64 n))) := Lib.hid (On2.set _ _ _ (.inl rfl))
    have HX6 : Hid ((w4.setCell ⟨xb, 0, none⟩ (.int .i64 n)).heap[xb]? = some (.cells (TL.cs ({ (G : TL) with ty := n })) 29 (0, 0))) := Lib.hid (set_blkC HX4.out 0 _)
    have HZ6 := Lib.hid (HO.out.heap HZ4.out hne hne)
    have E6 := Lib.hid (HO.out.ext E4.out hsz2 hsz2)
    have HM6 : Hid (Mine (w4.setCell ⟨xb, 0, none⟩ (.int .i64 n)) w2.heap.size ({ (G : TL) with ty := n })) := Lib.hid (HM4.out.on2 HX4.out (TL.noB _) HO.out : Mine (w4.setCell ⟨xb, 0, none⟩ (.int .i64 n)) w2.heap.size G)
    have HG := Lib.hid (setRow_heap _ (ab + 1) _ (TL.cs ({ (G : TL) with ty := n })) _ _ HZ6.out)
    have EG := Lib.hid (below_setRow E6.out hsz (TL.cs ({ (G : TL) with ty := n })))
    have MG : Hid (Mine ((w4.setCell ⟨xb, 0, none⟩ (.int .i64 n)).setRow (ab + 1) (TL.cs ({ (G : TL) with ty := n }))) w2.heap.size ({ (G : TL) with ty := n })) := Lib.hid (HM6.out.on2 HZ6.out (fun i x h => by have hm := Array.mem_of_getElem? h; simp at hm) (on2_row _ _ _))
    go_wp2_with (first | (with_reducible refine wpList_load_row rfl 29 (.tmp 9) rfl xb rfl _ _ _ _ HX6.out Try.underlying29 rfl (HI.out _) ?_) | (with_reducible refine wpList_store_row rfl 29 (.tmp 8) (.tmp 82) rfl (ab + 1) _ rfl rfl _ _ HZ6.out (HI.out _) rfl (HU.out _) ?_) | fail)
    refine bodyPost_ret (results_cell_row rfl _ _ (ab + 1) _ _ (0, 0) _ rfl HG.out Try.underlying29 rfl (HI.out _)) rfl ?_
    exact ⟨_, rfl, MG.out.ok, MG.out.2.2.1, EG.out⟩
  · have x1 : ∃ o, w4.cell? ⟨xb, 1, none⟩ = some o := ⟨_, (cell_of_row _ xb 1 _ _ _ HX4.out).trans rfl⟩
    obtain ⟨o1, x1⟩ := x1
    have f1 := blk_freeC HX4.out 1
    have HO : Hid (On2 xb xb w4 (w4.setCell ⟨xb, 1, none⟩ (.int .i64 n))) := Lib.hid (On2.set _ _ _ (.inl rfl))
    have HX6 : Hid ((w4.setCell ⟨xb, 1, none⟩ (.int .i64 n)).heap[xb]? = some (.cells (TL.cs ({ (G : TL) with tg := n })) 29 (0, 0))) := Lib.hid (set_blkC HX4.out 1 _)
    have HZ6 := Lib.hid (HO.out.heap HZ4.out hne hne)
    have E6 := Lib.hid (HO.out.ext E4.out hsz2 hsz2)
    have HM6 : Hid (Mine (w4.setCell ⟨xb, 1, none⟩ (.int .i64 n)) w2.heap.size ({ (G : TL) with tg := n })) := Lib.hid (HM4.out.on2 HX4.out (TL.noB _) HO.out : Mine (w4.setCell ⟨xb, 1, none⟩ (.int .i64 n)) w2.heap.size G)
    have HG := Lib.hid (setRow_heap _ (ab + 1) _ (TL.cs ({ (G : TL) with tg := n })) _ _ HZ6.out)
    have EG := Lib.hid (below_setRow E6.out hsz (TL.cs ({ (G : TL) with tg := n })))
    have MG : Hid (Mine ((w4.setCell ⟨xb, 1, none⟩ (.int .i64 n)).setRow (ab + 1) (TL.cs ({ (G : TL) with tg := n }))) w2.heap.size ({ (G : TL) with tg := n })) := Lib.hid (HM6.out.on2 HZ6.out (fun i x h => by have hm := Array.mem_of_getElem? h; simp at hm) (on2_row _ _ _))
    go_wp2_with (first | (with_reducible refine wpList_load_row rfl 29 (.tmp 9) rfl xb rfl _ _ _ _ HX6.out Try.underlying29 rfl (HI.out _) ?_) | (with_reducible refine wpList_store_row rfl 29 (.tmp 8) (.tmp 82) rfl (ab + 1) _ rfl rfl _ _ HZ6.out (HI.out _) rfl (HU.out _) ?_) | fail)
    refine bodyPost_ret (results_cell_row rfl _ _ (ab + 1) _ _ (0, 0) _ rfl HG.out Try.underlying29 rfl (HI.out _)) rfl ?_
    exact ⟨_, rfl, MG.out.ok, MG.out.2.2.1, EG.out⟩
  · have x1 : ∃ o, w4.cell? ⟨xb, 2, none⟩ = some o := ⟨_, (cell_of_row _ xb 2 _ _ _ HX4.out).trans rfl⟩
    obtain ⟨o1, x1⟩ := x1
    have f1 := blk_freeC HX4.out 2
    have HO : Hid (On2 xb xb w4 (w4.setCell ⟨xb, 2, none⟩ (.int .i64 n))) := Lib.hid (On2.set _ _ _ (.inl rfl))
    have HX6 : Hid ((w4.setCell ⟨xb, 2, none⟩ (.int .i64 n)).heap[xb]? = some (.cells (TL.cs ({ (G : TL) with cd := n })) 29 (0, 0))) := Lib.hid (set_blkC HX4.out 2 _)
    have HZ6 := Lib.hid (HO.out.heap HZ4.out hne hne)
    have E6 := Lib.hid (HO.out.ext E4.out hsz2 hsz2)
    have HM6 : Hid (Mine (w4.setCell ⟨xb, 2, none⟩ (.int .i64 n)) w2.heap.size ({ (G : TL) with cd := n })) := Lib.hid (HM4.out.on2 HX4.out (TL.noB _) HO.out : Mine (w4.setCell ⟨xb, 2, none⟩ (.int .i64 n)) w2.heap.size G)
    have HG := Lib.hid (setRow_heap _ (ab + 1) _ (TL.cs ({ (G : TL) with cd := n })) _ _ HZ6.out)
    have EG := Lib.hid (below_setRow E6.out hsz (TL.cs ({ (G : TL) with cd := n })))
    have MG : Hid (Mine ((w4.setCell ⟨xb, 2, none⟩ (.int .i64 n)).setRow (ab + 1) (TL.cs ({ (G : TL) with cd := n }))) w2.heap.size ({ (G : TL) with cd := n })) := Lib.hid (HM6.out.on2 HZ6.out (fun i x h => by have hm := Array.mem_of_getElem? h; simp at hm) (on2_row _ _ _))
    go_wp2_with (first | (with_reducible refine wpList_load_row rfl 29 (.tmp 9) rfl xb rfl _ _ _ _ HX6.out Try.underlying29 rfl (HI.out _) ?_) | (with_reducible refine wpList_store_row rfl 29 (.tmp 8) (.tmp 82) rfl (ab + 1) _ rfl rfl _ _ HZ6.out (HI.out _) rfl (HU.out _) ?_) | fail)
    refine bodyPost_ret (results_cell_row rfl _ _ (ab + 1) _ _ (0, 0) _ rfl HG.out Try.underlying29 rfl (HI.out _)) rfl ?_
    exact ⟨_, rfl, MG.out.ok, MG.out.2.2.1, EG.out⟩
  · have x1 : ∃ o, w4.cell? ⟨xb, 3, none⟩ = some o := ⟨_, (cell_of_row _ xb 3 _ _ _ HX4.out).trans rfl⟩
    obtain ⟨o1, x1⟩ := x1
    have f1 := blk_freeC HX4.out 3
    have HO : Hid (On2 xb xb w4 (w4.setCell ⟨xb, 3, none⟩ (.int .i64 n))) := Lib.hid (On2.set _ _ _ (.inl rfl))
    have HX6 : Hid ((w4.setCell ⟨xb, 3, none⟩ (.int .i64 n)).heap[xb]? = some (.cells (TL.cs ({ (G : TL) with ms := n })) 29 (0, 0))) := Lib.hid (set_blkC HX4.out 3 _)
    have HZ6 := Lib.hid (HO.out.heap HZ4.out hne hne)
    have E6 := Lib.hid (HO.out.ext E4.out hsz2 hsz2)
    have HM6 : Hid (Mine (w4.setCell ⟨xb, 3, none⟩ (.int .i64 n)) w2.heap.size ({ (G : TL) with ms := n })) := Lib.hid (HM4.out.on2 HX4.out (TL.noB _) HO.out : Mine (w4.setCell ⟨xb, 3, none⟩ (.int .i64 n)) w2.heap.size G)
    have HG := Lib.hid (setRow_heap _ (ab + 1) _ (TL.cs ({ (G : TL) with ms := n })) _ _ HZ6.out)
    have EG := Lib.hid (below_setRow E6.out hsz (TL.cs ({ (G : TL) with ms := n })))
    have MG : Hid (Mine ((w4.setCell ⟨xb, 3, none⟩ (.int .i64 n)).setRow (ab + 1) (TL.cs ({ (G : TL) with ms := n }))) w2.heap.size ({ (G : TL) with ms := n })) := Lib.hid (HM6.out.on2 HZ6.out (fun i x h => by have hm := Array.mem_of_getElem? h; simp at hm) (on2_row _ _ _))
    go_wp2_with (first | (with_reducible refine wpList_load_row rfl 29 (.tmp 9) rfl xb rfl _ _ _ _ HX6.out Try.underlying29 rfl (HI.out _) ?_) | (with_reducible refine wpList_store_row rfl 29 (.tmp 8) (.tmp 82) rfl (ab + 1) _ rfl rfl _ _ HZ6.out (HI.out _) rfl (HU.out _) ?_) | fail)
    refine bodyPost_ret (results_cell_row rfl _ _ (ab + 1) _ _ (0, 0) _ rfl HG.out Try.underlying29 rfl (HI.out _)) rfl ?_
    exact ⟨_, rfl, MG.out.ok, MG.out.2.2.1, EG.out⟩
  · have x1 : ∃ o, w4.cell? ⟨xb, 4, none⟩ = some o := ⟨_, (cell_of_row _ xb 4 _ _ _ HX4.out).trans rfl⟩
    obtain ⟨o1, x1⟩ := x1
    have f1 := blk_freeC HX4.out 4
    have HO : Hid (On2 xb xb w4 (w4.setCell ⟨xb, 4, none⟩ (.int .i64 n))) := Lib.hid (On2.set _ _ _ (.inl rfl))
    have HX6 : Hid ((w4.setCell ⟨xb, 4, none⟩ (.int .i64 n)).heap[xb]? = some (.cells (TL.cs ({ (G : TL) with io := n })) 29 (0, 0))) := Lib.hid (set_blkC HX4.out 4 _)
    have HZ6 := Lib.hid (HO.out.heap HZ4.out hne hne)
    have E6 := Lib.hid (HO.out.ext E4.out hsz2 hsz2)
    have HM6 : Hid (Mine (w4.setCell ⟨xb, 4, none⟩ (.int .i64 n)) w2.heap.size ({ (G : TL) with io := n })) := Lib.hid (HM4.out.on2 HX4.out (TL.noB _) HO.out : Mine (w4.setCell ⟨xb, 4, none⟩ (.int .i64 n)) w2.heap.size G)
    have HG := Lib.hid (setRow_heap _ (ab + 1) _ (TL.cs ({ (G : TL) with io := n })) _ _ HZ6.out)
    have EG := Lib.hid (below_setRow E6.out hsz (TL.cs ({ (G : TL) with io := n })))
    have MG : Hid (Mine ((w4.setCell ⟨xb, 4, none⟩ (.int .i64 n)).setRow (ab + 1) (TL.cs ({ (G : TL) with io := n }))) w2.heap.size ({ (G : TL) with io := n })) := Lib.hid (HM6.out.on2 HZ6.out (fun i x h => by have hm := Array.mem_of_getElem? h; simp at hm) (on2_row _ _ _))
    go_wp2_with (first | (with_reducible refine wpList_load_row rfl 29 (.tmp 9) rfl xb rfl _ _ _ _ HX6.out Try.underlying29 rfl (HI.out _) ?_) | (with_reducible refine wpList_store_row rfl 29 (.tmp 8) (.tmp 82) rfl (ab + 1) _ rfl rfl _ _ HZ6.out (HI.out _) rfl (HU.out _) ?_) | fail)
    refine bodyPost_ret (results_cell_row rfl _ _ (ab + 1) _ _ (0, 0) _ rfl HG.out Try.underlying29 rfl (HI.out _)) rfl ?_
    exact ⟨_, rfl, MG.out.ok, MG.out.2.2.1, EG.out⟩
  · have x1 : ∃ o, w4.cell? ⟨xb, 5, none⟩ = some o := ⟨_, (cell_of_row _ xb 5 _ _ _ HX4.out).trans rfl⟩
    obtain ⟨o1, x1⟩ := x1
    have f1 := blk_freeC HX4.out 5
    have HO : Hid (On2 xb xb w4 (w4.setCell ⟨xb, 5, none⟩ (.int .i64 n))) := Lib.hid (On2.set _ _ _ (.inl rfl))
    have HX6 : Hid ((w4.setCell ⟨xb, 5, none⟩ (.int .i64 n)).heap[xb]? = some (.cells (TL.cs ({ (G : TL) with ct := n })) 29 (0, 0))) := Lib.hid (set_blkC HX4.out 5 _)
    have HZ6 := Lib.hid (HO.out.heap HZ4.out hne hne)
    have E6 := Lib.hid (HO.out.ext E4.out hsz2 hsz2)
    have HM6 : Hid (Mine (w4.setCell ⟨xb, 5, none⟩ (.int .i64 n)) w2.heap.size ({ (G : TL) with ct := n })) := Lib.hid (HM4.out.on2 HX4.out (TL.noB _) HO.out : Mine (w4.setCell ⟨xb, 5, none⟩ (.int .i64 n)) w2.heap.size G)
    have HG := Lib.hid (setRow_heap _ (ab + 1) _ (TL.cs ({ (G : TL) with ct := n })) _ _ HZ6.out)
    have EG := Lib.hid (below_setRow E6.out hsz (TL.cs ({ (G : TL) with ct := n })))
    have MG : Hid (Mine ((w4.setCell ⟨xb, 5, none⟩ (.int .i64 n)).setRow (ab + 1) (TL.cs ({ (G : TL) with ct := n }))) w2.heap.size ({ (G : TL) with ct := n })) := Lib.hid (HM6.out.on2 HZ6.out (fun i x h => by have hm := Array.mem_of_getElem? h; simp at hm) (on2_row _ _ _))
    go_wp2_with (first | (with_reducible refine wpList_load_row rfl 29 (.tmp 9) rfl xb rfl _ _ _ _ HX6.out Try.underlying29 rfl (HI.out _) ?_) | (with_reducible refine wpList_store_row rfl 29 (.tmp 8) (.tmp 82) rfl (ab + 1) _ rfl rfl _ _ HZ6.out (HI.out _) rfl (HU.out _) ?_) | fail)
    refine bodyPost_ret (results_cell_row rfl _ _ (ab + 1) _ _ (0, 0) _ rfl HG.out Try.underlying29 rfl (HI.out _)) rfl ?_
    exact ⟨_, rfl, MG.out.ok, MG.out.2.2.1, EG.out⟩
  · have x1 : ∃ o, w4.cell? ⟨xb, 6, none⟩ = some o := ⟨_, (cell_of_row _ xb 6 _ _ _ HX4.out).trans rfl⟩
    obtain ⟨o1, x1⟩ := x1
    have f1 := blk_freeC HX4.out 6
    have HO : Hid (On2 xb xb w4 (w4.setCell ⟨xb, 6, none⟩ (.string ⟨(s.take 300).toArray⟩))) := Lib.hid (On2.set _ _ _ (.inl rfl))
    have HX6 : Hid ((w4.setCell ⟨xb, 6, none⟩ (.string ⟨(s.take 300).toArray⟩)).heap[xb]? = some (.cells (TL.cs ({ (G : TL) with nm := s.take 300 })) 29 (0, 0))) := Lib.hid (set_blkC HX4.out 6 _)
    have HZ6 := Lib.hid (HO.out.heap HZ4.out hne hne)
    have E6 := Lib.hid (HO.out.ext E4.out hsz2 hsz2)
    have HM6 : Hid (Mine (w4.setCell ⟨xb, 6, none⟩ (.string ⟨(s.take 300).toArray⟩)) w2.heap.size ({ (G : TL) with nm := s.take 300 })) := Lib.hid (HM4.out.on2 HX4.out (TL.noB _) HO.out : Mine (w4.setCell ⟨xb, 6, none⟩ (.string ⟨(s.take 300).toArray⟩)) w2.heap.size G)
    have HG := Lib.hid (setRow_heap _ (ab + 1) _ (TL.cs ({ (G : TL) with nm := s.take 300 })) _ _ HZ6.out)
    have EG := Lib.hid (below_setRow E6.out hsz (TL.cs ({ (G : TL) with nm := s.take 300 })))
    have MG : Hid (Mine ((w4.setCell ⟨xb, 6, none⟩ (.string ⟨(s.take 300).toArray⟩)).setRow (ab + 1) (TL.cs ({ (G : TL) with nm := s.take 300 }))) w2.heap.size ({ (G : TL) with nm := s.take 300 })) := Lib.hid (HM6.out.on2 HZ6.out (fun i x h => by have hm := Array.mem_of_getElem? h; simp at hm) (on2_row _ _ _))
    go_wp2_with fail
    refine (short_any s 300 300 rfl _ HSL.out).mono ?_
    rintro e _ ⟨rfl, rfl⟩
    go_wp2_with (first | (with_reducible refine wpList_load_row rfl 29 (.tmp 9) rfl xb rfl _ _ _ _ HX6.out Try.underlying29 rfl (HI.out _) ?_) | (with_reducible refine wpList_store_row rfl 29 (.tmp 8) (.tmp 82) rfl (ab + 1) _ rfl rfl _ _ HZ6.out (HI.out _) rfl (HU.out _) ?_) | fail)
    refine bodyPost_ret (results_cell_row rfl _ _ (ab + 1) _ _ (0, 0) _ rfl HG.out Try.underlying29 rfl (HI.out _)) rfl ?_
    exact ⟨_, rfl, MG.out.ok, MG.out.2.2.1, EG.out⟩
  · have x1 : ∃ o, w4.cell? ⟨xb, 8, none⟩ = some o := ⟨_, (cell_of_row _ xb 8 _ _ _ HX4.out).trans rfl⟩
    obtain ⟨o1, x1⟩ := x1
    have f1 := blk_freeC HX4.out 8
    have HO : Hid (On2 xb xb w4 (w4.setCell ⟨xb, 8, none⟩ (.int .i64 n))) := Lib.hid (On2.set _ _ _ (.inl rfl))
    have HX6 : Hid ((w4.setCell ⟨xb, 8, none⟩ (.int .i64 n)).heap[xb]? = some (.cells (TL.cs ({ (G : TL) with q := (G.q.1, n, G.q.2.2) })) 29 (0, 0))) := Lib.hid (set_blkC HX4.out 8 _)
    have HZ6 := Lib.hid (HO.out.heap HZ4.out hne hne)
    have E6 := Lib.hid (HO.out.ext E4.out hsz2 hsz2)
    have HM6 : Hid (Mine (w4.setCell ⟨xb, 8, none⟩ (.int .i64 n)) w2.heap.size ({ (G : TL) with q := (G.q.1, n, G.q.2.2) })) := Lib.hid (HM4.out.on2 HX4.out (TL.noB _) HO.out : Mine (w4.setCell ⟨xb, 8, none⟩ (.int .i64 n)) w2.heap.size G)
    have HG := Lib.hid (setRow_heap _ (ab + 1) _ (TL.cs ({ (G : TL) with q := (G.q.1, n, G.q.2.2) })) _ _ HZ6.out)
    have EG := Lib.hid (below_setRow E6.out hsz (TL.cs ({ (G : TL) with q := (G.q.1, n, G.q.2.2) })))
    have MG : Hid (Mine ((w4.setCell ⟨xb, 8, none⟩ (.int .i64 n)).setRow (ab + 1) (TL.cs ({ (G : TL) with q := (G.q.1, n, G.q.2.2) }))) w2.heap.size ({ (G : TL) with q := (G.q.1, n, G.q.2.2) })) := Lib.hid (HM6.out.on2 HZ6.out (fun i x h => by have hm := Array.mem_of_getElem? h; simp at hm) (on2_row _ _ _))
    go_wp2_with (first | (with_reducible refine wpList_load_row rfl 29 (.tmp 9) rfl xb rfl _ _ _ _ HX6.out Try.underlying29 rfl (HI.out _) ?_) | (with_reducible refine wpList_store_row rfl 29 (.tmp 8) (.tmp 82) rfl (ab + 1) _ rfl rfl _ _ HZ6.out (HI.out _) rfl (HU.out _) ?_) | fail)
    refine bodyPost_ret (results_cell_row rfl _ _ (ab + 1) _ _ (0, 0) _ rfl HG.out Try.underlying29 rfl (HI.out _)) rfl ?_
    exact ⟨_, rfl, MG.out.ok, MG.out.2.2.1, EG.out⟩
  · have x1 : ∃ o, w4.cell? ⟨xb, 9, none⟩ = some o := ⟨_, (cell_of_row _ xb 9 _ _ _ HX4.out).trans rfl⟩
    obtain ⟨o1, x1⟩ := x1
    have f1 := blk_freeC HX4.out 9
    have HO : Hid (On2 xb xb w4 (w4.setCell ⟨xb, 9, none⟩ (.int .i64 n))) := Lib.hid (On2.set _ _ _ (.inl rfl))
    have HX6 : Hid ((w4.setCell ⟨xb, 9, none⟩ (.int .i64 n)).heap[xb]? = some (.cells (TL.cs ({ (G : TL) with q := (G.q.1, G.q.2.1, n) })) 29 (0, 0))) := Lib.hid (set_blkC HX4.out 9 _)
    have HZ6 := Lib.hid (HO.out.heap HZ4.out hne hne)
    have E6 := Lib.hid (HO.out.ext E4.out hsz2 hsz2)
    have HM6 : Hid (Mine (w4.setCell ⟨xb, 9, none⟩ (.int .i64 n)) w2.heap.size ({ (G : TL) with q := (G.q.1, G.q.2.1, n) })) := Lib.hid (HM4.out.on2 HX4.out (TL.noB _) HO.out : Mine (w4.setCell ⟨xb, 9, none⟩ (.int .i64 n)) w2.heap.size G)
    have HG := Lib.hid (setRow_heap _ (ab + 1) _ (TL.cs ({ (G : TL) with q := (G.q.1, G.q.2.1, n) })) _ _ HZ6.out)
    have EG := Lib.hid (below_setRow E6.out hsz (TL.cs ({ (G : TL) with q := (G.q.1, G.q.2.1, n) })))
    have MG : Hid (Mine ((w4.setCell ⟨xb, 9, none⟩ (.int .i64 n)).setRow (ab + 1) (TL.cs ({ (G : TL) with q := (G.q.1, G.q.2.1, n) }))) w2.heap.size ({ (G : TL) with q := (G.q.1, G.q.2.1, n) })) := Lib.hid (HM6.out.on2 HZ6.out (fun i x h => by have hm := Array.mem_of_getElem? h; simp at hm) (on2_row _ _ _))
    go_wp2_with (first | (with_reducible refine wpList_load_row rfl 29 (.tmp 9) rfl xb rfl _ _ _ _ HX6.out Try.underlying29 rfl (HI.out _) ?_) | (with_reducible refine wpList_store_row rfl 29 (.tmp 8) (.tmp 82) rfl (ab + 1) _ rfl rfl _ _ HZ6.out (HI.out _) rfl (HU.out _) ?_) | fail)
    refine bodyPost_ret (results_cell_row rfl _ _ (ab + 1) _ _ (0, 0) _ rfl HG.out Try.underlying29 rfl (HI.out _)) rfl ?_
    exact ⟨_, rfl, MG.out.ok, MG.out.2.2.1, EG.out⟩
  · have x1 : ∃ o, w4.cell? ⟨xb, 15, none⟩ = some o := ⟨_, (cell_of_row _ xb 15 _ _ _ HX4.out).trans rfl⟩
    obtain ⟨o1, x1⟩ := x1
    have f1 := blk_freeC HX4.out 15
    have HO : Hid (On2 xb xb w4 (w4.setCell ⟨xb, 15, none⟩ (.int .i64 n))) := Lib.hid (On2.set _ _ _ (.inl rfl))
    have HX6 : Hid ((w4.setCell ⟨xb, 15, none⟩ (.int .i64 n)).heap[xb]? = some (.cells (TL.cs ({ (G : TL) with sm := n })) 29 (0, 0))) := Lib.hid (set_blkC HX4.out 15 _)
    have HZ6 := Lib.hid (HO.out.heap HZ4.out hne hne)
    have E6 := Lib.hid (HO.out.ext E4.out hsz2 hsz2)
    have HM6 : Hid (Mine (w4.setCell ⟨xb, 15, none⟩ (.int .i64 n)) w2.heap.size ({ (G : TL) with sm := n })) := Lib.hid (HM4.out.on2 HX4.out (TL.noB _) HO.out : Mine (w4.setCell ⟨xb, 15, none⟩ (.int .i64 n)) w2.heap.size G)
    have HG := Lib.hid (setRow_heap _ (ab + 1) _ (TL.cs ({ (G : TL) with sm := n })) _ _ HZ6.out)
    have EG := Lib.hid (below_setRow E6.out hsz (TL.cs ({ (G : TL) with sm := n })))
    have MG : Hid (Mine ((w4.setCell ⟨xb, 15, none⟩ (.int .i64 n)).setRow (ab + 1) (TL.cs ({ (G : TL) with sm := n }))) w2.heap.size ({ (G : TL) with sm := n })) := Lib.hid (HM6.out.on2 HZ6.out (fun i x h => by have hm := Array.mem_of_getElem? h; simp at hm) (on2_row _ _ _))
    go_wp2_with (first | (with_reducible refine wpList_load_row rfl 29 (.tmp 9) rfl xb rfl _ _ _ _ HX6.out Try.underlying29 rfl (HI.out _) ?_) | (with_reducible refine wpList_store_row rfl 29 (.tmp 8) (.tmp 82) rfl (ab + 1) _ rfl rfl _ _ HZ6.out (HI.out _) rfl (HU.out _) ?_) | fail)
    refine bodyPost_ret (results_cell_row rfl _ _ (ab + 1) _ _ (0, 0) _ rfl HG.out Try.underlying29 rfl (HI.out _)) rfl ?_
    exact ⟨_, rfl, MG.out.ok, MG.out.2.2.1, EG.out⟩
  · have x1 : ∃ o, w4.cell? ⟨xb, 16, none⟩ = some o := ⟨_, (cell_of_row _ xb 16 _ _ _ HX4.out).trans rfl⟩
    obtain ⟨o1, x1⟩ := x1
    have f1 := blk_freeC HX4.out 16
    have HO : Hid (On2 xb xb w4 (w4.setCell ⟨xb, 16, none⟩ (.int .i64 n))) := Lib.hid (On2.set _ _ _ (.inl rfl))
    have HX6 : Hid ((w4.setCell ⟨xb, 16, none⟩ (.int .i64 n)).heap[xb]? = some (.cells (TL.cs ({ (G : TL) with sz := n })) 29 (0, 0))) := Lib.hid (set_blkC HX4.out 16 _)
    have HZ6 := Lib.hid (HO.out.heap HZ4.out hne hne)
    have E6 := Lib.hid (HO.out.ext E4.out hsz2 hsz2)
    have HM6 : Hid (Mine (w4.setCell ⟨xb, 16, none⟩ (.int .i64 n)) w2.heap.size ({ (G : TL) with sz := n })) := Lib.hid (HM4.out.on2 HX4.out (TL.noB _) HO.out : Mine (w4.setCell ⟨xb, 16, none⟩ (.int .i64 n)) w2.heap.size G)
    have HG := Lib.hid (setRow_heap _ (ab + 1) _ (TL.cs ({ (G : TL) with sz := n })) _ _ HZ6.out)
    have EG := Lib.hid (below_setRow E6.out hsz (TL.cs ({ (G : TL) with sz := n })))
    have MG : Hid (Mine ((w4.setCell ⟨xb, 16, none⟩ (.int .i64 n)).setRow (ab + 1) (TL.cs ({ (G : TL) with sz := n }))) w2.heap.size ({ (G : TL) with sz := n })) := Lib.hid (HM6.out.on2 HZ6.out (fun i x h => by have hm := Array.mem_of_getElem? h; simp at hm) (on2_row _ _ _))
    go_wp2_with (first | (with_reducible refine wpList_load_row rfl 29 (.tmp 9) rfl xb rfl _ _ _ _ HX6.out Try.underlying29 rfl (HI.out _) ?_) | (with_reducible refine wpList_store_row rfl 29 (.tmp 8) (.tmp 82) rfl (ab + 1) _ rfl rfl _ _ HZ6.out (HI.out _) rfl (HU.out _) ?_) | fail)
    refine bodyPost_ret (results_cell_row rfl _ _ (ab + 1) _ _ (0, 0) _ rfl HG.out Try.underlying29 rfl (HI.out _)) rfl ?_
    exact ⟨_, rfl, MG.out.ok, MG.out.2.2.1, EG.out⟩
  · have x1 : ∃ o, w4.cell? ⟨xb, 17, none⟩ = some o := ⟨_, (cell_of_row _ xb 17 _ _ _ HX4.out).trans rfl⟩
    obtain ⟨o1, x1⟩ := x1
    have f1 := blk_freeC HX4.out 17
    have HO : Hid (On2 xb xb w4 (w4.setCell ⟨xb, 17, none⟩ (.string ⟨(s.take 300).toArray⟩))) := Lib.hid (On2.set _ _ _ (.inl rfl))
    have HX6 : Hid ((w4.setCell ⟨xb, 17, none⟩ (.string ⟨(s.take 300).toArray⟩)).heap[xb]? = some (.cells (TL.cs ({ (G : TL) with sn := s.take 300 })) 29 (0, 0))) := Lib.hid (set_blkC HX4.out 17 _)
    have HZ6 := Lib.hid (HO.out.heap HZ4.out hne hne)
    have E6 := Lib.hid (HO.out.ext E4.out hsz2 hsz2)
    have HM6 : Hid (Mine (w4.setCell ⟨xb, 17, none⟩ (.string ⟨(s.take 300).toArray⟩)) w2.heap.size ({ (G : TL) with sn := s.take 300 })) := Lib.hid (HM4.out.on2 HX4.out (TL.noB _) HO.out : Mine (w4.setCell ⟨xb, 17, none⟩ (.string ⟨(s.take 300).toArray⟩)) w2.heap.size G)
    have HG := Lib.hid (setRow_heap _ (ab + 1) _ (TL.cs ({ (G : TL) with sn := s.take 300 })) _ _ HZ6.out)
    have EG := Lib.hid (below_setRow E6.out hsz (TL.cs ({ (G : TL) with sn := s.take 300 })))
    have MG : Hid (Mine ((w4.setCell ⟨xb, 17, none⟩ (.string ⟨(s.take 300).toArray⟩)).setRow (ab + 1) (TL.cs ({ (G : TL) with sn := s.take 300 }))) w2.heap.size ({ (G : TL) with sn := s.take 300 })) := Lib.hid (HM6.out.on2 HZ6.out (fun i x h => by have hm := Array.mem_of_getElem? h; simp at hm) (on2_row _ _ _))
    go_wp2_with fail
    refine (short_any s 300 300 rfl _ HSL.out).mono ?_
    rintro e _ ⟨rfl, rfl⟩
    go_wp2_with (first | (with_reducible refine wpList_load_row rfl 29 (.tmp 9) rfl xb rfl _ _ _ _ HX6.out Try.underlying29 rfl (HI.out _) ?_) | (with_reducible refine wpList_store_row rfl 29 (.tmp 8) (.tmp 82) rfl (ab + 1) _ rfl rfl _ _ HZ6.out (HI.out _) rfl (HU.out _) ?_) | fail)
    refine bodyPost_ret (results_cell_row rfl _ _ (ab + 1) _ _ (0, 0) _ rfl HG.out Try.underlying29 rfl (HI.out _)) rfl ?_
    exact ⟨_, rfl, MG.out.ok, MG.out.2.2.1, EG.out⟩
  · have x1 : ∃ o, w4.cell? ⟨xb, 14, none⟩ = some o := ⟨_, (cell_of_row _ xb 14 _ _ _ HX4.out).trans rfl⟩
    obtain ⟨o1, x1⟩ := x1
    have f1 := blk_freeC HX4.out 14
    have HO : Hid (On2 xb xb w4 (w4.setCell ⟨xb, 14, none⟩ (.int .i64 n))) := Lib.hid (On2.set _ _ _ (.inl rfl))
    have HX6 : Hid ((w4.setCell ⟨xb, 14, none⟩ (.int .i64 n)).heap[xb]? = some (.cells (TL.cs ({ (G : TL) with s := (G.s.1, G.s.2.1, n) })) 29 (0, 0))) := Lib.hid (set_blkC HX4.out 14 _)
    have HZ6 := Lib.hid (HO.out.heap HZ4.out hne hne)
    have E6 := Lib.hid (HO.out.ext E4.out hsz2 hsz2)
    have HM6 : Hid (Mine (w4.setCell ⟨xb, 14, none⟩ (.int .i64 n)) w2.heap.size ({ (G : TL) with s := (G.s.1, G.s.2.1, n) })) := Lib.hid (HM4.out.on2 HX4.out (TL.noB _) HO.out : Mine (w4.setCell ⟨xb, 14, none⟩ (.int .i64 n)) w2.heap.size G)
    have HG := Lib.hid (setRow_heap _ (ab + 1) _ (TL.cs ({ (G : TL) with s := (G.s.1, G.s.2.1, n) })) _ _ HZ6.out)
    have EG := Lib.hid (below_setRow E6.out hsz (TL.cs ({ (G : TL) with s := (G.s.1, G.s.2.1, n) })))
    have MG : Hid (Mine ((w4.setCell ⟨xb, 14, none⟩ (.int .i64 n)).setRow (ab + 1) (TL.cs ({ (G : TL) with s := (G.s.1, G.s.2.1, n) }))) w2.heap.size ({ (G : TL) with s := (G.s.1, G.s.2.1, n) })) := Lib.hid (HM6.out.on2 HZ6.out (fun i x h => by have hm := Array.mem_of_getElem? h; simp at hm) (on2_row _ _ _))
    go_wp2_with (first | (with_reducible refine wpList_load_row rfl 29 (.tmp 9) rfl xb rfl _ _ _ _ HX6.out Try.underlying29 rfl (HI.out _) ?_) | (with_reducible refine wpList_store_row rfl 29 (.tmp 8) (.tmp 82) rfl (ab + 1) _ rfl rfl _ _ HZ6.out (HI.out _) rfl (HU.out _) ?_) | fail)
    refine bodyPost_ret (results_cell_row rfl _ _ (ab + 1) _ _ (0, 0) _ rfl HG.out Try.underlying29 rfl (HI.out _)) rfl ?_
    exact ⟨_, rfl, MG.out.ok, MG.out.2.2.1, EG.out⟩
  · obtain ⟨nb, hnb⟩ : ∃ nb, w4.heap.size = nb := ⟨_, rfl⟩
    have x1 : w4.cell? ⟨xb, 10, none⟩ = some (.slice G.qA G.qn G.qk) := (cell_of_row _ xb 10 _ _ _ HX4.out).trans rfl
    obtain ⟨w5, hw5⟩ : ∃ w5, w4.alloc (.cells #[.bool false, .int .i64 n, .int .i64 0] 23) = w5 := ⟨_, rfl⟩
    have e5 : Ext w4 w5 := by rw [← hw5]; exact (Ext.refl _).alloc _
    have hn5 : w5.heap[nb]? = some (.cells (qv (false, n, 0)) 23 (0, 0)) := by rw [← hw5, ← hnb]; exact heap_alloc_new _ _
    have hm5 := HM4.out.ext e5
    obtain ⟨v7, w7, hrun, own7, _, hk7, e7⟩ := push_qid3 hm5.1 hn5 (by have := HG8.out; omega) (E4.out.trans e5) HB2.out.1 (Nat.le_trans HB2.out.2 e5.size)
    have hlen7 : (G.ql ++ [(false, n, 0)]).length = G.qn + 1 := by rw [List.length_append, hm5.2.1]; rfl
    obtain ⟨A7, c7, rfl, hsq7⟩ := seesQ_own own7 hlen7
    have HX7 := Lib.hid (hk7 xb _ 29 _ (by decide) (e5.heap HX4.out))
    have HZ7 := Lib.hid (hk7 (ab + 1) _ 29 _ (by decide) (e5.heap HZ4.out))
    have hd7 : w7.ownsRow w2.heap.size 5 1 (.slice G.dA G.dn G.dk) G.dn (bs G.dl) := own_keep hm5.2.2.2 (fun k cs fr h => hk7 k cs _ fr (by decide) h)
    obtain ⟨y, hy⟩ : ∃ y : TL, { (G : TL) with qA := A7, qn := G.qn + 1, qk := c7, ql := G.ql ++ [(false, n, 0)] } = y := ⟨_, rfl⟩
    have x7 : w7.cell? ⟨xb, 10, none⟩ = some (.slice G.qA G.qn G.qk) := (cell_of_row _ xb 10 _ _ _ HX7.out).trans rfl
    have f7 := blk_freeC HX7.out 10
    obtain ⟨w8, hw8⟩ : ∃ w8, w7.setCell ⟨xb, 10, none⟩ (.slice A7 (G.qn + 1) c7) = w8 := ⟨_, rfl⟩
    have o8 : On2 xb xb w7 w8 := by rw [← hw8]; exact On2.set _ _ _ (.inl rfl)
    have HX6 : Hid (w8.heap[xb]? = some (.cells y.cs 29 (0, 0))) := Lib.hid (by rw [← hw8, ← hy]; exact set_blkC HX7.out 10 _)
    have HZ6 := Lib.hid (o8.heap HZ7.out hne hne)
    have E6 := Lib.hid (o8.ext e7 hsz2 hsz2)
    have hm7 : Mine w7 w2.heap.size y := by
      rw [← hy]
      exact ⟨own7, hlen7, by have := HG8.out; show G.qn + 1 ≤ 9; omega, hd7⟩
    have HM6 := Lib.hid (hm7.on2 HX7.out (TL.noB _) o8)
    have HG := Lib.hid (setRow_heap _ (ab + 1) _ y.cs _ _ HZ6.out)
    have EG := Lib.hid (below_setRow E6.out hsz y.cs)
    have MG := Lib.hid (HM6.out.on2 HZ6.out (fun i x h => by have hm := Array.mem_of_getElem? h; simp at hm) (on2_row w8 (ab + 1) y.cs))
    clear hm5 hn5 own7 hk7 e7 hd7 hy hm7 o8 e5
    go_wp2_with (first | (at_builtin; refine wpList_append_run rfl (.tmp 15) (.tmp 18) _ rfl _ _ rfl rfl _ w7 hrun ?_) | (with_reducible refine wpList_load_row rfl 29 (.tmp 9) rfl xb rfl _ _ _ _ HX6.out Try.underlying29 rfl (HI.out _) ?_) | (with_reducible refine wpList_store_row rfl 29 (.tmp 8) (.tmp 82) rfl (ab + 1) _ rfl rfl _ _ HZ6.out (HI.out _) rfl (HU.out _) ?_) | fail)
    refine bodyPost_ret (results_cell_row rfl _ _ (ab + 1) _ _ (0, 0) _ rfl HG.out Try.underlying29 rfl (HI.out _)) rfl ?_
    exact ⟨_, rfl, MG.out.ok, MG.out.2.2.1, EG.out⟩
end Go.Proofs.Ytihiclnbbpablaa
