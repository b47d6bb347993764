/-
  Layer 18: a field within its bounds; a reply without a field; the fields of a kind.
-/
import Derived.Test.YtihiclnbbpablaaTellA
namespace Go.Proofs.Ytihiclnbbpablaa
open Go Go.RowKit
set_option linter.unusedVariables false
set_option linter.unusedSimpArgs false
def bnd (t : TL) : Nat → Bool
  | 0 => bi t.ms 4294967295
  | 1 => decide ((t.nm.length : Int) ≤ 255)
  | 2 => bq t.q
  | 3 => bi t.cd 65535
  | 4 => decide ((t.qn : Int) ≤ 8) && t.ql.all bq
  | 5 => bi t.io 4294967295
  | 6 => decide ((t.dn : Int) ≤ 1024)
  | 7 => bi t.ct 4294967295
  | _ => bst t
def wo (t : TL) : Nat → TL
  | 0 => { t with ms := 0 }
  | 1 => { t with nm := [] }
  | 2 => { t with q := (false, 0, 0) }
  | 3 => { t with cd := 0 }
  | 4 => { t with qA := none, qn := 0, qk := 0, ql := [] }
  | 5 => { t with io := 0 }
  | 6 => { t with dA := none, dn := 0, dk := 0, dl := [] }
  | 7 => { t with ct := 0 }
  | 8 => { t with s := (false, 0, 0), sm := 0, sz := 0, sn := [] }
  | _ => t
theorem TL.Ok.wo {w : World} {t : TL} (h : t.Ok w) (f : Nat) : (wo t f).Ok w := by
  match f with
  | 0 => exact h
  | 1 => exact h
  | 2 => exact h
  | 3 => exact h
  | 4 => exact ⟨SeesQ.nil w, h.2⟩
  | 5 => exact h
  | 6 => exact ⟨h.1, Sees.nil w⟩
  | 7 => exact h
  | 8 => exact h
  | _ + 9 => exact h
theorem bounded_0 (t : TL) (w : World) : Calls Try.prog 40 #[.agg t.cs, .int .i64 0] w fun e w' => e = .returned (.bool (bnd t 0)) ∧ Ext w w' := by
  obtain ⟨w1, hw1⟩ : ∃ w1, w.alloc (.cells t.cs 29) = w1 := ⟨_, rfl⟩
  have e1 : Ext w w1 := by rw [← hw1]; exact (Ext.refl w).alloc _
  have hb : w1.heap[w.heap.size]? = some (.cells t.cs 29 (0, 0)) := by rw [← hw1]; exact heap_alloc_new w _
  have x3 := cell_of_row w1 w.heap.size 3 _ _ _ hb
  simp [TL.cs] at x3
  have E1 := Lib.hid e1
  have HC := Lib.hid (within_any t.ms 4294967295 w1)
  clear hb e1
  go_enter Try.func40, Try.ntmps40
  go_wp2_with fail
  refine HC.out.mono ?_
  rintro e w2 ⟨rfl, rfl⟩
  go_wp2_with fail
  go_ret
  exact ⟨rfl, E1.out⟩
theorem bounded_1 (t : TL) (w : World) : Calls Try.prog 40 #[.agg t.cs, .int .i64 1] w fun e w' => e = .returned (.bool (bnd t 1)) ∧ Ext w w' := by
  obtain ⟨w1, hw1⟩ : ∃ w1, w.alloc (.cells t.cs 29) = w1 := ⟨_, rfl⟩
  have e1 : Ext w w1 := by rw [← hw1]; exact (Ext.refl w).alloc _
  have hb : w1.heap[w.heap.size]? = some (.cells t.cs 29 (0, 0)) := by rw [← hw1]; exact heap_alloc_new w _
  have x6 := cell_of_row w1 w.heap.size 6 _ _ _ hb
  simp [TL.cs] at x6
  have E1 := Lib.hid e1
  clear hb e1
  go_enter Try.func40, Try.ntmps40
  go_wp2_with fail
  go_ret
  exact ⟨by simp [bnd], E1.out⟩
theorem bounded_2 (t : TL) (w : World) : Calls Try.prog 40 #[.agg t.cs, .int .i64 2] w fun e w' => e = .returned (.bool (bnd t 2)) ∧ Ext w w' := by
  obtain ⟨w1, hw1⟩ : ∃ w1, w.alloc (.cells t.cs 29) = w1 := ⟨_, rfl⟩
  have e1 : Ext w w1 := by rw [← hw1]; exact (Ext.refl w).alloc _
  have hb : w1.heap[w.heap.size]? = some (.cells t.cs 29 (0, 0)) := by rw [← hw1]; exact heap_alloc_new w _
  have x7 := cell_of_row w1 w.heap.size 7 _ _ _ hb
  have x8 := cell_of_row w1 w.heap.size 8 _ _ _ hb
  have x9 := cell_of_row w1 w.heap.size 9 _ _ _ hb
  simp [TL.cs] at x7 x8 x9
  have E1 := Lib.hid e1
  have HC := Lib.hid (mayqid_any t.q w1)
  clear hb e1
  go_enter Try.func40, Try.ntmps40
  go_wp2_with fail
  refine HC.out.mono ?_
  rintro e w2 ⟨rfl, e2⟩
  have E2 := Lib.hid (E1.out.trans e2)
  go_wp2_with fail
  go_ret
  exact ⟨rfl, E2.out⟩
theorem bounded_3 (t : TL) (w : World) : Calls Try.prog 40 #[.agg t.cs, .int .i64 3] w fun e w' => e = .returned (.bool (bnd t 3)) ∧ Ext w w' := by
  obtain ⟨w1, hw1⟩ : ∃ w1, w.alloc (.cells t.cs 29) = w1 := ⟨_, rfl⟩
  have e1 : Ext w w1 := by rw [← hw1]; exact (Ext.refl w).alloc _
  have hb : w1.heap[w.heap.size]? = some (.cells t.cs 29 (0, 0)) := by rw [← hw1]; exact heap_alloc_new w _
  have x2 := cell_of_row w1 w.heap.size 2 _ _ _ hb
  simp [TL.cs] at x2
  have E1 := Lib.hid e1
  have HC := Lib.hid (within_any t.cd 65535 w1)
  clear hb e1
  go_enter Try.func40, Try.ntmps40
  go_wp2_with fail
  refine HC.out.mono ?_
  rintro e w2 ⟨rfl, rfl⟩
  go_wp2_with fail
  go_ret
  exact ⟨rfl, E1.out⟩
theorem bounded_4 (t : TL) (w : World) (h : t.Ok w) : Calls Try.prog 40 #[.agg t.cs, .int .i64 4] w fun e w' => e = .returned (.bool (bnd t 4)) ∧ Ext w w' := by
  obtain ⟨w1, hw1⟩ : ∃ w1, w.alloc (.cells t.cs 29) = w1 := ⟨_, rfl⟩
  have e1 : Ext w w1 := by rw [← hw1]; exact (Ext.refl w).alloc _
  have hb : w1.heap[w.heap.size]? = some (.cells t.cs 29 (0, 0)) := by rw [← hw1]; exact heap_alloc_new w _
  have x10 := cell_of_row w1 w.heap.size 10 _ _ _ hb
  simp [TL.cs] at x10
  have E1 := Lib.hid e1
  have HC := Lib.hid (mayqids_any t.qA t.qn t.qk t.ql w1 (h.1.ext e1))
  clear hb e1 h
  rcases Decidable.em ((t.qn : Int) ≤ 8) with g | g
  · go_enter Try.func40, Try.ntmps40
    go_wp2_with fail
    refine HC.out.mono ?_
    rintro e w2 ⟨rfl, e2⟩
    have E2 := Lib.hid (E1.out.trans e2)
    go_wp2_with fail
    go_ret
    exact ⟨by simp only [bnd, g, decide_true, Bool.true_and]; rfl, E2.out⟩
  · go_enter Try.func40, Try.ntmps40
    go_wp2_with fail
    go_ret
    exact ⟨by simp only [bnd, Int.not_le.2 g, decide_false, Bool.false_and]; rfl, E1.out⟩
theorem bounded_5 (t : TL) (w : World) : Calls Try.prog 40 #[.agg t.cs, .int .i64 5] w fun e w' => e = .returned (.bool (bnd t 5)) ∧ Ext w w' := by
  obtain ⟨w1, hw1⟩ : ∃ w1, w.alloc (.cells t.cs 29) = w1 := ⟨_, rfl⟩
  have e1 : Ext w w1 := by rw [← hw1]; exact (Ext.refl w).alloc _
  have hb : w1.heap[w.heap.size]? = some (.cells t.cs 29 (0, 0)) := by rw [← hw1]; exact heap_alloc_new w _
  have x4 := cell_of_row w1 w.heap.size 4 _ _ _ hb
  simp [TL.cs] at x4
  have E1 := Lib.hid e1
  have HC := Lib.hid (within_any t.io 4294967295 w1)
  clear hb e1
  go_enter Try.func40, Try.ntmps40
  go_wp2_with fail
  refine HC.out.mono ?_
  rintro e w2 ⟨rfl, rfl⟩
  go_wp2_with fail
  go_ret
  exact ⟨rfl, E1.out⟩
theorem bounded_6 (t : TL) (w : World) : Calls Try.prog 40 #[.agg t.cs, .int .i64 6] w fun e w' => e = .returned (.bool (bnd t 6)) ∧ Ext w w' := by
  obtain ⟨w1, hw1⟩ : ∃ w1, w.alloc (.cells t.cs 29) = w1 := ⟨_, rfl⟩
  have e1 : Ext w w1 := by rw [← hw1]; exact (Ext.refl w).alloc _
  have hb : w1.heap[w.heap.size]? = some (.cells t.cs 29 (0, 0)) := by rw [← hw1]; exact heap_alloc_new w _
  have x11 := cell_of_row w1 w.heap.size 11 _ _ _ hb
  simp [TL.cs] at x11
  have E1 := Lib.hid e1
  clear hb e1
  go_enter Try.func40, Try.ntmps40
  go_wp2_with fail
  go_ret
  exact ⟨by simp [bnd], E1.out⟩
theorem bounded_7 (t : TL) (w : World) : Calls Try.prog 40 #[.agg t.cs, .int .i64 7] w fun e w' => e = .returned (.bool (bnd t 7)) ∧ Ext w w' := by
  obtain ⟨w1, hw1⟩ : ∃ w1, w.alloc (.cells t.cs 29) = w1 := ⟨_, rfl⟩
  have e1 : Ext w w1 := by rw [← hw1]; exact (Ext.refl w).alloc _
  have hb : w1.heap[w.heap.size]? = some (.cells t.cs 29 (0, 0)) := by rw [← hw1]; exact heap_alloc_new w _
  have x5 := cell_of_row w1 w.heap.size 5 _ _ _ hb
  simp [TL.cs] at x5
  have E1 := Lib.hid e1
  have HC := Lib.hid (within_any t.ct 4294967295 w1)
  clear hb e1
  go_enter Try.func40, Try.ntmps40
  go_wp2_with fail
  refine HC.out.mono ?_
  rintro e w2 ⟨rfl, rfl⟩
  go_wp2_with fail
  go_ret
  exact ⟨rfl, E1.out⟩
theorem bounded_8 (t : TL) (w : World) : Calls Try.prog 40 #[.agg t.cs, .int .i64 8] w fun e w' => e = .returned (.bool (bnd t 8)) ∧ Ext w w' := by
  obtain ⟨w1, hw1⟩ : ∃ w1, w.alloc (.cells t.cs 29) = w1 := ⟨_, rfl⟩
  have e1 : Ext w w1 := by rw [← hw1]; exact (Ext.refl w).alloc _
  have hb : w1.heap[w.heap.size]? = some (.cells t.cs 29 (0, 0)) := by rw [← hw1]; exact heap_alloc_new w _
  have x12 := cell_of_row w1 w.heap.size 12 _ _ _ hb
  have x13 := cell_of_row w1 w.heap.size 13 _ _ _ hb
  have x14 := cell_of_row w1 w.heap.size 14 _ _ _ hb
  have x15 := cell_of_row w1 w.heap.size 15 _ _ _ hb
  have x16 := cell_of_row w1 w.heap.size 16 _ _ _ hb
  have x17 := cell_of_row w1 w.heap.size 17 _ _ _ hb
  simp [TL.cs] at x12 x13 x14 x15 x16 x17
  have E1 := Lib.hid e1
  have HC := Lib.hid (maystat_any t w1)
  clear hb e1
  go_enter Try.func40, Try.ntmps40
  go_wp2_with fail
  refine HC.out.mono ?_
  rintro e w2 ⟨rfl, e2⟩
  have E2 := Lib.hid (E1.out.trans e2)
  go_wp2_with fail
  go_ret
  exact ⟨rfl, E2.out⟩
theorem bounded_any (t : TL) (f : Nat) (hf : f ≤ 8) (w : World) (h : t.Ok w) : Calls Try.prog 40 #[.agg t.cs, .int .i64 (f : Int)] w fun e w' => e = .returned (.bool (bnd t f)) ∧ Ext w w' := by
  match f, hf with
  | 0, _ => exact bounded_0 t w
  | 1, _ => exact bounded_1 t w
  | 2, _ => exact bounded_2 t w
  | 3, _ => exact bounded_3 t w
  | 4, _ => exact bounded_4 t w h
  | 5, _ => exact bounded_5 t w
  | 6, _ => exact bounded_6 t w
  | 7, _ => exact bounded_7 t w
  | 8, _ => exact bounded_8 t w
theorem below_setRow {a w : World} {g : Nat} (h : Ext a w) (hg : a.heap.size ≤ g) (cs : Array Value) : Ext a (w.setRow g cs) :=
  Below.trans h ⟨rfl, rfl, rfl, by simp [World.setRow], fun k hk => setRow_other w g k _ (by omega)⟩
theorem TL.one (t : TL) : t.cs.all (·.oneCell') = true := by simp [TL.cs, Value.oneCell']
theorem tl_info (t : TL) : (Try.prog.info? 29).map (·.size) = some t.cs.size := by
  have h : (Try.prog.info? 29).map (·.size) = some 18 := by kernel_rfl
  exact h
set_option maxHeartbeats 1000000 in
theorem without_0 (t : TL) (w : World) : Calls Try.prog 41 #[.agg t.cs, .int .i64 0] w fun e w' => e = .returned (.agg (wo t 0).cs) ∧ Ext w w' := by
  obtain ⟨w2, hw2⟩ : ∃ w2, (w.alloc (.cells t.cs 29)).alloc (.cells #[.int .i64 0, .int .i64 0, .int .i64 0, .int .i64 0, .int .i64 0, .int .i64 0, .string ⟨#[]⟩, .bool false, .int .i64 0, .int .i64 0, .slice none 0 0, .slice none 0 0, .bool false, .int .i64 0, .int .i64 0, .int .i64 0, .int .i64 0, .string ⟨#[]⟩] 29) = w2 := ⟨_, rfl⟩
  have e2 : Ext w w2 := by rw [← hw2]; exact ((Ext.refl w).alloc _).alloc _
  have hb : w2.heap[w.heap.size]? = some (.cells t.cs 29 (0, 0)) := by rw [← hw2]; exact ((Ext.refl _).alloc _).heap (heap_alloc_new w _)
  have hz : w2.heap[w.heap.size + 1]? = some (.cells #[.int .i64 0, .int .i64 0, .int .i64 0, .int .i64 0, .int .i64 0, .int .i64 0, .string ⟨#[]⟩, .bool false, .int .i64 0, .int .i64 0, .slice none 0 0, .slice none 0 0, .bool false, .int .i64 0, .int .i64 0, .int .i64 0, .int .i64 0, .string ⟨#[]⟩] 29 (0, 0)) := by rw [← hw2]; exact heap_alloc2_new w _ _
  obtain ⟨w3, hw3⟩ : ∃ w3, (w2).setCell ⟨w.heap.size, 3, none⟩ (.int .i64 0) = w3 := ⟨_, rfl⟩
  have e3 : Ext w w3 := by rw [← hw3]; exact Ext.setCell (e2) (Nat.le_refl _) _
  have hb3 : w3.heap[w.heap.size]? = some (.cells (wo t 0).cs 29 (0, 0)) := by rw [← hw3]; exact set_blk (hb) 3 _
  have hz3 : w3.heap[w.heap.size + 1]? = some (.cells #[.int .i64 0, .int .i64 0, .int .i64 0, .int .i64 0, .int .i64 0, .int .i64 0, .string ⟨#[]⟩, .bool false, .int .i64 0, .int .i64 0, .slice none 0 0, .slice none 0 0, .bool false, .int .i64 0, .int .i64 0, .int .i64 0, .int .i64 0, .string ⟨#[]⟩] 29 (0, 0)) := by rw [← hw3]; exact (heap_setCell_other _ _ _ _ (by simp)).trans (hz)
  have fr0 := blk_free (hb) 3
  have xc0 := cell_of_row _ w.heap.size 3 _ _ _ (hb)
  simp [TL.cs] at xc0
  have HB3 := Lib.hid hb3
  have HZ3 := Lib.hid hz3
  have HI := Lib.hid (tl_info (wo t 0))
  have HS : Hid ((#[.int .i64 0, .int .i64 0, .int .i64 0, .int .i64 0, .int .i64 0, .int .i64 0, .string ⟨#[]⟩, .bool false, .int .i64 0, .int .i64 0, .slice none 0 0, .slice none 0 0, .bool false, .int .i64 0, .int .i64 0, .int .i64 0, .int .i64 0, .string ⟨#[]⟩] : Array Value).size = (wo t 0).cs.size) := Lib.hid rfl
  have HU := Lib.hid (TL.one (wo t 0))
  have HG := Lib.hid (setRow_heap w3 (w.heap.size + 1) _ (wo t 0).cs _ _ hz3)
  have E4 := Lib.hid (below_setRow e3 (Nat.le_succ w.heap.size) (wo t 0).cs)
  clear hb hz hb3 hz3 e2 e3
  go_enter Try.func41, Try.ntmps41
  go_wp2_with (first | (with_reducible refine wpList_load_row rfl 29 (.tmp 2) rfl w.heap.size rfl _ _ _ _ HB3.out Try.underlying29 rfl HI.out ?_) | (with_reducible refine wpList_store_row rfl 29 (.tmp 4) (.tmp 35) rfl (w.heap.size + 1) _ rfl rfl _ _ HZ3.out HI.out HS.out HU.out ?_) | fail)
  refine bodyPost_ret (results_cell_row rfl _ _ (w.heap.size + 1) _ _ (0, 0) _ rfl HG.out Try.underlying29 rfl HI.out) rfl ?_
  exact ⟨rfl, E4.out⟩
set_option maxHeartbeats 1000000 in
theorem without_1 (t : TL) (w : World) : Calls Try.prog 41 #[.agg t.cs, .int .i64 1] w fun e w' => e = .returned (.agg (wo t 1).cs) ∧ Ext w w' := by
  obtain ⟨w2, hw2⟩ : ∃ w2, (w.alloc (.cells t.cs 29)).alloc (.cells #[.int .i64 0, .int .i64 0, .int .i64 0, .int .i64 0, .int .i64 0, .int .i64 0, .string ⟨#[]⟩, .bool false, .int .i64 0, .int .i64 0, .slice none 0 0, .slice none 0 0, .bool false, .int .i64 0, .int .i64 0, .int .i64 0, .int .i64 0, .string ⟨#[]⟩] 29) = w2 := ⟨_, rfl⟩
  have e2 : Ext w w2 := by rw [← hw2]; exact ((Ext.refl w).alloc _).alloc _
  have hb : w2.heap[w.heap.size]? = some (.cells t.cs 29 (0, 0)) := by rw [← hw2]; exact ((Ext.refl _).alloc _).heap (heap_alloc_new w _)
  have hz : w2.heap[w.heap.size + 1]? = some (.cells #[.int .i64 0, .int .i64 0, .int .i64 0, .int .i64 0, .int .i64 0, .int .i64 0, .string ⟨#[]⟩, .bool false, .int .i64 0, .int .i64 0, .slice none 0 0, .slice none 0 0, .bool false, .int .i64 0, .int .i64 0, .int .i64 0, .int .i64 0, .string ⟨#[]⟩] 29 (0, 0)) := by rw [← hw2]; exact heap_alloc2_new w _ _
  obtain ⟨w3, hw3⟩ : ∃ w3, (w2).setCell ⟨w.heap.size, 6, none⟩ (.string ⟨#[]⟩) = w3 := ⟨_, rfl⟩
  have e3 : Ext w w3 := by rw [← hw3]; exact Ext.setCell (e2) (Nat.le_refl _) _
  have hb3 : w3.heap[w.heap.size]? = some (.cells (wo t 1).cs 29 (0, 0)) := by rw [← hw3]; exact set_blk (hb) 6 _
  have hz3 : w3.heap[w.heap.size + 1]? = some (.cells #[.int .i64 0, .int .i64 0, .int .i64 0, .int .i64 0, .int .i64 0, .int .i64 0, .string ⟨#[]⟩, .bool false, .int .i64 0, .int .i64 0, .slice none 0 0, .slice none 0 0, .bool false, .int .i64 0, .int .i64 0, .int .i64 0, .int .i64 0, .string ⟨#[]⟩] 29 (0, 0)) := by rw [← hw3]; exact (heap_setCell_other _ _ _ _ (by simp)).trans (hz)
  have fr0 := blk_free (hb) 6
  have xc0 := cell_of_row _ w.heap.size 6 _ _ _ (hb)
  simp [TL.cs] at xc0
  have HB3 := Lib.hid hb3
  have HZ3 := Lib.hid hz3
  have HI := Lib.hid (tl_info (wo t 1))
  have HS : Hid ((#[.int .i64 0, .int .i64 0, .int .i64 0, .int .i64 0, .int .i64 0, .int .i64 0, .string ⟨#[]⟩, .bool false, .int .i64 0, .int .i64 0, .slice none 0 0, .slice none 0 0, .bool false, .int .i64 0, .int .i64 0, .int .i64 0, .int .i64 0, .string ⟨#[]⟩] : Array Value).size = (wo t 1).cs.size) := Lib.hid rfl
  have HU := Lib.hid (TL.one (wo t 1))
  have HG := Lib.hid (setRow_heap w3 (w.heap.size + 1) _ (wo t 1).cs _ _ hz3)
  have E4 := Lib.hid (below_setRow e3 (Nat.le_succ w.heap.size) (wo t 1).cs)
  clear hb hz hb3 hz3 e2 e3
  go_enter Try.func41, Try.ntmps41
  go_wp2_with (first | (with_reducible refine wpList_load_row rfl 29 (.tmp 2) rfl w.heap.size rfl _ _ _ _ HB3.out Try.underlying29 rfl HI.out ?_) | (with_reducible refine wpList_store_row rfl 29 (.tmp 4) (.tmp 35) rfl (w.heap.size + 1) _ rfl rfl _ _ HZ3.out HI.out HS.out HU.out ?_) | fail)
  refine bodyPost_ret (results_cell_row rfl _ _ (w.heap.size + 1) _ _ (0, 0) _ rfl HG.out Try.underlying29 rfl HI.out) rfl ?_
  exact ⟨rfl, E4.out⟩
set_option maxHeartbeats 1000000 in
theorem without_2 (t : TL) (w : World) : Calls Try.prog 41 #[.agg t.cs, .int .i64 2] w fun e w' => e = .returned (.agg (wo t 2).cs) ∧ Ext w w' := by
  obtain ⟨w2, hw2⟩ : ∃ w2, (w.alloc (.cells t.cs 29)).alloc (.cells #[.int .i64 0, .int .i64 0, .int .i64 0, .int .i64 0, .int .i64 0, .int .i64 0, .string ⟨#[]⟩, .bool false, .int .i64 0, .int .i64 0, .slice none 0 0, .slice none 0 0, .bool false, .int .i64 0, .int .i64 0, .int .i64 0, .int .i64 0, .string ⟨#[]⟩] 29) = w2 := ⟨_, rfl⟩
  have e2 : Ext w w2 := by rw [← hw2]; exact ((Ext.refl w).alloc _).alloc _
  have hb : w2.heap[w.heap.size]? = some (.cells t.cs 29 (0, 0)) := by rw [← hw2]; exact ((Ext.refl _).alloc _).heap (heap_alloc_new w _)
  have hz : w2.heap[w.heap.size + 1]? = some (.cells #[.int .i64 0, .int .i64 0, .int .i64 0, .int .i64 0, .int .i64 0, .int .i64 0, .string ⟨#[]⟩, .bool false, .int .i64 0, .int .i64 0, .slice none 0 0, .slice none 0 0, .bool false, .int .i64 0, .int .i64 0, .int .i64 0, .int .i64 0, .string ⟨#[]⟩] 29 (0, 0)) := by rw [← hw2]; exact heap_alloc2_new w _ _
  obtain ⟨w3, hw3⟩ : ∃ w3, (((w2).setCell ⟨w.heap.size, 7, none⟩ (.bool false)).setCell ⟨w.heap.size, 8, none⟩ (.int .i64 0)).setCell ⟨w.heap.size, 9, none⟩ (.int .i64 0) = w3 := ⟨_, rfl⟩
  have e3 : Ext w w3 := by rw [← hw3]; exact Ext.setCell (Ext.setCell (Ext.setCell (e2) (Nat.le_refl _) _) (Nat.le_refl _) _) (Nat.le_refl _) _
  have hb3 : w3.heap[w.heap.size]? = some (.cells (wo t 2).cs 29 (0, 0)) := by rw [← hw3]; exact set_blk (set_blk (set_blk (hb) 7 _) 8 _) 9 _
  have hz3 : w3.heap[w.heap.size + 1]? = some (.cells #[.int .i64 0, .int .i64 0, .int .i64 0, .int .i64 0, .int .i64 0, .int .i64 0, .string ⟨#[]⟩, .bool false, .int .i64 0, .int .i64 0, .slice none 0 0, .slice none 0 0, .bool false, .int .i64 0, .int .i64 0, .int .i64 0, .int .i64 0, .string ⟨#[]⟩] 29 (0, 0)) := by rw [← hw3]; exact (heap_setCell_other _ _ _ _ (by simp)).trans ((heap_setCell_other _ _ _ _ (by simp)).trans ((heap_setCell_other _ _ _ _ (by simp)).trans (hz)))
  have fr0 := blk_free (hb) 7
  have xc0 := cell_of_row _ w.heap.size 7 _ _ _ (hb)
  have fr1 := blk_free (set_blk (hb) 7 (.bool false)) 8
  have xc1 := cell_of_row _ w.heap.size 8 _ _ _ (set_blk (hb) 7 (.bool false))
  have fr2 := blk_free (set_blk (set_blk (hb) 7 (.bool false)) 8 (.int .i64 0)) 9
  have xc2 := cell_of_row _ w.heap.size 9 _ _ _ (set_blk (set_blk (hb) 7 (.bool false)) 8 (.int .i64 0))
  simp [TL.cs] at xc0 xc1 xc2
  have HB3 := Lib.hid hb3
  have HZ3 := Lib.hid hz3
  have HI := Lib.hid (tl_info (wo t 2))
  have HS : Hid ((#[.int .i64 0, .int .i64 0, .int .i64 0, .int .i64 0, .int .i64 0, .int .i64 0, .string ⟨#[]⟩, .bool false, .int .i64 0, .int .i64 0, .slice none 0 0, .slice none 0 0, .bool false, .int .i64 0, .int .i64 0, .int .i64 0, .int .i64 0, .string ⟨#[]⟩] : Array Value).size = (wo t 2).cs.size) := Lib.hid rfl
  have HU := Lib.hid (TL.one (wo t 2))
  have HG := Lib.hid (setRow_heap w3 (w.heap.size + 1) _ (wo t 2).cs _ _ hz3)
  have E4 := Lib.hid (below_setRow e3 (Nat.le_succ w.heap.size) (wo t 2).cs)
  clear hb hz hb3 hz3 e2 e3
  go_enter Try.func41, Try.ntmps41
  go_wp2_with (first | (with_reducible refine wpList_load_row rfl 29 (.tmp 2) rfl w.heap.size rfl _ _ _ _ HB3.out Try.underlying29 rfl HI.out ?_) | (with_reducible refine wpList_store_row rfl 29 (.tmp 4) (.tmp 35) rfl (w.heap.size + 1) _ rfl rfl _ _ HZ3.out HI.out HS.out HU.out ?_) | fail)
  refine bodyPost_ret (results_cell_row rfl _ _ (w.heap.size + 1) _ _ (0, 0) _ rfl HG.out Try.underlying29 rfl HI.out) rfl ?_
  exact ⟨rfl, E4.out⟩
set_option maxHeartbeats 1000000 in
theorem without_3 (t : TL) (w : World) : Calls Try.prog 41 #[.agg t.cs, .int .i64 3] w fun e w' => e = .returned (.agg (wo t 3).cs) ∧ Ext w w' := by
  obtain ⟨w2, hw2⟩ : ∃ w2, (w.alloc (.cells t.cs 29)).alloc (.cells #[.int .i64 0, .int .i64 0, .int .i64 0, .int .i64 0, .int .i64 0, .int .i64 0, .string ⟨#[]⟩, .bool false, .int .i64 0, .int .i64 0, .slice none 0 0, .slice none 0 0, .bool false, .int .i64 0, .int .i64 0, .int .i64 0, .int .i64 0, .string ⟨#[]⟩] 29) = w2 := ⟨_, rfl⟩
  have e2 : Ext w w2 := by rw [← hw2]; exact ((Ext.refl w).alloc _).alloc _
  have hb : w2.heap[w.heap.size]? = some (.cells t.cs 29 (0, 0)) := by rw [← hw2]; exact ((Ext.refl _).alloc _).heap (heap_alloc_new w _)
  have hz : w2.heap[w.heap.size + 1]? = some (.cells #[.int .i64 0, .int .i64 0, .int .i64 0, .int .i64 0, .int .i64 0, .int .i64 0, .string ⟨#[]⟩, .bool false, .int .i64 0, .int .i64 0, .slice none 0 0, .slice none 0 0, .bool false, .int .i64 0, .int .i64 0, .int .i64 0, .int .i64 0, .string ⟨#[]⟩] 29 (0, 0)) := by rw [← hw2]; exact heap_alloc2_new w _ _
  obtain ⟨w3, hw3⟩ : ∃ w3, (w2).setCell ⟨w.heap.size, 2, none⟩ (.int .i64 0) = w3 := ⟨_, rfl⟩
  have e3 : Ext w w3 := by rw [← hw3]; exact Ext.setCell (e2) (Nat.le_refl _) _
  have hb3 : w3.heap[w.heap.size]? = some (.cells (wo t 3).cs 29 (0, 0)) := by rw [← hw3]; exact set_blk (hb) 2 _
  have hz3 : w3.heap[w.heap.size + 1]? = some (.cells #[.int .i64 0, .int .i64 0, .int .i64 0, .int .i64 0, .int .i64 0, .int .i64 0, .string ⟨#[]⟩, .bool false, .int .i64 0, .int .i64 0, .slice none 0 0, .slice none 0 0, .bool false, .int .i64 0, .int .i64 0, .int .i64 0, .int .i64 0, .string ⟨#[]⟩] 29 (0, 0)) := by rw [← hw3]; exact (heap_setCell_other _ _ _ _ (by simp)).trans (hz)
  have fr0 := blk_free (hb) 2
  have xc0 := cell_of_row _ w.heap.size 2 _ _ _ (hb)
  simp [TL.cs] at xc0
  have HB3 := Lib.hid hb3
  have HZ3 := Lib.hid hz3
  have HI := Lib.hid (tl_info (wo t 3))
  have HS : Hid ((#[.int .i64 0, .int .i64 0, .int .i64 0, .int .i64 0, .int .i64 0, .int .i64 0, .string ⟨#[]⟩, .bool false, .int .i64 0, .int .i64 0, .slice none 0 0, .slice none 0 0, .bool false, .int .i64 0, .int .i64 0, .int .i64 0, .int .i64 0, .string ⟨#[]⟩] : Array Value).size = (wo t 3).cs.size) := Lib.hid rfl
  have HU := Lib.hid (TL.one (wo t 3))
  have HG := Lib.hid (setRow_heap w3 (w.heap.size + 1) _ (wo t 3).cs _ _ hz3)
  have E4 := Lib.hid (below_setRow e3 (Nat.le_succ w.heap.size) (wo t 3).cs)
  clear hb hz hb3 hz3 e2 e3
  go_enter Try.func41, Try.ntmps41
  go_wp2_with (first | (with_reducible refine wpList_load_row rfl 29 (.tmp 2) rfl w.heap.size rfl _ _ _ _ HB3.out Try.underlying29 rfl HI.out ?_) | (with_reducible refine wpList_store_row rfl 29 (.tmp 4) (.tmp 35) rfl (w.heap.size + 1) _ rfl rfl _ _ HZ3.out HI.out HS.out HU.out ?_) | fail)
  refine bodyPost_ret (results_cell_row rfl _ _ (w.heap.size + 1) _ _ (0, 0) _ rfl HG.out Try.underlying29 rfl HI.out) rfl ?_
  exact ⟨rfl, E4.out⟩
set_option maxHeartbeats 1000000 in
theorem without_4 (t : TL) (w : World) : Calls Try.prog 41 #[.agg t.cs, .int .i64 4] w fun e w' => e = .returned (.agg (wo t 4).cs) ∧ Ext w w' := by
  obtain ⟨w2, hw2⟩ : ∃ w2, (w.alloc (.cells t.cs 29)).alloc (.cells #[.int .i64 0, .int .i64 0, .int .i64 0, .int .i64 0, .int .i64 0, .int .i64 0, .string ⟨#[]⟩, .bool false, .int .i64 0, .int .i64 0, .slice none 0 0, .slice none 0 0, .bool false, .int .i64 0, .int .i64 0, .int .i64 0, .int .i64 0, .string ⟨#[]⟩] 29) = w2 := ⟨_, rfl⟩
  have e2 : Ext w w2 := by rw [← hw2]; exact ((Ext.refl w).alloc _).alloc _
  have hb : w2.heap[w.heap.size]? = some (.cells t.cs 29 (0, 0)) := by rw [← hw2]; exact ((Ext.refl _).alloc _).heap (heap_alloc_new w _)
  have hz : w2.heap[w.heap.size + 1]? = some (.cells #[.int .i64 0, .int .i64 0, .int .i64 0, .int .i64 0, .int .i64 0, .int .i64 0, .string ⟨#[]⟩, .bool false, .int .i64 0, .int .i64 0, .slice none 0 0, .slice none 0 0, .bool false, .int .i64 0, .int .i64 0, .int .i64 0, .int .i64 0, .string ⟨#[]⟩] 29 (0, 0)) := by rw [← hw2]; exact heap_alloc2_new w _ _
  obtain ⟨w3, hw3⟩ : ∃ w3, (w2).setCell ⟨w.heap.size, 10, none⟩ (.slice none 0 0) = w3 := ⟨_, rfl⟩
  have e3 : Ext w w3 := by rw [← hw3]; exact Ext.setCell (e2) (Nat.le_refl _) _
  have hb3 : w3.heap[w.heap.size]? = some (.cells (wo t 4).cs 29 (0, 0)) := by rw [← hw3]; exact set_blk (hb) 10 _
  have hz3 : w3.heap[w.heap.size + 1]? = some (.cells #[.int .i64 0, .int .i64 0, .int .i64 0, .int .i64 0, .int .i64 0, .int .i64 0, .string ⟨#[]⟩, .bool false, .int .i64 0, .int .i64 0, .slice none 0 0, .slice none 0 0, .bool false, .int .i64 0, .int .i64 0, .int .i64 0, .int .i64 0, .string ⟨#[]⟩] 29 (0, 0)) := by rw [← hw3]; exact (heap_setCell_other _ _ _ _ (by simp)).trans (hz)
  have fr0 := blk_free (hb) 10
  have xc0 := cell_of_row _ w.heap.size 10 _ _ _ (hb)
  simp [TL.cs] at xc0
  have HB3 := Lib.hid hb3
  have HZ3 := Lib.hid hz3
  have HI := Lib.hid (tl_info (wo t 4))
  have HS : Hid ((#[.int .i64 0, .int .i64 0, .int .i64 0, .int .i64 0, .int .i64 0, .int .i64 0, .string ⟨#[]⟩, .bool false, .int .i64 0, .int .i64 0, .slice none 0 0, .slice none 0 0, .bool false, .int .i64 0, .int .i64 0, .int .i64 0, .int .i64 0, .string ⟨#[]⟩] : Array Value).size = (wo t 4).cs.size) := Lib.hid rfl
  have HU := Lib.hid (TL.one (wo t 4))
  have HG := Lib.hid (setRow_heap w3 (w.heap.size + 1) _ (wo t 4).cs _ _ hz3)
  have E4 := Lib.hid (below_setRow e3 (Nat.le_succ w.heap.size) (wo t 4).cs)
  clear hb hz hb3 hz3 e2 e3
  go_enter Try.func41, Try.ntmps41
  go_wp2_with (first | (with_reducible refine wpList_load_row rfl 29 (.tmp 2) rfl w.heap.size rfl _ _ _ _ HB3.out Try.underlying29 rfl HI.out ?_) | (with_reducible refine wpList_store_row rfl 29 (.tmp 4) (.tmp 35) rfl (w.heap.size + 1) _ rfl rfl _ _ HZ3.out HI.out HS.out HU.out ?_) | fail)
  refine bodyPost_ret (results_cell_row rfl _ _ (w.heap.size + 1) _ _ (0, 0) _ rfl HG.out Try.underlying29 rfl HI.out) rfl ?_
  exact ⟨rfl, E4.out⟩
set_option maxHeartbeats 1000000 in
theorem without_5 (t : TL) (w : World) : Calls Try.prog 41 #[.agg t.cs, .int .i64 5] w fun e w' => e = .returned (.agg (wo t 5).cs) ∧ Ext w w' := by
  obtain ⟨w2, hw2⟩ : ∃ w2, (w.alloc (.cells t.cs 29)).alloc (.cells #[.int .i64 0, .int .i64 0, .int .i64 0, .int .i64 0, .int .i64 0, .int .i64 0, .string ⟨#[]⟩, .bool false, .int .i64 0, .int .i64 0, .slice none 0 0, .slice none 0 0, .bool false, .int .i64 0, .int .i64 0, .int .i64 0, .int .i64 0, .string ⟨#[]⟩] 29) = w2 := ⟨_, rfl⟩
  have e2 : Ext w w2 := by rw [← hw2]; exact ((Ext.refl w).alloc _).alloc _
  have hb : w2.heap[w.heap.size]? = some (.cells t.cs 29 (0, 0)) := by rw [← hw2]; exact ((Ext.refl _).alloc _).heap (heap_alloc_new w _)
  have hz : w2.heap[w.heap.size + 1]? = some (.cells #[.int .i64 0, .int .i64 0, .int .i64 0, .int .i64 0, .int .i64 0, .int .i64 0, .string ⟨#[]⟩, .bool false, .int .i64 0, .int .i64 0, .slice none 0 0, .slice none 0 0, .bool false, .int .i64 0, .int .i64 0, .int .i64 0, .int .i64 0, .string ⟨#[]⟩] 29 (0, 0)) := by rw [← hw2]; exact heap_alloc2_new w _ _
  obtain ⟨w3, hw3⟩ : ∃ w3, (w2).setCell ⟨w.heap.size, 4, none⟩ (.int .i64 0) = w3 := ⟨_, rfl⟩
  have e3 : Ext w w3 := by rw [← hw3]; exact Ext.setCell (e2) (Nat.le_refl _) _
  have hb3 : w3.heap[w.heap.size]? = some (.cells (wo t 5).cs 29 (0, 0)) := by rw [← hw3]; exact set_blk (hb) 4 _
  have hz3 : w3.heap[w.heap.size + 1]? = some (.cells #[.int .i64 0, .int .i64 0, .int .i64 0, .int .i64 0, .int .i64 0, .int .i64 0, .string ⟨#[]⟩, .bool false, .int .i64 0, .int .i64 0, .slice none 0 0, .slice none 0 0, .bool false, .int .i64 0, .int .i64 0, .int .i64 0, .int .i64 0, .string ⟨#[]⟩] 29 (0, 0)) := by rw [← hw3]; exact (heap_setCell_other _ _ _ _ (by simp)).trans (hz)
  have fr0 := blk_free (hb) 4
  have xc0 := cell_of_row _ w.heap.size 4 _ _ _ (hb)
  simp [TL.cs] at xc0
  have HB3 := Lib.hid hb3
  have HZ3 := Lib.hid hz3
  have HI := Lib.hid (tl_info (wo t 5))
  have HS : Hid ((#[.int .i64 0, .int .i64 0, .int .i64 0, .int .i64 0, .int .i64 0, .int .i64 0, .string ⟨#[]⟩, .bool false, .int .i64 0, .int .i64 0, .slice none 0 0, .slice none 0 0, .bool false, .int .i64 0, .int .i64 0, .int .i64 0, .int .i64 0, .string ⟨#[]⟩] : Array Value).size = (wo t 5).cs.size) := Lib.hid rfl
  have HU := Lib.hid (TL.one (wo t 5))
  have HG := Lib.hid (setRow_heap w3 (w.heap.size + 1) _ (wo t 5).cs _ _ hz3)
  have E4 := Lib.hid (below_setRow e3 (Nat.le_succ w.heap.size) (wo t 5).cs)
  clear hb hz hb3 hz3 e2 e3
  go_enter Try.func41, Try.ntmps41
  go_wp2_with (first | (with_reducible refine wpList_load_row rfl 29 (.tmp 2) rfl w.heap.size rfl _ _ _ _ HB3.out Try.underlying29 rfl HI.out ?_) | (with_reducible refine wpList_store_row rfl 29 (.tmp 4) (.tmp 35) rfl (w.heap.size + 1) _ rfl rfl _ _ HZ3.out HI.out HS.out HU.out ?_) | fail)
  refine bodyPost_ret (results_cell_row rfl _ _ (w.heap.size + 1) _ _ (0, 0) _ rfl HG.out Try.underlying29 rfl HI.out) rfl ?_
  exact ⟨rfl, E4.out⟩
set_option maxHeartbeats 1000000 in
theorem without_6 (t : TL) (w : World) : Calls Try.prog 41 #[.agg t.cs, .int .i64 6] w fun e w' => e = .returned (.agg (wo t 6).cs) ∧ Ext w w' := by
  obtain ⟨w2, hw2⟩ : ∃ w2, (w.alloc (.cells t.cs 29)).alloc (.cells #[.int .i64 0, .int .i64 0, .int .i64 0, .int .i64 0, .int .i64 0, .int .i64 0, .string ⟨#[]⟩, .bool false, .int .i64 0, .int .i64 0, .slice none 0 0, .slice none 0 0, .bool false, .int .i64 0, .int .i64 0, .int .i64 0, .int .i64 0, .string ⟨#[]⟩] 29) = w2 := ⟨_, rfl⟩
  have e2 : Ext w w2 := by rw [← hw2]; exact ((Ext.refl w).alloc _).alloc _
  have hb : w2.heap[w.heap.size]? = some (.cells t.cs 29 (0, 0)) := by rw [← hw2]; exact ((Ext.refl _).alloc _).heap (heap_alloc_new w _)
  have hz : w2.heap[w.heap.size + 1]? = some (.cells #[.int .i64 0, .int .i64 0, .int .i64 0, .int .i64 0, .int .i64 0, .int .i64 0, .string ⟨#[]⟩, .bool false, .int .i64 0, .int .i64 0, .slice none 0 0, .slice none 0 0, .bool false, .int .i64 0, .int .i64 0, .int .i64 0, .int .i64 0, .string ⟨#[]⟩] 29 (0, 0)) := by rw [← hw2]; exact heap_alloc2_new w _ _
  obtain ⟨w3, hw3⟩ : ∃ w3, (w2).setCell ⟨w.heap.size, 11, none⟩ (.slice none 0 0) = w3 := ⟨_, rfl⟩
  have e3 : Ext w w3 := by rw [← hw3]; exact Ext.setCell (e2) (Nat.le_refl _) _
  have hb3 : w3.heap[w.heap.size]? = some (.cells (wo t 6).cs 29 (0, 0)) := by rw [← hw3]; exact set_blk (hb) 11 _
  have hz3 : w3.heap[w.heap.size + 1]? = some (.cells #[.int .i64 0, .int .i64 0, .int .i64 0, .int .i64 0, .int .i64 0, .int .i64 0, .string ⟨#[]⟩, .bool false, .int .i64 0, .int .i64 0, .slice none 0 0, .slice none 0 0, .bool false, .int .i64 0, .int .i64 0, .int .i64 0, .int .i64 0, .string ⟨#[]⟩] 29 (0, 0)) := by rw [← hw3]; exact (heap_setCell_other _ _ _ _ (by simp)).trans (hz)
  have fr0 := blk_free (hb) 11
  have xc0 := cell_of_row _ w.heap.size 11 _ _ _ (hb)
  simp [TL.cs] at xc0
  have HB3 := Lib.hid hb3
  have HZ3 := Lib.hid hz3
  have HI := Lib.hid (tl_info (wo t 6))
  have HS : Hid ((#[.int .i64 0, .int .i64 0, .int .i64 0, .int .i64 0, .int .i64 0, .int .i64 0, .string ⟨#[]⟩, .bool false, .int .i64 0, .int .i64 0, .slice none 0 0, .slice none 0 0, .bool false, .int .i64 0, .int .i64 0, .int .i64 0, .int .i64 0, .string ⟨#[]⟩] : Array Value).size = (wo t 6).cs.size) := Lib.hid rfl
  have HU := Lib.hid (TL.one (wo t 6))
  have HG := Lib.hid (setRow_heap w3 (w.heap.size + 1) _ (wo t 6).cs _ _ hz3)
  have E4 := Lib.hid (below_setRow e3 (Nat.le_succ w.heap.size) (wo t 6).cs)
  clear hb hz hb3 hz3 e2 e3
  go_enter Try.func41, Try.ntmps41
  go_wp2_with (first | (with_reducible refine wpList_load_row rfl 29 (.tmp 2) rfl w.heap.size rfl _ _ _ _ HB3.out Try.underlying29 rfl HI.out ?_) | (with_reducible refine wpList_store_row rfl 29 (.tmp 4) (.tmp 35) rfl (w.heap.size + 1) _ rfl rfl _ _ HZ3.out HI.out HS.out HU.out ?_) | fail)
  refine bodyPost_ret (results_cell_row rfl _ _ (w.heap.size + 1) _ _ (0, 0) _ rfl HG.out Try.underlying29 rfl HI.out) rfl ?_
  exact ⟨rfl, E4.out⟩
set_option maxHeartbeats 1000000 in
theorem without_7 (t : TL) (w : World) : Calls Try.prog 41 #[.agg t.cs, .int .i64 7] w fun e w' => e = .returned (.agg (wo t 7).cs) ∧ Ext w w' := by
  obtain ⟨w2, hw2⟩ : ∃ w2, (w.alloc (.cells t.cs 29)).alloc (.cells #[.int .i64 0, .int .i64 0, .int .i64 0, .int .i64 0, .int .i64 0, .int .i64 0, .string ⟨#[]⟩, .bool false, .int .i64 0, .int .i64 0, .slice none 0 0, .slice none 0 0, .bool false, .int .i64 0, .int .i64 0, .int .i64 0, .int .i64 0, .string ⟨#[]⟩] 29) = w2 := ⟨_, rfl⟩
  have e2 : Ext w w2 := by rw [← hw2]; exact ((Ext.refl w).alloc _).alloc _
  have hb : w2.heap[w.heap.size]? = some (.cells t.cs 29 (0, 0)) := by rw [← hw2]; exact ((Ext.refl _).alloc _).heap (heap_alloc_new w _)
  have hz : w2.heap[w.heap.size + 1]? = some (.cells #[.int .i64 0, .int .i64 0, .int .i64 0, .int .i64 0, .int .i64 0, .int .i64 0, .string ⟨#[]⟩, .bool false, .int .i64 0, .int .i64 0, .slice none 0 0, .slice none 0 0, .bool false, .int .i64 0, .int .i64 0, .int .i64 0, .int .i64 0, .string ⟨#[]⟩] 29 (0, 0)) := by rw [← hw2]; exact heap_alloc2_new w _ _
  obtain ⟨w3, hw3⟩ : ∃ w3, (w2).setCell ⟨w.heap.size, 5, none⟩ (.int .i64 0) = w3 := ⟨_, rfl⟩
  have e3 : Ext w w3 := by rw [← hw3]; exact Ext.setCell (e2) (Nat.le_refl _) _
  have hb3 : w3.heap[w.heap.size]? = some (.cells (wo t 7).cs 29 (0, 0)) := by rw [← hw3]; exact set_blk (hb) 5 _
  have hz3 : w3.heap[w.heap.size + 1]? = some (.cells #[.int .i64 0, .int .i64 0, .int .i64 0, .int .i64 0, .int .i64 0, .int .i64 0, .string ⟨#[]⟩, .bool false, .int .i64 0, .int .i64 0, .slice none 0 0, .slice none 0 0, .bool false, .int .i64 0, .int .i64 0, .int .i64 0, .int .i64 0, .string ⟨#[]⟩] 29 (0, 0)) := by rw [← hw3]; exact (heap_setCell_other _ _ _ _ (by simp)).trans (hz)
  have fr0 := blk_free (hb) 5
  have xc0 := cell_of_row _ w.heap.size 5 _ _ _ (hb)
  simp [TL.cs] at xc0
  have HB3 := Lib.hid hb3
  have HZ3 := Lib.hid hz3
  have HI := Lib.hid (tl_info (wo t 7))
  have HS : Hid ((#[.int .i64 0, .int .i64 0, .int .i64 0, .int .i64 0, .int .i64 0, .int .i64 0, .string ⟨#[]⟩, .bool false, .int .i64 0, .int .i64 0, .slice none 0 0, .slice none 0 0, .bool false, .int .i64 0, .int .i64 0, .int .i64 0, .int .i64 0, .string ⟨#[]⟩] : Array Value).size = (wo t 7).cs.size) := Lib.hid rfl
  have HU := Lib.hid (TL.one (wo t 7))
  have HG := Lib.hid (setRow_heap w3 (w.heap.size + 1) _ (wo t 7).cs _ _ hz3)
  have E4 := Lib.hid (below_setRow e3 (Nat.le_succ w.heap.size) (wo t 7).cs)
  clear hb hz hb3 hz3 e2 e3
  go_enter Try.func41, Try.ntmps41
  go_wp2_with (first | (with_reducible refine wpList_load_row rfl 29 (.tmp 2) rfl w.heap.size rfl _ _ _ _ HB3.out Try.underlying29 rfl HI.out ?_) | (with_reducible refine wpList_store_row rfl 29 (.tmp 4) (.tmp 35) rfl (w.heap.size + 1) _ rfl rfl _ _ HZ3.out HI.out HS.out HU.out ?_) | fail)
  refine bodyPost_ret (results_cell_row rfl _ _ (w.heap.size + 1) _ _ (0, 0) _ rfl HG.out Try.underlying29 rfl HI.out) rfl ?_
  exact ⟨rfl, E4.out⟩
set_option maxHeartbeats 1000000 in
theorem without_8 (t : TL) (w : World) : Calls Try.prog 41 #[.agg t.cs, .int .i64 8] w fun e w' => e = .returned (.agg (wo t 8).cs) ∧ Ext w w' := by
  obtain ⟨w2, hw2⟩ : ∃ w2, (w.alloc (.cells t.cs 29)).alloc (.cells #[.int .i64 0, .int .i64 0, .int .i64 0, .int .i64 0, .int .i64 0, .int .i64 0, .string ⟨#[]⟩, .bool false, .int .i64 0, .int .i64 0, .slice none 0 0, .slice none 0 0, .bool false, .int .i64 0, .int .i64 0, .int .i64 0, .int .i64 0, .string ⟨#[]⟩] 29) = w2 := ⟨_, rfl⟩
  have e2 : Ext w w2 := by rw [← hw2]; exact ((Ext.refl w).alloc _).alloc _
  have hb : w2.heap[w.heap.size]? = some (.cells t.cs 29 (0, 0)) := by rw [← hw2]; exact ((Ext.refl _).alloc _).heap (heap_alloc_new w _)
  have hz : w2.heap[w.heap.size + 1]? = some (.cells #[.int .i64 0, .int .i64 0, .int .i64 0, .int .i64 0, .int .i64 0, .int .i64 0, .string ⟨#[]⟩, .bool false, .int .i64 0, .int .i64 0, .slice none 0 0, .slice none 0 0, .bool false, .int .i64 0, .int .i64 0, .int .i64 0, .int .i64 0, .string ⟨#[]⟩] 29 (0, 0)) := by rw [← hw2]; exact heap_alloc2_new w _ _
  obtain ⟨w3, hw3⟩ : ∃ w3, ((((((w2).setCell ⟨w.heap.size, 12, none⟩ (.bool false)).setCell ⟨w.heap.size, 13, none⟩ (.int .i64 0)).setCell ⟨w.heap.size, 14, none⟩ (.int .i64 0)).setCell ⟨w.heap.size, 15, none⟩ (.int .i64 0)).setCell ⟨w.heap.size, 16, none⟩ (.int .i64 0)).setCell ⟨w.heap.size, 17, none⟩ (.string ⟨#[]⟩) = w3 := ⟨_, rfl⟩
  have e3 : Ext w w3 := by rw [← hw3]; exact Ext.setCell (Ext.setCell (Ext.setCell (Ext.setCell (Ext.setCell (Ext.setCell (e2) (Nat.le_refl _) _) (Nat.le_refl _) _) (Nat.le_refl _) _) (Nat.le_refl _) _) (Nat.le_refl _) _) (Nat.le_refl _) _
  have hb3 : w3.heap[w.heap.size]? = some (.cells (wo t 8).cs 29 (0, 0)) := by rw [← hw3]; exact set_blk (set_blk (set_blk (set_blk (set_blk (set_blk (hb) 12 _) 13 _) 14 _) 15 _) 16 _) 17 _
  have hz3 : w3.heap[w.heap.size + 1]? = some (.cells #[.int .i64 0, .int .i64 0, .int .i64 0, .int .i64 0, .int .i64 0, .int .i64 0, .string ⟨#[]⟩, .bool false, .int .i64 0, .int .i64 0, .slice none 0 0, .slice none 0 0, .bool false, .int .i64 0, .int .i64 0, .int .i64 0, .int .i64 0, .string ⟨#[]⟩] 29 (0, 0)) := by rw [← hw3]; exact (heap_setCell_other _ _ _ _ (by simp)).trans ((heap_setCell_other _ _ _ _ (by simp)).trans ((heap_setCell_other _ _ _ _ (by simp)).trans ((heap_setCell_other _ _ _ _ (by simp)).trans ((heap_setCell_other _ _ _ _ (by simp)).trans ((heap_setCell_other _ _ _ _ (by simp)).trans (hz))))))
  have fr0 := blk_free (hb) 12
  have xc0 := cell_of_row _ w.heap.size 12 _ _ _ (hb)
  have fr1 := blk_free (set_blk (hb) 12 (.bool false)) 13
  have xc1 := cell_of_row _ w.heap.size 13 _ _ _ (set_blk (hb) 12 (.bool false))
  have fr2 := blk_free (set_blk (set_blk (hb) 12 (.bool false)) 13 (.int .i64 0)) 14
  have xc2 := cell_of_row _ w.heap.size 14 _ _ _ (set_blk (set_blk (hb) 12 (.bool false)) 13 (.int .i64 0))
  have fr3 := blk_free (set_blk (set_blk (set_blk (hb) 12 (.bool false)) 13 (.int .i64 0)) 14 (.int .i64 0)) 15
  have xc3 := cell_of_row _ w.heap.size 15 _ _ _ (set_blk (set_blk (set_blk (hb) 12 (.bool false)) 13 (.int .i64 0)) 14 (.int .i64 0))
  have fr4 := blk_free (set_blk (set_blk (set_blk (set_blk (hb) 12 (.bool false)) 13 (.int .i64 0)) 14 (.int .i64 0)) 15 (.int .i64 0)) 16
  have xc4 := cell_of_row _ w.heap.size 16 _ _ _ (set_blk (set_blk (set_blk (set_blk (hb) 12 (.bool false)) 13 (.int .i64 0)) 14 (.int .i64 0)) 15 (.int .i64 0))
  have fr5 := blk_free (set_blk (set_blk (set_blk (set_blk (set_blk (hb) 12 (.bool false)) 13 (.int .i64 0)) 14 (.int .i64 0)) 15 (.int .i64 0)) 16 (.int .i64 0)) 17
  have xc5 := cell_of_row _ w.heap.size 17 _ _ _ (set_blk (set_blk (set_blk (set_blk (set_blk (hb) 12 (.bool false)) 13 (.int .i64 0)) 14 (.int .i64 0)) 15 (.int .i64 0)) 16 (.int .i64 0))
  simp [TL.cs] at xc0 xc1 xc2 xc3 xc4 xc5
  have HB3 := Lib.hid hb3
  have HZ3 := Lib.hid hz3
  have HI := Lib.hid (tl_info (wo t 8))
  have HS : Hid ((#[.int .i64 0, .int .i64 0, .int .i64 0, .int .i64 0, .int .i64 0, .int .i64 0, .string ⟨#[]⟩, .bool false, .int .i64 0, .int .i64 0, .slice none 0 0, .slice none 0 0, .bool false, .int .i64 0, .int .i64 0, .int .i64 0, .int .i64 0, .string ⟨#[]⟩] : Array Value).size = (wo t 8).cs.size) := Lib.hid rfl
  have HU := Lib.hid (TL.one (wo t 8))
  have HG := Lib.hid (setRow_heap w3 (w.heap.size + 1) _ (wo t 8).cs _ _ hz3)
  have E4 := Lib.hid (below_setRow e3 (Nat.le_succ w.heap.size) (wo t 8).cs)
  clear hb hz hb3 hz3 e2 e3
  go_enter Try.func41, Try.ntmps41
  go_wp2_with (first | (with_reducible refine wpList_load_row rfl 29 (.tmp 2) rfl w.heap.size rfl _ _ _ _ HB3.out Try.underlying29 rfl HI.out ?_) | (with_reducible refine wpList_store_row rfl 29 (.tmp 4) (.tmp 35) rfl (w.heap.size + 1) _ rfl rfl _ _ HZ3.out HI.out HS.out HU.out ?_) | fail)
  refine bodyPost_ret (results_cell_row rfl _ _ (w.heap.size + 1) _ _ (0, 0) _ rfl HG.out Try.underlying29 rfl HI.out) rfl ?_
  exact ⟨rfl, E4.out⟩
theorem without_any (t : TL) (f : Nat) (hf : f ≤ 8) (w : World) : Calls Try.prog 41 #[.agg t.cs, .int .i64 (f : Int)] w fun e w' => e = .returned (.agg (wo t f).cs) ∧ Ext w w' := by
  match f, hf with
  | 0, _ => exact without_0 t w
  | 1, _ => exact without_1 t w
  | 2, _ => exact without_2 t w
  | 3, _ => exact without_3 t w
  | 4, _ => exact without_4 t w
  | 5, _ => exact without_5 t w
  | 6, _ => exact without_6 t w
  | 7, _ => exact without_7 t w
  | 8, _ => exact without_8 t w
end Go.Proofs.Ytihiclnbbpablaa
