/-
  Layer 18: a type made of any; a qid made one that may be; rows of qids compared by the library.
-/
import Derived.Test.YtihiclnbbpablaaTelK
import Derived.Test.YtihiclnbbpablaaRowS
namespace Go.Proofs.Ytihiclnbbpablaa
open Go Go.RowKit
set_option linter.unusedVariables false
set_option linter.unusedSimpArgs false
def kL : List Int := [101, 105, 107, 109, 111, 113, 115, 117, 119, 121, 123, 125, 127]
def gk (x : Int) : Int := kL.getD (aroundZ x 13).toNat 0
theorem gk_mem (x : Int) : gk x ∈ kL := by
  have h := aroundZ_bound x 13 (by omega)
  have h2 : (aroundZ x 13).toNat < kL.length := by show _ < 13; omega
  show kL.getD _ 0 ∈ kL
  rw [List.getD_eq_getElem?_getD, List.getElem?_eq_getElem h2]
  exact List.getElem_mem h2
theorem kind18 (x : Int) (w : World) (h0 : -9223372036854775808 ≤ x) (h1 : x ≤ 9223372036854775807) : Calls Try.prog 27 #[.int .i64 x] w fun e w' => e = .returned (.int .i64 (gk x)) ∧ Ext w w' := by
  obtain ⟨pb, hpb⟩ : ∃ pb, w.heap.size = pb := ⟨_, rfl⟩
  obtain ⟨w1, hw1⟩ : ∃ w1, w.alloc (.cells #[.int .i64 101, .int .i64 105, .int .i64 107, .int .i64 109, .int .i64 111, .int .i64 113, .int .i64 115, .int .i64 117, .int .i64 119, .int .i64 121, .int .i64 123, .int .i64 125, .int .i64 127] 3) = w1 := ⟨_, rfl⟩
  have e1 : Ext w w1 := by rw [← hw1]; exact (Ext.refl w).alloc _
  have hb : w1.heap[pb]? = some (.cells #[.int .i64 101, .int .i64 105, .int .i64 107, .int .i64 109, .int .i64 111, .int .i64 113, .int .i64 115, .int .i64 117, .int .i64 119, .int .i64 121, .int .i64 123, .int .i64 125, .int .i64 127] 3 (0, 0)) := by rw [← hw1, ← hpb]; exact heap_alloc_new w _
  have hr := aroundZ_bound x 13 (by omega)
  obtain ⟨z, hz, hz9⟩ : ∃ z : Nat, aroundZ x 13 = z ∧ z < 13 := ⟨(aroundZ x 13).toNat, by omega, by omega⟩
  have hk : kL[z]? = some (gk x) := by
    have h2 : z < kL.length := by show _ < 13; omega
    rw [gk, hz, List.getD_eq_getElem?_getD, Int.toNat_natCast, List.getElem?_eq_getElem h2]; rfl
  have hkv : (#[.int .i64 101, .int .i64 105, .int .i64 107, .int .i64 109, .int .i64 111, .int .i64 113, .int .i64 115, .int .i64 117, .int .i64 119, .int .i64 121, .int .i64 123, .int .i64 125, .int .i64 127] : Array Value)[z]? = some (.int .i64 (gk x)) := by
    show ((kL.map (Value.int .i64)).toArray)[z]? = _
    rw [List.getElem?_toArray, List.getElem?_map, hk]; rfl
  have q : w1.cell? ⟨pb, z, none⟩ = some (.int .i64 (gk x)) := (cell_of_row w1 pb z _ _ _ hb).trans hkv
  have HZ := Lib.hid hz
  have E1 := Lib.hid e1
  clear hb hkv hk hr e1 hz
  go_enter Try.func27, Try.ntmps27
  go_wp2_with fail
  refine (around_any x 13 _ h0 h1 (by omega) (by omega)).mono ?_
  rintro e w2 ⟨rfl, rfl⟩
  rw [HZ.out]
  go_wp2_with fail
  go_ret
  exact ⟨rfl, E1.out⟩
/-- A qid that may be. -/
def gq (q : Bool × Int × Int) : Bool × Int × Int := (q.1, aroundZ q.2.1 4294967296, aroundZ q.2.2 4611686018427387905)
def I64 (x : Int) : Prop := -9223372036854775808 ≤ x ∧ x ≤ 9223372036854775807
def qv (q : Bool × Int × Int) : Array Value := #[.bool q.1, .int .i64 q.2.1, .int .i64 q.2.2]
theorem qid_info (q : Bool × Int × Int) : (Try.prog.info? 23).map (·.size) = some (qv q).size := by
  have h : (Try.prog.info? 23).map (·.size) = some 3 := by kernel_rfl
  rw [h]; rfl
theorem qv_one (q : Bool × Int × Int) : (qv q).all (·.oneCell') = true := by simp [qv, Value.oneCell']
set_option maxRecDepth 20000 in
theorem good_qid (q : Bool × Int × Int) (w : World) (h1 : I64 q.2.1) (h2 : I64 q.2.2) : Calls Try.prog 29 #[.agg (qv q)] w fun e w' => e = .returned (.agg (qv (gq q))) ∧ Ext w w' := by
  obtain ⟨ab, hab⟩ : ∃ ab, w.heap.size = ab := ⟨_, rfl⟩
  obtain ⟨w2, hw2⟩ : ∃ w2, (w.alloc (.cells (qv q) 23)).alloc (.cells #[.bool false, .int .i64 0, .int .i64 0] 23) = w2 := ⟨_, rfl⟩
  have e2 : Ext w w2 := by rw [← hw2]; exact ((Ext.refl w).alloc _).alloc _
  have hb : w2.heap[ab]? = some (.cells (qv q) 23 (0, 0)) := by rw [← hw2, ← hab]; exact ((Ext.refl _).alloc _).heap (heap_alloc_new w _)
  have hz : w2.heap[ab + 1]? = some (.cells #[.bool false, .int .i64 0, .int .i64 0] 23 (0, 0)) := by rw [← hw2, ← hab]; exact heap_alloc2_new w _ _
  have HS0 : Hid ((fun v : World => v.heap[ab]? = some (.cells (qv q) 23 (0, 0))) w2.drew) := Lib.hid hb
  have HZ : Hid (w2.drew.heap[ab + 1]? = some (.cells #[.bool false, .int .i64 0, .int .i64 0] 23 (0, 0))) := Lib.hid hz
  have E2 := Lib.hid e2
  have HQ1 := Lib.hid h1
  have HQ2 := Lib.hid h2
  clear hb hz e2 h1 h2
  go_enter Try.func29, Try.ntmps29
  go_wp2_with fail
  refine wp_region_plS (fun v : World => v.heap[ab]? = some (.cells (qv q) 23 (0, 0))) (.free 0 (.free 1 (.free 2 (.free 3 (.free 4 (.free 5 (.free 6 (.free 7 (.free 8 (.one 9 .nil)))))))))) (by kernel_rfl) (by kernel_rfl) (by kernel_rfl) (by kernel_rfl) ?_
  refine plS_val (v := ?_) rfl rfl HS0.out (fun w' hw' => ?_) ?_; rotate_left; (· skip; go_simp; try with_reducible rfl); simp only [Act.put, List.setIfInBounds_toArray, List.set_cons_zero, List.set_cons_succ]
  refine plS_val (v := ?_) rfl rfl HS0.out (fun w' hw' => ?_) ?_; rotate_left; (· have h9 : w'.cell? ⟨ab, 0, none⟩ = some (.bool q.1) := (cell_of_row w' ab 0 _ _ _ hw').trans rfl; go_simp; try with_reducible rfl); simp only [Act.put, List.setIfInBounds_toArray, List.set_cons_zero, List.set_cons_succ]
  refine plS_val (v := ?_) rfl rfl HS0.out (fun w' hw' => ?_) ?_; rotate_left; (· skip; go_simp; try with_reducible rfl); simp only [Act.put, List.setIfInBounds_toArray, List.set_cons_zero, List.set_cons_succ]
  refine plS_val (v := ?_) rfl rfl HS0.out (fun w' hw' => ?_) ?_; rotate_left; (· have h9 : w'.cell? ⟨ab, 1, none⟩ = some (.int .i64 q.2.1) := (cell_of_row w' ab 1 _ _ _ hw').trans rfl; go_simp; try with_reducible rfl); simp only [Act.put, List.setIfInBounds_toArray, List.set_cons_zero, List.set_cons_succ]
  refine plS_even 28 #[.int .i64 q.2.1] (.int .i64 (aroundZ q.2.1 4294967296)) rfl rfl HS0.out (fun w' hw' => by go_simp) (fun w' hw' => low_any q.2.1 w' HQ1.out.1 HQ1.out.2) ?_; simp only [Act.put, List.setIfInBounds_toArray, List.set_cons_zero, List.set_cons_succ]
  refine plS_val (v := ?_) rfl rfl HS0.out (fun w' hw' => ?_) ?_; rotate_left; (· skip; go_simp; try with_reducible rfl); simp only [Act.put, List.setIfInBounds_toArray, List.set_cons_zero, List.set_cons_succ]
  refine plS_val (v := ?_) rfl rfl HS0.out (fun w' hw' => ?_) ?_; rotate_left; (· have h9 : w'.cell? ⟨ab, 2, none⟩ = some (.int .i64 q.2.2) := (cell_of_row w' ab 2 _ _ _ hw').trans rfl; go_simp; try with_reducible rfl); simp only [Act.put, List.setIfInBounds_toArray, List.set_cons_zero, List.set_cons_succ]
  refine plS_even 30 #[.int .i64 q.2.2] (.int .i64 (aroundZ q.2.2 4611686018427387905)) rfl rfl HS0.out (fun w' hw' => by go_simp) (fun w' hw' => high_any q.2.2 w' HQ2.out.1 HQ2.out.2) ?_; simp only [Act.put, List.setIfInBounds_toArray, List.set_cons_zero, List.set_cons_succ]
  refine plS_val (v := .agg (qv (gq q))) rfl rfl HS0.out (fun w' hw' => exec_build _ _ rfl _ (by kernel_rfl)) ?_; simp only [Act.put, List.setIfInBounds_toArray, List.set_cons_zero, List.set_cons_succ]
  have HC : Hid ((fun v : World => v.heap[ab]? = some (.cells (qv q) 23 (0, 0))) (w2.drew.setRow (ab + 1) (qv (gq q)))) := Lib.hid ((setRow_other _ _ _ _ (by omega)).trans HS0.out)
  refine plS_void (w' := w2.drew.setRow (ab + 1) (qv (gq q))) rfl rfl (exec_storeRow 23 (.tmp 2) (.tmp 11) rfl (ab + 1) _ rfl rfl 23 _ HZ.out (qid_info _) rfl (qv_one _)) HC.out ?_
  have HG := Lib.hid (setRow_heap w2.drew (ab + 1) _ (qv (gq q)) _ _ HZ.out)
  have EG := Lib.hid (below_setRow E2.out.drew (by omega : w.heap.size ≤ ab + 1) (qv (gq q)))
  refine plS_done ?_
  go_wp2_with fail
  refine bodyPost_ret (results_cell_row rfl _ _ (ab + 1) _ _ (0, 0) _ rfl HG.out Try.underlying23 rfl (qid_info _)) rfl ?_
  exact ⟨rfl, EG.out⟩
end Go.Proofs.Ytihiclnbbpablaa
