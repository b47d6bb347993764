/-
  Layer 14: what may be, made of any; the same with one field another one.
-/
import Derived.Test.YtpjigdfllbhknaaCalO
namespace Go.Proofs.Ytpjigdfllbhknaa
open Go Go.RowKit
set_option linter.unusedVariables false
set_option linter.unusedSimpArgs false
def gpL : List Int := [1, 2, 3, 6, 7, 8, 9, 12, 13, 14, 16]
def gk (x : Int) : Int := gpL.getD (aroundZ x 11).toNat 0
def gdA (a : AR) (A : Option Addr) (n c : Nat) : AR := ownA (mkA (gk a.pr) a A n c)
theorem gk_mem (x : Int) : gk x ∈ gpL := by
  have h := aroundZ_bound x 11 (by omega)
  have h2 : (aroundZ x 11).toNat < gpL.length := by show _ < 11; omega
  show gpL.getD _ 0 ∈ gpL
  rw [List.getD_eq_getElem?_getD, List.getElem?_eq_getElem h2]
  exact List.getElem_mem h2
set_option maxRecDepth 20000 in
set_option maxHeartbeats 4000000 in
theorem good14 (a : AR) (l : List UInt8) (w : World) (hr0 : a.rng) (hs : Sees w a.dA a.dn a.dk (bs l)) :
    Calls Try.prog 12 #[.agg a.cs] w fun e w' => ∃ A n c, e = .returned (.agg (gdA a A n c).cs) ∧ Sees w' A n c (bs (l.take 30)) ∧ Ext w w' := by
  have hr := Lib.hid hr0
  obtain ⟨ab, hab⟩ : ∃ ab, w.heap.size = ab := ⟨_, rfl⟩
  obtain ⟨w2, hw2⟩ : ∃ w2, (w.alloc (.cells a.cs 26)).alloc (.cells #[.int .i64 0, .int .i64 0, .int .i64 0, .int .i64 0, .int .i64 0, .int .i64 0, .int .i64 0, .int .i64 0, .int .i64 0, .string ⟨#[]⟩, .string ⟨#[]⟩, .slice none 0 0] 26) = w2 := ⟨_, rfl⟩
  obtain ⟨w3, hw3⟩ : ∃ w3, w2.alloc (.cells #[.int .i64 1, .int .i64 2, .int .i64 3, .int .i64 6, .int .i64 7, .int .i64 8, .int .i64 9, .int .i64 12, .int .i64 13, .int .i64 14, .int .i64 16] 3) = w3 := ⟨_, rfl⟩
  have e2 : Ext w w2 := by rw [← hw2]; exact ((Ext.refl w).alloc _).alloc _
  have e3 : Ext w2 w3 := by rw [← hw3]; exact (Ext.refl w2).alloc _
  have hb : w2.heap[ab]? = some (.cells a.cs 26 (0, 0)) := by rw [← hw2, ← hab]; exact ((Ext.refl _).alloc _).heap (heap_alloc_new w _)
  have hz : w2.heap[ab + 1]? = some (.cells #[.int .i64 0, .int .i64 0, .int .i64 0, .int .i64 0, .int .i64 0, .int .i64 0, .int .i64 0, .int .i64 0, .int .i64 0, .string ⟨#[]⟩, .string ⟨#[]⟩, .slice none 0 0] 26 (0, 0)) := by rw [← hw2, ← hab]; exact heap_alloc2_new w _ _
  obtain ⟨pb, hpb⟩ : ∃ pb, w2.heap.size = pb := ⟨_, rfl⟩
  have hlt := (Array.getElem?_eq_some_iff.1 hz).1
  have E3 := Lib.hid (e2.trans e3)
  have HSD := Lib.hid (hs.ext (e2.trans e3))
  have HS0 : Hid (((fun v : World => v.heap[ab]? = some (.cells a.cs 26 (0, 0)) ∧ v.heap[pb]? = some (.cells #[.int .i64 1, .int .i64 2, .int .i64 3, .int .i64 6, .int .i64 7, .int .i64 8, .int .i64 9, .int .i64 12, .int .i64 13, .int .i64 14, .int .i64 16] 3 (0, 0)))) w3.drew) := Lib.hid ⟨e3.heap hb, by show w3.heap[pb]? = _; rw [← hw3, ← hpb]; exact heap_alloc_new _ _⟩
  have HZ3 : Hid (w3.drew.heap[ab + 1]? = some (.cells #[.int .i64 0, .int .i64 0, .int .i64 0, .int .i64 0, .int .i64 0, .int .i64 0, .int .i64 0, .int .i64 0, .int .i64 0, .string ⟨#[]⟩, .string ⟨#[]⟩, .slice none 0 0] 26 (0, 0))) := Lib.hid (e3.heap hz)
  have HI := Lib.hid (fun b : AR => arg_info b)
  have HU := Lib.hid (fun b : AR => AR.one b)
  have HR := Lib.hid (aroundZ_bound a.pr 11 (by omega))
  obtain ⟨z, hz9⟩ : ∃ z : Nat, aroundZ a.pr 11 = z ∧ z < 11 := ⟨(aroundZ a.pr 11).toNat, by have := HR.out; omega, by have := HR.out; omega⟩
  have hk : gpL[z]? = some (gk a.pr) := by
    have h2 : z < gpL.length := by show _ < 11; omega
    rw [gk, hz9.1, List.getD_eq_getElem?_getD, Int.toNat_natCast, List.getElem?_eq_getElem h2]; rfl
  have hkv : (#[.int .i64 1, .int .i64 2, .int .i64 3, .int .i64 6, .int .i64 7, .int .i64 8, .int .i64 9, .int .i64 12, .int .i64 13, .int .i64 14, .int .i64 16] : Array Value)[z]? = some (.int .i64 (gk a.pr)) := by
    show ((gpL.map (Value.int .i64)).toArray)[z]? = _
    rw [List.getElem?_toArray, List.getElem?_map, hk]; rfl
  have HK := Lib.hid hkv
  have HZ9 := Lib.hid hz9
  clear hb hz e2 e3 hs hr0 hk hkv
  go_enter Try.func12, Try.ntmps12
  go_wp2_with fail
  refine wp_region_plS ((fun v : World => v.heap[ab]? = some (.cells a.cs 26 (0, 0)) ∧ v.heap[pb]? = some (.cells #[.int .i64 1, .int .i64 2, .int .i64 3, .int .i64 6, .int .i64 7, .int .i64 8, .int .i64 9, .int .i64 12, .int .i64 13, .int .i64 14, .int .i64 16] 3 (0, 0)))) (.free 0 (.free 1 (.free 2 (.free 3 (.free 4 (.free 5 (.free 6 (.one 7 (.one 8 .nil))))))))) (by kernel_rfl) (by kernel_rfl) (by kernel_rfl) (by kernel_rfl) ?_
  refine plS_val (v := ?_) rfl rfl HS0.out (fun w' hw' => ?_) ?_; rotate_left; (· go_simp; try with_reducible rfl); simp only [Act.put, List.setIfInBounds_toArray, List.set_cons_zero, List.set_cons_succ]
  refine plS_val (v := ?_) rfl rfl HS0.out (fun w' hw' => ?_) ?_; rotate_left; (· go_simp; try with_reducible rfl); simp only [Act.put, List.setIfInBounds_toArray, List.set_cons_zero, List.set_cons_succ]
  refine plS_val (v := ?_) rfl rfl HS0.out (fun w' hw' => ?_) ?_; rotate_left; (· have q : w'.cell? ⟨ab, 0, none⟩ = some (.int .i64 a.pr) := (cell_of_row w' ab 0 _ _ _ hw'.1).trans rfl; go_simp; try with_reducible rfl); simp only [Act.put, List.setIfInBounds_toArray, List.set_cons_zero, List.set_cons_succ]
  refine plS_even 19 #[.int .i64 a.pr, .int .i64 11] (.int .i64 (z : Int)) rfl rfl HS0.out (fun w' hw' => by go_simp) (fun w' hw' => by rw [← HZ9.out.1]; exact around_any a.pr 11 w' hr.out.pr.1 hr.out.pr.2 (by omega) (by omega)) ?_; simp only [Act.put, List.setIfInBounds_toArray, List.set_cons_zero, List.set_cons_succ]
  refine plS_val (v := .pointer (some ⟨pb, z, none⟩)) rfl rfl HS0.out (fun w' hw' => by have q1 := HZ9.out.2; go_simp; first | done | (intro hx; omega)) ?_; simp only [Act.put, List.setIfInBounds_toArray, List.set_cons_zero, List.set_cons_succ]
  refine plS_val (v := .int .i64 (gk a.pr)) rfl rfl HS0.out (fun w' hw' => by
    have q : w'.cell? ⟨pb, z, none⟩ = some (.int .i64 (gk a.pr)) := (cell_of_row w' pb z _ _ _ hw'.2).trans HK.out
    go_simp; try rfl) ?_; simp only [Act.put, List.setIfInBounds_toArray, List.set_cons_zero, List.set_cons_succ]
  refine plS_val (v := .agg a.cs) rfl rfl HS0.out (fun w' hw' => exec_loadSub 26 _ rfl ab 0 rfl 26 _ _ _ _ hw'.1 (fun j v h => by rw [Nat.zero_add]; exact h) Try.underlying26 rfl (HI.out _)) ?_; simp only [Act.put, List.setIfInBounds_toArray, List.set_cons_zero, List.set_cons_succ]
  refine plS_call 25 #[.int .i64 (gk a.pr), .agg a.cs] rfl rfl (by go_simp) ?_
  refine (made14 (gk a.pr) a l _ hr.out (HSD.out.ext (Ext.refl w3).drew)).mono ?_
  rintro e w4 ⟨A, n, c, rfl, see, e4⟩
  have HS4 : Hid (((fun v : World => v.heap[ab]? = some (.cells a.cs 26 (0, 0)) ∧ v.heap[pb]? = some (.cells #[.int .i64 1, .int .i64 2, .int .i64 3, .int .i64 6, .int .i64 7, .int .i64 8, .int .i64 9, .int .i64 12, .int .i64 13, .int .i64 14, .int .i64 16] 3 (0, 0)))) w4) := Lib.hid ⟨e4.heap HS0.out.1, e4.heap HS0.out.2⟩
  have HZ4 := Lib.hid (e4.heap HZ3.out)
  refine ⟨_, rfl, HS4.out, ?_⟩; simp only [Act.put, List.setIfInBounds_toArray, List.set_cons_zero, List.set_cons_succ]
  have HG := Lib.hid (setRow_heap w4 (ab + 1) _ (gdA a A n c).cs _ _ HZ4.out)
  have EG := Lib.hid (below_setRow ((E3.out.drew).trans e4) (by omega : w.heap.size ≤ ab + 1) (gdA a A n c).cs)
  have SEG : Hid (Sees (w4.setRow (ab + 1) (gdA a A n c).cs) A n c (bs (l.take 30))) := Lib.hid (sees_offB see HZ4.out (fun i x h => by have hm := Array.mem_of_getElem? h; simp at hm) ⟨rfl, rfl, rfl, by simp [World.setRow], fun i hi h1 h2 => setRow_other _ _ _ _ h1⟩)
  refine plS_void (w' := w4.setRow (ab + 1) (gdA a A n c).cs) rfl rfl (exec_storeRow 26 (.tmp 2) (.tmp 12) rfl (ab + 1) _ rfl rfl 26 _ HZ4.out (HI.out _) rfl (HU.out _)) ?hS ?_
  case hS => exact ⟨(setRow_other _ _ _ _ (by omega)).trans HS4.out.1, (setRow_other _ _ _ _ (by omega)).trans HS4.out.2⟩
  refine plS_done ?_
  go_wp2_with fail
  refine bodyPost_ret (results_cell_row rfl _ _ (ab + 1) _ _ (0, 0) _ rfl HG.out Try.underlying26 rfl (HI.out _)) rfl ?_
  exact ⟨A, n, c, rfl, SEG.out, EG.out⟩
end Go.Proofs.Ytpjigdfllbhknaa
