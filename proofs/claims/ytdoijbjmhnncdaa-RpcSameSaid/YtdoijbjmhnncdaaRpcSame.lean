/-
  The statement RpcSame: its walk.
-/
import Derived.Test.YtdoijbjmhnncdaaRpcG
import Derived.Test.YtdoijbjmhnncdaaPln
namespace Go.Proofs.Ytdoijbjmhnncdaa
open Go Go.RowKit
set_option linter.unusedVariables false
set_option linter.unusedSimpArgs false
theorem ite_mEq {α : Type} (f : Bool → α) (ra rb : Bool) (xa xb pa pb : Int) (l r : List UInt8) : (if ra = rb then if xa = xb then if pa = pb then if l = r then f true else f false else f false else f false else f false) = f (mEq ra rb xa xb pa pb l r) := by
  unfold mEq
  by_cases h0 : ra = rb
  · by_cases h1 : xa = xb
    · by_cases h2 : pa = pb
      · by_cases h3 : l = r
        · simp [h0, h1, h2, h3]
        · have h4 : (l == r) = false := by simpa using h3
          simp [h0, h1, h2, h3, h4]
      · have h4 : (pa == pb) = false := by simpa using h2
        simp [h0, h1, h2, h4]
    · have h4 : (xa == xb) = false := by simpa using h1
      simp [h0, h1, h4]
  · have h4 : (ra == rb) = false := by simpa using h0
    simp [h0, h4]
/-- The six messages: a, b, and a with one field of b. -/
def sR (a b : Bool) (k : Nat) : Bool := if k = 1 ∨ k = 2 then b else a
def sX (a b : Int) (k : Nat) : Int := if k = 1 ∨ k = 3 then b else a
def sP (a b : Int) (k : Nat) : Int := if k = 1 ∨ k = 4 then b else a
def sB (a b : List UInt8) (k : Nat) : List UInt8 := if k = 1 ∨ k = 5 then b else a
theorem sB_len {a b : List UInt8} (ha : a.length ≤ 12) (hb : b.length ≤ 12) (k : Nat) : (sB a b k).length ≤ 1000 := by
  unfold sB
  split <;> omega
theorem row6 {w : World} {g : Nat} {t : TypeId} {ra rb : Bool} {xa xb pa pb : Int} {ba bb : List UInt8}
    (h : w.heap[g]? = some (.cells #[.bool ra, .int .u32 xa, .int .u32 pa, .string ⟨ba.toArray⟩, .bool rb, .int .u32 xb, .int .u32 pb, .string ⟨bb.toArray⟩, .bool rb, .int .u32 xa, .int .u32 pa, .string ⟨ba.toArray⟩, .bool ra, .int .u32 xb, .int .u32 pa, .string ⟨ba.toArray⟩, .bool ra, .int .u32 xa, .int .u32 pb, .string ⟨ba.toArray⟩, .bool ra, .int .u32 xa, .int .u32 pa, .string ⟨bb.toArray⟩] t (0, 0))) (k : Nat) (hk : k < 6) :
    w.cell? ⟨g, k * 4, none⟩ = some (.bool (sR ra rb k)) ∧ w.cell? ⟨g, k * 4 + 1, none⟩ = some (.int .u32 (sX xa xb k)) ∧ w.cell? ⟨g, k * 4 + 2, none⟩ = some (.int .u32 (sP pa pb k)) ∧ w.cell? ⟨g, k * 4 + 3, none⟩ = some (.string ⟨(sB ba bb k).toArray⟩) := by
  match k, hk with
  | 0, _ => exact ⟨cell_of_row w g 0 _ _ _ h, cell_of_row w g 1 _ _ _ h, cell_of_row w g 2 _ _ _ h, cell_of_row w g 3 _ _ _ h⟩
  | 1, _ => exact ⟨cell_of_row w g 4 _ _ _ h, cell_of_row w g 5 _ _ _ h, cell_of_row w g 6 _ _ _ h, cell_of_row w g 7 _ _ _ h⟩
  | 2, _ => exact ⟨cell_of_row w g 8 _ _ _ h, cell_of_row w g 9 _ _ _ h, cell_of_row w g 10 _ _ _ h, cell_of_row w g 11 _ _ _ h⟩
  | 3, _ => exact ⟨cell_of_row w g 12 _ _ _ h, cell_of_row w g 13 _ _ _ h, cell_of_row w g 14 _ _ _ h, cell_of_row w g 15 _ _ _ h⟩
  | 4, _ => exact ⟨cell_of_row w g 16 _ _ _ h, cell_of_row w g 17 _ _ _ h, cell_of_row w g 18 _ _ _ h, cell_of_row w g 19 _ _ _ h⟩
  | 5, _ => exact ⟨cell_of_row w g 20 _ _ _ h, cell_of_row w g 21 _ _ _ h, cell_of_row w g 22 _ _ _ h, cell_of_row w g 23 _ _ _ h⟩
  | n + 6, h6 => omega
set_option maxRecDepth 20000 in
set_option maxHeartbeats 1000000 in
theorem rsame_walk (ra : Bool) (xa pa : Int) (sa : ByteArray) (rb : Bool) (xb pb : Int) (sb : ByteArray) (w : World) (hsa : sa.size ≤ maxLen) (hsb : sb.size ≤ maxLen) :
    Calls Try.prog 4 #[.agg #[.bool ra, .int .u32 xa, .int .u32 pa, .string sa], .agg #[.bool rb, .int .u32 xb, .int .u32 pb, .string sb]] w fun e w' => e = .returned (.bool true) ∧ Ext w w' := by
  obtain ⟨la, rfl⟩ : ∃ l : List UInt8, sa = ⟨l.toArray⟩ := ⟨sa.data.toList, by simp⟩
  obtain ⟨lb, rfl⟩ : ∃ l : List UInt8, sb = ⟨l.toArray⟩ := ⟨sb.data.toList, by simp⟩
  have hla : la.length ≤ 9223372036854775807 := by simpa [maxLen, ByteArray.size] using hsa
  have hlb : lb.length ≤ 9223372036854775807 := by simpa [maxLen, ByteArray.size] using hsb
  clear hsa hsb
  obtain ⟨ba, hba⟩ : ∃ b, la.take 12 = b := ⟨_, rfl⟩
  obtain ⟨bb, hbb⟩ : ∃ b, lb.take 12 = b := ⟨_, rfl⟩
  have hbal : ba.length ≤ 12 := by rw [← hba, List.length_take]; omega
  have hbbl : bb.length ≤ 12 := by rw [← hbb, List.length_take]; omega
  obtain ⟨w1, hw1⟩ : ∃ w1, (w.alloc (.cells #[.bool ra, .int .u32 xa, .int .u32 pa, .string ⟨la.toArray⟩] 24)).alloc (.cells #[.bool rb, .int .u32 xb, .int .u32 pb, .string ⟨lb.toArray⟩] 24) = w1 := ⟨_, rfl⟩
  have e1 : Ext w w1 := by rw [← hw1]; exact ((Ext.refl w).alloc _).alloc _
  have hm1 : w1.heap[w.heap.size]? = some (.cells #[.bool ra, .int .u32 xa, .int .u32 pa, .string ⟨la.toArray⟩] 24 (0, 0)) := by rw [← hw1]; exact ((Ext.refl _).alloc _).heap (heap_alloc_new w _)
  have hn1 : w1.heap[w.heap.size + 1]? = some (.cells #[.bool rb, .int .u32 xb, .int .u32 pb, .string ⟨lb.toArray⟩] 24 (0, 0)) := by rw [← hw1]; exact heap_alloc2_new w _ _
  have hsz1 : w1.heap.size = w.heap.size + 2 := by rw [← hw1]; simp
  have x3 := cell_of_row w1 w.heap.size 3 _ _ _ hm1
  have z3 := cell_of_row w1 (w.heap.size + 1) 3 _ _ _ hn1
  simp at x3 z3
  have f3 := Lib.frozen_of_heap hm1 3
  have HSH := Lib.hid (short_any la 12 12 rfl w1 hla)
  rw [hba] at HSH
  obtain ⟨w2, hw2⟩ : ∃ w2, w1.setCell ⟨w.heap.size, 3, none⟩ (.string ⟨ba.toArray⟩) = w2 := ⟨_, rfl⟩
  have hm2 : w2.heap[w.heap.size]? = some (.cells #[.bool ra, .int .u32 xa, .int .u32 pa, .string ⟨ba.toArray⟩] 24 (0, 0)) := by rw [← hw2]; simpa using heap_setCell_same w1 w.heap.size 3 _ _ (.string ⟨ba.toArray⟩) hm1
  have hn2 : w2.heap[w.heap.size + 1]? = some (.cells #[.bool rb, .int .u32 xb, .int .u32 pb, .string ⟨lb.toArray⟩] 24 (0, 0)) := by rw [← hw2]; exact (heap_setCell_other _ _ _ _ (by simp only; omega)).trans hn1
  have HSH2 := Lib.hid (short_any lb 12 12 rfl w2 hlb)
  rw [hbb] at HSH2
  have y3 := cell_of_row w2 (w.heap.size + 1) 3 _ _ _ hn2
  simp at y3
  have g3 := Lib.frozen_of_heap hn2 3
  obtain ⟨w3, hw3⟩ : ∃ w3, w2.setCell ⟨w.heap.size + 1, 3, none⟩ (.string ⟨bb.toArray⟩) = w3 := ⟨_, rfl⟩
  have hn3 : w3.heap[w.heap.size + 1]? = some (.cells #[.bool rb, .int .u32 xb, .int .u32 pb, .string ⟨bb.toArray⟩] 24 (0, 0)) := by rw [← hw3]; simpa using heap_setCell_same w2 (w.heap.size + 1) 3 _ _ (.string ⟨bb.toArray⟩) hn2
  have hm3 : w3.heap[w.heap.size]? = some (.cells #[.bool ra, .int .u32 xa, .int .u32 pa, .string ⟨ba.toArray⟩] 24 (0, 0)) := by rw [← hw3]; exact (heap_setCell_other _ _ _ _ (by simp)).trans hm2
  have e3 : Ext w w3 := by rw [← hw3, ← hw2]; exact (((Kp.of_ext (X := fun k => k < w.heap.size) e1).set w.heap.size 3 _ (by omega)).set (w.heap.size + 1) 3 _ (by omega)).to_ext (fun k hk => hk)
  have E3 := Lib.hid e3
  have a0 := cell_of_row w3 w.heap.size 0 _ _ _ hm3
  have a1 := cell_of_row w3 w.heap.size 1 _ _ _ hm3
  have a2 := cell_of_row w3 w.heap.size 2 _ _ _ hm3
  have a3 := cell_of_row w3 w.heap.size 3 _ _ _ hm3
  have b0 := cell_of_row w3 (w.heap.size + 1) 0 _ _ _ hn3
  have b1 := cell_of_row w3 (w.heap.size + 1) 1 _ _ _ hn3
  have b2 := cell_of_row w3 (w.heap.size + 1) 2 _ _ _ hn3
  have b3 := cell_of_row w3 (w.heap.size + 1) 3 _ _ _ hn3
  simp at a0 a1 a2 a3 b0 b1 b2 b3
  have hsz3 : w3.heap.size = w.heap.size + 2 := by rw [← hw3, ← hw2]; simp [hsz1]
  obtain ⟨s3, hs3⟩ : ∃ s3, w3.heap.size = s3 := ⟨_, rfl⟩
  clear hm1 hn1 hm2 hn2 hm3 hn3 e1 e3 hba hbb hsz1
  go_enter Try.func4, Try.ntmps4
  go_wp2_with fail
  refine HSH.out.mono ?_
  rintro e wq ⟨rfl, rfl⟩
  go_wp2_with fail
  refine HSH2.out.mono ?_
  rintro e wq ⟨rfl, rfl⟩
  go_wp2_with fail
  generalize hw4 : ((((w3.alloc (.cells #[.bool rb, .int .u32 xa, .int .u32 pa, .string ⟨ba.toArray⟩] 24)).alloc (.cells #[.bool ra, .int .u32 xb, .int .u32 pa, .string ⟨ba.toArray⟩] 24)).alloc (.cells #[.bool ra, .int .u32 xa, .int .u32 pb, .string ⟨ba.toArray⟩] 24)).alloc (.cells #[.bool ra, .int .u32 xa, .int .u32 pa, .string ⟨bb.toArray⟩] 24)).alloc (.cells #[.bool ra, .int .u32 xa, .int .u32 pa, .string ⟨ba.toArray⟩, .bool rb, .int .u32 xb, .int .u32 pb, .string ⟨bb.toArray⟩, .bool rb, .int .u32 xa, .int .u32 pa, .string ⟨ba.toArray⟩, .bool ra, .int .u32 xb, .int .u32 pa, .string ⟨ba.toArray⟩, .bool ra, .int .u32 xa, .int .u32 pb, .string ⟨ba.toArray⟩, .bool ra, .int .u32 xa, .int .u32 pa, .string ⟨bb.toArray⟩] 24) = w4
  have hsz4 : (((((w3.alloc (.cells #[.bool rb, .int .u32 xa, .int .u32 pa, .string ⟨ba.toArray⟩] 24)).alloc (.cells #[.bool ra, .int .u32 xb, .int .u32 pa, .string ⟨ba.toArray⟩] 24)).alloc (.cells #[.bool ra, .int .u32 xa, .int .u32 pb, .string ⟨ba.toArray⟩] 24)).alloc (.cells #[.bool ra, .int .u32 xa, .int .u32 pa, .string ⟨bb.toArray⟩] 24))).heap.size = w.heap.size + 6 := by simp [hsz3]
  obtain ⟨ab, hab⟩ : ∃ ab, w.heap.size + 2 + 1 + 1 + 1 + 1 = ab := ⟨_, rfl⟩
  rw [hab]
  have e34 : Ext w3 w4 := by rw [← hw4]; exact (((((Ext.refl w3).alloc _).alloc _).alloc _).alloc _).alloc _
  have hrow : w4.heap[ab]? = some (.cells #[.bool ra, .int .u32 xa, .int .u32 pa, .string ⟨ba.toArray⟩, .bool rb, .int .u32 xb, .int .u32 pb, .string ⟨bb.toArray⟩, .bool rb, .int .u32 xa, .int .u32 pa, .string ⟨ba.toArray⟩, .bool ra, .int .u32 xb, .int .u32 pa, .string ⟨ba.toArray⟩, .bool ra, .int .u32 xa, .int .u32 pb, .string ⟨ba.toArray⟩, .bool ra, .int .u32 xa, .int .u32 pa, .string ⟨bb.toArray⟩] 24 (0, 0)) := by
    rw [← hw4, show ab = (((((w3.alloc (.cells #[.bool rb, .int .u32 xa, .int .u32 pa, .string ⟨ba.toArray⟩] 24)).alloc (.cells #[.bool ra, .int .u32 xb, .int .u32 pa, .string ⟨ba.toArray⟩] 24)).alloc (.cells #[.bool ra, .int .u32 xa, .int .u32 pb, .string ⟨ba.toArray⟩] 24)).alloc (.cells #[.bool ra, .int .u32 xa, .int .u32 pa, .string ⟨bb.toArray⟩] 24))).heap.size from by rw [hsz4]; omega]
    exact heap_alloc_new _ _
  have HROW := Lib.hid hrow
  have E4 := Lib.hid (E3.out.trans e34)
  clear hw4 hsz4 e34 hrow a0 a1 a2 a3 b0 b1 b2 b3 hw1 hw2 hw3 x3 z3 f3 y3 g3 HSH HSH2 E3 hsz3 hab
  have HLB := Lib.hid (sB_len (a := ba) (b := bb) hbal hbbl)
  go_loopw [10] (fun iv wr => ∃ i : Nat, i ≤ 6 ∧ iv = .int .i64 (i : Int) ∧ Ext w4 wr) (fun iv _ => 6 - (intOf iv).toNat)
  case atStart => exact ⟨0, by omega, rfl, Ext.refl _⟩
  case round =>
    obtain ⟨i, hi, rfl, exti⟩ := hrel
    obtain ⟨wq, hwq⟩ : ∃ wq, wq = wr := ⟨_, rfl⟩
    subst hwq
    have EXI := Lib.hid exti
    clear exti
    by_cases hlt : i < 6
    · go_wp2_with fail
      go_loopw [11] (fun kv wr => ∃ k : Nat, k ≤ 6 ∧ kv = .int .i64 (k : Int) ∧ Ext w4 wr) (fun kv _ => 6 - (intOf kv).toNat)
      case atStart => exact ⟨0, by omega, rfl, EXI.out⟩
      case round =>
        obtain ⟨k, hk, rfl, extk⟩ := hrel
        have EXK := Lib.hid extk
        clear extk
        by_cases hlk : k < 6
        · go_wp2_with fail
          refine wp_region_pl (.free 0 (.free 1 (.free 2 (.free 3 (.free 5 (.free 6 (.free 7 (.free 8 (.free 11 (.free 12 (.free 13 (.free 14 (.free 15 (.free 16 (.free 17 (.free 18 (.free 19 (.one 4 (.one 9 (.one 10 (.free 20 .nil))))))))))))))))))))) (by kernel_rfl) (by kernel_rfl) (by kernel_rfl) (by kernel_rfl) ?_
          refine pl_val (v := ?_) rfl rfl (fun w' hw' => ?_) ?_; rotate_left; (· skip; go_simp; try with_reducible rfl); simp only [Act.put, List.setIfInBounds_toArray, List.set_cons_zero, List.set_cons_succ]
          refine pl_val (v := ?_) rfl rfl (fun w' hw' => ?_) ?_; rotate_left; (· skip; go_simp; try with_reducible rfl); simp only [Act.put, List.setIfInBounds_toArray, List.set_cons_zero, List.set_cons_succ]
          refine pl_val (v := ?_) rfl rfl (fun w' hw' => ?_) ?_; rotate_left; (· skip; go_simp; try with_reducible rfl); simp only [Act.put, List.setIfInBounds_toArray, List.set_cons_zero, List.set_cons_succ]
          refine pl_val (v := ?_) rfl rfl (fun w' hw' => ?_) ?_; rotate_left; (· obtain ⟨v0, v1, v2, v3⟩ := row6 ((EXK.out.trans ((Ext.refl wr).drew.trans hw')).heap HROW.out) i hlt; go_simp; try with_reducible rfl); simp only [Act.put, List.setIfInBounds_toArray, List.set_cons_zero, List.set_cons_succ]
          refine pl_val (v := ?_) rfl rfl (fun w' hw' => ?_) ?_; rotate_left; (· skip; go_simp; try with_reducible rfl); simp only [Act.put, List.setIfInBounds_toArray, List.set_cons_zero, List.set_cons_succ]
          refine pl_val (v := ?_) rfl rfl (fun w' hw' => ?_) ?_; rotate_left; (· skip; go_simp; try with_reducible rfl); simp only [Act.put, List.setIfInBounds_toArray, List.set_cons_zero, List.set_cons_succ]
          refine pl_val (v := ?_) rfl rfl (fun w' hw' => ?_) ?_; rotate_left; (· skip; go_simp; try with_reducible rfl); simp only [Act.put, List.setIfInBounds_toArray, List.set_cons_zero, List.set_cons_succ]
          refine pl_val (v := ?_) rfl rfl (fun w' hw' => ?_) ?_; rotate_left; (· obtain ⟨v0, v1, v2, v3⟩ := row6 ((EXK.out.trans ((Ext.refl wr).drew.trans hw')).heap HROW.out) k hlk; go_simp; try with_reducible rfl); simp only [Act.put, List.setIfInBounds_toArray, List.set_cons_zero, List.set_cons_succ]
          refine pl_val (v := ?_) rfl rfl (fun w' hw' => ?_) ?_; rotate_left; (· skip; go_simp; try with_reducible rfl); simp only [Act.put, List.setIfInBounds_toArray, List.set_cons_zero, List.set_cons_succ]
          refine pl_val (v := ?_) rfl rfl (fun w' hw' => ?_) ?_; rotate_left; (· skip; go_simp; try with_reducible rfl); simp only [Act.put, List.setIfInBounds_toArray, List.set_cons_zero, List.set_cons_succ]
          refine pl_val (v := ?_) rfl rfl (fun w' hw' => ?_) ?_; rotate_left; (· skip; go_simp; try with_reducible rfl); simp only [Act.put, List.setIfInBounds_toArray, List.set_cons_zero, List.set_cons_succ]
          refine pl_val (v := ?_) rfl rfl (fun w' hw' => ?_) ?_; rotate_left; (· obtain ⟨v0, v1, v2, v3⟩ := row6 ((EXK.out.trans ((Ext.refl wr).drew.trans hw')).heap HROW.out) i hlt; go_simp; try with_reducible rfl); simp only [Act.put, List.setIfInBounds_toArray, List.set_cons_zero, List.set_cons_succ]
          refine pl_val (v := ?_) rfl rfl (fun w' hw' => ?_) ?_; rotate_left; (· skip; go_simp; try with_reducible rfl); simp only [Act.put, List.setIfInBounds_toArray, List.set_cons_zero, List.set_cons_succ]
          refine pl_val (v := ?_) rfl rfl (fun w' hw' => ?_) ?_; rotate_left; (· skip; go_simp; try with_reducible rfl); simp only [Act.put, List.setIfInBounds_toArray, List.set_cons_zero, List.set_cons_succ]
          refine pl_val (v := ?_) rfl rfl (fun w' hw' => ?_) ?_; rotate_left; (· skip; go_simp; try with_reducible rfl); simp only [Act.put, List.setIfInBounds_toArray, List.set_cons_zero, List.set_cons_succ]
          refine pl_val (v := ?_) rfl rfl (fun w' hw' => ?_) ?_; rotate_left; (· obtain ⟨v0, v1, v2, v3⟩ := row6 ((EXK.out.trans ((Ext.refl wr).drew.trans hw')).heap HROW.out) k hlk; go_simp; try with_reducible rfl); simp only [Act.put, List.setIfInBounds_toArray, List.set_cons_zero, List.set_cons_succ]
          refine pl_val (v := .bool (mEq (sR ra rb i) (sR ra rb k) (sX xa xb i) (sX xa xb k) (sP pa pb i) (sP pa pb k) (sB ba bb i) (sB ba bb k))) rfl rfl (fun w' hw' => by go_simp; exact ite_mEq (fun b => Result.ok (Next.value (Value.bool b)) w') _ _ _ _ _ _ _ _) ?_
          simp only [Act.put, List.setIfInBounds_toArray, List.set_cons_zero, List.set_cons_succ]
          refine pl_call 7 #[.agg #[.bool (sR ra rb i), .int .u32 (sX xa xb i), .int .u32 (sP pa pb i), .string ⟨(sB ba bb i).toArray⟩]] rfl rfl (by go_simp) ?_
          refine (of_any _ _ _ (sB ba bb i) _ (HLB.out i)).mono ?_
          rintro e w5 ⟨A5, n5, c5, rfl, hs5, e5⟩
          refine ⟨_, rfl, e5, ?_⟩
          simp only [Act.put, List.setIfInBounds_toArray, List.set_cons_zero, List.set_cons_succ]
          refine pl_call 7 #[.agg #[.bool (sR ra rb k), .int .u32 (sX xa xb k), .int .u32 (sP pa pb k), .string ⟨(sB ba bb k).toArray⟩]] rfl rfl (by go_simp) ?_
          refine (of_any _ _ _ (sB ba bb k) _ (HLB.out k)).mono ?_
          rintro e w6 ⟨A6, n6, c6, rfl, hs6, e6⟩
          refine ⟨_, rfl, e6, ?_⟩
          simp only [Act.put, List.setIfInBounds_toArray, List.set_cons_zero, List.set_cons_succ]
          refine pl_call 12 #[.agg #[.bool (sR ra rb i), .int .u32 (sX xa xb i), .int .u32 (sP pa pb i), .slice A5 n5 c5], .agg #[.bool (sR ra rb k), .int .u32 (sX xa xb k), .int .u32 (sP pa pb k), .slice A6 n6 c6]] rfl rfl (by go_simp) ?_
          refine (rsame_any _ _ _ _ _ _ A5 n5 c5 (sB ba bb i) A6 n6 c6 (sB ba bb k) w6 (hs5.ext e6) hs6).mono ?_
          rintro e w7 ⟨rfl, e7⟩
          refine ⟨_, rfl, e7, ?_⟩
          simp only [Act.put, List.setIfInBounds_toArray, List.set_cons_zero, List.set_cons_succ]
          refine pl_val (v := ?_) rfl rfl (fun w' hw' => ?_) ?_; rotate_left; (· skip; go_simp; try with_reducible rfl); simp only [Act.put, List.setIfInBounds_toArray, List.set_cons_zero, List.set_cons_succ]
          refine pl_done ?_
          have HRF := Lib.hid (EXK.out.trans ((Ext.refl wr).drew.trans (e5.trans (e6.trans e7))))
          clear hs5 hs6 e5 e6 e7
          go_wp2_with fail
          go_roundw
          case rel => exact ⟨k + 1, by omega, by go_num, HRF.out⟩
          case measure => simp [intOf]; omega
        · obtain rfl : k = 6 := by omega
          go_wp2_with fail
          go_roundw
          case rel => exact ⟨i + 1, by omega, by go_num, EXK.out⟩
          case measure => simp [intOf]; omega
    · obtain rfl : i = 6 := by omega
      go_wp2_with fail
      refine (lives6 _).mono ?_
      rintro e w9 ⟨rfl, e9⟩
      go_wp2_with fail
      go_ret
      exact ⟨rfl, E4.out.trans (EXI.out.trans e9)⟩
end Go.Proofs.Ytdoijbjmhnncdaa
