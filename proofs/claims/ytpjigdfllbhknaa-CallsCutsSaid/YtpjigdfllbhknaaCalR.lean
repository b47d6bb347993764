/-
  Layer 14: the bytes of what may be, by the document.
-/
import Derived.Test.YtpjigdfllbhknaaCalQ
import Derived.Test.YtpjigdfllbhknaaXdrB
import Derived.Test.YtpjigdfllbhknaaMrk
import Derived.Test.YtpjigdfllbhknaaExA
namespace Go.Proofs.Ytpjigdfllbhknaa
open Go Go.RowKit
set_option linter.unusedVariables false
set_option linter.unusedSimpArgs false
def W32 (x : Int) : Prop := 0 ≤ x ∧ x ≤ 4294967295
/-- What may be laid. -/
structure AR.ok (a : AR) : Prop where
  off : 0 ≤ a.off ∧ a.off ≤ 4611686018427387904
  ct : W32 a.ct
  sz : W32 a.sz
  md : W32 a.md
  h1 : W32 a.h1
  h2 : W32 a.h2
  g1 : W32 a.g1
  g2 : W32 a.g2
  nm : a.nm.length ≤ 64
  n2 : a.n2.length ≤ 64
  dn : a.dn ≤ 2048
def fieldB (a : AR) (l : List UInt8) (f : UInt8) : List UInt8 :=
  if f = 104 then be4 a.h1 ++ be4 a.h2 else if f = 105 then be4 a.g1 ++ be4 a.g2 else if f = 115 then be4 a.sz else if f = 99 then be4 a.ct else if f = 109 then be4 a.md else if f = 111 then be8 a.off else if f = 110 then txt a.nm else if f = 106 then txt a.n2 else txt l
def bytesB (a : AR) (l : List UInt8) (s : List UInt8) : List UInt8 := s.flatMap (fieldB a l)
theorem fieldB_len {a : AR} {l : List UInt8} (h : a.ok) (hl : l.length ≤ 2048) (f : UInt8) : (fieldB a l f).length ≤ 2055 := by
  have h1 := txt_le a.nm
  have h2 := txt_le a.n2
  have h3 := txt_le l
  have h4 := h.nm
  have h5 := h.n2
  unfold fieldB
  repeat' split
  all_goals ((try simp only [List.length_append, be4_length, be8_length]); omega)
theorem bytesB_len {a : AR} {l : List UInt8} (h : a.ok) (hl : l.length ≤ 2048) : ∀ s : List UInt8, (bytesB a l s).length ≤ 2055 * s.length
  | [] => Nat.le_refl _
  | f :: s => by
    have := bytesB_len h hl s
    have h2 := fieldB_len h hl f
    unfold bytesB at *
    rw [List.flatMap_cons, List.length_append, List.length_cons]
    omega
theorem bytesB_snoc (a : AR) (l s : List UInt8) (f : UInt8) : bytesB a l (s ++ [f]) = bytesB a l s ++ fieldB a l f := by simp [bytesB]
theorem number14 (x : Int) (w : World) (h : W32 x) : Calls Try.prog 52 #[.int .i64 x] w fun e w' => ∃ v, e = .returned v ∧ w'.ownsRow w.heap.size 5 1 v 4 (bs (be4 x)) ∧ Ext w w' := by
  have HW : Hid (x % 4294967296 = x) := Lib.hid (by have h1 := h.1; have h2 := h.2; omega)
  have HU := Lib.hid (fun w => ref_u32 x w h.1 (by have h2 := h.2; omega))
  clear h
  go_enter Try.func52, Try.ntmps52
  go_wp2_with fail
  rw [HW.out]
  refine (HU.out _).mono ?_
  rintro e w1 ⟨v, rfl, own, e1⟩
  go_wp2_with fail
  go_ret
  exact ⟨v, rfl, own, e1⟩
def FldRes (a : AR) (l : List UInt8) (f : UInt8) (w : World) (e : Ending) (w' : World) : Prop := ∃ v, e = .returned v ∧ w'.ownsRow w.heap.size 5 1 v (fieldB a l f).length (bs (fieldB a l f)) ∧ Ext w w'
set_option maxRecDepth 20000 in
set_option maxHeartbeats 4000000 in
theorem field_h (a : AR) (l : List UInt8) (w : World) (ha : a.ok) (hs : Sees w a.dA a.dn a.dk (bs l)) :
    Calls Try.prog 31 #[.agg a.cs, .int .u8 104] w (FldRes a l 104 w) := by
  obtain ⟨ab, hab⟩ : ∃ ab, w.heap.size = ab := ⟨_, rfl⟩
  obtain ⟨w1, hw1⟩ : ∃ w1, w.alloc (.cells a.cs 26) = w1 := ⟨_, rfl⟩
  have e1 : Ext w w1 := by rw [← hw1]; exact (Ext.refl w).alloc _
  have hb : w1.heap[ab]? = some (.cells a.cs 26 (0, 0)) := by rw [← hw1, ← hab]; exact heap_alloc_new w _
  have E1 := Lib.hid e1
  have HB := Lib.hid hb
  have HA := Lib.hid ha
  have HSD := Lib.hid (hs.ext e1)
  clear e1 hb ha hs
  go_enter Try.func31, Try.ntmps31
  go_wp2_with fail
  have HS0 : Hid (Ext w1 w1.drew) := Lib.hid (Ext.refl w1).drew
  refine wp_region_plS (fun v : World => Ext w1 v) (.free 0 (.free 1 (.free 2 (.free 4 (.free 5 (.free 6 (.one 3 (.one 7 (.one 8 (.free 9 .nil)))))))))) (by kernel_rfl) (by kernel_rfl) (by kernel_rfl) (by kernel_rfl) ?_
  refine plS_val (v := ?_) rfl rfl HS0.out (fun w' hw' => ?_) ?_; rotate_left; (· skip; go_simp; try with_reducible rfl); simp only [Act.put, List.setIfInBounds_toArray, List.set_cons_zero, List.set_cons_succ]
  refine plS_val (v := ?_) rfl rfl HS0.out (fun w' hw' => ?_) ?_; rotate_left; (· skip; go_simp; try with_reducible rfl); simp only [Act.put, List.setIfInBounds_toArray, List.set_cons_zero, List.set_cons_succ]
  refine plS_val (v := ?_) rfl rfl HS0.out (fun w' hw' => ?_) ?_; rotate_left; (· have q : w'.cell? ⟨ab, 5, none⟩ = some (.int .i64 a.h1) := (cell_of_row w' ab 5 _ _ _ (hw'.heap HB.out)).trans rfl; go_simp; try with_reducible rfl); simp only [Act.put, List.setIfInBounds_toArray, List.set_cons_zero, List.set_cons_succ]
  refine plS_val (v := ?_) rfl rfl HS0.out (fun w' hw' => ?_) ?_; rotate_left; (· skip; go_simp; try with_reducible rfl); simp only [Act.put, List.setIfInBounds_toArray, List.set_cons_zero, List.set_cons_succ]
  refine plS_val (v := ?_) rfl rfl HS0.out (fun w' hw' => ?_) ?_; rotate_left; (· skip; go_simp; try with_reducible rfl); simp only [Act.put, List.setIfInBounds_toArray, List.set_cons_zero, List.set_cons_succ]
  refine plS_val (v := ?_) rfl rfl HS0.out (fun w' hw' => ?_) ?_; rotate_left; (· have q : w'.cell? ⟨ab, 6, none⟩ = some (.int .i64 a.h2) := (cell_of_row w' ab 6 _ _ _ (hw'.heap HB.out)).trans rfl; go_simp; try with_reducible rfl); simp only [Act.put, List.setIfInBounds_toArray, List.set_cons_zero, List.set_cons_succ]
  refine plS_call 52 #[.int .i64 a.h1] rfl rfl (by go_simp) ?_
  refine (number14 a.h1 _ HA.out.h1).mono ?_
  rintro e w2 ⟨v2, rfl, own2, e2⟩
  refine ⟨_, rfl, HS0.out.trans e2, ?_⟩; simp only [Act.put, List.setIfInBounds_toArray, List.set_cons_zero, List.set_cons_succ]
  refine plS_call 52 #[.int .i64 a.h2] rfl rfl (by go_simp) ?_
  refine (number14 a.h2 _ HA.out.h2).mono ?_
  rintro e w3 ⟨v3, rfl, own3, e3⟩
  refine ⟨_, rfl, (HS0.out.trans e2).trans e3, ?_⟩; simp only [Act.put, List.setIfInBounds_toArray, List.set_cons_zero, List.set_cons_succ]
  obtain ⟨A3, c3, rfl, see3⟩ := Sees.of_own own3
  obtain ⟨v4, w4, hrun, own4, e4⟩ := push_bytes (a := w1) (own_ext (own_mono own2 (Nat.le_refl _)) e3) see3 (by omega) ((HS0.out.trans e2).trans e3)
  refine plS_run (w' := w4) v4 rfl rfl (exec_app (.tmp 11) (.tmp 15) _ rfl _ _ rfl rfl _ _ hrun) e4 ?_; simp only [Act.put, List.setIfInBounds_toArray, List.set_cons_zero, List.set_cons_succ]
  refine plS_val (v := ?_) rfl rfl e4 (fun w' hw' => ?_) ?_; rotate_left; (· skip; go_simp; try with_reducible rfl); simp only [Act.put, List.setIfInBounds_toArray, List.set_cons_zero, List.set_cons_succ]
  refine plS_done ?_
  go_wp2_with fail
  go_ret
  exact ⟨v4, rfl, own_mono own4 (by have := E1.out.size; omega), E1.out.trans e4⟩
set_option maxRecDepth 20000 in
set_option maxHeartbeats 4000000 in
theorem field_i (a : AR) (l : List UInt8) (w : World) (ha : a.ok) (hs : Sees w a.dA a.dn a.dk (bs l)) :
    Calls Try.prog 31 #[.agg a.cs, .int .u8 105] w (FldRes a l 105 w) := by
  obtain ⟨ab, hab⟩ : ∃ ab, w.heap.size = ab := ⟨_, rfl⟩
  obtain ⟨w1, hw1⟩ : ∃ w1, w.alloc (.cells a.cs 26) = w1 := ⟨_, rfl⟩
  have e1 : Ext w w1 := by rw [← hw1]; exact (Ext.refl w).alloc _
  have hb : w1.heap[ab]? = some (.cells a.cs 26 (0, 0)) := by rw [← hw1, ← hab]; exact heap_alloc_new w _
  have E1 := Lib.hid e1
  have HB := Lib.hid hb
  have HA := Lib.hid ha
  have HSD := Lib.hid (hs.ext e1)
  clear e1 hb ha hs
  go_enter Try.func31, Try.ntmps31
  go_wp2_with fail
  have HS0 : Hid (Ext w1 w1.drew) := Lib.hid (Ext.refl w1).drew
  refine wp_region_plS (fun v : World => Ext w1 v) (.free 0 (.free 1 (.free 2 (.free 4 (.free 5 (.free 6 (.one 3 (.one 7 (.one 8 (.free 9 .nil)))))))))) (by kernel_rfl) (by kernel_rfl) (by kernel_rfl) (by kernel_rfl) ?_
  refine plS_val (v := ?_) rfl rfl HS0.out (fun w' hw' => ?_) ?_; rotate_left; (· skip; go_simp; try with_reducible rfl); simp only [Act.put, List.setIfInBounds_toArray, List.set_cons_zero, List.set_cons_succ]
  refine plS_val (v := ?_) rfl rfl HS0.out (fun w' hw' => ?_) ?_; rotate_left; (· skip; go_simp; try with_reducible rfl); simp only [Act.put, List.setIfInBounds_toArray, List.set_cons_zero, List.set_cons_succ]
  refine plS_val (v := ?_) rfl rfl HS0.out (fun w' hw' => ?_) ?_; rotate_left; (· have q : w'.cell? ⟨ab, 7, none⟩ = some (.int .i64 a.g1) := (cell_of_row w' ab 7 _ _ _ (hw'.heap HB.out)).trans rfl; go_simp; try with_reducible rfl); simp only [Act.put, List.setIfInBounds_toArray, List.set_cons_zero, List.set_cons_succ]
  refine plS_val (v := ?_) rfl rfl HS0.out (fun w' hw' => ?_) ?_; rotate_left; (· skip; go_simp; try with_reducible rfl); simp only [Act.put, List.setIfInBounds_toArray, List.set_cons_zero, List.set_cons_succ]
  refine plS_val (v := ?_) rfl rfl HS0.out (fun w' hw' => ?_) ?_; rotate_left; (· skip; go_simp; try with_reducible rfl); simp only [Act.put, List.setIfInBounds_toArray, List.set_cons_zero, List.set_cons_succ]
  refine plS_val (v := ?_) rfl rfl HS0.out (fun w' hw' => ?_) ?_; rotate_left; (· have q : w'.cell? ⟨ab, 8, none⟩ = some (.int .i64 a.g2) := (cell_of_row w' ab 8 _ _ _ (hw'.heap HB.out)).trans rfl; go_simp; try with_reducible rfl); simp only [Act.put, List.setIfInBounds_toArray, List.set_cons_zero, List.set_cons_succ]
  refine plS_call 52 #[.int .i64 a.g1] rfl rfl (by go_simp) ?_
  refine (number14 a.g1 _ HA.out.g1).mono ?_
  rintro e w2 ⟨v2, rfl, own2, e2⟩
  refine ⟨_, rfl, HS0.out.trans e2, ?_⟩; simp only [Act.put, List.setIfInBounds_toArray, List.set_cons_zero, List.set_cons_succ]
  refine plS_call 52 #[.int .i64 a.g2] rfl rfl (by go_simp) ?_
  refine (number14 a.g2 _ HA.out.g2).mono ?_
  rintro e w3 ⟨v3, rfl, own3, e3⟩
  refine ⟨_, rfl, (HS0.out.trans e2).trans e3, ?_⟩; simp only [Act.put, List.setIfInBounds_toArray, List.set_cons_zero, List.set_cons_succ]
  obtain ⟨A3, c3, rfl, see3⟩ := Sees.of_own own3
  obtain ⟨v4, w4, hrun, own4, e4⟩ := push_bytes (a := w1) (own_ext (own_mono own2 (Nat.le_refl _)) e3) see3 (by omega) ((HS0.out.trans e2).trans e3)
  refine plS_run (w' := w4) v4 rfl rfl (exec_app (.tmp 22) (.tmp 26) _ rfl _ _ rfl rfl _ _ hrun) e4 ?_; simp only [Act.put, List.setIfInBounds_toArray, List.set_cons_zero, List.set_cons_succ]
  refine plS_val (v := ?_) rfl rfl e4 (fun w' hw' => ?_) ?_; rotate_left; (· skip; go_simp; try with_reducible rfl); simp only [Act.put, List.setIfInBounds_toArray, List.set_cons_zero, List.set_cons_succ]
  refine plS_done ?_
  go_wp2_with fail
  go_ret
  exact ⟨v4, rfl, own_mono own4 (by have := E1.out.size; omega), E1.out.trans e4⟩
set_option maxRecDepth 20000 in
set_option maxHeartbeats 4000000 in
theorem field_s (a : AR) (l : List UInt8) (w : World) (ha : a.ok) (hs : Sees w a.dA a.dn a.dk (bs l)) :
    Calls Try.prog 31 #[.agg a.cs, .int .u8 115] w (FldRes a l 115 w) := by
  obtain ⟨ab, hab⟩ : ∃ ab, w.heap.size = ab := ⟨_, rfl⟩
  obtain ⟨w1, hw1⟩ : ∃ w1, w.alloc (.cells a.cs 26) = w1 := ⟨_, rfl⟩
  have e1 : Ext w w1 := by rw [← hw1]; exact (Ext.refl w).alloc _
  have hb : w1.heap[ab]? = some (.cells a.cs 26 (0, 0)) := by rw [← hw1, ← hab]; exact heap_alloc_new w _
  have E1 := Lib.hid e1
  have HB := Lib.hid hb
  have HA := Lib.hid ha
  have HSD := Lib.hid (hs.ext e1)
  have q : w1.cell? ⟨ab, 3, none⟩ = some (.int .i64 a.sz) := (cell_of_row w1 ab 3 _ _ _ hb).trans rfl
  clear e1 hb ha hs
  go_enter Try.func31, Try.ntmps31
  go_wp2_with fail
  refine (number14 a.sz _ HA.out.sz).mono ?_
  rintro e w2 ⟨v, rfl, own, e2⟩
  go_wp2_with fail
  go_ret
  exact ⟨v, rfl, own_mono own (by have := E1.out.size; omega), E1.out.trans e2⟩
set_option maxRecDepth 20000 in
set_option maxHeartbeats 4000000 in
theorem field_c (a : AR) (l : List UInt8) (w : World) (ha : a.ok) (hs : Sees w a.dA a.dn a.dk (bs l)) :
    Calls Try.prog 31 #[.agg a.cs, .int .u8 99] w (FldRes a l 99 w) := by
  obtain ⟨ab, hab⟩ : ∃ ab, w.heap.size = ab := ⟨_, rfl⟩
  obtain ⟨w1, hw1⟩ : ∃ w1, w.alloc (.cells a.cs 26) = w1 := ⟨_, rfl⟩
  have e1 : Ext w w1 := by rw [← hw1]; exact (Ext.refl w).alloc _
  have hb : w1.heap[ab]? = some (.cells a.cs 26 (0, 0)) := by rw [← hw1, ← hab]; exact heap_alloc_new w _
  have E1 := Lib.hid e1
  have HB := Lib.hid hb
  have HA := Lib.hid ha
  have HSD := Lib.hid (hs.ext e1)
  have q : w1.cell? ⟨ab, 2, none⟩ = some (.int .i64 a.ct) := (cell_of_row w1 ab 2 _ _ _ hb).trans rfl
  clear e1 hb ha hs
  go_enter Try.func31, Try.ntmps31
  go_wp2_with fail
  refine (number14 a.ct _ HA.out.ct).mono ?_
  rintro e w2 ⟨v, rfl, own, e2⟩
  go_wp2_with fail
  go_ret
  exact ⟨v, rfl, own_mono own (by have := E1.out.size; omega), E1.out.trans e2⟩
set_option maxRecDepth 20000 in
set_option maxHeartbeats 4000000 in
theorem field_m (a : AR) (l : List UInt8) (w : World) (ha : a.ok) (hs : Sees w a.dA a.dn a.dk (bs l)) :
    Calls Try.prog 31 #[.agg a.cs, .int .u8 109] w (FldRes a l 109 w) := by
  obtain ⟨ab, hab⟩ : ∃ ab, w.heap.size = ab := ⟨_, rfl⟩
  obtain ⟨w1, hw1⟩ : ∃ w1, w.alloc (.cells a.cs 26) = w1 := ⟨_, rfl⟩
  have e1 : Ext w w1 := by rw [← hw1]; exact (Ext.refl w).alloc _
  have hb : w1.heap[ab]? = some (.cells a.cs 26 (0, 0)) := by rw [← hw1, ← hab]; exact heap_alloc_new w _
  have E1 := Lib.hid e1
  have HB := Lib.hid hb
  have HA := Lib.hid ha
  have HSD := Lib.hid (hs.ext e1)
  have q : w1.cell? ⟨ab, 4, none⟩ = some (.int .i64 a.md) := (cell_of_row w1 ab 4 _ _ _ hb).trans rfl
  clear e1 hb ha hs
  go_enter Try.func31, Try.ntmps31
  go_wp2_with fail
  refine (number14 a.md _ HA.out.md).mono ?_
  rintro e w2 ⟨v, rfl, own, e2⟩
  go_wp2_with fail
  go_ret
  exact ⟨v, rfl, own_mono own (by have := E1.out.size; omega), E1.out.trans e2⟩
set_option maxRecDepth 20000 in
set_option maxHeartbeats 4000000 in
theorem field_o (a : AR) (l : List UInt8) (w : World) (ha : a.ok) (hs : Sees w a.dA a.dn a.dk (bs l)) :
    Calls Try.prog 31 #[.agg a.cs, .int .u8 111] w (FldRes a l 111 w) := by
  obtain ⟨ab, hab⟩ : ∃ ab, w.heap.size = ab := ⟨_, rfl⟩
  obtain ⟨w1, hw1⟩ : ∃ w1, w.alloc (.cells a.cs 26) = w1 := ⟨_, rfl⟩
  have e1 : Ext w w1 := by rw [← hw1]; exact (Ext.refl w).alloc _
  have hb : w1.heap[ab]? = some (.cells a.cs 26 (0, 0)) := by rw [← hw1, ← hab]; exact heap_alloc_new w _
  have E1 := Lib.hid e1
  have HB := Lib.hid hb
  have HA := Lib.hid ha
  have HSD := Lib.hid (hs.ext e1)
  have q : w1.cell? ⟨ab, 1, none⟩ = some (.int .i64 a.off) := (cell_of_row w1 ab 1 _ _ _ hb).trans rfl
  have HW : Hid (IntKind.u64.wrap a.off = a.off) := Lib.hid (by show a.off % 18446744073709551616 = _; have h1 := ha.off.1; have h2 := ha.off.2; omega)
  clear e1 hb ha hs
  go_enter Try.func31, Try.ntmps31
  go_wp2_with fail
  rw [HW.out]
  refine (ref_u64 a.off _ HA.out.off.1 (by have := HA.out.off.2; omega)).mono ?_
  rintro e w2 ⟨v, rfl, own, e2⟩
  go_wp2_with fail
  go_ret
  exact ⟨v, rfl, own_mono own (by have := E1.out.size; omega), E1.out.trans e2⟩
set_option maxRecDepth 20000 in
set_option maxHeartbeats 4000000 in
theorem field_n (a : AR) (l : List UInt8) (w : World) (ha : a.ok) (hs : Sees w a.dA a.dn a.dk (bs l)) :
    Calls Try.prog 31 #[.agg a.cs, .int .u8 110] w (FldRes a l 110 w) := by
  obtain ⟨ab, hab⟩ : ∃ ab, w.heap.size = ab := ⟨_, rfl⟩
  obtain ⟨w1, hw1⟩ : ∃ w1, w.alloc (.cells a.cs 26) = w1 := ⟨_, rfl⟩
  have e1 : Ext w w1 := by rw [← hw1]; exact (Ext.refl w).alloc _
  have hb : w1.heap[ab]? = some (.cells a.cs 26 (0, 0)) := by rw [← hw1, ← hab]; exact heap_alloc_new w _
  have E1 := Lib.hid e1
  have HB := Lib.hid hb
  have HA := Lib.hid ha
  have HSD := Lib.hid (hs.ext e1)
  have q : w1.cell? ⟨ab, 9, none⟩ = some (.string ⟨a.nm.toArray⟩) := (cell_of_row w1 ab 9 _ _ _ hb).trans rfl
  obtain ⟨cap, w2, hrun, hom, e2⟩ := bytes_new w1 a.nm w1.heap.size (by have := ha.nm; unfold maxLen; omega) (Nat.le_refl _)
  have HM := Lib.hid hom
  have E2 := Lib.hid e2
  clear hom e2
  clear e1 hb ha hs
  go_enter Try.func31, Try.ntmps31
  go_wp2_with fail
  refine (ref_text _ _ _ a.nm _ HM.out.sees (by have := HA.out.nm; omega)).mono ?_
  rintro e w3 ⟨v, rfl, own, e3⟩
  go_wp2_with fail
  go_ret
  exact ⟨v, rfl, own_mono own (by have := E1.out.size; have := E2.out.size; omega), E1.out.trans (E2.out.trans e3)⟩
set_option maxRecDepth 20000 in
set_option maxHeartbeats 4000000 in
theorem field_j (a : AR) (l : List UInt8) (w : World) (ha : a.ok) (hs : Sees w a.dA a.dn a.dk (bs l)) :
    Calls Try.prog 31 #[.agg a.cs, .int .u8 106] w (FldRes a l 106 w) := by
  obtain ⟨ab, hab⟩ : ∃ ab, w.heap.size = ab := ⟨_, rfl⟩
  obtain ⟨w1, hw1⟩ : ∃ w1, w.alloc (.cells a.cs 26) = w1 := ⟨_, rfl⟩
  have e1 : Ext w w1 := by rw [← hw1]; exact (Ext.refl w).alloc _
  have hb : w1.heap[ab]? = some (.cells a.cs 26 (0, 0)) := by rw [← hw1, ← hab]; exact heap_alloc_new w _
  have E1 := Lib.hid e1
  have HB := Lib.hid hb
  have HA := Lib.hid ha
  have HSD := Lib.hid (hs.ext e1)
  have q : w1.cell? ⟨ab, 10, none⟩ = some (.string ⟨a.n2.toArray⟩) := (cell_of_row w1 ab 10 _ _ _ hb).trans rfl
  obtain ⟨cap, w2, hrun, hom, e2⟩ := bytes_new w1 a.n2 w1.heap.size (by have := ha.n2; unfold maxLen; omega) (Nat.le_refl _)
  have HM := Lib.hid hom
  have E2 := Lib.hid e2
  clear hom e2
  clear e1 hb ha hs
  go_enter Try.func31, Try.ntmps31
  go_wp2_with fail
  refine (ref_text _ _ _ a.n2 _ HM.out.sees (by have := HA.out.n2; omega)).mono ?_
  rintro e w3 ⟨v, rfl, own, e3⟩
  go_wp2_with fail
  go_ret
  exact ⟨v, rfl, own_mono own (by have := E1.out.size; have := E2.out.size; omega), E1.out.trans (E2.out.trans e3)⟩
set_option maxRecDepth 20000 in
set_option maxHeartbeats 4000000 in
theorem field_d (a : AR) (l : List UInt8) (w : World) (ha : a.ok) (hs : Sees w a.dA a.dn a.dk (bs l)) :
    Calls Try.prog 31 #[.agg a.cs, .int .u8 100] w (FldRes a l 100 w) := by
  obtain ⟨ab, hab⟩ : ∃ ab, w.heap.size = ab := ⟨_, rfl⟩
  obtain ⟨w1, hw1⟩ : ∃ w1, w.alloc (.cells a.cs 26) = w1 := ⟨_, rfl⟩
  have e1 : Ext w w1 := by rw [← hw1]; exact (Ext.refl w).alloc _
  have hb : w1.heap[ab]? = some (.cells a.cs 26 (0, 0)) := by rw [← hw1, ← hab]; exact heap_alloc_new w _
  have E1 := Lib.hid e1
  have HB := Lib.hid hb
  have HA := Lib.hid ha
  have HSD := Lib.hid (hs.ext e1)
  have q : w1.cell? ⟨ab, 11, none⟩ = some (.slice a.dA a.dn a.dk) := (cell_of_row w1 ab 11 _ _ _ hb).trans rfl
  clear e1 hb ha hs
  go_enter Try.func31, Try.ntmps31
  go_wp2_with fail
  refine (ref_text _ _ _ l _ HSD.out (by have := HA.out.dn; omega)).mono ?_
  rintro e w3 ⟨v, rfl, own, e3⟩
  go_wp2_with fail
  go_ret
  exact ⟨v, rfl, own_mono own (by have := E1.out.size; omega), E1.out.trans e3⟩
end Go.Proofs.Ytpjigdfllbhknaa
