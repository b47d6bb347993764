/-
  Layer 14: the bytes of what may be, by the document: every procedure.
-/
import Derived.Test.YtpjigdfllbhknaaCalR
namespace Go.Proofs.Ytpjigdfllbhknaa
open Go Go.RowKit
set_option linter.unusedVariables false
set_option linter.unusedSimpArgs false
set_option maxRecDepth 20000 in
set_option maxHeartbeats 4000000 in
theorem bytes_none (a : AR) (l : List UInt8) (w : World) (ha : a.ok) (hl : l.length ≤ 2048) (hs : Sees w a.dA a.dn a.dk (bs l)) (hf : fld a.pr = []) :
    Calls Try.prog 17 #[.agg a.cs] w fun e w' => ∃ v, e = .returned v ∧ w'.ownsRow w.heap.size 5 1 v (bytesB a l (fld a.pr)).length (bs (bytesB a l (fld a.pr))) ∧ Ext w w' := by
  have HF := Lib.hid (fun w => fields14 a.pr w)
  rw [hf] at HF ⊢
  obtain ⟨ab, hab⟩ : ∃ ab, w.heap.size = ab := ⟨_, rfl⟩
  obtain ⟨w1, hw1⟩ : ∃ w1, w.alloc (.cells a.cs 26) = w1 := ⟨_, rfl⟩
  have e1 : Ext w w1 := by rw [← hw1]; exact (Ext.refl w).alloc _
  have hb : w1.heap[ab]? = some (.cells a.cs 26 (0, 0)) := by rw [← hw1, ← hab]; exact heap_alloc_new w _
  have q : w1.cell? ⟨ab, 0, none⟩ = some (.int .i64 a.pr) := (cell_of_row w1 ab 0 _ _ _ hb).trans rfl
  have E1 := Lib.hid e1
  have HB := Lib.hid hb
  have HA := Lib.hid ha
  have HL := Lib.hid hl
  have HSD := Lib.hid (hs.ext e1)
  have HI := Lib.hid (arg_info a)
  clear e1 hb ha hs hf hl
  go_enter Try.func17, Try.ntmps17
  go_wp2_with fail
  refine (HF.out _).mono ?_
  rintro e w2 ⟨rfl, e2⟩
  have E2 := Lib.hid e2
  clear e2
  go_wp2_with fail
  go_loopw [4, 5] (fun b i wr => ∃ j : Nat, i = .int .i64 j ∧ j ≤ 0 ∧ wr.ownsRow w1.heap.size 5 1 b (bytesB a l ([].take j)).length (bs (bytesB a l ([].take j))) ∧ Ext w1 wr) (fun _ i _ => 0 - (intOf i).toNat)
  case atStart => exact ⟨0, rfl, by omega, World.ownsRow_nil _ _ _ _, E2.out⟩
  case round =>
    obtain ⟨j, rfl, hj, own, er⟩ := hrel
    have OWN := Lib.hid own
    have ER := Lib.hid er
    clear own er
    have hj2 : j = 0 := by omega
    rcases hj2 with rfl
    · go_wp2_with fail
      go_ret
      exact ⟨_, rfl, own_mono OWN.out (by have := E1.out.size; omega), E1.out.trans ER.out⟩
set_option maxRecDepth 20000 in
set_option maxHeartbeats 4000000 in
theorem bytes_h (a : AR) (l : List UInt8) (w : World) (ha : a.ok) (hl : l.length ≤ 2048) (hs : Sees w a.dA a.dn a.dk (bs l)) (hf : fld a.pr = [104]) :
    Calls Try.prog 17 #[.agg a.cs] w fun e w' => ∃ v, e = .returned v ∧ w'.ownsRow w.heap.size 5 1 v (bytesB a l (fld a.pr)).length (bs (bytesB a l (fld a.pr))) ∧ Ext w w' := by
  have HF := Lib.hid (fun w => fields14 a.pr w)
  rw [hf] at HF ⊢
  obtain ⟨ab, hab⟩ : ∃ ab, w.heap.size = ab := ⟨_, rfl⟩
  obtain ⟨w1, hw1⟩ : ∃ w1, w.alloc (.cells a.cs 26) = w1 := ⟨_, rfl⟩
  have e1 : Ext w w1 := by rw [← hw1]; exact (Ext.refl w).alloc _
  have hb : w1.heap[ab]? = some (.cells a.cs 26 (0, 0)) := by rw [← hw1, ← hab]; exact heap_alloc_new w _
  have q : w1.cell? ⟨ab, 0, none⟩ = some (.int .i64 a.pr) := (cell_of_row w1 ab 0 _ _ _ hb).trans rfl
  have E1 := Lib.hid e1
  have HB := Lib.hid hb
  have HA := Lib.hid ha
  have HL := Lib.hid hl
  have HSD := Lib.hid (hs.ext e1)
  have HI := Lib.hid (arg_info a)
  clear e1 hb ha hs hf hl
  go_enter Try.func17, Try.ntmps17
  go_wp2_with fail
  refine (HF.out _).mono ?_
  rintro e w2 ⟨rfl, e2⟩
  have E2 := Lib.hid e2
  clear e2
  go_wp2_with fail
  go_loopw [4, 5] (fun b i wr => ∃ j : Nat, i = .int .i64 j ∧ j ≤ 1 ∧ wr.ownsRow w1.heap.size 5 1 b (bytesB a l ([104].take j)).length (bs (bytesB a l ([104].take j))) ∧ Ext w1 wr) (fun _ i _ => 1 - (intOf i).toNat)
  case atStart => exact ⟨0, rfl, by omega, World.ownsRow_nil _ _ _ _, E2.out⟩
  case round =>
    obtain ⟨j, rfl, hj, own, er⟩ := hrel
    have OWN := Lib.hid own
    have ER := Lib.hid er
    clear own er
    have hj2 : j = 0 ∨ j = 1 := by omega
    rcases hj2 with rfl | rfl
    · go_wp2_with fail
      have HS0 : Hid (Ext w1 wr.drew) := Lib.hid ER.out.drew
      refine wp_region_plS (fun v : World => Ext w1 v) (.free 0 (.free 1 (.free 2 (.free 3 (.free 4 (.one 5 (.one 6 (.free 7 .nil)))))))) (by kernel_rfl) (by kernel_rfl) (by kernel_rfl) (by kernel_rfl) ?_
      refine plS_val (v := ?_) rfl rfl HS0.out (fun w' hw' => ?_) ?_; rotate_left; (· skip; go_simp; try with_reducible rfl); simp only [Act.put, List.setIfInBounds_toArray, List.set_cons_zero, List.set_cons_succ]
      refine plS_val (v := .agg a.cs) rfl rfl HS0.out (fun w' hw' => exec_loadSub 26 _ rfl ab 0 rfl 26 _ _ _ _ (hw'.heap HB.out) (fun j v h => by rw [Nat.zero_add]; exact h) Try.underlying26 rfl HI.out) ?_; simp only [Act.put, List.setIfInBounds_toArray, List.set_cons_zero, List.set_cons_succ]
      refine plS_val (v := ?_) rfl rfl HS0.out (fun w' hw' => ?_) ?_; rotate_left; (· skip; go_simp; try with_reducible rfl); simp only [Act.put, List.setIfInBounds_toArray, List.set_cons_zero, List.set_cons_succ]
      refine plS_val (v := ?_) rfl rfl HS0.out (fun w' hw' => ?_) ?_; rotate_left; (· skip; go_simp; try with_reducible rfl); simp only [Act.put, List.setIfInBounds_toArray, List.set_cons_zero, List.set_cons_succ]
      refine plS_val (v := ?_) rfl rfl HS0.out (fun w' hw' => ?_) ?_; rotate_left; (· skip; go_simp; try with_reducible rfl); simp only [Act.put, List.setIfInBounds_toArray, List.set_cons_zero, List.set_cons_succ]
      refine plS_call 31 #[.agg a.cs, .int .u8 104] rfl rfl (by go_simp; try rfl) ?_
      refine (field_h a l _ HA.out (HSD.out.ext HS0.out)).mono ?_
      rintro e w3 ⟨v3, rfl, own3, e3⟩
      obtain ⟨A3, c3, rfl, see3⟩ := Sees.of_own own3
      refine ⟨_, rfl, HS0.out.trans e3, ?_⟩; simp only [Act.put, List.setIfInBounds_toArray, List.set_cons_zero, List.set_cons_succ]
      obtain ⟨v4, w4, hrun, own4, e4⟩ := push_bytes (a := w1) (own_ext (own_ext OWN.out (Ext.refl wr).drew) e3) see3 (by have h1 := bytesB_len HA.out HL.out ([104].take 0); have h2 := fieldB_len HA.out HL.out 104; have h3 : ([104].take 0 : List UInt8).length = 0 := rfl; rw [h3] at h1; omega) (HS0.out.trans e3)
      have own5 : w4.ownsRow w1.heap.size 5 1 v4 (bytesB a l ([104].take 1)).length (bs (bytesB a l ([104].take 1))) := by
        rw [show ([104].take 1 : List UInt8) = [104].take 0 ++ [104] from rfl, bytesB_snoc, List.length_append]; exact own4
      refine plS_run (w' := w4) v4 rfl rfl (exec_app (.tmp 15) (.tmp 20) _ rfl _ _ rfl rfl _ _ hrun) e4 ?_; simp only [Act.put, List.setIfInBounds_toArray, List.set_cons_zero, List.set_cons_succ]
      refine plS_val (v := ?_) rfl rfl e4 (fun w' hw' => ?_) ?_; rotate_left; (· skip; go_simp; try with_reducible rfl); simp only [Act.put, List.setIfInBounds_toArray, List.set_cons_zero, List.set_cons_succ]
      refine plS_done ?_
      have OWN4 := Lib.hid own5
      have E4 := Lib.hid e4
      clear own3 own4 own5 see3 hrun e4 e3
      go_wp2_with fail
      go_roundw
      case rel => exact ⟨1, rfl, by omega, OWN4.out, E4.out⟩
      case measure => simp [intOf]
    · go_wp2_with fail
      go_ret
      exact ⟨_, rfl, own_mono OWN.out (by have := E1.out.size; omega), E1.out.trans ER.out⟩
set_option maxRecDepth 20000 in
set_option maxHeartbeats 4000000 in
theorem bytes_hs (a : AR) (l : List UInt8) (w : World) (ha : a.ok) (hl : l.length ≤ 2048) (hs : Sees w a.dA a.dn a.dk (bs l)) (hf : fld a.pr = [104, 115]) :
    Calls Try.prog 17 #[.agg a.cs] w fun e w' => ∃ v, e = .returned v ∧ w'.ownsRow w.heap.size 5 1 v (bytesB a l (fld a.pr)).length (bs (bytesB a l (fld a.pr))) ∧ Ext w w' := by
  have HF := Lib.hid (fun w => fields14 a.pr w)
  rw [hf] at HF ⊢
  obtain ⟨ab, hab⟩ : ∃ ab, w.heap.size = ab := ⟨_, rfl⟩
  obtain ⟨w1, hw1⟩ : ∃ w1, w.alloc (.cells a.cs 26) = w1 := ⟨_, rfl⟩
  have e1 : Ext w w1 := by rw [← hw1]; exact (Ext.refl w).alloc _
  have hb : w1.heap[ab]? = some (.cells a.cs 26 (0, 0)) := by rw [← hw1, ← hab]; exact heap_alloc_new w _
  have q : w1.cell? ⟨ab, 0, none⟩ = some (.int .i64 a.pr) := (cell_of_row w1 ab 0 _ _ _ hb).trans rfl
  have E1 := Lib.hid e1
  have HB := Lib.hid hb
  have HA := Lib.hid ha
  have HL := Lib.hid hl
  have HSD := Lib.hid (hs.ext e1)
  have HI := Lib.hid (arg_info a)
  clear e1 hb ha hs hf hl
  go_enter Try.func17, Try.ntmps17
  go_wp2_with fail
  refine (HF.out _).mono ?_
  rintro e w2 ⟨rfl, e2⟩
  have E2 := Lib.hid e2
  clear e2
  go_wp2_with fail
  go_loopw [4, 5] (fun b i wr => ∃ j : Nat, i = .int .i64 j ∧ j ≤ 2 ∧ wr.ownsRow w1.heap.size 5 1 b (bytesB a l ([104, 115].take j)).length (bs (bytesB a l ([104, 115].take j))) ∧ Ext w1 wr) (fun _ i _ => 2 - (intOf i).toNat)
  case atStart => exact ⟨0, rfl, by omega, World.ownsRow_nil _ _ _ _, E2.out⟩
  case round =>
    obtain ⟨j, rfl, hj, own, er⟩ := hrel
    have OWN := Lib.hid own
    have ER := Lib.hid er
    clear own er
    have hj2 : j = 0 ∨ j = 1 ∨ j = 2 := by omega
    rcases hj2 with rfl | rfl | rfl
    · go_wp2_with fail
      have HS0 : Hid (Ext w1 wr.drew) := Lib.hid ER.out.drew
      refine wp_region_plS (fun v : World => Ext w1 v) (.free 0 (.free 1 (.free 2 (.free 3 (.free 4 (.one 5 (.one 6 (.free 7 .nil)))))))) (by kernel_rfl) (by kernel_rfl) (by kernel_rfl) (by kernel_rfl) ?_
      refine plS_val (v := ?_) rfl rfl HS0.out (fun w' hw' => ?_) ?_; rotate_left; (· skip; go_simp; try with_reducible rfl); simp only [Act.put, List.setIfInBounds_toArray, List.set_cons_zero, List.set_cons_succ]
      refine plS_val (v := .agg a.cs) rfl rfl HS0.out (fun w' hw' => exec_loadSub 26 _ rfl ab 0 rfl 26 _ _ _ _ (hw'.heap HB.out) (fun j v h => by rw [Nat.zero_add]; exact h) Try.underlying26 rfl HI.out) ?_; simp only [Act.put, List.setIfInBounds_toArray, List.set_cons_zero, List.set_cons_succ]
      refine plS_val (v := ?_) rfl rfl HS0.out (fun w' hw' => ?_) ?_; rotate_left; (· skip; go_simp; try with_reducible rfl); simp only [Act.put, List.setIfInBounds_toArray, List.set_cons_zero, List.set_cons_succ]
      refine plS_val (v := ?_) rfl rfl HS0.out (fun w' hw' => ?_) ?_; rotate_left; (· skip; go_simp; try with_reducible rfl); simp only [Act.put, List.setIfInBounds_toArray, List.set_cons_zero, List.set_cons_succ]
      refine plS_val (v := ?_) rfl rfl HS0.out (fun w' hw' => ?_) ?_; rotate_left; (· skip; go_simp; try with_reducible rfl); simp only [Act.put, List.setIfInBounds_toArray, List.set_cons_zero, List.set_cons_succ]
      refine plS_call 31 #[.agg a.cs, .int .u8 104] rfl rfl (by go_simp; try rfl) ?_
      refine (field_h a l _ HA.out (HSD.out.ext HS0.out)).mono ?_
      rintro e w3 ⟨v3, rfl, own3, e3⟩
      obtain ⟨A3, c3, rfl, see3⟩ := Sees.of_own own3
      refine ⟨_, rfl, HS0.out.trans e3, ?_⟩; simp only [Act.put, List.setIfInBounds_toArray, List.set_cons_zero, List.set_cons_succ]
      obtain ⟨v4, w4, hrun, own4, e4⟩ := push_bytes (a := w1) (own_ext (own_ext OWN.out (Ext.refl wr).drew) e3) see3 (by have h1 := bytesB_len HA.out HL.out ([104, 115].take 0); have h2 := fieldB_len HA.out HL.out 104; have h3 : ([104, 115].take 0 : List UInt8).length = 0 := rfl; rw [h3] at h1; omega) (HS0.out.trans e3)
      have own5 : w4.ownsRow w1.heap.size 5 1 v4 (bytesB a l ([104, 115].take 1)).length (bs (bytesB a l ([104, 115].take 1))) := by
        rw [show ([104, 115].take 1 : List UInt8) = [104, 115].take 0 ++ [104] from rfl, bytesB_snoc, List.length_append]; exact own4
      refine plS_run (w' := w4) v4 rfl rfl (exec_app (.tmp 15) (.tmp 20) _ rfl _ _ rfl rfl _ _ hrun) e4 ?_; simp only [Act.put, List.setIfInBounds_toArray, List.set_cons_zero, List.set_cons_succ]
      refine plS_val (v := ?_) rfl rfl e4 (fun w' hw' => ?_) ?_; rotate_left; (· skip; go_simp; try with_reducible rfl); simp only [Act.put, List.setIfInBounds_toArray, List.set_cons_zero, List.set_cons_succ]
      refine plS_done ?_
      have OWN4 := Lib.hid own5
      have E4 := Lib.hid e4
      clear own3 own4 own5 see3 hrun e4 e3
      go_wp2_with fail
      go_roundw
      case rel => exact ⟨1, rfl, by omega, OWN4.out, E4.out⟩
      case measure => simp [intOf]
    · go_wp2_with fail
      have HS0 : Hid (Ext w1 wr.drew) := Lib.hid ER.out.drew
      refine wp_region_plS (fun v : World => Ext w1 v) (.free 0 (.free 1 (.free 2 (.free 3 (.free 4 (.one 5 (.one 6 (.free 7 .nil)))))))) (by kernel_rfl) (by kernel_rfl) (by kernel_rfl) (by kernel_rfl) ?_
      refine plS_val (v := ?_) rfl rfl HS0.out (fun w' hw' => ?_) ?_; rotate_left; (· skip; go_simp; try with_reducible rfl); simp only [Act.put, List.setIfInBounds_toArray, List.set_cons_zero, List.set_cons_succ]
      refine plS_val (v := .agg a.cs) rfl rfl HS0.out (fun w' hw' => exec_loadSub 26 _ rfl ab 0 rfl 26 _ _ _ _ (hw'.heap HB.out) (fun j v h => by rw [Nat.zero_add]; exact h) Try.underlying26 rfl HI.out) ?_; simp only [Act.put, List.setIfInBounds_toArray, List.set_cons_zero, List.set_cons_succ]
      refine plS_val (v := ?_) rfl rfl HS0.out (fun w' hw' => ?_) ?_; rotate_left; (· skip; go_simp; try with_reducible rfl); simp only [Act.put, List.setIfInBounds_toArray, List.set_cons_zero, List.set_cons_succ]
      refine plS_val (v := ?_) rfl rfl HS0.out (fun w' hw' => ?_) ?_; rotate_left; (· skip; go_simp; try with_reducible rfl); simp only [Act.put, List.setIfInBounds_toArray, List.set_cons_zero, List.set_cons_succ]
      refine plS_val (v := ?_) rfl rfl HS0.out (fun w' hw' => ?_) ?_; rotate_left; (· skip; go_simp; try with_reducible rfl); simp only [Act.put, List.setIfInBounds_toArray, List.set_cons_zero, List.set_cons_succ]
      refine plS_call 31 #[.agg a.cs, .int .u8 115] rfl rfl (by go_simp; try rfl) ?_
      refine (field_s a l _ HA.out (HSD.out.ext HS0.out)).mono ?_
      rintro e w3 ⟨v3, rfl, own3, e3⟩
      obtain ⟨A3, c3, rfl, see3⟩ := Sees.of_own own3
      refine ⟨_, rfl, HS0.out.trans e3, ?_⟩; simp only [Act.put, List.setIfInBounds_toArray, List.set_cons_zero, List.set_cons_succ]
      obtain ⟨v4, w4, hrun, own4, e4⟩ := push_bytes (a := w1) (own_ext (own_ext OWN.out (Ext.refl wr).drew) e3) see3 (by have h1 := bytesB_len HA.out HL.out ([104, 115].take 1); have h2 := fieldB_len HA.out HL.out 115; have h3 : ([104, 115].take 1 : List UInt8).length = 1 := rfl; rw [h3] at h1; omega) (HS0.out.trans e3)
      have own5 : w4.ownsRow w1.heap.size 5 1 v4 (bytesB a l ([104, 115].take 2)).length (bs (bytesB a l ([104, 115].take 2))) := by
        rw [show ([104, 115].take 2 : List UInt8) = [104, 115].take 1 ++ [115] from rfl, bytesB_snoc, List.length_append]; exact own4
      refine plS_run (w' := w4) v4 rfl rfl (exec_app (.tmp 15) (.tmp 20) _ rfl _ _ rfl rfl _ _ hrun) e4 ?_; simp only [Act.put, List.setIfInBounds_toArray, List.set_cons_zero, List.set_cons_succ]
      refine plS_val (v := ?_) rfl rfl e4 (fun w' hw' => ?_) ?_; rotate_left; (· skip; go_simp; try with_reducible rfl); simp only [Act.put, List.setIfInBounds_toArray, List.set_cons_zero, List.set_cons_succ]
      refine plS_done ?_
      have OWN4 := Lib.hid own5
      have E4 := Lib.hid e4
      clear own3 own4 own5 see3 hrun e4 e3
      go_wp2_with fail
      go_roundw
      case rel => exact ⟨2, rfl, by omega, OWN4.out, E4.out⟩
      case measure => simp [intOf]
    · go_wp2_with fail
      go_ret
      exact ⟨_, rfl, own_mono OWN.out (by have := E1.out.size; omega), E1.out.trans ER.out⟩
set_option maxRecDepth 20000 in
set_option maxHeartbeats 4000000 in
theorem bytes_hn (a : AR) (l : List UInt8) (w : World) (ha : a.ok) (hl : l.length ≤ 2048) (hs : Sees w a.dA a.dn a.dk (bs l)) (hf : fld a.pr = [104, 110]) :
    Calls Try.prog 17 #[.agg a.cs] w fun e w' => ∃ v, e = .returned v ∧ w'.ownsRow w.heap.size 5 1 v (bytesB a l (fld a.pr)).length (bs (bytesB a l (fld a.pr))) ∧ Ext w w' := by
  have HF := Lib.hid (fun w => fields14 a.pr w)
  rw [hf] at HF ⊢
  obtain ⟨ab, hab⟩ : ∃ ab, w.heap.size = ab := ⟨_, rfl⟩
  obtain ⟨w1, hw1⟩ : ∃ w1, w.alloc (.cells a.cs 26) = w1 := ⟨_, rfl⟩
  have e1 : Ext w w1 := by rw [← hw1]; exact (Ext.refl w).alloc _
  have hb : w1.heap[ab]? = some (.cells a.cs 26 (0, 0)) := by rw [← hw1, ← hab]; exact heap_alloc_new w _
  have q : w1.cell? ⟨ab, 0, none⟩ = some (.int .i64 a.pr) := (cell_of_row w1 ab 0 _ _ _ hb).trans rfl
  have E1 := Lib.hid e1
  have HB := Lib.hid hb
  have HA := Lib.hid ha
  have HL := Lib.hid hl
  have HSD := Lib.hid (hs.ext e1)
  have HI := Lib.hid (arg_info a)
  clear e1 hb ha hs hf hl
  go_enter Try.func17, Try.ntmps17
  go_wp2_with fail
  refine (HF.out _).mono ?_
  rintro e w2 ⟨rfl, e2⟩
  have E2 := Lib.hid e2
  clear e2
  go_wp2_with fail
  go_loopw [4, 5] (fun b i wr => ∃ j : Nat, i = .int .i64 j ∧ j ≤ 2 ∧ wr.ownsRow w1.heap.size 5 1 b (bytesB a l ([104, 110].take j)).length (bs (bytesB a l ([104, 110].take j))) ∧ Ext w1 wr) (fun _ i _ => 2 - (intOf i).toNat)
  case atStart => exact ⟨0, rfl, by omega, World.ownsRow_nil _ _ _ _, E2.out⟩
  case round =>
    obtain ⟨j, rfl, hj, own, er⟩ := hrel
    have OWN := Lib.hid own
    have ER := Lib.hid er
    clear own er
    have hj2 : j = 0 ∨ j = 1 ∨ j = 2 := by omega
    rcases hj2 with rfl | rfl | rfl
    · go_wp2_with fail
      have HS0 : Hid (Ext w1 wr.drew) := Lib.hid ER.out.drew
      refine wp_region_plS (fun v : World => Ext w1 v) (.free 0 (.free 1 (.free 2 (.free 3 (.free 4 (.one 5 (.one 6 (.free 7 .nil)))))))) (by kernel_rfl) (by kernel_rfl) (by kernel_rfl) (by kernel_rfl) ?_
      refine plS_val (v := ?_) rfl rfl HS0.out (fun w' hw' => ?_) ?_; rotate_left; (· skip; go_simp; try with_reducible rfl); simp only [Act.put, List.setIfInBounds_toArray, List.set_cons_zero, List.set_cons_succ]
      refine plS_val (v := .agg a.cs) rfl rfl HS0.out (fun w' hw' => exec_loadSub 26 _ rfl ab 0 rfl 26 _ _ _ _ (hw'.heap HB.out) (fun j v h => by rw [Nat.zero_add]; exact h) Try.underlying26 rfl HI.out) ?_; simp only [Act.put, List.setIfInBounds_toArray, List.set_cons_zero, List.set_cons_succ]
      refine plS_val (v := ?_) rfl rfl HS0.out (fun w' hw' => ?_) ?_; rotate_left; (· skip; go_simp; try with_reducible rfl); simp only [Act.put, List.setIfInBounds_toArray, List.set_cons_zero, List.set_cons_succ]
      refine plS_val (v := ?_) rfl rfl HS0.out (fun w' hw' => ?_) ?_; rotate_left; (· skip; go_simp; try with_reducible rfl); simp only [Act.put, List.setIfInBounds_toArray, List.set_cons_zero, List.set_cons_succ]
      refine plS_val (v := ?_) rfl rfl HS0.out (fun w' hw' => ?_) ?_; rotate_left; (· skip; go_simp; try with_reducible rfl); simp only [Act.put, List.setIfInBounds_toArray, List.set_cons_zero, List.set_cons_succ]
      refine plS_call 31 #[.agg a.cs, .int .u8 104] rfl rfl (by go_simp; try rfl) ?_
      refine (field_h a l _ HA.out (HSD.out.ext HS0.out)).mono ?_
      rintro e w3 ⟨v3, rfl, own3, e3⟩
      obtain ⟨A3, c3, rfl, see3⟩ := Sees.of_own own3
      refine ⟨_, rfl, HS0.out.trans e3, ?_⟩; simp only [Act.put, List.setIfInBounds_toArray, List.set_cons_zero, List.set_cons_succ]
      obtain ⟨v4, w4, hrun, own4, e4⟩ := push_bytes (a := w1) (own_ext (own_ext OWN.out (Ext.refl wr).drew) e3) see3 (by have h1 := bytesB_len HA.out HL.out ([104, 110].take 0); have h2 := fieldB_len HA.out HL.out 104; have h3 : ([104, 110].take 0 : List UInt8).length = 0 := rfl; rw [h3] at h1; omega) (HS0.out.trans e3)
      have own5 : w4.ownsRow w1.heap.size 5 1 v4 (bytesB a l ([104, 110].take 1)).length (bs (bytesB a l ([104, 110].take 1))) := by
        rw [show ([104, 110].take 1 : List UInt8) = [104, 110].take 0 ++ [104] from rfl, bytesB_snoc, List.length_append]; exact own4
      refine plS_run (w' := w4) v4 rfl rfl (exec_app (.tmp 15) (.tmp 20) _ rfl _ _ rfl rfl _ _ hrun) e4 ?_; simp only [Act.put, List.setIfInBounds_toArray, List.set_cons_zero, List.set_cons_succ]
      refine plS_val (v := ?_) rfl rfl e4 (fun w' hw' => ?_) ?_; rotate_left; (· skip; go_simp; try with_reducible rfl); simp only [Act.put, List.setIfInBounds_toArray, List.set_cons_zero, List.set_cons_succ]
      refine plS_done ?_
      have OWN4 := Lib.hid own5
      have E4 := Lib.hid e4
      clear own3 own4 own5 see3 hrun e4 e3
      go_wp2_with fail
      go_roundw
      case rel => exact ⟨1, rfl, by omega, OWN4.out, E4.out⟩
      case measure => simp [intOf]
    · go_wp2_with fail
      have HS0 : Hid (Ext w1 wr.drew) := Lib.hid ER.out.drew
      refine wp_region_plS (fun v : World => Ext w1 v) (.free 0 (.free 1 (.free 2 (.free 3 (.free 4 (.one 5 (.one 6 (.free 7 .nil)))))))) (by kernel_rfl) (by kernel_rfl) (by kernel_rfl) (by kernel_rfl) ?_
      refine plS_val (v := ?_) rfl rfl HS0.out (fun w' hw' => ?_) ?_; rotate_left; (· skip; go_simp; try with_reducible rfl); simp only [Act.put, List.setIfInBounds_toArray, List.set_cons_zero, List.set_cons_succ]
      refine plS_val (v := .agg a.cs) rfl rfl HS0.out (fun w' hw' => exec_loadSub 26 _ rfl ab 0 rfl 26 _ _ _ _ (hw'.heap HB.out) (fun j v h => by rw [Nat.zero_add]; exact h) Try.underlying26 rfl HI.out) ?_; simp only [Act.put, List.setIfInBounds_toArray, List.set_cons_zero, List.set_cons_succ]
      refine plS_val (v := ?_) rfl rfl HS0.out (fun w' hw' => ?_) ?_; rotate_left; (· skip; go_simp; try with_reducible rfl); simp only [Act.put, List.setIfInBounds_toArray, List.set_cons_zero, List.set_cons_succ]
      refine plS_val (v := ?_) rfl rfl HS0.out (fun w' hw' => ?_) ?_; rotate_left; (· skip; go_simp; try with_reducible rfl); simp only [Act.put, List.setIfInBounds_toArray, List.set_cons_zero, List.set_cons_succ]
      refine plS_val (v := ?_) rfl rfl HS0.out (fun w' hw' => ?_) ?_; rotate_left; (· skip; go_simp; try with_reducible rfl); simp only [Act.put, List.setIfInBounds_toArray, List.set_cons_zero, List.set_cons_succ]
      refine plS_call 31 #[.agg a.cs, .int .u8 110] rfl rfl (by go_simp; try rfl) ?_
      refine (field_n a l _ HA.out (HSD.out.ext HS0.out)).mono ?_
      rintro e w3 ⟨v3, rfl, own3, e3⟩
      obtain ⟨A3, c3, rfl, see3⟩ := Sees.of_own own3
      refine ⟨_, rfl, HS0.out.trans e3, ?_⟩; simp only [Act.put, List.setIfInBounds_toArray, List.set_cons_zero, List.set_cons_succ]
      obtain ⟨v4, w4, hrun, own4, e4⟩ := push_bytes (a := w1) (own_ext (own_ext OWN.out (Ext.refl wr).drew) e3) see3 (by have h1 := bytesB_len HA.out HL.out ([104, 110].take 1); have h2 := fieldB_len HA.out HL.out 110; have h3 : ([104, 110].take 1 : List UInt8).length = 1 := rfl; rw [h3] at h1; omega) (HS0.out.trans e3)
      have own5 : w4.ownsRow w1.heap.size 5 1 v4 (bytesB a l ([104, 110].take 2)).length (bs (bytesB a l ([104, 110].take 2))) := by
        rw [show ([104, 110].take 2 : List UInt8) = [104, 110].take 1 ++ [110] from rfl, bytesB_snoc, List.length_append]; exact own4
      refine plS_run (w' := w4) v4 rfl rfl (exec_app (.tmp 15) (.tmp 20) _ rfl _ _ rfl rfl _ _ hrun) e4 ?_; simp only [Act.put, List.setIfInBounds_toArray, List.set_cons_zero, List.set_cons_succ]
      refine plS_val (v := ?_) rfl rfl e4 (fun w' hw' => ?_) ?_; rotate_left; (· skip; go_simp; try with_reducible rfl); simp only [Act.put, List.setIfInBounds_toArray, List.set_cons_zero, List.set_cons_succ]
      refine plS_done ?_
      have OWN4 := Lib.hid own5
      have E4 := Lib.hid e4
      clear own3 own4 own5 see3 hrun e4 e3
      go_wp2_with fail
      go_roundw
      case rel => exact ⟨2, rfl, by omega, OWN4.out, E4.out⟩
      case measure => simp [intOf]
    · go_wp2_with fail
      go_ret
      exact ⟨_, rfl, own_mono OWN.out (by have := E1.out.size; omega), E1.out.trans ER.out⟩
set_option maxRecDepth 20000 in
set_option maxHeartbeats 4000000 in
theorem bytes_hoc (a : AR) (l : List UInt8) (w : World) (ha : a.ok) (hl : l.length ≤ 2048) (hs : Sees w a.dA a.dn a.dk (bs l)) (hf : fld a.pr = [104, 111, 99]) :
    Calls Try.prog 17 #[.agg a.cs] w fun e w' => ∃ v, e = .returned v ∧ w'.ownsRow w.heap.size 5 1 v (bytesB a l (fld a.pr)).length (bs (bytesB a l (fld a.pr))) ∧ Ext w w' := by
  have HF := Lib.hid (fun w => fields14 a.pr w)
  rw [hf] at HF ⊢
  obtain ⟨ab, hab⟩ : ∃ ab, w.heap.size = ab := ⟨_, rfl⟩
  obtain ⟨w1, hw1⟩ : ∃ w1, w.alloc (.cells a.cs 26) = w1 := ⟨_, rfl⟩
  have e1 : Ext w w1 := by rw [← hw1]; exact (Ext.refl w).alloc _
  have hb : w1.heap[ab]? = some (.cells a.cs 26 (0, 0)) := by rw [← hw1, ← hab]; exact heap_alloc_new w _
  have q : w1.cell? ⟨ab, 0, none⟩ = some (.int .i64 a.pr) := (cell_of_row w1 ab 0 _ _ _ hb).trans rfl
  have E1 := Lib.hid e1
  have HB := Lib.hid hb
  have HA := Lib.hid ha
  have HL := Lib.hid hl
  have HSD := Lib.hid (hs.ext e1)
  have HI := Lib.hid (arg_info a)
  clear e1 hb ha hs hf hl
  go_enter Try.func17, Try.ntmps17
  go_wp2_with fail
  refine (HF.out _).mono ?_
  rintro e w2 ⟨rfl, e2⟩
  have E2 := Lib.hid e2
  clear e2
  go_wp2_with fail
  go_loopw [4, 5] (fun b i wr => ∃ j : Nat, i = .int .i64 j ∧ j ≤ 3 ∧ wr.ownsRow w1.heap.size 5 1 b (bytesB a l ([104, 111, 99].take j)).length (bs (bytesB a l ([104, 111, 99].take j))) ∧ Ext w1 wr) (fun _ i _ => 3 - (intOf i).toNat)
  case atStart => exact ⟨0, rfl, by omega, World.ownsRow_nil _ _ _ _, E2.out⟩
  case round =>
    obtain ⟨j, rfl, hj, own, er⟩ := hrel
    have OWN := Lib.hid own
    have ER := Lib.hid er
    clear own er
    have hj2 : j = 0 ∨ j = 1 ∨ j = 2 ∨ j = 3 := by omega
    rcases hj2 with rfl | rfl | rfl | rfl
    · go_wp2_with fail
      have HS0 : Hid (Ext w1 wr.drew) := Lib.hid ER.out.drew
      refine wp_region_plS (fun v : World => Ext w1 v) (.free 0 (.free 1 (.free 2 (.free 3 (.free 4 (.one 5 (.one 6 (.free 7 .nil)))))))) (by kernel_rfl) (by kernel_rfl) (by kernel_rfl) (by kernel_rfl) ?_
      refine plS_val (v := ?_) rfl rfl HS0.out (fun w' hw' => ?_) ?_; rotate_left; (· skip; go_simp; try with_reducible rfl); simp only [Act.put, List.setIfInBounds_toArray, List.set_cons_zero, List.set_cons_succ]
      refine plS_val (v := .agg a.cs) rfl rfl HS0.out (fun w' hw' => exec_loadSub 26 _ rfl ab 0 rfl 26 _ _ _ _ (hw'.heap HB.out) (fun j v h => by rw [Nat.zero_add]; exact h) Try.underlying26 rfl HI.out) ?_; simp only [Act.put, List.setIfInBounds_toArray, List.set_cons_zero, List.set_cons_succ]
      refine plS_val (v := ?_) rfl rfl HS0.out (fun w' hw' => ?_) ?_; rotate_left; (· skip; go_simp; try with_reducible rfl); simp only [Act.put, List.setIfInBounds_toArray, List.set_cons_zero, List.set_cons_succ]
      refine plS_val (v := ?_) rfl rfl HS0.out (fun w' hw' => ?_) ?_; rotate_left; (· skip; go_simp; try with_reducible rfl); simp only [Act.put, List.setIfInBounds_toArray, List.set_cons_zero, List.set_cons_succ]
      refine plS_val (v := ?_) rfl rfl HS0.out (fun w' hw' => ?_) ?_; rotate_left; (· skip; go_simp; try with_reducible rfl); simp only [Act.put, List.setIfInBounds_toArray, List.set_cons_zero, List.set_cons_succ]
      refine plS_call 31 #[.agg a.cs, .int .u8 104] rfl rfl (by go_simp; try rfl) ?_
      refine (field_h a l _ HA.out (HSD.out.ext HS0.out)).mono ?_
      rintro e w3 ⟨v3, rfl, own3, e3⟩
      obtain ⟨A3, c3, rfl, see3⟩ := Sees.of_own own3
      refine ⟨_, rfl, HS0.out.trans e3, ?_⟩; simp only [Act.put, List.setIfInBounds_toArray, List.set_cons_zero, List.set_cons_succ]
      obtain ⟨v4, w4, hrun, own4, e4⟩ := push_bytes (a := w1) (own_ext (own_ext OWN.out (Ext.refl wr).drew) e3) see3 (by have h1 := bytesB_len HA.out HL.out ([104, 111, 99].take 0); have h2 := fieldB_len HA.out HL.out 104; have h3 : ([104, 111, 99].take 0 : List UInt8).length = 0 := rfl; rw [h3] at h1; omega) (HS0.out.trans e3)
      have own5 : w4.ownsRow w1.heap.size 5 1 v4 (bytesB a l ([104, 111, 99].take 1)).length (bs (bytesB a l ([104, 111, 99].take 1))) := by
        rw [show ([104, 111, 99].take 1 : List UInt8) = [104, 111, 99].take 0 ++ [104] from rfl, bytesB_snoc, List.length_append]; exact own4
      refine plS_run (w' := w4) v4 rfl rfl (exec_app (.tmp 15) (.tmp 20) _ rfl _ _ rfl rfl _ _ hrun) e4 ?_; simp only [Act.put, List.setIfInBounds_toArray, List.set_cons_zero, List.set_cons_succ]
      refine plS_val (v := ?_) rfl rfl e4 (fun w' hw' => ?_) ?_; rotate_left; (· skip; go_simp; try with_reducible rfl); simp only [Act.put, List.setIfInBounds_toArray, List.set_cons_zero, List.set_cons_succ]
      refine plS_done ?_
      have OWN4 := Lib.hid own5
      have E4 := Lib.hid e4
      clear own3 own4 own5 see3 hrun e4 e3
      go_wp2_with fail
      go_roundw
      case rel => exact ⟨1, rfl, by omega, OWN4.out, E4.out⟩
      case measure => simp [intOf]
    · go_wp2_with fail
      have HS0 : Hid (Ext w1 wr.drew) := Lib.hid ER.out.drew
      refine wp_region_plS (fun v : World => Ext w1 v) (.free 0 (.free 1 (.free 2 (.free 3 (.free 4 (.one 5 (.one 6 (.free 7 .nil)))))))) (by kernel_rfl) (by kernel_rfl) (by kernel_rfl) (by kernel_rfl) ?_
      refine plS_val (v := ?_) rfl rfl HS0.out (fun w' hw' => ?_) ?_; rotate_left; (· skip; go_simp; try with_reducible rfl); simp only [Act.put, List.setIfInBounds_toArray, List.set_cons_zero, List.set_cons_succ]
      refine plS_val (v := .agg a.cs) rfl rfl HS0.out (fun w' hw' => exec_loadSub 26 _ rfl ab 0 rfl 26 _ _ _ _ (hw'.heap HB.out) (fun j v h => by rw [Nat.zero_add]; exact h) Try.underlying26 rfl HI.out) ?_; simp only [Act.put, List.setIfInBounds_toArray, List.set_cons_zero, List.set_cons_succ]
      refine plS_val (v := ?_) rfl rfl HS0.out (fun w' hw' => ?_) ?_; rotate_left; (· skip; go_simp; try with_reducible rfl); simp only [Act.put, List.setIfInBounds_toArray, List.set_cons_zero, List.set_cons_succ]
      refine plS_val (v := ?_) rfl rfl HS0.out (fun w' hw' => ?_) ?_; rotate_left; (· skip; go_simp; try with_reducible rfl); simp only [Act.put, List.setIfInBounds_toArray, List.set_cons_zero, List.set_cons_succ]
      refine plS_val (v := ?_) rfl rfl HS0.out (fun w' hw' => ?_) ?_; rotate_left; (· skip; go_simp; try with_reducible rfl); simp only [Act.put, List.setIfInBounds_toArray, List.set_cons_zero, List.set_cons_succ]
      refine plS_call 31 #[.agg a.cs, .int .u8 111] rfl rfl (by go_simp; try rfl) ?_
      refine (field_o a l _ HA.out (HSD.out.ext HS0.out)).mono ?_
      rintro e w3 ⟨v3, rfl, own3, e3⟩
      obtain ⟨A3, c3, rfl, see3⟩ := Sees.of_own own3
      refine ⟨_, rfl, HS0.out.trans e3, ?_⟩; simp only [Act.put, List.setIfInBounds_toArray, List.set_cons_zero, List.set_cons_succ]
      obtain ⟨v4, w4, hrun, own4, e4⟩ := push_bytes (a := w1) (own_ext (own_ext OWN.out (Ext.refl wr).drew) e3) see3 (by have h1 := bytesB_len HA.out HL.out ([104, 111, 99].take 1); have h2 := fieldB_len HA.out HL.out 111; have h3 : ([104, 111, 99].take 1 : List UInt8).length = 1 := rfl; rw [h3] at h1; omega) (HS0.out.trans e3)
      have own5 : w4.ownsRow w1.heap.size 5 1 v4 (bytesB a l ([104, 111, 99].take 2)).length (bs (bytesB a l ([104, 111, 99].take 2))) := by
        rw [show ([104, 111, 99].take 2 : List UInt8) = [104, 111, 99].take 1 ++ [111] from rfl, bytesB_snoc, List.length_append]; exact own4
      refine plS_run (w' := w4) v4 rfl rfl (exec_app (.tmp 15) (.tmp 20) _ rfl _ _ rfl rfl _ _ hrun) e4 ?_; simp only [Act.put, List.setIfInBounds_toArray, List.set_cons_zero, List.set_cons_succ]
      refine plS_val (v := ?_) rfl rfl e4 (fun w' hw' => ?_) ?_; rotate_left; (· skip; go_simp; try with_reducible rfl); simp only [Act.put, List.setIfInBounds_toArray, List.set_cons_zero, List.set_cons_succ]
      refine plS_done ?_
      have OWN4 := Lib.hid own5
      have E4 := Lib.hid e4
      clear own3 own4 own5 see3 hrun e4 e3
      go_wp2_with fail
      go_roundw
      case rel => exact ⟨2, rfl, by omega, OWN4.out, E4.out⟩
      case measure => simp [intOf]
    · go_wp2_with fail
      have HS0 : Hid (Ext w1 wr.drew) := Lib.hid ER.out.drew
      refine wp_region_plS (fun v : World => Ext w1 v) (.free 0 (.free 1 (.free 2 (.free 3 (.free 4 (.one 5 (.one 6 (.free 7 .nil)))))))) (by kernel_rfl) (by kernel_rfl) (by kernel_rfl) (by kernel_rfl) ?_
      refine plS_val (v := ?_) rfl rfl HS0.out (fun w' hw' => ?_) ?_; rotate_left; (· skip; go_simp; try with_reducible rfl); simp only [Act.put, List.setIfInBounds_toArray, List.set_cons_zero, List.set_cons_succ]
      refine plS_val (v := .agg a.cs) rfl rfl HS0.out (fun w' hw' => exec_loadSub 26 _ rfl ab 0 rfl 26 _ _ _ _ (hw'.heap HB.out) (fun j v h => by rw [Nat.zero_add]; exact h) Try.underlying26 rfl HI.out) ?_; simp only [Act.put, List.setIfInBounds_toArray, List.set_cons_zero, List.set_cons_succ]
      refine plS_val (v := ?_) rfl rfl HS0.out (fun w' hw' => ?_) ?_; rotate_left; (· skip; go_simp; try with_reducible rfl); simp only [Act.put, List.setIfInBounds_toArray, List.set_cons_zero, List.set_cons_succ]
      refine plS_val (v := ?_) rfl rfl HS0.out (fun w' hw' => ?_) ?_; rotate_left; (· skip; go_simp; try with_reducible rfl); simp only [Act.put, List.setIfInBounds_toArray, List.set_cons_zero, List.set_cons_succ]
      refine plS_val (v := ?_) rfl rfl HS0.out (fun w' hw' => ?_) ?_; rotate_left; (· skip; go_simp; try with_reducible rfl); simp only [Act.put, List.setIfInBounds_toArray, List.set_cons_zero, List.set_cons_succ]
      refine plS_call 31 #[.agg a.cs, .int .u8 99] rfl rfl (by go_simp; try rfl) ?_
      refine (field_c a l _ HA.out (HSD.out.ext HS0.out)).mono ?_
      rintro e w3 ⟨v3, rfl, own3, e3⟩
      obtain ⟨A3, c3, rfl, see3⟩ := Sees.of_own own3
      refine ⟨_, rfl, HS0.out.trans e3, ?_⟩; simp only [Act.put, List.setIfInBounds_toArray, List.set_cons_zero, List.set_cons_succ]
      obtain ⟨v4, w4, hrun, own4, e4⟩ := push_bytes (a := w1) (own_ext (own_ext OWN.out (Ext.refl wr).drew) e3) see3 (by have h1 := bytesB_len HA.out HL.out ([104, 111, 99].take 2); have h2 := fieldB_len HA.out HL.out 99; have h3 : ([104, 111, 99].take 2 : List UInt8).length = 2 := rfl; rw [h3] at h1; omega) (HS0.out.trans e3)
      have own5 : w4.ownsRow w1.heap.size 5 1 v4 (bytesB a l ([104, 111, 99].take 3)).length (bs (bytesB a l ([104, 111, 99].take 3))) := by
        rw [show ([104, 111, 99].take 3 : List UInt8) = [104, 111, 99].take 2 ++ [99] from rfl, bytesB_snoc, List.length_append]; exact own4
      refine plS_run (w' := w4) v4 rfl rfl (exec_app (.tmp 15) (.tmp 20) _ rfl _ _ rfl rfl _ _ hrun) e4 ?_; simp only [Act.put, List.setIfInBounds_toArray, List.set_cons_zero, List.set_cons_succ]
      refine plS_val (v := ?_) rfl rfl e4 (fun w' hw' => ?_) ?_; rotate_left; (· skip; go_simp; try with_reducible rfl); simp only [Act.put, List.setIfInBounds_toArray, List.set_cons_zero, List.set_cons_succ]
      refine plS_done ?_
      have OWN4 := Lib.hid own5
      have E4 := Lib.hid e4
      clear own3 own4 own5 see3 hrun e4 e3
      go_wp2_with fail
      go_roundw
      case rel => exact ⟨3, rfl, by omega, OWN4.out, E4.out⟩
      case measure => simp [intOf]
    · go_wp2_with fail
      go_ret
      exact ⟨_, rfl, own_mono OWN.out (by have := E1.out.size; omega), E1.out.trans ER.out⟩
set_option maxRecDepth 20000 in
set_option maxHeartbeats 4000000 in
theorem bytes_hod (a : AR) (l : List UInt8) (w : World) (ha : a.ok) (hl : l.length ≤ 2048) (hs : Sees w a.dA a.dn a.dk (bs l)) (hf : fld a.pr = [104, 111, 100]) :
    Calls Try.prog 17 #[.agg a.cs] w fun e w' => ∃ v, e = .returned v ∧ w'.ownsRow w.heap.size 5 1 v (bytesB a l (fld a.pr)).length (bs (bytesB a l (fld a.pr))) ∧ Ext w w' := by
  have HF := Lib.hid (fun w => fields14 a.pr w)
  rw [hf] at HF ⊢
  obtain ⟨ab, hab⟩ : ∃ ab, w.heap.size = ab := ⟨_, rfl⟩
  obtain ⟨w1, hw1⟩ : ∃ w1, w.alloc (.cells a.cs 26) = w1 := ⟨_, rfl⟩
  have e1 : Ext w w1 := by rw [← hw1]; exact (Ext.refl w).alloc _
  have hb : w1.heap[ab]? = some (.cells a.cs 26 (0, 0)) := by rw [← hw1, ← hab]; exact heap_alloc_new w _
  have q : w1.cell? ⟨ab, 0, none⟩ = some (.int .i64 a.pr) := (cell_of_row w1 ab 0 _ _ _ hb).trans rfl
  have E1 := Lib.hid e1
  have HB := Lib.hid hb
  have HA := Lib.hid ha
  have HL := Lib.hid hl
  have HSD := Lib.hid (hs.ext e1)
  have HI := Lib.hid (arg_info a)
  clear e1 hb ha hs hf hl
  go_enter Try.func17, Try.ntmps17
  go_wp2_with fail
  refine (HF.out _).mono ?_
  rintro e w2 ⟨rfl, e2⟩
  have E2 := Lib.hid e2
  clear e2
  go_wp2_with fail
  go_loopw [4, 5] (fun b i wr => ∃ j : Nat, i = .int .i64 j ∧ j ≤ 3 ∧ wr.ownsRow w1.heap.size 5 1 b (bytesB a l ([104, 111, 100].take j)).length (bs (bytesB a l ([104, 111, 100].take j))) ∧ Ext w1 wr) (fun _ i _ => 3 - (intOf i).toNat)
  case atStart => exact ⟨0, rfl, by omega, World.ownsRow_nil _ _ _ _, E2.out⟩
  case round =>
    obtain ⟨j, rfl, hj, own, er⟩ := hrel
    have OWN := Lib.hid own
    have ER := Lib.hid er
    clear own er
    have hj2 : j = 0 ∨ j = 1 ∨ j = 2 ∨ j = 3 := by omega
    rcases hj2 with rfl | rfl | rfl | rfl
    · go_wp2_with fail
      have HS0 : Hid (Ext w1 wr.drew) := Lib.hid ER.out.drew
      refine wp_region_plS (fun v : World => Ext w1 v) (.free 0 (.free 1 (.free 2 (.free 3 (.free 4 (.one 5 (.one 6 (.free 7 .nil)))))))) (by kernel_rfl) (by kernel_rfl) (by kernel_rfl) (by kernel_rfl) ?_
      refine plS_val (v := ?_) rfl rfl HS0.out (fun w' hw' => ?_) ?_; rotate_left; (· skip; go_simp; try with_reducible rfl); simp only [Act.put, List.setIfInBounds_toArray, List.set_cons_zero, List.set_cons_succ]
      refine plS_val (v := .agg a.cs) rfl rfl HS0.out (fun w' hw' => exec_loadSub 26 _ rfl ab 0 rfl 26 _ _ _ _ (hw'.heap HB.out) (fun j v h => by rw [Nat.zero_add]; exact h) Try.underlying26 rfl HI.out) ?_; simp only [Act.put, List.setIfInBounds_toArray, List.set_cons_zero, List.set_cons_succ]
      refine plS_val (v := ?_) rfl rfl HS0.out (fun w' hw' => ?_) ?_; rotate_left; (· skip; go_simp; try with_reducible rfl); simp only [Act.put, List.setIfInBounds_toArray, List.set_cons_zero, List.set_cons_succ]
      refine plS_val (v := ?_) rfl rfl HS0.out (fun w' hw' => ?_) ?_; rotate_left; (· skip; go_simp; try with_reducible rfl); simp only [Act.put, List.setIfInBounds_toArray, List.set_cons_zero, List.set_cons_succ]
      refine plS_val (v := ?_) rfl rfl HS0.out (fun w' hw' => ?_) ?_; rotate_left; (· skip; go_simp; try with_reducible rfl); simp only [Act.put, List.setIfInBounds_toArray, List.set_cons_zero, List.set_cons_succ]
      refine plS_call 31 #[.agg a.cs, .int .u8 104] rfl rfl (by go_simp; try rfl) ?_
      refine (field_h a l _ HA.out (HSD.out.ext HS0.out)).mono ?_
      rintro e w3 ⟨v3, rfl, own3, e3⟩
      obtain ⟨A3, c3, rfl, see3⟩ := Sees.of_own own3
      refine ⟨_, rfl, HS0.out.trans e3, ?_⟩; simp only [Act.put, List.setIfInBounds_toArray, List.set_cons_zero, List.set_cons_succ]
      obtain ⟨v4, w4, hrun, own4, e4⟩ := push_bytes (a := w1) (own_ext (own_ext OWN.out (Ext.refl wr).drew) e3) see3 (by have h1 := bytesB_len HA.out HL.out ([104, 111, 100].take 0); have h2 := fieldB_len HA.out HL.out 104; have h3 : ([104, 111, 100].take 0 : List UInt8).length = 0 := rfl; rw [h3] at h1; omega) (HS0.out.trans e3)
      have own5 : w4.ownsRow w1.heap.size 5 1 v4 (bytesB a l ([104, 111, 100].take 1)).length (bs (bytesB a l ([104, 111, 100].take 1))) := by
        rw [show ([104, 111, 100].take 1 : List UInt8) = [104, 111, 100].take 0 ++ [104] from rfl, bytesB_snoc, List.length_append]; exact own4
      refine plS_run (w' := w4) v4 rfl rfl (exec_app (.tmp 15) (.tmp 20) _ rfl _ _ rfl rfl _ _ hrun) e4 ?_; simp only [Act.put, List.setIfInBounds_toArray, List.set_cons_zero, List.set_cons_succ]
      refine plS_val (v := ?_) rfl rfl e4 (fun w' hw' => ?_) ?_; rotate_left; (· skip; go_simp; try with_reducible rfl); simp only [Act.put, List.setIfInBounds_toArray, List.set_cons_zero, List.set_cons_succ]
      refine plS_done ?_
      have OWN4 := Lib.hid own5
      have E4 := Lib.hid e4
      clear own3 own4 own5 see3 hrun e4 e3
      go_wp2_with fail
      go_roundw
      case rel => exact ⟨1, rfl, by omega, OWN4.out, E4.out⟩
      case measure => simp [intOf]
    · go_wp2_with fail
      have HS0 : Hid (Ext w1 wr.drew) := Lib.hid ER.out.drew
      refine wp_region_plS (fun v : World => Ext w1 v) (.free 0 (.free 1 (.free 2 (.free 3 (.free 4 (.one 5 (.one 6 (.free 7 .nil)))))))) (by kernel_rfl) (by kernel_rfl) (by kernel_rfl) (by kernel_rfl) ?_
      refine plS_val (v := ?_) rfl rfl HS0.out (fun w' hw' => ?_) ?_; rotate_left; (· skip; go_simp; try with_reducible rfl); simp only [Act.put, List.setIfInBounds_toArray, List.set_cons_zero, List.set_cons_succ]
      refine plS_val (v := .agg a.cs) rfl rfl HS0.out (fun w' hw' => exec_loadSub 26 _ rfl ab 0 rfl 26 _ _ _ _ (hw'.heap HB.out) (fun j v h => by rw [Nat.zero_add]; exact h) Try.underlying26 rfl HI.out) ?_; simp only [Act.put, List.setIfInBounds_toArray, List.set_cons_zero, List.set_cons_succ]
      refine plS_val (v := ?_) rfl rfl HS0.out (fun w' hw' => ?_) ?_; rotate_left; (· skip; go_simp; try with_reducible rfl); simp only [Act.put, List.setIfInBounds_toArray, List.set_cons_zero, List.set_cons_succ]
      refine plS_val (v := ?_) rfl rfl HS0.out (fun w' hw' => ?_) ?_; rotate_left; (· skip; go_simp; try with_reducible rfl); simp only [Act.put, List.setIfInBounds_toArray, List.set_cons_zero, List.set_cons_succ]
      refine plS_val (v := ?_) rfl rfl HS0.out (fun w' hw' => ?_) ?_; rotate_left; (· skip; go_simp; try with_reducible rfl); simp only [Act.put, List.setIfInBounds_toArray, List.set_cons_zero, List.set_cons_succ]
      refine plS_call 31 #[.agg a.cs, .int .u8 111] rfl rfl (by go_simp; try rfl) ?_
      refine (field_o a l _ HA.out (HSD.out.ext HS0.out)).mono ?_
      rintro e w3 ⟨v3, rfl, own3, e3⟩
      obtain ⟨A3, c3, rfl, see3⟩ := Sees.of_own own3
      refine ⟨_, rfl, HS0.out.trans e3, ?_⟩; simp only [Act.put, List.setIfInBounds_toArray, List.set_cons_zero, List.set_cons_succ]
      obtain ⟨v4, w4, hrun, own4, e4⟩ := push_bytes (a := w1) (own_ext (own_ext OWN.out (Ext.refl wr).drew) e3) see3 (by have h1 := bytesB_len HA.out HL.out ([104, 111, 100].take 1); have h2 := fieldB_len HA.out HL.out 111; have h3 : ([104, 111, 100].take 1 : List UInt8).length = 1 := rfl; rw [h3] at h1; omega) (HS0.out.trans e3)
      have own5 : w4.ownsRow w1.heap.size 5 1 v4 (bytesB a l ([104, 111, 100].take 2)).length (bs (bytesB a l ([104, 111, 100].take 2))) := by
        rw [show ([104, 111, 100].take 2 : List UInt8) = [104, 111, 100].take 1 ++ [111] from rfl, bytesB_snoc, List.length_append]; exact own4
      refine plS_run (w' := w4) v4 rfl rfl (exec_app (.tmp 15) (.tmp 20) _ rfl _ _ rfl rfl _ _ hrun) e4 ?_; simp only [Act.put, List.setIfInBounds_toArray, List.set_cons_zero, List.set_cons_succ]
      refine plS_val (v := ?_) rfl rfl e4 (fun w' hw' => ?_) ?_; rotate_left; (· skip; go_simp; try with_reducible rfl); simp only [Act.put, List.setIfInBounds_toArray, List.set_cons_zero, List.set_cons_succ]
      refine plS_done ?_
      have OWN4 := Lib.hid own5
      have E4 := Lib.hid e4
      clear own3 own4 own5 see3 hrun e4 e3
      go_wp2_with fail
      go_roundw
      case rel => exact ⟨2, rfl, by omega, OWN4.out, E4.out⟩
      case measure => simp [intOf]
    · go_wp2_with fail
      have HS0 : Hid (Ext w1 wr.drew) := Lib.hid ER.out.drew
      refine wp_region_plS (fun v : World => Ext w1 v) (.free 0 (.free 1 (.free 2 (.free 3 (.free 4 (.one 5 (.one 6 (.free 7 .nil)))))))) (by kernel_rfl) (by kernel_rfl) (by kernel_rfl) (by kernel_rfl) ?_
      refine plS_val (v := ?_) rfl rfl HS0.out (fun w' hw' => ?_) ?_; rotate_left; (· skip; go_simp; try with_reducible rfl); simp only [Act.put, List.setIfInBounds_toArray, List.set_cons_zero, List.set_cons_succ]
      refine plS_val (v := .agg a.cs) rfl rfl HS0.out (fun w' hw' => exec_loadSub 26 _ rfl ab 0 rfl 26 _ _ _ _ (hw'.heap HB.out) (fun j v h => by rw [Nat.zero_add]; exact h) Try.underlying26 rfl HI.out) ?_; simp only [Act.put, List.setIfInBounds_toArray, List.set_cons_zero, List.set_cons_succ]
      refine plS_val (v := ?_) rfl rfl HS0.out (fun w' hw' => ?_) ?_; rotate_left; (· skip; go_simp; try with_reducible rfl); simp only [Act.put, List.setIfInBounds_toArray, List.set_cons_zero, List.set_cons_succ]
      refine plS_val (v := ?_) rfl rfl HS0.out (fun w' hw' => ?_) ?_; rotate_left; (· skip; go_simp; try with_reducible rfl); simp only [Act.put, List.setIfInBounds_toArray, List.set_cons_zero, List.set_cons_succ]
      refine plS_val (v := ?_) rfl rfl HS0.out (fun w' hw' => ?_) ?_; rotate_left; (· skip; go_simp; try with_reducible rfl); simp only [Act.put, List.setIfInBounds_toArray, List.set_cons_zero, List.set_cons_succ]
      refine plS_call 31 #[.agg a.cs, .int .u8 100] rfl rfl (by go_simp; try rfl) ?_
      refine (field_d a l _ HA.out (HSD.out.ext HS0.out)).mono ?_
      rintro e w3 ⟨v3, rfl, own3, e3⟩
      obtain ⟨A3, c3, rfl, see3⟩ := Sees.of_own own3
      refine ⟨_, rfl, HS0.out.trans e3, ?_⟩; simp only [Act.put, List.setIfInBounds_toArray, List.set_cons_zero, List.set_cons_succ]
      obtain ⟨v4, w4, hrun, own4, e4⟩ := push_bytes (a := w1) (own_ext (own_ext OWN.out (Ext.refl wr).drew) e3) see3 (by have h1 := bytesB_len HA.out HL.out ([104, 111, 100].take 2); have h2 := fieldB_len HA.out HL.out 100; have h3 : ([104, 111, 100].take 2 : List UInt8).length = 2 := rfl; rw [h3] at h1; omega) (HS0.out.trans e3)
      have own5 : w4.ownsRow w1.heap.size 5 1 v4 (bytesB a l ([104, 111, 100].take 3)).length (bs (bytesB a l ([104, 111, 100].take 3))) := by
        rw [show ([104, 111, 100].take 3 : List UInt8) = [104, 111, 100].take 2 ++ [100] from rfl, bytesB_snoc, List.length_append]; exact own4
      refine plS_run (w' := w4) v4 rfl rfl (exec_app (.tmp 15) (.tmp 20) _ rfl _ _ rfl rfl _ _ hrun) e4 ?_; simp only [Act.put, List.setIfInBounds_toArray, List.set_cons_zero, List.set_cons_succ]
      refine plS_val (v := ?_) rfl rfl e4 (fun w' hw' => ?_) ?_; rotate_left; (· skip; go_simp; try with_reducible rfl); simp only [Act.put, List.setIfInBounds_toArray, List.set_cons_zero, List.set_cons_succ]
      refine plS_done ?_
      have OWN4 := Lib.hid own5
      have E4 := Lib.hid e4
      clear own3 own4 own5 see3 hrun e4 e3
      go_wp2_with fail
      go_roundw
      case rel => exact ⟨3, rfl, by omega, OWN4.out, E4.out⟩
      case measure => simp [intOf]
    · go_wp2_with fail
      go_ret
      exact ⟨_, rfl, own_mono OWN.out (by have := E1.out.size; omega), E1.out.trans ER.out⟩
set_option maxRecDepth 20000 in
set_option maxHeartbeats 4000000 in
theorem bytes_hnm (a : AR) (l : List UInt8) (w : World) (ha : a.ok) (hl : l.length ≤ 2048) (hs : Sees w a.dA a.dn a.dk (bs l)) (hf : fld a.pr = [104, 110, 109]) :
    Calls Try.prog 17 #[.agg a.cs] w fun e w' => ∃ v, e = .returned v ∧ w'.ownsRow w.heap.size 5 1 v (bytesB a l (fld a.pr)).length (bs (bytesB a l (fld a.pr))) ∧ Ext w w' := by
  have HF := Lib.hid (fun w => fields14 a.pr w)
  rw [hf] at HF ⊢
  obtain ⟨ab, hab⟩ : ∃ ab, w.heap.size = ab := ⟨_, rfl⟩
  obtain ⟨w1, hw1⟩ : ∃ w1, w.alloc (.cells a.cs 26) = w1 := ⟨_, rfl⟩
  have e1 : Ext w w1 := by rw [← hw1]; exact (Ext.refl w).alloc _
  have hb : w1.heap[ab]? = some (.cells a.cs 26 (0, 0)) := by rw [← hw1, ← hab]; exact heap_alloc_new w _
  have q : w1.cell? ⟨ab, 0, none⟩ = some (.int .i64 a.pr) := (cell_of_row w1 ab 0 _ _ _ hb).trans rfl
  have E1 := Lib.hid e1
  have HB := Lib.hid hb
  have HA := Lib.hid ha
  have HL := Lib.hid hl
  have HSD := Lib.hid (hs.ext e1)
  have HI := Lib.hid (arg_info a)
  clear e1 hb ha hs hf hl
  go_enter Try.func17, Try.ntmps17
  go_wp2_with fail
  refine (HF.out _).mono ?_
  rintro e w2 ⟨rfl, e2⟩
  have E2 := Lib.hid e2
  clear e2
  go_wp2_with fail
  go_loopw [4, 5] (fun b i wr => ∃ j : Nat, i = .int .i64 j ∧ j ≤ 3 ∧ wr.ownsRow w1.heap.size 5 1 b (bytesB a l ([104, 110, 109].take j)).length (bs (bytesB a l ([104, 110, 109].take j))) ∧ Ext w1 wr) (fun _ i _ => 3 - (intOf i).toNat)
  case atStart => exact ⟨0, rfl, by omega, World.ownsRow_nil _ _ _ _, E2.out⟩
  case round =>
    obtain ⟨j, rfl, hj, own, er⟩ := hrel
    have OWN := Lib.hid own
    have ER := Lib.hid er
    clear own er
    have hj2 : j = 0 ∨ j = 1 ∨ j = 2 ∨ j = 3 := by omega
    rcases hj2 with rfl | rfl | rfl | rfl
    · go_wp2_with fail
      have HS0 : Hid (Ext w1 wr.drew) := Lib.hid ER.out.drew
      refine wp_region_plS (fun v : World => Ext w1 v) (.free 0 (.free 1 (.free 2 (.free 3 (.free 4 (.one 5 (.one 6 (.free 7 .nil)))))))) (by kernel_rfl) (by kernel_rfl) (by kernel_rfl) (by kernel_rfl) ?_
      refine plS_val (v := ?_) rfl rfl HS0.out (fun w' hw' => ?_) ?_; rotate_left; (· skip; go_simp; try with_reducible rfl); simp only [Act.put, List.setIfInBounds_toArray, List.set_cons_zero, List.set_cons_succ]
      refine plS_val (v := .agg a.cs) rfl rfl HS0.out (fun w' hw' => exec_loadSub 26 _ rfl ab 0 rfl 26 _ _ _ _ (hw'.heap HB.out) (fun j v h => by rw [Nat.zero_add]; exact h) Try.underlying26 rfl HI.out) ?_; simp only [Act.put, List.setIfInBounds_toArray, List.set_cons_zero, List.set_cons_succ]
      refine plS_val (v := ?_) rfl rfl HS0.out (fun w' hw' => ?_) ?_; rotate_left; (· skip; go_simp; try with_reducible rfl); simp only [Act.put, List.setIfInBounds_toArray, List.set_cons_zero, List.set_cons_succ]
      refine plS_val (v := ?_) rfl rfl HS0.out (fun w' hw' => ?_) ?_; rotate_left; (· skip; go_simp; try with_reducible rfl); simp only [Act.put, List.setIfInBounds_toArray, List.set_cons_zero, List.set_cons_succ]
      refine plS_val (v := ?_) rfl rfl HS0.out (fun w' hw' => ?_) ?_; rotate_left; (· skip; go_simp; try with_reducible rfl); simp only [Act.put, List.setIfInBounds_toArray, List.set_cons_zero, List.set_cons_succ]
      refine plS_call 31 #[.agg a.cs, .int .u8 104] rfl rfl (by go_simp; try rfl) ?_
      refine (field_h a l _ HA.out (HSD.out.ext HS0.out)).mono ?_
      rintro e w3 ⟨v3, rfl, own3, e3⟩
      obtain ⟨A3, c3, rfl, see3⟩ := Sees.of_own own3
      refine ⟨_, rfl, HS0.out.trans e3, ?_⟩; simp only [Act.put, List.setIfInBounds_toArray, List.set_cons_zero, List.set_cons_succ]
      obtain ⟨v4, w4, hrun, own4, e4⟩ := push_bytes (a := w1) (own_ext (own_ext OWN.out (Ext.refl wr).drew) e3) see3 (by have h1 := bytesB_len HA.out HL.out ([104, 110, 109].take 0); have h2 := fieldB_len HA.out HL.out 104; have h3 : ([104, 110, 109].take 0 : List UInt8).length = 0 := rfl; rw [h3] at h1; omega) (HS0.out.trans e3)
      have own5 : w4.ownsRow w1.heap.size 5 1 v4 (bytesB a l ([104, 110, 109].take 1)).length (bs (bytesB a l ([104, 110, 109].take 1))) := by
        rw [show ([104, 110, 109].take 1 : List UInt8) = [104, 110, 109].take 0 ++ [104] from rfl, bytesB_snoc, List.length_append]; exact own4
      refine plS_run (w' := w4) v4 rfl rfl (exec_app (.tmp 15) (.tmp 20) _ rfl _ _ rfl rfl _ _ hrun) e4 ?_; simp only [Act.put, List.setIfInBounds_toArray, List.set_cons_zero, List.set_cons_succ]
      refine plS_val (v := ?_) rfl rfl e4 (fun w' hw' => ?_) ?_; rotate_left; (· skip; go_simp; try with_reducible rfl); simp only [Act.put, List.setIfInBounds_toArray, List.set_cons_zero, List.set_cons_succ]
      refine plS_done ?_
      have OWN4 := Lib.hid own5
      have E4 := Lib.hid e4
      clear own3 own4 own5 see3 hrun e4 e3
      go_wp2_with fail
      go_roundw
      case rel => exact ⟨1, rfl, by omega, OWN4.out, E4.out⟩
      case measure => simp [intOf]
    · go_wp2_with fail
      have HS0 : Hid (Ext w1 wr.drew) := Lib.hid ER.out.drew
      refine wp_region_plS (fun v : World => Ext w1 v) (.free 0 (.free 1 (.free 2 (.free 3 (.free 4 (.one 5 (.one 6 (.free 7 .nil)))))))) (by kernel_rfl) (by kernel_rfl) (by kernel_rfl) (by kernel_rfl) ?_
      refine plS_val (v := ?_) rfl rfl HS0.out (fun w' hw' => ?_) ?_; rotate_left; (· skip; go_simp; try with_reducible rfl); simp only [Act.put, List.setIfInBounds_toArray, List.set_cons_zero, List.set_cons_succ]
      refine plS_val (v := .agg a.cs) rfl rfl HS0.out (fun w' hw' => exec_loadSub 26 _ rfl ab 0 rfl 26 _ _ _ _ (hw'.heap HB.out) (fun j v h => by rw [Nat.zero_add]; exact h) Try.underlying26 rfl HI.out) ?_; simp only [Act.put, List.setIfInBounds_toArray, List.set_cons_zero, List.set_cons_succ]
      refine plS_val (v := ?_) rfl rfl HS0.out (fun w' hw' => ?_) ?_; rotate_left; (· skip; go_simp; try with_reducible rfl); simp only [Act.put, List.setIfInBounds_toArray, List.set_cons_zero, List.set_cons_succ]
      refine plS_val (v := ?_) rfl rfl HS0.out (fun w' hw' => ?_) ?_; rotate_left; (· skip; go_simp; try with_reducible rfl); simp only [Act.put, List.setIfInBounds_toArray, List.set_cons_zero, List.set_cons_succ]
      refine plS_val (v := ?_) rfl rfl HS0.out (fun w' hw' => ?_) ?_; rotate_left; (· skip; go_simp; try with_reducible rfl); simp only [Act.put, List.setIfInBounds_toArray, List.set_cons_zero, List.set_cons_succ]
      refine plS_call 31 #[.agg a.cs, .int .u8 110] rfl rfl (by go_simp; try rfl) ?_
      refine (field_n a l _ HA.out (HSD.out.ext HS0.out)).mono ?_
      rintro e w3 ⟨v3, rfl, own3, e3⟩
      obtain ⟨A3, c3, rfl, see3⟩ := Sees.of_own own3
      refine ⟨_, rfl, HS0.out.trans e3, ?_⟩; simp only [Act.put, List.setIfInBounds_toArray, List.set_cons_zero, List.set_cons_succ]
      obtain ⟨v4, w4, hrun, own4, e4⟩ := push_bytes (a := w1) (own_ext (own_ext OWN.out (Ext.refl wr).drew) e3) see3 (by have h1 := bytesB_len HA.out HL.out ([104, 110, 109].take 1); have h2 := fieldB_len HA.out HL.out 110; have h3 : ([104, 110, 109].take 1 : List UInt8).length = 1 := rfl; rw [h3] at h1; omega) (HS0.out.trans e3)
      have own5 : w4.ownsRow w1.heap.size 5 1 v4 (bytesB a l ([104, 110, 109].take 2)).length (bs (bytesB a l ([104, 110, 109].take 2))) := by
        rw [show ([104, 110, 109].take 2 : List UInt8) = [104, 110, 109].take 1 ++ [110] from rfl, bytesB_snoc, List.length_append]; exact own4
      refine plS_run (w' := w4) v4 rfl rfl (exec_app (.tmp 15) (.tmp 20) _ rfl _ _ rfl rfl _ _ hrun) e4 ?_; simp only [Act.put, List.setIfInBounds_toArray, List.set_cons_zero, List.set_cons_succ]
      refine plS_val (v := ?_) rfl rfl e4 (fun w' hw' => ?_) ?_; rotate_left; (· skip; go_simp; try with_reducible rfl); simp only [Act.put, List.setIfInBounds_toArray, List.set_cons_zero, List.set_cons_succ]
      refine plS_done ?_
      have OWN4 := Lib.hid own5
      have E4 := Lib.hid e4
      clear own3 own4 own5 see3 hrun e4 e3
      go_wp2_with fail
      go_roundw
      case rel => exact ⟨2, rfl, by omega, OWN4.out, E4.out⟩
      case measure => simp [intOf]
    · go_wp2_with fail
      have HS0 : Hid (Ext w1 wr.drew) := Lib.hid ER.out.drew
      refine wp_region_plS (fun v : World => Ext w1 v) (.free 0 (.free 1 (.free 2 (.free 3 (.free 4 (.one 5 (.one 6 (.free 7 .nil)))))))) (by kernel_rfl) (by kernel_rfl) (by kernel_rfl) (by kernel_rfl) ?_
      refine plS_val (v := ?_) rfl rfl HS0.out (fun w' hw' => ?_) ?_; rotate_left; (· skip; go_simp; try with_reducible rfl); simp only [Act.put, List.setIfInBounds_toArray, List.set_cons_zero, List.set_cons_succ]
      refine plS_val (v := .agg a.cs) rfl rfl HS0.out (fun w' hw' => exec_loadSub 26 _ rfl ab 0 rfl 26 _ _ _ _ (hw'.heap HB.out) (fun j v h => by rw [Nat.zero_add]; exact h) Try.underlying26 rfl HI.out) ?_; simp only [Act.put, List.setIfInBounds_toArray, List.set_cons_zero, List.set_cons_succ]
      refine plS_val (v := ?_) rfl rfl HS0.out (fun w' hw' => ?_) ?_; rotate_left; (· skip; go_simp; try with_reducible rfl); simp only [Act.put, List.setIfInBounds_toArray, List.set_cons_zero, List.set_cons_succ]
      refine plS_val (v := ?_) rfl rfl HS0.out (fun w' hw' => ?_) ?_; rotate_left; (· skip; go_simp; try with_reducible rfl); simp only [Act.put, List.setIfInBounds_toArray, List.set_cons_zero, List.set_cons_succ]
      refine plS_val (v := ?_) rfl rfl HS0.out (fun w' hw' => ?_) ?_; rotate_left; (· skip; go_simp; try with_reducible rfl); simp only [Act.put, List.setIfInBounds_toArray, List.set_cons_zero, List.set_cons_succ]
      refine plS_call 31 #[.agg a.cs, .int .u8 109] rfl rfl (by go_simp; try rfl) ?_
      refine (field_m a l _ HA.out (HSD.out.ext HS0.out)).mono ?_
      rintro e w3 ⟨v3, rfl, own3, e3⟩
      obtain ⟨A3, c3, rfl, see3⟩ := Sees.of_own own3
      refine ⟨_, rfl, HS0.out.trans e3, ?_⟩; simp only [Act.put, List.setIfInBounds_toArray, List.set_cons_zero, List.set_cons_succ]
      obtain ⟨v4, w4, hrun, own4, e4⟩ := push_bytes (a := w1) (own_ext (own_ext OWN.out (Ext.refl wr).drew) e3) see3 (by have h1 := bytesB_len HA.out HL.out ([104, 110, 109].take 2); have h2 := fieldB_len HA.out HL.out 109; have h3 : ([104, 110, 109].take 2 : List UInt8).length = 2 := rfl; rw [h3] at h1; omega) (HS0.out.trans e3)
      have own5 : w4.ownsRow w1.heap.size 5 1 v4 (bytesB a l ([104, 110, 109].take 3)).length (bs (bytesB a l ([104, 110, 109].take 3))) := by
        rw [show ([104, 110, 109].take 3 : List UInt8) = [104, 110, 109].take 2 ++ [109] from rfl, bytesB_snoc, List.length_append]; exact own4
      refine plS_run (w' := w4) v4 rfl rfl (exec_app (.tmp 15) (.tmp 20) _ rfl _ _ rfl rfl _ _ hrun) e4 ?_; simp only [Act.put, List.setIfInBounds_toArray, List.set_cons_zero, List.set_cons_succ]
      refine plS_val (v := ?_) rfl rfl e4 (fun w' hw' => ?_) ?_; rotate_left; (· skip; go_simp; try with_reducible rfl); simp only [Act.put, List.setIfInBounds_toArray, List.set_cons_zero, List.set_cons_succ]
      refine plS_done ?_
      have OWN4 := Lib.hid own5
      have E4 := Lib.hid e4
      clear own3 own4 own5 see3 hrun e4 e3
      go_wp2_with fail
      go_roundw
      case rel => exact ⟨3, rfl, by omega, OWN4.out, E4.out⟩
      case measure => simp [intOf]
    · go_wp2_with fail
      go_ret
      exact ⟨_, rfl, own_mono OWN.out (by have := E1.out.size; omega), E1.out.trans ER.out⟩
set_option maxRecDepth 20000 in
set_option maxHeartbeats 4000000 in
theorem bytes_hnij (a : AR) (l : List UInt8) (w : World) (ha : a.ok) (hl : l.length ≤ 2048) (hs : Sees w a.dA a.dn a.dk (bs l)) (hf : fld a.pr = [104, 110, 105, 106]) :
    Calls Try.prog 17 #[.agg a.cs] w fun e w' => ∃ v, e = .returned v ∧ w'.ownsRow w.heap.size 5 1 v (bytesB a l (fld a.pr)).length (bs (bytesB a l (fld a.pr))) ∧ Ext w w' := by
  have HF := Lib.hid (fun w => fields14 a.pr w)
  rw [hf] at HF ⊢
  obtain ⟨ab, hab⟩ : ∃ ab, w.heap.size = ab := ⟨_, rfl⟩
  obtain ⟨w1, hw1⟩ : ∃ w1, w.alloc (.cells a.cs 26) = w1 := ⟨_, rfl⟩
  have e1 : Ext w w1 := by rw [← hw1]; exact (Ext.refl w).alloc _
  have hb : w1.heap[ab]? = some (.cells a.cs 26 (0, 0)) := by rw [← hw1, ← hab]; exact heap_alloc_new w _
  have q : w1.cell? ⟨ab, 0, none⟩ = some (.int .i64 a.pr) := (cell_of_row w1 ab 0 _ _ _ hb).trans rfl
  have E1 := Lib.hid e1
  have HB := Lib.hid hb
  have HA := Lib.hid ha
  have HL := Lib.hid hl
  have HSD := Lib.hid (hs.ext e1)
  have HI := Lib.hid (arg_info a)
  clear e1 hb ha hs hf hl
  go_enter Try.func17, Try.ntmps17
  go_wp2_with fail
  refine (HF.out _).mono ?_
  rintro e w2 ⟨rfl, e2⟩
  have E2 := Lib.hid e2
  clear e2
  go_wp2_with fail
  go_loopw [4, 5] (fun b i wr => ∃ j : Nat, i = .int .i64 j ∧ j ≤ 4 ∧ wr.ownsRow w1.heap.size 5 1 b (bytesB a l ([104, 110, 105, 106].take j)).length (bs (bytesB a l ([104, 110, 105, 106].take j))) ∧ Ext w1 wr) (fun _ i _ => 4 - (intOf i).toNat)
  case atStart => exact ⟨0, rfl, by omega, World.ownsRow_nil _ _ _ _, E2.out⟩
  case round =>
    obtain ⟨j, rfl, hj, own, er⟩ := hrel
    have OWN := Lib.hid own
    have ER := Lib.hid er
    clear own er
    have hj2 : j = 0 ∨ j = 1 ∨ j = 2 ∨ j = 3 ∨ j = 4 := by omega
    rcases hj2 with rfl | rfl | rfl | rfl | rfl
    · go_wp2_with fail
      have HS0 : Hid (Ext w1 wr.drew) := Lib.hid ER.out.drew
      refine wp_region_plS (fun v : World => Ext w1 v) (.free 0 (.free 1 (.free 2 (.free 3 (.free 4 (.one 5 (.one 6 (.free 7 .nil)))))))) (by kernel_rfl) (by kernel_rfl) (by kernel_rfl) (by kernel_rfl) ?_
      refine plS_val (v := ?_) rfl rfl HS0.out (fun w' hw' => ?_) ?_; rotate_left; (· skip; go_simp; try with_reducible rfl); simp only [Act.put, List.setIfInBounds_toArray, List.set_cons_zero, List.set_cons_succ]
      refine plS_val (v := .agg a.cs) rfl rfl HS0.out (fun w' hw' => exec_loadSub 26 _ rfl ab 0 rfl 26 _ _ _ _ (hw'.heap HB.out) (fun j v h => by rw [Nat.zero_add]; exact h) Try.underlying26 rfl HI.out) ?_; simp only [Act.put, List.setIfInBounds_toArray, List.set_cons_zero, List.set_cons_succ]
      refine plS_val (v := ?_) rfl rfl HS0.out (fun w' hw' => ?_) ?_; rotate_left; (· skip; go_simp; try with_reducible rfl); simp only [Act.put, List.setIfInBounds_toArray, List.set_cons_zero, List.set_cons_succ]
      refine plS_val (v := ?_) rfl rfl HS0.out (fun w' hw' => ?_) ?_; rotate_left; (· skip; go_simp; try with_reducible rfl); simp only [Act.put, List.setIfInBounds_toArray, List.set_cons_zero, List.set_cons_succ]
      refine plS_val (v := ?_) rfl rfl HS0.out (fun w' hw' => ?_) ?_; rotate_left; (· skip; go_simp; try with_reducible rfl); simp only [Act.put, List.setIfInBounds_toArray, List.set_cons_zero, List.set_cons_succ]
      refine plS_call 31 #[.agg a.cs, .int .u8 104] rfl rfl (by go_simp; try rfl) ?_
      refine (field_h a l _ HA.out (HSD.out.ext HS0.out)).mono ?_
      rintro e w3 ⟨v3, rfl, own3, e3⟩
      obtain ⟨A3, c3, rfl, see3⟩ := Sees.of_own own3
      refine ⟨_, rfl, HS0.out.trans e3, ?_⟩; simp only [Act.put, List.setIfInBounds_toArray, List.set_cons_zero, List.set_cons_succ]
      obtain ⟨v4, w4, hrun, own4, e4⟩ := push_bytes (a := w1) (own_ext (own_ext OWN.out (Ext.refl wr).drew) e3) see3 (by have h1 := bytesB_len HA.out HL.out ([104, 110, 105, 106].take 0); have h2 := fieldB_len HA.out HL.out 104; have h3 : ([104, 110, 105, 106].take 0 : List UInt8).length = 0 := rfl; rw [h3] at h1; omega) (HS0.out.trans e3)
      have own5 : w4.ownsRow w1.heap.size 5 1 v4 (bytesB a l ([104, 110, 105, 106].take 1)).length (bs (bytesB a l ([104, 110, 105, 106].take 1))) := by
        rw [show ([104, 110, 105, 106].take 1 : List UInt8) = [104, 110, 105, 106].take 0 ++ [104] from rfl, bytesB_snoc, List.length_append]; exact own4
      refine plS_run (w' := w4) v4 rfl rfl (exec_app (.tmp 15) (.tmp 20) _ rfl _ _ rfl rfl _ _ hrun) e4 ?_; simp only [Act.put, List.setIfInBounds_toArray, List.set_cons_zero, List.set_cons_succ]
      refine plS_val (v := ?_) rfl rfl e4 (fun w' hw' => ?_) ?_; rotate_left; (· skip; go_simp; try with_reducible rfl); simp only [Act.put, List.setIfInBounds_toArray, List.set_cons_zero, List.set_cons_succ]
      refine plS_done ?_
      have OWN4 := Lib.hid own5
      have E4 := Lib.hid e4
      clear own3 own4 own5 see3 hrun e4 e3
      go_wp2_with fail
      go_roundw
      case rel => exact ⟨1, rfl, by omega, OWN4.out, E4.out⟩
      case measure => simp [intOf]
    · go_wp2_with fail
      have HS0 : Hid (Ext w1 wr.drew) := Lib.hid ER.out.drew
      refine wp_region_plS (fun v : World => Ext w1 v) (.free 0 (.free 1 (.free 2 (.free 3 (.free 4 (.one 5 (.one 6 (.free 7 .nil)))))))) (by kernel_rfl) (by kernel_rfl) (by kernel_rfl) (by kernel_rfl) ?_
      refine plS_val (v := ?_) rfl rfl HS0.out (fun w' hw' => ?_) ?_; rotate_left; (· skip; go_simp; try with_reducible rfl); simp only [Act.put, List.setIfInBounds_toArray, List.set_cons_zero, List.set_cons_succ]
      refine plS_val (v := .agg a.cs) rfl rfl HS0.out (fun w' hw' => exec_loadSub 26 _ rfl ab 0 rfl 26 _ _ _ _ (hw'.heap HB.out) (fun j v h => by rw [Nat.zero_add]; exact h) Try.underlying26 rfl HI.out) ?_; simp only [Act.put, List.setIfInBounds_toArray, List.set_cons_zero, List.set_cons_succ]
      refine plS_val (v := ?_) rfl rfl HS0.out (fun w' hw' => ?_) ?_; rotate_left; (· skip; go_simp; try with_reducible rfl); simp only [Act.put, List.setIfInBounds_toArray, List.set_cons_zero, List.set_cons_succ]
      refine plS_val (v := ?_) rfl rfl HS0.out (fun w' hw' => ?_) ?_; rotate_left; (· skip; go_simp; try with_reducible rfl); simp only [Act.put, List.setIfInBounds_toArray, List.set_cons_zero, List.set_cons_succ]
      refine plS_val (v := ?_) rfl rfl HS0.out (fun w' hw' => ?_) ?_; rotate_left; (· skip; go_simp; try with_reducible rfl); simp only [Act.put, List.setIfInBounds_toArray, List.set_cons_zero, List.set_cons_succ]
      refine plS_call 31 #[.agg a.cs, .int .u8 110] rfl rfl (by go_simp; try rfl) ?_
      refine (field_n a l _ HA.out (HSD.out.ext HS0.out)).mono ?_
      rintro e w3 ⟨v3, rfl, own3, e3⟩
      obtain ⟨A3, c3, rfl, see3⟩ := Sees.of_own own3
      refine ⟨_, rfl, HS0.out.trans e3, ?_⟩; simp only [Act.put, List.setIfInBounds_toArray, List.set_cons_zero, List.set_cons_succ]
      obtain ⟨v4, w4, hrun, own4, e4⟩ := push_bytes (a := w1) (own_ext (own_ext OWN.out (Ext.refl wr).drew) e3) see3 (by have h1 := bytesB_len HA.out HL.out ([104, 110, 105, 106].take 1); have h2 := fieldB_len HA.out HL.out 110; have h3 : ([104, 110, 105, 106].take 1 : List UInt8).length = 1 := rfl; rw [h3] at h1; omega) (HS0.out.trans e3)
      have own5 : w4.ownsRow w1.heap.size 5 1 v4 (bytesB a l ([104, 110, 105, 106].take 2)).length (bs (bytesB a l ([104, 110, 105, 106].take 2))) := by
        rw [show ([104, 110, 105, 106].take 2 : List UInt8) = [104, 110, 105, 106].take 1 ++ [110] from rfl, bytesB_snoc, List.length_append]; exact own4
      refine plS_run (w' := w4) v4 rfl rfl (exec_app (.tmp 15) (.tmp 20) _ rfl _ _ rfl rfl _ _ hrun) e4 ?_; simp only [Act.put, List.setIfInBounds_toArray, List.set_cons_zero, List.set_cons_succ]
      refine plS_val (v := ?_) rfl rfl e4 (fun w' hw' => ?_) ?_; rotate_left; (· skip; go_simp; try with_reducible rfl); simp only [Act.put, List.setIfInBounds_toArray, List.set_cons_zero, List.set_cons_succ]
      refine plS_done ?_
      have OWN4 := Lib.hid own5
      have E4 := Lib.hid e4
      clear own3 own4 own5 see3 hrun e4 e3
      go_wp2_with fail
      go_roundw
      case rel => exact ⟨2, rfl, by omega, OWN4.out, E4.out⟩
      case measure => simp [intOf]
    · go_wp2_with fail
      have HS0 : Hid (Ext w1 wr.drew) := Lib.hid ER.out.drew
      refine wp_region_plS (fun v : World => Ext w1 v) (.free 0 (.free 1 (.free 2 (.free 3 (.free 4 (.one 5 (.one 6 (.free 7 .nil)))))))) (by kernel_rfl) (by kernel_rfl) (by kernel_rfl) (by kernel_rfl) ?_
      refine plS_val (v := ?_) rfl rfl HS0.out (fun w' hw' => ?_) ?_; rotate_left; (· skip; go_simp; try with_reducible rfl); simp only [Act.put, List.setIfInBounds_toArray, List.set_cons_zero, List.set_cons_succ]
      refine plS_val (v := .agg a.cs) rfl rfl HS0.out (fun w' hw' => exec_loadSub 26 _ rfl ab 0 rfl 26 _ _ _ _ (hw'.heap HB.out) (fun j v h => by rw [Nat.zero_add]; exact h) Try.underlying26 rfl HI.out) ?_; simp only [Act.put, List.setIfInBounds_toArray, List.set_cons_zero, List.set_cons_succ]
      refine plS_val (v := ?_) rfl rfl HS0.out (fun w' hw' => ?_) ?_; rotate_left; (· skip; go_simp; try with_reducible rfl); simp only [Act.put, List.setIfInBounds_toArray, List.set_cons_zero, List.set_cons_succ]
      refine plS_val (v := ?_) rfl rfl HS0.out (fun w' hw' => ?_) ?_; rotate_left; (· skip; go_simp; try with_reducible rfl); simp only [Act.put, List.setIfInBounds_toArray, List.set_cons_zero, List.set_cons_succ]
      refine plS_val (v := ?_) rfl rfl HS0.out (fun w' hw' => ?_) ?_; rotate_left; (· skip; go_simp; try with_reducible rfl); simp only [Act.put, List.setIfInBounds_toArray, List.set_cons_zero, List.set_cons_succ]
      refine plS_call 31 #[.agg a.cs, .int .u8 105] rfl rfl (by go_simp; try rfl) ?_
      refine (field_i a l _ HA.out (HSD.out.ext HS0.out)).mono ?_
      rintro e w3 ⟨v3, rfl, own3, e3⟩
      obtain ⟨A3, c3, rfl, see3⟩ := Sees.of_own own3
      refine ⟨_, rfl, HS0.out.trans e3, ?_⟩; simp only [Act.put, List.setIfInBounds_toArray, List.set_cons_zero, List.set_cons_succ]
      obtain ⟨v4, w4, hrun, own4, e4⟩ := push_bytes (a := w1) (own_ext (own_ext OWN.out (Ext.refl wr).drew) e3) see3 (by have h1 := bytesB_len HA.out HL.out ([104, 110, 105, 106].take 2); have h2 := fieldB_len HA.out HL.out 105; have h3 : ([104, 110, 105, 106].take 2 : List UInt8).length = 2 := rfl; rw [h3] at h1; omega) (HS0.out.trans e3)
      have own5 : w4.ownsRow w1.heap.size 5 1 v4 (bytesB a l ([104, 110, 105, 106].take 3)).length (bs (bytesB a l ([104, 110, 105, 106].take 3))) := by
        rw [show ([104, 110, 105, 106].take 3 : List UInt8) = [104, 110, 105, 106].take 2 ++ [105] from rfl, bytesB_snoc, List.length_append]; exact own4
      refine plS_run (w' := w4) v4 rfl rfl (exec_app (.tmp 15) (.tmp 20) _ rfl _ _ rfl rfl _ _ hrun) e4 ?_; simp only [Act.put, List.setIfInBounds_toArray, List.set_cons_zero, List.set_cons_succ]
      refine plS_val (v := ?_) rfl rfl e4 (fun w' hw' => ?_) ?_; rotate_left; (· skip; go_simp; try with_reducible rfl); simp only [Act.put, List.setIfInBounds_toArray, List.set_cons_zero, List.set_cons_succ]
      refine plS_done ?_
      have OWN4 := Lib.hid own5
      have E4 := Lib.hid e4
      clear own3 own4 own5 see3 hrun e4 e3
      go_wp2_with fail
      go_roundw
      case rel => exact ⟨3, rfl, by omega, OWN4.out, E4.out⟩
      case measure => simp [intOf]
    · go_wp2_with fail
      have HS0 : Hid (Ext w1 wr.drew) := Lib.hid ER.out.drew
      refine wp_region_plS (fun v : World => Ext w1 v) (.free 0 (.free 1 (.free 2 (.free 3 (.free 4 (.one 5 (.one 6 (.free 7 .nil)))))))) (by kernel_rfl) (by kernel_rfl) (by kernel_rfl) (by kernel_rfl) ?_
      refine plS_val (v := ?_) rfl rfl HS0.out (fun w' hw' => ?_) ?_; rotate_left; (· skip; go_simp; try with_reducible rfl); simp only [Act.put, List.setIfInBounds_toArray, List.set_cons_zero, List.set_cons_succ]
      refine plS_val (v := .agg a.cs) rfl rfl HS0.out (fun w' hw' => exec_loadSub 26 _ rfl ab 0 rfl 26 _ _ _ _ (hw'.heap HB.out) (fun j v h => by rw [Nat.zero_add]; exact h) Try.underlying26 rfl HI.out) ?_; simp only [Act.put, List.setIfInBounds_toArray, List.set_cons_zero, List.set_cons_succ]
      refine plS_val (v := ?_) rfl rfl HS0.out (fun w' hw' => ?_) ?_; rotate_left; (· skip; go_simp; try with_reducible rfl); simp only [Act.put, List.setIfInBounds_toArray, List.set_cons_zero, List.set_cons_succ]
      refine plS_val (v := ?_) rfl rfl HS0.out (fun w' hw' => ?_) ?_; rotate_left; (· skip; go_simp; try with_reducible rfl); simp only [Act.put, List.setIfInBounds_toArray, List.set_cons_zero, List.set_cons_succ]
      refine plS_val (v := ?_) rfl rfl HS0.out (fun w' hw' => ?_) ?_; rotate_left; (· skip; go_simp; try with_reducible rfl); simp only [Act.put, List.setIfInBounds_toArray, List.set_cons_zero, List.set_cons_succ]
      refine plS_call 31 #[.agg a.cs, .int .u8 106] rfl rfl (by go_simp; try rfl) ?_
      refine (field_j a l _ HA.out (HSD.out.ext HS0.out)).mono ?_
      rintro e w3 ⟨v3, rfl, own3, e3⟩
      obtain ⟨A3, c3, rfl, see3⟩ := Sees.of_own own3
      refine ⟨_, rfl, HS0.out.trans e3, ?_⟩; simp only [Act.put, List.setIfInBounds_toArray, List.set_cons_zero, List.set_cons_succ]
      obtain ⟨v4, w4, hrun, own4, e4⟩ := push_bytes (a := w1) (own_ext (own_ext OWN.out (Ext.refl wr).drew) e3) see3 (by have h1 := bytesB_len HA.out HL.out ([104, 110, 105, 106].take 3); have h2 := fieldB_len HA.out HL.out 106; have h3 : ([104, 110, 105, 106].take 3 : List UInt8).length = 3 := rfl; rw [h3] at h1; omega) (HS0.out.trans e3)
      have own5 : w4.ownsRow w1.heap.size 5 1 v4 (bytesB a l ([104, 110, 105, 106].take 4)).length (bs (bytesB a l ([104, 110, 105, 106].take 4))) := by
        rw [show ([104, 110, 105, 106].take 4 : List UInt8) = [104, 110, 105, 106].take 3 ++ [106] from rfl, bytesB_snoc, List.length_append]; exact own4
      refine plS_run (w' := w4) v4 rfl rfl (exec_app (.tmp 15) (.tmp 20) _ rfl _ _ rfl rfl _ _ hrun) e4 ?_; simp only [Act.put, List.setIfInBounds_toArray, List.set_cons_zero, List.set_cons_succ]
      refine plS_val (v := ?_) rfl rfl e4 (fun w' hw' => ?_) ?_; rotate_left; (· skip; go_simp; try with_reducible rfl); simp only [Act.put, List.setIfInBounds_toArray, List.set_cons_zero, List.set_cons_succ]
      refine plS_done ?_
      have OWN4 := Lib.hid own5
      have E4 := Lib.hid e4
      clear own3 own4 own5 see3 hrun e4 e3
      go_wp2_with fail
      go_roundw
      case rel => exact ⟨4, rfl, by omega, OWN4.out, E4.out⟩
      case measure => simp [intOf]
    · go_wp2_with fail
      go_ret
      exact ⟨_, rfl, own_mono OWN.out (by have := E1.out.size; omega), E1.out.trans ER.out⟩
theorem bytes14 (a : AR) (l : List UInt8) (w : World) (ha : a.ok) (hl : l.length ≤ 2048) (hs : Sees w a.dA a.dn a.dk (bs l)) : Calls Try.prog 17 #[.agg a.cs] w fun e w' => ∃ v, e = .returned v ∧ w'.ownsRow w.heap.size 5 1 v (bytesB a l (fld a.pr)).length (bs (bytesB a l (fld a.pr))) ∧ Ext w w' := by
  by_cases n1 : a.pr = 1
  · exact bytes_h a l w ha hl hs (by rw [n1]; rfl)
  by_cases n2 : a.pr = 2
  · exact bytes_hs a l w ha hl hs (by rw [n2]; rfl)
  by_cases n3 : a.pr = 3
  · exact bytes_hn a l w ha hl hs (by rw [n3]; rfl)
  by_cases n12 : a.pr = 12
  · exact bytes_hn a l w ha hl hs (by rw [n12]; rfl)
  by_cases n13 : a.pr = 13
  · exact bytes_hn a l w ha hl hs (by rw [n13]; rfl)
  by_cases n6 : a.pr = 6
  · exact bytes_hoc a l w ha hl hs (by rw [n6]; rfl)
  by_cases n16 : a.pr = 16
  · exact bytes_hoc a l w ha hl hs (by rw [n16]; rfl)
  by_cases n7 : a.pr = 7
  · exact bytes_hod a l w ha hl hs (by rw [n7]; rfl)
  by_cases n8 : a.pr = 8
  · exact bytes_hnm a l w ha hl hs (by rw [n8]; rfl)
  by_cases n9 : a.pr = 9
  · exact bytes_hnm a l w ha hl hs (by rw [n9]; rfl)
  by_cases n14 : a.pr = 14
  · exact bytes_hnij a l w ha hl hs (by rw [n14]; rfl)
  exact bytes_none a l w ha hl hs (by simp only [fld, n1, n2, n3, n12, n13, n6, n16, n7, n8, n9, n14, if_false])
end Go.Proofs.Ytpjigdfllbhknaa
