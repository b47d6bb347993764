/-
  Layer 8: the search for a row.
-/
import Derived.Test.YtgbdaohigpnmeaaRRRDoorCodA
namespace Go.Proofs.YtgbdaohigpnmeaaRRRDoor
open Go Go.RowKit
set_option linter.unusedVariables false
set_option linter.unusedSimpArgs false

/-- The first row that is hit; that of IO, if none is. -/
def fstC (hit : Nat → Bool) : Nat := ((List.range 19).find? hit).getD 15
theorem fst_hit {hit : Nat → Bool} {k : Nat} (hk : k < 19) (h : hit k = true) (hn : ∀ j, j < k → hit j = false) : fstC hit = k := by
  unfold fstC
  have : (List.range 19).find? hit = some k := by
    rw [List.find?_range_eq_some]
    exact ⟨h, by simpa using hk, fun j hj => by simpa using hn j hj⟩
  rw [this]
  rfl
theorem fst_none {hit : Nat → Bool} (hn : ∀ j, j < 19 → hit j = false) : fstC hit = 15 := by
  unfold fstC
  have : (List.range 19).find? hit = none := by
    rw [List.find?_eq_none]
    intro j hj
    have := hn j (by simpa using hj)
    simp [this]
  rw [this]
  rfl

set_option maxHeartbeats 1000000 in
theorem find_err (e : Int) (g : Nat) (t : TypeId) (fr : Nat × Nat) (w : World) (ht : Tab w) (hg : w.heap[g]? = some (.cells #[.int .i64 e] t fr)) :
    Calls Tryd.prog 24 #[.func (.func 27) #[] #[.pointer (some ⟨g, 0, none⟩)]] w fun x w' => x = .returned (.agg (rowC (fstC fun k => errs.getD k 0 == e))) ∧ Ext w w' := by
  have hgW : ∀ o o2, ∃ t fr, ((w.alloc o).alloc o2).heap[0]? = some (.cells tabC t fr) := fun o o2 => ht.ext (((Ext.refl w).alloc o).alloc o2)
  have hsz : (Tryd.prog.info? 44).map (·.size) = some tabC.size := by rw [tabC_size]; kernel_rfl
  have HW := Lib.hid hgW
  have HZ := Lib.hid hsz
  have HB := Lib.hid hg
  have hsz4 : (Tryd.prog.info? 38).map (·.size) = some 4 := by kernel_rfl
  have HZ4 := Lib.hid hsz4
  clear hgW hsz hg hsz4
  go_enter Tryd.func24, Tryd.ntmps24
  obtain ⟨t0, fr0, hg0⟩ := HW.out (.cells #[.int .i64 0, .int .u32 0, .int .i64 0, .string ⟨#[]⟩] 38) (.cells #[.int .i64 0, .int .u32 0, .int .i64 0, .string ⟨#[]⟩] 38)
  have hr2 := heap_alloc2_old w (.cells #[.int .i64 0, .int .u32 0, .int .i64 0, .string ⟨#[]⟩] 38) (.cells #[.int .i64 0, .int .u32 0, .int .i64 0, .string ⟨#[]⟩] 38)
  have hr3 := heap_alloc2_new w (.cells #[.int .i64 0, .int .u32 0, .int .i64 0, .string ⟨#[]⟩] 38) (.cells #[.int .i64 0, .int .u32 0, .int .i64 0, .string ⟨#[]⟩] 38)
  have e0 : Ext w ((w.alloc (.cells #[.int .i64 0, .int .u32 0, .int .i64 0, .string ⟨#[]⟩] 38)).alloc (.cells #[.int .i64 0, .int .u32 0, .int .i64 0, .string ⟨#[]⟩] 38)) := ((Ext.refl w).alloc _).alloc _
  have HR2 := Lib.hid hr2
  have HR3 := Lib.hid hr3
  clear hr2 hr3
  go_wp2_with (first | (with_reducible refine wpList_load_row rfl 44 (.global 0) rfl 0 rfl t0 tabC fr0 _ hg0 Tryd.underlying44 rfl HZ.out ?_) | fail)
  generalize (w.alloc (.cells #[.int .i64 0, .int .u32 0, .int .i64 0, .string ⟨#[]⟩] 38)).alloc (.cells #[.int .i64 0, .int .u32 0, .int .i64 0, .string ⟨#[]⟩] 38) = w1 at *
  generalize hgb : w.heap.size = gb at *
  have HGB := Lib.hid hgb
  clear hg0 hgb
  go_loopw [7] (fun i wr => ∃ (k : Nat) (n1 n2 n3 : Int) (n4 : ByteArray), k ≤ 19 ∧ i = .int .i64 k ∧ (∀ j, j < k → (fun k : Nat => errs.getD k 0 == e) j = false) ∧ (15 < k → #[Value.int .i64 n1, .int .u32 n2, .int .i64 n3, .string n4] = rowC 15) ∧ wr.heap[gb + 1]? = some (.cells #[.int .i64 n1, .int .u32 n2, .int .i64 n3, .string n4] 38) ∧ wr.heap[gb]? = some (.cells #[.int .i64 0, .int .u32 0, .int .i64 0, .string ⟨#[]⟩] 38) ∧ Ext w wr) (fun i _ => 19 - (intOf i).toNat)
  case atStart => exact ⟨0, _, _, _, _, by omega, rfl, by simp, by omega, HR3.out, HR2.out, e0⟩
  case round =>
    obtain ⟨k, n1, n2, n3, n4, hk, rfl, hno, h15, hb3, hb2, ext⟩ := hrel
    have HNo := Lib.hid hno
    have H15 := Lib.hid h15
    clear hno h15
    by_cases hlt : k < 19
    · have hidx := idx_tab k hlt
      have hE : errs.getD k 0 = 21 ↔ k = 15 := by
        have : k = 0 ∨ k = 1 ∨ k = 2 ∨ k = 3 ∨ k = 4 ∨ k = 5 ∨ k = 6 ∨ k = 7 ∨ k = 8 ∨ k = 9 ∨ k = 10 ∨ k = 11 ∨ k = 12 ∨ k = 13 ∨ k = 14 ∨ k = 15 ∨ k = 16 ∨ k = 17 ∨ k = 18 := by omega
        rcases this with rfl | rfl | rfl | rfl | rfl | rfl | rfl | rfl | rfl | rfl | rfl | rfl | rfl | rfl | rfl | rfl | rfl | rfl | rfl
        all_goals simp [errs]
      have HE := Lib.hid hE
      clear hE
      generalize hrw : rowC k = row at *
      unfold rowC at hrw
      obtain ⟨r1, hr1⟩ : ∃ r, r = errs.getD k 0 := ⟨_, rfl⟩
      obtain ⟨r2, hr2⟩ : ∃ r, r = sts.getD k 0 := ⟨_, rfl⟩
      obtain ⟨r4, hr4⟩ : ∃ r, r = txs.getD k [] := ⟨_, rfl⟩
      rw [← hr1, ← hr2, ← hr4] at hrw
      rw [← hr1] at HE
      have HRW : Hid (rowC k = #[.int .i64 r1, .int .u32 r2, .int .i64 (k : Int), .string ⟨r4.toArray⟩]) := Lib.hid (by unfold rowC; rw [← hr1, ← hr2, ← hr4])
      have hclo : ∀ w', Ext w w' → Calls Tryd.prog 27 #[.agg #[.int .i64 r1, .int .u32 r2, .int .i64 (k : Int), .string ⟨r4.toArray⟩], .pointer (some ⟨g, 0, none⟩)] w' fun x w'' => x = .returned (.bool (r1 == e)) ∧ Ext w' w'' := fun w' he => by
        have h := clo_err k g e t fr w' (Ext.heap (a := w) he HB.out)
        unfold rowC at h
        rw [← hr1, ← hr2, ← hr4] at h
        exact h
      have HClo := Lib.hid hclo
      clear hclo
      subst hrw
      have HR1 := Lib.hid hr1
      have HR2' := Lib.hid hr2
      clear hr1 hr2 hr4
      go_wp2_with fail
      refine (HClo.out _ (ext.alloc _)).mono ?_
      rintro x w2 ⟨rfl, e2⟩
      have eA : Ext wr (wr.alloc (.cells #[.int .i64 r1, .int .u32 r2, .int .i64 (k : Int), .string ⟨r4.toArray⟩] 38)) := (Ext.refl _).alloc _
      have hbr := e2.heap (heap_alloc_new wr (.cells #[.int .i64 r1, .int .u32 r2, .int .i64 (k : Int), .string ⟨r4.toArray⟩] 38))
      have hb2' := e2.heap (eA.heap hb2)
      have hb3' := e2.heap (eA.heap hb3)
      have ext2 := (ext.trans eA).trans e2
      have hc0 := cell_of_row w2 wr.heap.size 0 _ _ _ hbr
      simp at hc0
      have HB2 := Lib.hid hb2'
      have HB3 := Lib.hid hb3'
      have HZr : Hid ((Tryd.prog.info? 38).map (·.size) = some (Array.size (α := Value) #[Value.int .i64 r1, .int .u32 r2, .int .i64 (k : Int), .string ⟨r4.toArray⟩])) := Lib.hid (by have h := HZ4.out; exact h)
      have HZs : Hid ((#[.int .i64 0, .int .u32 0, .int .i64 0, .string ⟨#[]⟩] : Array Value).size = #[Value.int .i64 r1, .int .u32 r2, .int .i64 (k : Int), .string ⟨r4.toArray⟩].size) := Lib.hid rfl
      have HZt : Hid ((#[Value.int .i64 n1, .int .u32 n2, .int .i64 n3, .string n4] : Array Value).size = #[Value.int .i64 r1, .int .u32 r2, .int .i64 (k : Int), .string ⟨r4.toArray⟩].size) := Lib.hid rfl
      have HZu : Hid (#[Value.int .i64 r1, .int .u32 r2, .int .i64 (k : Int), .string ⟨r4.toArray⟩].all (·.oneCell') = true) := Lib.hid (by simp [Value.oneCell'])
      have hgr : gb + 1 < wr.heap.size := (Array.getElem?_eq_some_iff.1 hb3).1
      clear hb2 hb3 hb2' hb3' eA e2 ext hidx
      generalize wr.heap.size = gr at *
      by_cases hh : (r1 == e) = true
      · have hfst : fstC (fun k => errs.getD k 0 == e) = k := fst_hit hlt (by rw [HR1.out] at hh; exact hh) HNo.out
        have hrowf : rowC (fstC fun k => errs.getD k 0 == e) = #[.int .i64 r1, .int .u32 r2, .int .i64 (k : Int), .string ⟨r4.toArray⟩] := by rw [hfst, HRW.out]
        have HRF := Lib.hid hrowf
        rw [hh]
        have HGs := Lib.hid (setRow_heap w2 gb _ #[.int .i64 r1, .int .u32 r2, .int .i64 (k : Int), .string ⟨r4.toArray⟩] _ _ HB2.out)
        have exts : Ext w (w2.setRow gb #[.int .i64 r1, .int .u32 r2, .int .i64 (k : Int), .string ⟨r4.toArray⟩]) := below_setRow ext2 (Nat.le_of_eq HGB.out) _
        clear hfst hrowf hh
        go_wp2_with (first | (with_reducible refine wpList_load_row rfl 38 (.tmp 5) rfl gr rfl _ _ _ _ hbr Tryd.underlying38 rfl HZr.out ?_) | (with_reducible refine wpList_store_row rfl 38 (.tmp 2) (.tmp 13) rfl gb _ rfl rfl _ _ HB2.out HZr.out HZs.out HZu.out ?_) | fail)
        refine bodyPost_ret (results_cell_row rfl _ _ gb _ _ (0, 0) _ rfl HGs.out Tryd.underlying38 rfl HZr.out) rfl ?_
        exact ⟨congrArg (fun z => Ending.returned (Value.agg z)) HRF.out.symm, exts⟩
      · replace hh : (r1 == e) = false := by simpa using hh
        have hno2 : ∀ j, j < k + 1 → (fun k : Nat => errs.getD k 0 == e) j = false := fun j hj => by
          by_cases hjk : j = k
          · subst hjk
            rw [HR1.out] at hh
            exact hh
          · exact HNo.out j (by omega)
        have HNo2 := Lib.hid hno2
        rw [hh]
        clear hno2 hh
        by_cases hk15 : k = 15
        · have hr21 := HE.out.2 hk15
          have HQ15 : Hid (k = 15) := Lib.hid hk15
          have hb21 : (r1 == 21) = true := by rw [hr21]; rfl
          have hgt := setRow_heap w2 (gb + 1) _ #[Value.int .i64 r1, .int .u32 r2, .int .i64 (k : Int), .string ⟨r4.toArray⟩] _ _ HB3.out
          have hot := setRow_other w2 (gb + 1) gb #[Value.int .i64 r1, .int .u32 r2, .int .i64 (k : Int), .string ⟨r4.toArray⟩] (by omega)
          have exts : Ext w (w2.setRow (gb + 1) #[Value.int .i64 r1, .int .u32 r2, .int .i64 (k : Int), .string ⟨r4.toArray⟩]) := below_setRow ext2 (by rw [HGB.out]; omega) _
          have HGt := Lib.hid hgt
          have HOt : Hid (_ = _) := Lib.hid (hot.trans HB2.out)
          clear hr21 hk15 hgt hot
          go_wp2_with (first | (with_reducible refine wpList_load_row rfl 38 (.tmp 5) rfl gr rfl _ _ _ _ hbr Tryd.underlying38 rfl HZr.out ?_) | (with_reducible refine wpList_store_row rfl 38 (.tmp 3) (.tmp 17) rfl (gb + 1) _ rfl rfl _ _ HB3.out HZr.out HZt.out HZu.out ?_) | fail)
          go_roundw
          case rel => exact ⟨k + 1, _, _, _, _, by omega, by go_num, HNo2.out, fun _ => by rw [← HRW.out, HQ15.out], HGt.out, HOt.out, exts⟩
          case measure => simp [intOf]; omega
        · have hr21 : ¬ r1 = 21 := fun h => hk15 (HE.out.1 h)
          have hb21 : (r1 == 21) = false := by simpa using hr21
          have H16 : Hid (15 < k + 1 → 15 < k) := Lib.hid (by omega)
          clear hr21 hk15
          go_wp2_with fail
          go_roundw
          case rel => exact ⟨k + 1, _, _, _, _, by omega, by go_num, HNo2.out, fun h => H15.out (H16.out h), HB3.out, HB2.out, ext2⟩
          case measure => simp [intOf]; omega
    · obtain rfl : k = 19 := by omega
      have hfst : fstC (fun k => errs.getD k 0 == e) = 15 := fst_none HNo.out
      have hrowf : rowC (fstC fun k => errs.getD k 0 == e) = #[.int .i64 n1, .int .u32 n2, .int .i64 n3, .string n4] := by rw [hfst, H15.out (by omega)]
      have HRF := Lib.hid hrowf
      have HZr : Hid ((Tryd.prog.info? 38).map (·.size) = some (Array.size (α := Value) #[Value.int .i64 n1, .int .u32 n2, .int .i64 n3, .string n4])) := Lib.hid (by have h := HZ4.out; exact h)
      have HZs : Hid ((#[.int .i64 0, .int .u32 0, .int .i64 0, .string ⟨#[]⟩] : Array Value).size = (#[Value.int .i64 n1, .int .u32 n2, .int .i64 n3, .string n4]).size) := Lib.hid rfl
      have HZu : Hid ((#[Value.int .i64 n1, .int .u32 n2, .int .i64 n3, .string n4]).all (·.oneCell') = true) := Lib.hid (by simp [Value.oneCell'])
      have HGs := Lib.hid (setRow_heap wr gb _ #[.int .i64 n1, .int .u32 n2, .int .i64 n3, .string n4] _ _ hb2)
      have exts : Ext w (wr.setRow gb #[.int .i64 n1, .int .u32 n2, .int .i64 n3, .string n4]) := below_setRow ext (Nat.le_of_eq HGB.out) _
      have HB2 := Lib.hid hb2
      have HB3 := Lib.hid hb3
      clear hfst hrowf hb2 hb3 hlt
      go_wp2_with (first | (with_reducible refine wpList_load_row rfl 38 (.tmp 3) rfl (gb + 1) rfl _ _ _ _ HB3.out Tryd.underlying38 rfl HZr.out ?_) | (with_reducible refine wpList_store_row rfl 38 (.tmp 2) (.tmp 19) rfl gb _ rfl rfl _ _ HB2.out HZr.out HZs.out HZu.out ?_) | fail)
      refine bodyPost_ret (results_cell_row rfl _ _ gb _ _ (0, 0) _ rfl HGs.out Tryd.underlying38 rfl HZr.out) rfl ?_
      exact ⟨congrArg (fun z => Ending.returned (Value.agg z)) HRF.out.symm, exts⟩
set_option maxHeartbeats 1000000 in
theorem find_st (e : Int) (g : Nat) (t : TypeId) (fr : Nat × Nat) (w : World) (ht : Tab w) (hg : w.heap[g]? = some (.cells #[.int .u32 e] t fr)) :
    Calls Tryd.prog 24 #[.func (.func 25) #[] #[.pointer (some ⟨g, 0, none⟩)]] w fun x w' => x = .returned (.agg (rowC (fstC fun k => sts.getD k 0 == e))) ∧ Ext w w' := by
  have hgW : ∀ o o2, ∃ t fr, ((w.alloc o).alloc o2).heap[0]? = some (.cells tabC t fr) := fun o o2 => ht.ext (((Ext.refl w).alloc o).alloc o2)
  have hsz : (Tryd.prog.info? 44).map (·.size) = some tabC.size := by rw [tabC_size]; kernel_rfl
  have HW := Lib.hid hgW
  have HZ := Lib.hid hsz
  have HB := Lib.hid hg
  have hsz4 : (Tryd.prog.info? 38).map (·.size) = some 4 := by kernel_rfl
  have HZ4 := Lib.hid hsz4
  clear hgW hsz hg hsz4
  go_enter Tryd.func24, Tryd.ntmps24
  obtain ⟨t0, fr0, hg0⟩ := HW.out (.cells #[.int .i64 0, .int .u32 0, .int .i64 0, .string ⟨#[]⟩] 38) (.cells #[.int .i64 0, .int .u32 0, .int .i64 0, .string ⟨#[]⟩] 38)
  have hr2 := heap_alloc2_old w (.cells #[.int .i64 0, .int .u32 0, .int .i64 0, .string ⟨#[]⟩] 38) (.cells #[.int .i64 0, .int .u32 0, .int .i64 0, .string ⟨#[]⟩] 38)
  have hr3 := heap_alloc2_new w (.cells #[.int .i64 0, .int .u32 0, .int .i64 0, .string ⟨#[]⟩] 38) (.cells #[.int .i64 0, .int .u32 0, .int .i64 0, .string ⟨#[]⟩] 38)
  have e0 : Ext w ((w.alloc (.cells #[.int .i64 0, .int .u32 0, .int .i64 0, .string ⟨#[]⟩] 38)).alloc (.cells #[.int .i64 0, .int .u32 0, .int .i64 0, .string ⟨#[]⟩] 38)) := ((Ext.refl w).alloc _).alloc _
  have HR2 := Lib.hid hr2
  have HR3 := Lib.hid hr3
  clear hr2 hr3
  go_wp2_with (first | (with_reducible refine wpList_load_row rfl 44 (.global 0) rfl 0 rfl t0 tabC fr0 _ hg0 Tryd.underlying44 rfl HZ.out ?_) | fail)
  generalize (w.alloc (.cells #[.int .i64 0, .int .u32 0, .int .i64 0, .string ⟨#[]⟩] 38)).alloc (.cells #[.int .i64 0, .int .u32 0, .int .i64 0, .string ⟨#[]⟩] 38) = w1 at *
  generalize hgb : w.heap.size = gb at *
  have HGB := Lib.hid hgb
  clear hg0 hgb
  go_loopw [7] (fun i wr => ∃ (k : Nat) (n1 n2 n3 : Int) (n4 : ByteArray), k ≤ 19 ∧ i = .int .i64 k ∧ (∀ j, j < k → (fun k : Nat => sts.getD k 0 == e) j = false) ∧ (15 < k → #[Value.int .i64 n1, .int .u32 n2, .int .i64 n3, .string n4] = rowC 15) ∧ wr.heap[gb + 1]? = some (.cells #[.int .i64 n1, .int .u32 n2, .int .i64 n3, .string n4] 38) ∧ wr.heap[gb]? = some (.cells #[.int .i64 0, .int .u32 0, .int .i64 0, .string ⟨#[]⟩] 38) ∧ Ext w wr) (fun i _ => 19 - (intOf i).toNat)
  case atStart => exact ⟨0, _, _, _, _, by omega, rfl, by simp, by omega, HR3.out, HR2.out, e0⟩
  case round =>
    obtain ⟨k, n1, n2, n3, n4, hk, rfl, hno, h15, hb3, hb2, ext⟩ := hrel
    have HNo := Lib.hid hno
    have H15 := Lib.hid h15
    clear hno h15
    by_cases hlt : k < 19
    · have hidx := idx_tab k hlt
      have hE : errs.getD k 0 = 21 ↔ k = 15 := by
        have : k = 0 ∨ k = 1 ∨ k = 2 ∨ k = 3 ∨ k = 4 ∨ k = 5 ∨ k = 6 ∨ k = 7 ∨ k = 8 ∨ k = 9 ∨ k = 10 ∨ k = 11 ∨ k = 12 ∨ k = 13 ∨ k = 14 ∨ k = 15 ∨ k = 16 ∨ k = 17 ∨ k = 18 := by omega
        rcases this with rfl | rfl | rfl | rfl | rfl | rfl | rfl | rfl | rfl | rfl | rfl | rfl | rfl | rfl | rfl | rfl | rfl | rfl | rfl
        all_goals simp [errs]
      have HE := Lib.hid hE
      clear hE
      generalize hrw : rowC k = row at *
      unfold rowC at hrw
      obtain ⟨r1, hr1⟩ : ∃ r, r = errs.getD k 0 := ⟨_, rfl⟩
      obtain ⟨r2, hr2⟩ : ∃ r, r = sts.getD k 0 := ⟨_, rfl⟩
      obtain ⟨r4, hr4⟩ : ∃ r, r = txs.getD k [] := ⟨_, rfl⟩
      rw [← hr1, ← hr2, ← hr4] at hrw
      rw [← hr1] at HE
      have HRW : Hid (rowC k = #[.int .i64 r1, .int .u32 r2, .int .i64 (k : Int), .string ⟨r4.toArray⟩]) := Lib.hid (by unfold rowC; rw [← hr1, ← hr2, ← hr4])
      have hclo : ∀ w', Ext w w' → Calls Tryd.prog 25 #[.agg #[.int .i64 r1, .int .u32 r2, .int .i64 (k : Int), .string ⟨r4.toArray⟩], .pointer (some ⟨g, 0, none⟩)] w' fun x w'' => x = .returned (.bool (r2 == e)) ∧ Ext w' w'' := fun w' he => by
        have h := clo_st k g e t fr w' (Ext.heap (a := w) he HB.out)
        unfold rowC at h
        rw [← hr1, ← hr2, ← hr4] at h
        exact h
      have HClo := Lib.hid hclo
      clear hclo
      subst hrw
      have HR1 := Lib.hid hr1
      have HR2' := Lib.hid hr2
      clear hr1 hr2 hr4
      go_wp2_with fail
      refine (HClo.out _ (ext.alloc _)).mono ?_
      rintro x w2 ⟨rfl, e2⟩
      have eA : Ext wr (wr.alloc (.cells #[.int .i64 r1, .int .u32 r2, .int .i64 (k : Int), .string ⟨r4.toArray⟩] 38)) := (Ext.refl _).alloc _
      have hbr := e2.heap (heap_alloc_new wr (.cells #[.int .i64 r1, .int .u32 r2, .int .i64 (k : Int), .string ⟨r4.toArray⟩] 38))
      have hb2' := e2.heap (eA.heap hb2)
      have hb3' := e2.heap (eA.heap hb3)
      have ext2 := (ext.trans eA).trans e2
      have hc0 := cell_of_row w2 wr.heap.size 0 _ _ _ hbr
      simp at hc0
      have HB2 := Lib.hid hb2'
      have HB3 := Lib.hid hb3'
      have HZr : Hid ((Tryd.prog.info? 38).map (·.size) = some (Array.size (α := Value) #[Value.int .i64 r1, .int .u32 r2, .int .i64 (k : Int), .string ⟨r4.toArray⟩])) := Lib.hid (by have h := HZ4.out; exact h)
      have HZs : Hid ((#[.int .i64 0, .int .u32 0, .int .i64 0, .string ⟨#[]⟩] : Array Value).size = #[Value.int .i64 r1, .int .u32 r2, .int .i64 (k : Int), .string ⟨r4.toArray⟩].size) := Lib.hid rfl
      have HZt : Hid ((#[Value.int .i64 n1, .int .u32 n2, .int .i64 n3, .string n4] : Array Value).size = #[Value.int .i64 r1, .int .u32 r2, .int .i64 (k : Int), .string ⟨r4.toArray⟩].size) := Lib.hid rfl
      have HZu : Hid (#[Value.int .i64 r1, .int .u32 r2, .int .i64 (k : Int), .string ⟨r4.toArray⟩].all (·.oneCell') = true) := Lib.hid (by simp [Value.oneCell'])
      have hgr : gb + 1 < wr.heap.size := (Array.getElem?_eq_some_iff.1 hb3).1
      clear hb2 hb3 hb2' hb3' eA e2 ext hidx
      generalize wr.heap.size = gr at *
      by_cases hh : (r2 == e) = true
      · have hfst : fstC (fun k => sts.getD k 0 == e) = k := fst_hit hlt (by rw [HR2'.out] at hh; exact hh) HNo.out
        have hrowf : rowC (fstC fun k => sts.getD k 0 == e) = #[.int .i64 r1, .int .u32 r2, .int .i64 (k : Int), .string ⟨r4.toArray⟩] := by rw [hfst, HRW.out]
        have HRF := Lib.hid hrowf
        rw [hh]
        have HGs := Lib.hid (setRow_heap w2 gb _ #[.int .i64 r1, .int .u32 r2, .int .i64 (k : Int), .string ⟨r4.toArray⟩] _ _ HB2.out)
        have exts : Ext w (w2.setRow gb #[.int .i64 r1, .int .u32 r2, .int .i64 (k : Int), .string ⟨r4.toArray⟩]) := below_setRow ext2 (Nat.le_of_eq HGB.out) _
        clear hfst hrowf hh
        go_wp2_with (first | (with_reducible refine wpList_load_row rfl 38 (.tmp 5) rfl gr rfl _ _ _ _ hbr Tryd.underlying38 rfl HZr.out ?_) | (with_reducible refine wpList_store_row rfl 38 (.tmp 2) (.tmp 13) rfl gb _ rfl rfl _ _ HB2.out HZr.out HZs.out HZu.out ?_) | fail)
        refine bodyPost_ret (results_cell_row rfl _ _ gb _ _ (0, 0) _ rfl HGs.out Tryd.underlying38 rfl HZr.out) rfl ?_
        exact ⟨congrArg (fun z => Ending.returned (Value.agg z)) HRF.out.symm, exts⟩
      · replace hh : (r2 == e) = false := by simpa using hh
        have hno2 : ∀ j, j < k + 1 → (fun k : Nat => sts.getD k 0 == e) j = false := fun j hj => by
          by_cases hjk : j = k
          · subst hjk
            rw [HR2'.out] at hh
            exact hh
          · exact HNo.out j (by omega)
        have HNo2 := Lib.hid hno2
        rw [hh]
        clear hno2 hh
        by_cases hk15 : k = 15
        · have hr21 := HE.out.2 hk15
          have HQ15 : Hid (k = 15) := Lib.hid hk15
          have hb21 : (r1 == 21) = true := by rw [hr21]; rfl
          have hgt := setRow_heap w2 (gb + 1) _ #[Value.int .i64 r1, .int .u32 r2, .int .i64 (k : Int), .string ⟨r4.toArray⟩] _ _ HB3.out
          have hot := setRow_other w2 (gb + 1) gb #[Value.int .i64 r1, .int .u32 r2, .int .i64 (k : Int), .string ⟨r4.toArray⟩] (by omega)
          have exts : Ext w (w2.setRow (gb + 1) #[Value.int .i64 r1, .int .u32 r2, .int .i64 (k : Int), .string ⟨r4.toArray⟩]) := below_setRow ext2 (by rw [HGB.out]; omega) _
          have HGt := Lib.hid hgt
          have HOt : Hid (_ = _) := Lib.hid (hot.trans HB2.out)
          clear hr21 hk15 hgt hot
          go_wp2_with (first | (with_reducible refine wpList_load_row rfl 38 (.tmp 5) rfl gr rfl _ _ _ _ hbr Tryd.underlying38 rfl HZr.out ?_) | (with_reducible refine wpList_store_row rfl 38 (.tmp 3) (.tmp 17) rfl (gb + 1) _ rfl rfl _ _ HB3.out HZr.out HZt.out HZu.out ?_) | fail)
          go_roundw
          case rel => exact ⟨k + 1, _, _, _, _, by omega, by go_num, HNo2.out, fun _ => by rw [← HRW.out, HQ15.out], HGt.out, HOt.out, exts⟩
          case measure => simp [intOf]; omega
        · have hr21 : ¬ r1 = 21 := fun h => hk15 (HE.out.1 h)
          have hb21 : (r1 == 21) = false := by simpa using hr21
          have H16 : Hid (15 < k + 1 → 15 < k) := Lib.hid (by omega)
          clear hr21 hk15
          go_wp2_with fail
          go_roundw
          case rel => exact ⟨k + 1, _, _, _, _, by omega, by go_num, HNo2.out, fun h => H15.out (H16.out h), HB3.out, HB2.out, ext2⟩
          case measure => simp [intOf]; omega
    · obtain rfl : k = 19 := by omega
      have hfst : fstC (fun k => sts.getD k 0 == e) = 15 := fst_none HNo.out
      have hrowf : rowC (fstC fun k => sts.getD k 0 == e) = #[.int .i64 n1, .int .u32 n2, .int .i64 n3, .string n4] := by rw [hfst, H15.out (by omega)]
      have HRF := Lib.hid hrowf
      have HZr : Hid ((Tryd.prog.info? 38).map (·.size) = some (Array.size (α := Value) #[Value.int .i64 n1, .int .u32 n2, .int .i64 n3, .string n4])) := Lib.hid (by have h := HZ4.out; exact h)
      have HZs : Hid ((#[.int .i64 0, .int .u32 0, .int .i64 0, .string ⟨#[]⟩] : Array Value).size = (#[Value.int .i64 n1, .int .u32 n2, .int .i64 n3, .string n4]).size) := Lib.hid rfl
      have HZu : Hid ((#[Value.int .i64 n1, .int .u32 n2, .int .i64 n3, .string n4]).all (·.oneCell') = true) := Lib.hid (by simp [Value.oneCell'])
      have HGs := Lib.hid (setRow_heap wr gb _ #[.int .i64 n1, .int .u32 n2, .int .i64 n3, .string n4] _ _ hb2)
      have exts : Ext w (wr.setRow gb #[.int .i64 n1, .int .u32 n2, .int .i64 n3, .string n4]) := below_setRow ext (Nat.le_of_eq HGB.out) _
      have HB2 := Lib.hid hb2
      have HB3 := Lib.hid hb3
      clear hfst hrowf hb2 hb3 hlt
      go_wp2_with (first | (with_reducible refine wpList_load_row rfl 38 (.tmp 3) rfl (gb + 1) rfl _ _ _ _ HB3.out Tryd.underlying38 rfl HZr.out ?_) | (with_reducible refine wpList_store_row rfl 38 (.tmp 2) (.tmp 19) rfl gb _ rfl rfl _ _ HB2.out HZr.out HZs.out HZu.out ?_) | fail)
      refine bodyPost_ret (results_cell_row rfl _ _ gb _ _ (0, 0) _ rfl HGs.out Tryd.underlying38 rfl HZr.out) rfl ?_
      exact ⟨congrArg (fun z => Ending.returned (Value.agg z)) HRF.out.symm, exts⟩
set_option maxHeartbeats 1000000 in
theorem find_co (e : Int) (g : Nat) (t : TypeId) (fr : Nat × Nat) (w : World) (ht : Tab w) (hg : w.heap[g]? = some (.cells #[.int .i64 e] t fr)) :
    Calls Tryd.prog 24 #[.func (.func 26) #[] #[.pointer (some ⟨g, 0, none⟩)]] w fun x w' => x = .returned (.agg (rowC (fstC fun k => (k : Int) == e))) ∧ Ext w w' := by
  have hgW : ∀ o o2, ∃ t fr, ((w.alloc o).alloc o2).heap[0]? = some (.cells tabC t fr) := fun o o2 => ht.ext (((Ext.refl w).alloc o).alloc o2)
  have hsz : (Tryd.prog.info? 44).map (·.size) = some tabC.size := by rw [tabC_size]; kernel_rfl
  have HW := Lib.hid hgW
  have HZ := Lib.hid hsz
  have HB := Lib.hid hg
  have hsz4 : (Tryd.prog.info? 38).map (·.size) = some 4 := by kernel_rfl
  have HZ4 := Lib.hid hsz4
  clear hgW hsz hg hsz4
  go_enter Tryd.func24, Tryd.ntmps24
  obtain ⟨t0, fr0, hg0⟩ := HW.out (.cells #[.int .i64 0, .int .u32 0, .int .i64 0, .string ⟨#[]⟩] 38) (.cells #[.int .i64 0, .int .u32 0, .int .i64 0, .string ⟨#[]⟩] 38)
  have hr2 := heap_alloc2_old w (.cells #[.int .i64 0, .int .u32 0, .int .i64 0, .string ⟨#[]⟩] 38) (.cells #[.int .i64 0, .int .u32 0, .int .i64 0, .string ⟨#[]⟩] 38)
  have hr3 := heap_alloc2_new w (.cells #[.int .i64 0, .int .u32 0, .int .i64 0, .string ⟨#[]⟩] 38) (.cells #[.int .i64 0, .int .u32 0, .int .i64 0, .string ⟨#[]⟩] 38)
  have e0 : Ext w ((w.alloc (.cells #[.int .i64 0, .int .u32 0, .int .i64 0, .string ⟨#[]⟩] 38)).alloc (.cells #[.int .i64 0, .int .u32 0, .int .i64 0, .string ⟨#[]⟩] 38)) := ((Ext.refl w).alloc _).alloc _
  have HR2 := Lib.hid hr2
  have HR3 := Lib.hid hr3
  clear hr2 hr3
  go_wp2_with (first | (with_reducible refine wpList_load_row rfl 44 (.global 0) rfl 0 rfl t0 tabC fr0 _ hg0 Tryd.underlying44 rfl HZ.out ?_) | fail)
  generalize (w.alloc (.cells #[.int .i64 0, .int .u32 0, .int .i64 0, .string ⟨#[]⟩] 38)).alloc (.cells #[.int .i64 0, .int .u32 0, .int .i64 0, .string ⟨#[]⟩] 38) = w1 at *
  generalize hgb : w.heap.size = gb at *
  have HGB := Lib.hid hgb
  clear hg0 hgb
  go_loopw [7] (fun i wr => ∃ (k : Nat) (n1 n2 n3 : Int) (n4 : ByteArray), k ≤ 19 ∧ i = .int .i64 k ∧ (∀ j, j < k → (fun k : Nat => (k : Int) == e) j = false) ∧ (15 < k → #[Value.int .i64 n1, .int .u32 n2, .int .i64 n3, .string n4] = rowC 15) ∧ wr.heap[gb + 1]? = some (.cells #[.int .i64 n1, .int .u32 n2, .int .i64 n3, .string n4] 38) ∧ wr.heap[gb]? = some (.cells #[.int .i64 0, .int .u32 0, .int .i64 0, .string ⟨#[]⟩] 38) ∧ Ext w wr) (fun i _ => 19 - (intOf i).toNat)
  case atStart => exact ⟨0, _, _, _, _, by omega, rfl, by simp, by omega, HR3.out, HR2.out, e0⟩
  case round =>
    obtain ⟨k, n1, n2, n3, n4, hk, rfl, hno, h15, hb3, hb2, ext⟩ := hrel
    have HNo := Lib.hid hno
    have H15 := Lib.hid h15
    clear hno h15
    by_cases hlt : k < 19
    · have hidx := idx_tab k hlt
      have hE : errs.getD k 0 = 21 ↔ k = 15 := by
        have : k = 0 ∨ k = 1 ∨ k = 2 ∨ k = 3 ∨ k = 4 ∨ k = 5 ∨ k = 6 ∨ k = 7 ∨ k = 8 ∨ k = 9 ∨ k = 10 ∨ k = 11 ∨ k = 12 ∨ k = 13 ∨ k = 14 ∨ k = 15 ∨ k = 16 ∨ k = 17 ∨ k = 18 := by omega
        rcases this with rfl | rfl | rfl | rfl | rfl | rfl | rfl | rfl | rfl | rfl | rfl | rfl | rfl | rfl | rfl | rfl | rfl | rfl | rfl
        all_goals simp [errs]
      have HE := Lib.hid hE
      clear hE
      generalize hrw : rowC k = row at *
      unfold rowC at hrw
      obtain ⟨r1, hr1⟩ : ∃ r, r = errs.getD k 0 := ⟨_, rfl⟩
      obtain ⟨r2, hr2⟩ : ∃ r, r = sts.getD k 0 := ⟨_, rfl⟩
      obtain ⟨r4, hr4⟩ : ∃ r, r = txs.getD k [] := ⟨_, rfl⟩
      rw [← hr1, ← hr2, ← hr4] at hrw
      rw [← hr1] at HE
      have HRW : Hid (rowC k = #[.int .i64 r1, .int .u32 r2, .int .i64 (k : Int), .string ⟨r4.toArray⟩]) := Lib.hid (by unfold rowC; rw [← hr1, ← hr2, ← hr4])
      have hclo : ∀ w', Ext w w' → Calls Tryd.prog 26 #[.agg #[.int .i64 r1, .int .u32 r2, .int .i64 (k : Int), .string ⟨r4.toArray⟩], .pointer (some ⟨g, 0, none⟩)] w' fun x w'' => x = .returned (.bool ((k : Int) == e)) ∧ Ext w' w'' := fun w' he => by
        have h := clo_co k g e t fr w' (Ext.heap (a := w) he HB.out)
        unfold rowC at h
        rw [← hr1, ← hr2, ← hr4] at h
        exact h
      have HClo := Lib.hid hclo
      clear hclo
      subst hrw
      have HR1 := Lib.hid hr1
      have HR2' := Lib.hid hr2
      clear hr1 hr2 hr4
      go_wp2_with fail
      refine (HClo.out _ (ext.alloc _)).mono ?_
      rintro x w2 ⟨rfl, e2⟩
      have eA : Ext wr (wr.alloc (.cells #[.int .i64 r1, .int .u32 r2, .int .i64 (k : Int), .string ⟨r4.toArray⟩] 38)) := (Ext.refl _).alloc _
      have hbr := e2.heap (heap_alloc_new wr (.cells #[.int .i64 r1, .int .u32 r2, .int .i64 (k : Int), .string ⟨r4.toArray⟩] 38))
      have hb2' := e2.heap (eA.heap hb2)
      have hb3' := e2.heap (eA.heap hb3)
      have ext2 := (ext.trans eA).trans e2
      have hc0 := cell_of_row w2 wr.heap.size 0 _ _ _ hbr
      simp at hc0
      have HB2 := Lib.hid hb2'
      have HB3 := Lib.hid hb3'
      have HZr : Hid ((Tryd.prog.info? 38).map (·.size) = some (Array.size (α := Value) #[Value.int .i64 r1, .int .u32 r2, .int .i64 (k : Int), .string ⟨r4.toArray⟩])) := Lib.hid (by have h := HZ4.out; exact h)
      have HZs : Hid ((#[.int .i64 0, .int .u32 0, .int .i64 0, .string ⟨#[]⟩] : Array Value).size = #[Value.int .i64 r1, .int .u32 r2, .int .i64 (k : Int), .string ⟨r4.toArray⟩].size) := Lib.hid rfl
      have HZt : Hid ((#[Value.int .i64 n1, .int .u32 n2, .int .i64 n3, .string n4] : Array Value).size = #[Value.int .i64 r1, .int .u32 r2, .int .i64 (k : Int), .string ⟨r4.toArray⟩].size) := Lib.hid rfl
      have HZu : Hid (#[Value.int .i64 r1, .int .u32 r2, .int .i64 (k : Int), .string ⟨r4.toArray⟩].all (·.oneCell') = true) := Lib.hid (by simp [Value.oneCell'])
      have hgr : gb + 1 < wr.heap.size := (Array.getElem?_eq_some_iff.1 hb3).1
      clear hb2 hb3 hb2' hb3' eA e2 ext hidx
      generalize wr.heap.size = gr at *
      by_cases hh : ((k : Int) == e) = true
      · have hfst : fstC (fun k => (k : Int) == e) = k := fst_hit hlt (by exact hh) HNo.out
        have hrowf : rowC (fstC fun k => (k : Int) == e) = #[.int .i64 r1, .int .u32 r2, .int .i64 (k : Int), .string ⟨r4.toArray⟩] := by rw [hfst, HRW.out]
        have HRF := Lib.hid hrowf
        rw [hh]
        have HGs := Lib.hid (setRow_heap w2 gb _ #[.int .i64 r1, .int .u32 r2, .int .i64 (k : Int), .string ⟨r4.toArray⟩] _ _ HB2.out)
        have exts : Ext w (w2.setRow gb #[.int .i64 r1, .int .u32 r2, .int .i64 (k : Int), .string ⟨r4.toArray⟩]) := below_setRow ext2 (Nat.le_of_eq HGB.out) _
        clear hfst hrowf hh
        go_wp2_with (first | (with_reducible refine wpList_load_row rfl 38 (.tmp 5) rfl gr rfl _ _ _ _ hbr Tryd.underlying38 rfl HZr.out ?_) | (with_reducible refine wpList_store_row rfl 38 (.tmp 2) (.tmp 13) rfl gb _ rfl rfl _ _ HB2.out HZr.out HZs.out HZu.out ?_) | fail)
        refine bodyPost_ret (results_cell_row rfl _ _ gb _ _ (0, 0) _ rfl HGs.out Tryd.underlying38 rfl HZr.out) rfl ?_
        exact ⟨congrArg (fun z => Ending.returned (Value.agg z)) HRF.out.symm, exts⟩
      · replace hh : ((k : Int) == e) = false := by simpa using hh
        have hno2 : ∀ j, j < k + 1 → (fun k : Nat => (k : Int) == e) j = false := fun j hj => by
          by_cases hjk : j = k
          · subst hjk
            exact hh
          · exact HNo.out j (by omega)
        have HNo2 := Lib.hid hno2
        rw [hh]
        clear hno2 hh
        by_cases hk15 : k = 15
        · have hr21 := HE.out.2 hk15
          have HQ15 : Hid (k = 15) := Lib.hid hk15
          have hb21 : (r1 == 21) = true := by rw [hr21]; rfl
          have hgt := setRow_heap w2 (gb + 1) _ #[Value.int .i64 r1, .int .u32 r2, .int .i64 (k : Int), .string ⟨r4.toArray⟩] _ _ HB3.out
          have hot := setRow_other w2 (gb + 1) gb #[Value.int .i64 r1, .int .u32 r2, .int .i64 (k : Int), .string ⟨r4.toArray⟩] (by omega)
          have exts : Ext w (w2.setRow (gb + 1) #[Value.int .i64 r1, .int .u32 r2, .int .i64 (k : Int), .string ⟨r4.toArray⟩]) := below_setRow ext2 (by rw [HGB.out]; omega) _
          have HGt := Lib.hid hgt
          have HOt : Hid (_ = _) := Lib.hid (hot.trans HB2.out)
          clear hr21 hk15 hgt hot
          go_wp2_with (first | (with_reducible refine wpList_load_row rfl 38 (.tmp 5) rfl gr rfl _ _ _ _ hbr Tryd.underlying38 rfl HZr.out ?_) | (with_reducible refine wpList_store_row rfl 38 (.tmp 3) (.tmp 17) rfl (gb + 1) _ rfl rfl _ _ HB3.out HZr.out HZt.out HZu.out ?_) | fail)
          go_roundw
          case rel => exact ⟨k + 1, _, _, _, _, by omega, by go_num, HNo2.out, fun _ => by rw [← HRW.out, HQ15.out], HGt.out, HOt.out, exts⟩
          case measure => simp [intOf]; omega
        · have hr21 : ¬ r1 = 21 := fun h => hk15 (HE.out.1 h)
          have hb21 : (r1 == 21) = false := by simpa using hr21
          have H16 : Hid (15 < k + 1 → 15 < k) := Lib.hid (by omega)
          clear hr21 hk15
          go_wp2_with fail
          go_roundw
          case rel => exact ⟨k + 1, _, _, _, _, by omega, by go_num, HNo2.out, fun h => H15.out (H16.out h), HB3.out, HB2.out, ext2⟩
          case measure => simp [intOf]; omega
    · obtain rfl : k = 19 := by omega
      have hfst : fstC (fun k => (k : Int) == e) = 15 := fst_none HNo.out
      have hrowf : rowC (fstC fun k => (k : Int) == e) = #[.int .i64 n1, .int .u32 n2, .int .i64 n3, .string n4] := by rw [hfst, H15.out (by omega)]
      have HRF := Lib.hid hrowf
      have HZr : Hid ((Tryd.prog.info? 38).map (·.size) = some (Array.size (α := Value) #[Value.int .i64 n1, .int .u32 n2, .int .i64 n3, .string n4])) := Lib.hid (by have h := HZ4.out; exact h)
      have HZs : Hid ((#[.int .i64 0, .int .u32 0, .int .i64 0, .string ⟨#[]⟩] : Array Value).size = (#[Value.int .i64 n1, .int .u32 n2, .int .i64 n3, .string n4]).size) := Lib.hid rfl
      have HZu : Hid ((#[Value.int .i64 n1, .int .u32 n2, .int .i64 n3, .string n4]).all (·.oneCell') = true) := Lib.hid (by simp [Value.oneCell'])
      have HGs := Lib.hid (setRow_heap wr gb _ #[.int .i64 n1, .int .u32 n2, .int .i64 n3, .string n4] _ _ hb2)
      have exts : Ext w (wr.setRow gb #[.int .i64 n1, .int .u32 n2, .int .i64 n3, .string n4]) := below_setRow ext (Nat.le_of_eq HGB.out) _
      have HB2 := Lib.hid hb2
      have HB3 := Lib.hid hb3
      clear hfst hrowf hb2 hb3 hlt
      go_wp2_with (first | (with_reducible refine wpList_load_row rfl 38 (.tmp 3) rfl (gb + 1) rfl _ _ _ _ HB3.out Tryd.underlying38 rfl HZr.out ?_) | (with_reducible refine wpList_store_row rfl 38 (.tmp 2) (.tmp 19) rfl gb _ rfl rfl _ _ HB2.out HZr.out HZs.out HZu.out ?_) | fail)
      refine bodyPost_ret (results_cell_row rfl _ _ gb _ _ (0, 0) _ rfl HGs.out Tryd.underlying38 rfl HZr.out) rfl ?_
      exact ⟨congrArg (fun z => Ending.returned (Value.agg z)) HRF.out.symm, exts⟩

end Go.Proofs.YtgbdaohigpnmeaaRRRDoor
