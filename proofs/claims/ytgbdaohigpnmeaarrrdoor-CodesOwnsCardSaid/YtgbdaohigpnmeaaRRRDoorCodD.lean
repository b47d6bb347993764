/-
  Layer 8: the document's own answers; the example is met.
-/
import Derived.Test.YtgbdaohigpnmeaaRRRDoorCodC
namespace Go.Proofs.YtgbdaohigpnmeaaRRRDoor
open Go Go.RowKit
set_option linter.unusedVariables false
set_option linter.unusedSimpArgs false

def errsV : Array Value := (errs.map (Value.int .i64)).toArray
def stsV : Array Value := (sts.map (Value.int .u32)).toArray
def txsV : Array Value := (txs.map fun t => Value.string ⟨t.toArray⟩).toArray
theorem errsV_get (k : Nat) (hk : k < 19) : errsV[k]? = some (.int .i64 (errs.getD k 0)) := by
  have h : k = 0 ∨ k = 1 ∨ k = 2 ∨ k = 3 ∨ k = 4 ∨ k = 5 ∨ k = 6 ∨ k = 7 ∨ k = 8 ∨ k = 9 ∨ k = 10 ∨ k = 11 ∨ k = 12 ∨ k = 13 ∨ k = 14 ∨ k = 15 ∨ k = 16 ∨ k = 17 ∨ k = 18 := by omega
  rcases h with rfl | rfl | rfl | rfl | rfl | rfl | rfl | rfl | rfl | rfl | rfl | rfl | rfl | rfl | rfl | rfl | rfl | rfl | rfl
  all_goals rfl
theorem stsV_get (k : Nat) (hk : k < 19) : stsV[k]? = some (.int .u32 (sts.getD k 0)) := by
  have h : k = 0 ∨ k = 1 ∨ k = 2 ∨ k = 3 ∨ k = 4 ∨ k = 5 ∨ k = 6 ∨ k = 7 ∨ k = 8 ∨ k = 9 ∨ k = 10 ∨ k = 11 ∨ k = 12 ∨ k = 13 ∨ k = 14 ∨ k = 15 ∨ k = 16 ∨ k = 17 ∨ k = 18 := by omega
  rcases h with rfl | rfl | rfl | rfl | rfl | rfl | rfl | rfl | rfl | rfl | rfl | rfl | rfl | rfl | rfl | rfl | rfl | rfl | rfl
  all_goals rfl
theorem txsV_get (k : Nat) (hk : k < 19) : txsV[k]? = some (.string ⟨(txs.getD k []).toArray⟩) := by
  have h : k = 0 ∨ k = 1 ∨ k = 2 ∨ k = 3 ∨ k = 4 ∨ k = 5 ∨ k = 6 ∨ k = 7 ∨ k = 8 ∨ k = 9 ∨ k = 10 ∨ k = 11 ∨ k = 12 ∨ k = 13 ∨ k = 14 ∨ k = 15 ∨ k = 16 ∨ k = 17 ∨ k = 18 := by omega
  rcases h with rfl | rfl | rfl | rfl | rfl | rfl | rfl | rfl | rfl | rfl | rfl | rfl | rfl | rfl | rfl | rfl | rfl | rfl | rfl
  all_goals rfl

theorem rall_any (w : World) :
    Calls Tryd.prog 21 #[] w fun x w' => x = .returned (.slice (some ⟨w.heap.size, 0, none⟩) 19 19) ∧ w'.heap[w.heap.size]? = some (.cells errsV 22 (0, 0)) ∧ Ext w w' := by
  go_enter Tryd.func21, Tryd.ntmps21
  go_wp2
  go_ret
  exact ⟨rfl, heap_alloc_new w _, (Ext.refl w).alloc _⟩
theorem rsts_any (w : World) :
    Calls Tryd.prog 23 #[] w fun x w' => x = .returned (.slice (some ⟨w.heap.size, 0, none⟩) 19 19) ∧ w'.heap[w.heap.size]? = some (.cells stsV 25 (0, 0)) ∧ Ext w w' := by
  go_enter Tryd.func23, Tryd.ntmps23
  go_wp2
  go_ret
  exact ⟨rfl, heap_alloc_new w _, (Ext.refl w).alloc _⟩

set_option maxHeartbeats 1000000 in
theorem rcode_any (e : Int) (w : World) :
    Calls Tryd.prog 12 #[.int .i64 e] w fun x w' => x = .returned (.int .i64 (ixE e : Int)) ∧ Ext w w' := by
  have hra := rall_any w
  have HRA := Lib.hid hra
  clear hra
  go_enter Tryd.func12, Tryd.ntmps12
  go_wp2_with fail
  refine (Calls.mono HRA.out ?_)
  rintro x w1 ⟨rfl, hb, e1⟩
  have HB := Lib.hid hb
  have HE1 := Lib.hid e1
  clear hb HRA e1
  go_wp2_with fail
  generalize w.heap.size = g at *
  go_loopw [4] (fun i wr => ∃ k : Nat, k ≤ 19 ∧ i = .int .i64 k ∧ (∀ j, j < k → (fun k : Nat => errs.getD k 0 == e) j = false) ∧ Ext w1 wr) (fun i _ => 19 - (intOf i).toNat)
  case atStart => exact ⟨0, by omega, rfl, by simp, Ext.refl _⟩
  case round =>
    obtain ⟨k, hk, rfl, hno, ext⟩ := hrel
    have HNo := Lib.hid hno
    clear hno
    by_cases hlt : k < 19
    · have hcell : wr.cell? ⟨g, k, none⟩ = some (.int .i64 (errs.getD k 0)) := by rw [cell_of_row wr g k _ _ _ (ext.heap HB.out)]; exact errsV_get k hlt
      obtain ⟨r1, hr1⟩ : ∃ r, r = errs.getD k 0 := ⟨_, rfl⟩
      rw [← hr1] at hcell
      have HR1 := Lib.hid hr1
      clear hr1
      by_cases hh : (r1 == e) = true
      · have hix : ixE e = k := fst_hit hlt (by rw [HR1.out] at hh; exact hh) HNo.out
        have HIX := Lib.hid hix
        clear hix
        go_wp2
        go_ret
        exact ⟨by rw [HIX.out]; rfl, HE1.out.trans ext⟩
      · replace hh : (r1 == e) = false := by simpa using hh
        have hno2 : ∀ j, j < k + 1 → (fun k : Nat => errs.getD k 0 == e) j = false := fun j hj => by
          by_cases hjk : j = k
          · subst hjk
            rw [HR1.out] at hh
            exact hh
          · exact HNo.out j (by omega)
        have HNo2 := Lib.hid hno2
        clear hno2
        go_wp2
        go_roundw
        case rel => exact ⟨k + 1, by omega, by go_num, HNo2.out, ext⟩
        case measure => simp [intOf]; omega
    · obtain rfl : k = 19 := by omega
      have hix : ixE e = 15 := fst_none HNo.out
      have HIX := Lib.hid hix
      clear hix
      go_wp2
      go_ret
      exact ⟨by rw [HIX.out]; rfl, HE1.out.trans ext⟩

set_option maxHeartbeats 1000000 in
theorem rfromst_any (e : Int) (w : World) :
    Calls Tryd.prog 17 #[.int .u32 e] w fun x w' => x = .returned (.int .i64 (errs.getD (ixS e) 0)) ∧ Ext w w' := by
  have hra := rsts_any w
  have HRA := Lib.hid hra
  clear hra
  go_enter Tryd.func17, Tryd.ntmps17
  go_wp2_with fail
  refine (Calls.mono HRA.out ?_)
  rintro x w1 ⟨rfl, hb, e1⟩
  have HB := Lib.hid hb
  have HE1 := Lib.hid e1
  clear hb HRA e1
  go_wp2_with fail
  generalize w.heap.size = g at *
  go_loopw [4] (fun i wr => ∃ k : Nat, k ≤ 19 ∧ i = .int .i64 k ∧ (∀ j, j < k → (fun k : Nat => sts.getD k 0 == e) j = false) ∧ Ext w1 wr) (fun i _ => 19 - (intOf i).toNat)
  case atStart => exact ⟨0, by omega, rfl, by simp, Ext.refl _⟩
  case round =>
    obtain ⟨k, hk, rfl, hno, ext⟩ := hrel
    have HNo := Lib.hid hno
    clear hno
    by_cases hlt : k < 19
    · have hcell : wr.cell? ⟨g, k, none⟩ = some (.int .u32 (sts.getD k 0)) := by rw [cell_of_row wr g k _ _ _ (ext.heap HB.out)]; exact stsV_get k hlt
      obtain ⟨r1, hr1⟩ : ∃ r, r = sts.getD k 0 := ⟨_, rfl⟩
      rw [← hr1] at hcell
      have HR1 := Lib.hid hr1
      clear hr1
      by_cases hh : (r1 == e) = true
      · have hix : ixS e = k := fst_hit hlt (by rw [HR1.out] at hh; exact hh) HNo.out
        have HIX := Lib.hid hix
        clear hix
        have hra2 := rall_any wr
        have HRA2 := Lib.hid hra2
        clear hra2
        go_wp2_with fail
        refine (Calls.mono HRA2.out ?_)
        rintro x w5 ⟨rfl, hb5, e5⟩
        have hcell5 : w5.cell? ⟨wr.heap.size, k, none⟩ = some (.int .i64 (errs.getD k 0)) := by rw [cell_of_row w5 _ k _ _ _ hb5]; exact errsV_get k hlt
        have ext5 := HE1.out.trans (ext.trans e5)
        obtain ⟨r5, hr5⟩ : ∃ r, r = errs.getD k 0 := ⟨_, rfl⟩
        rw [← hr5] at hcell5
        have HR5 := Lib.hid hr5
        clear hr5 hb5 hcell HRA2 e5 ext
        go_wp2
        go_ret
        exact ⟨by rw [HIX.out, ← HR5.out]; rfl, ext5⟩
      · replace hh : (r1 == e) = false := by simpa using hh
        have hno2 : ∀ j, j < k + 1 → (fun k : Nat => sts.getD k 0 == e) j = false := fun j hj => by
          by_cases hjk : j = k
          · subst hjk
            rw [HR1.out] at hh
            exact hh
          · exact HNo.out j (by omega)
        have HNo2 := Lib.hid hno2
        clear hno2
        go_wp2
        go_roundw
        case rel => exact ⟨k + 1, by omega, by go_num, HNo2.out, ext⟩
        case measure => simp [intOf]; omega
    · obtain rfl : k = 19 := by omega
      have hix : ixS e = 15 := fst_none HNo.out
      have HIX := Lib.hid hix
      clear hix
      go_wp2
      go_ret
      exact ⟨by rw [HIX.out]; rfl, HE1.out.trans ext⟩

theorem ixC_in (n : Nat) (h : n < 19) : ixC (n : Int) = n := fst_hit h (by simp) (fun j hj => by simp; omega)
theorem ixC_out (n : Int) (h : n < 0 ∨ 18 < n) : ixC n = 15 := fst_none (fun j hj => by simp; omega)
theorem rfromco_any (n : Int) (w : World) (h0 : -9223372036854775808 ≤ n) (h1 : n ≤ 9223372036854775807) :
    Calls Tryd.prog 19 #[.int .i64 n] w fun x w' => x = .returned (.int .i64 (errs.getD (ixC n) 0)) ∧ Ext w w' := by
  by_cases h : n < 0 ∨ 18 < n
  · have hix := ixC_out n h
    rw [hix]
    clear hix
    have hr : ((n < 0) ∨ ¬ n < 0 ∧ 18 < n) := by omega
    clear h
    rcases hr with hr | ⟨hr, hr2⟩
    all_goals
      go_enter Tryd.func19, Tryd.ntmps19
      go_wp2
      go_ret
      exact ⟨rfl, Ext.refl _⟩
  · obtain ⟨k, rfl⟩ := Int.eq_ofNat_of_zero_le (show 0 ≤ n by omega)
    have hk : k < 19 := by omega
    have hk0 : ¬ (k : Int) < 0 := by omega
    have hk1 : ¬ 18 < (k : Int) := by omega
    rw [ixC_in k hk]
    have hra2 := rall_any w
    have HRA2 := Lib.hid hra2
    clear hra2 h
    go_enter Tryd.func19, Tryd.ntmps19
    go_wp2_with fail
    refine (Calls.mono HRA2.out ?_)
    rintro x w5 ⟨rfl, hb5, e5⟩
    have hcell5 : w5.cell? ⟨w.heap.size, k, none⟩ = some (.int .i64 (errs.getD k 0)) := by rw [cell_of_row w5 _ k _ _ _ hb5]; exact errsV_get k hk
    obtain ⟨r5, hr5⟩ : ∃ r, r = errs.getD k 0 := ⟨_, rfl⟩
    rw [← hr5] at hcell5
    have HR5 := Lib.hid hr5
    clear hb5 HRA2 hr5
    go_wp2
    go_ret
    exact ⟨by rw [← HR5.out]; rfl, e5⟩

theorem rstatus_any (e : Int) (w : World) :
    Calls Tryd.prog 10 #[.int .i64 e] w fun x w' => x = .returned (.int .u32 (sts.getD (ixE e) 0)) ∧ Ext w w' := by
  have hlt := fstC_lt fun k => errs.getD k 0 == e
  have hra := rsts_any w
  have HRA := Lib.hid hra
  clear hra
  go_enter Tryd.func10, Tryd.ntmps10
  go_wp2_with fail
  refine (Calls.mono HRA.out ?_)
  rintro x w1 ⟨rfl, hb, e1⟩
  go_wp2_with fail
  refine (rcode_any e w1).mono ?_
  rintro x w2 ⟨rfl, e2⟩
  have hcell : w2.cell? ⟨w.heap.size, ixE e, none⟩ = some (.int .u32 (sts.getD (ixE e) 0)) := by rw [cell_of_row w2 _ _ _ _ _ (e2.heap hb)]; exact stsV_get _ hlt
  have hlt2 : ixE e < 19 := hlt
  obtain ⟨r1, hr1⟩ : ∃ r, r = sts.getD (ixE e) 0 := ⟨_, rfl⟩
  rw [← hr1] at hcell
  have HR1 := Lib.hid hr1
  clear hb HRA hlt hr1
  go_wp2
  go_ret
  exact ⟨by rw [← HR1.out]; rfl, e1.trans e2⟩
theorem rtext_any8 (e : Int) (w : World) :
    Calls Tryd.prog 14 #[.int .i64 e] w fun x w' => x = .returned (.string ⟨(txs.getD (ixE e) []).toArray⟩) ∧ Ext w w' := by
  have hlt := fstC_lt fun k => errs.getD k 0 == e
  have hb : (w.alloc (.cells txsV 9)).heap[w.heap.size]? = _ := heap_alloc_new w (.cells txsV 9)
  have e1 : Ext w (w.alloc (.cells txsV 9)) := (Ext.refl w).alloc _
  have HB := Lib.hid hb
  clear hb
  go_enter Tryd.func14, Tryd.ntmps14
  go_wp2_with fail
  refine (rcode_any e _).mono ?_
  rintro x w2 ⟨rfl, e2⟩
  have hcell : w2.cell? ⟨w.heap.size, ixE e, none⟩ = some (.string ⟨(txs.getD (ixE e) []).toArray⟩) := by rw [cell_of_row w2 _ _ _ _ _ (e2.heap HB.out)]; exact txsV_get _ hlt
  have ext : Ext w w2 := e1.trans e2
  have hlt2 : ixE e < 19 := hlt
  obtain ⟨r1, hr1⟩ : ∃ r, r = txs.getD (ixE e) [] := ⟨_, rfl⟩
  rw [← hr1] at hcell
  have HR1 := Lib.hid hr1
  clear HB hlt e1 e2 hr1
  go_wp2
  go_ret
  exact ⟨by rw [← HR1.out]; rfl, ext⟩

theorem livesC_any (w : World) (ht : Tab w) : Calls Tryd.prog 15 #[] w fun x w' => x = .returned (.bool true) ∧ Ext w w' := by
  have h1 := fun w ht => status_any 9 w ht
  have h2 := fun w ht => code_any 9 w ht
  have h3 := fun w ht => text_any8 9 w ht
  have h4 := fun w ht => fromst_any 99 w ht
  rw [show sts.getD (ixE 9) 0 = 2 by decide] at h1
  rw [show ixE 9 = 2 by decide] at h2 h3
  rw [show errs.getD (ixS 99) 0 = 21 by decide] at h4
  have H1 := Lib.hid h1
  have H2 := Lib.hid h2
  have H3 := Lib.hid h3
  have H4 := Lib.hid h4
  clear h1 h2 h3 h4
  go_enter Tryd.func15, Tryd.ntmps15
  go_wp2_with fail
  refine (Calls.mono (H1.out w ht) ?_)
  rintro x w1 ⟨rfl, e1⟩
  go_wp2_with fail
  refine (Calls.mono (H2.out w1 (ht.ext e1)) ?_)
  rintro x w2 ⟨rfl, e2⟩
  have e12 := e1.trans e2
  go_wp2_with fail
  refine (Calls.mono (H3.out w2 (ht.ext e12)) ?_)
  rintro x w3 ⟨rfl, e3⟩
  have e13 := e12.trans e3
  go_wp2_with fail
  refine (Calls.mono (H4.out w3 (ht.ext e13)) ?_)
  rintro x w4 ⟨rfl, e4⟩
  go_wp2
  go_ret
  exact ⟨rfl, e13.trans e4⟩
end Go.Proofs.YtgbdaohigpnmeaaRRRDoor
