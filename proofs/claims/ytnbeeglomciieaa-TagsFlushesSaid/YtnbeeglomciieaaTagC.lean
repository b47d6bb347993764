/-
  Layer 22: requests that wait: their block; the number of a tag.
-/
import Derived.Test.YtnbeeglomciieaaTagB
import Derived.Test.YtnbeeglomciieaaPln
namespace Go.Proofs.Ytnbeeglomciieaa
open Go Go.RowKit
set_option linter.unusedVariables false
set_option linter.unusedSimpArgs false
/-- A request's cells: its type, its tag, nothing else. -/
def ak (p : Int × Int) : List Value := [.int .i64 p.1, .int .i64 p.2, .int .i64 0, .int .i64 0, .int .i64 0, .int .i64 0, .int .i64 0, .int .i64 0, .int .i64 0, .int .i64 0, .string ⟨#[]⟩, .slice none 0 0, .int .i64 0, .slice none 0 0]
def akA (p : Int × Int) : Array Value := ⟨ak p⟩
theorem ak_len (p : Int × Int) : (ak p).length = 14 := rfl
theorem aks_len (l : List (Int × Int)) : (l.flatMap ak).length = 14 * l.length := by
  induction l with
  | nil => rfl
  | cons a l ih => rw [List.flatMap_cons, List.length_append, ak_len, ih, List.length_cons]; omega
theorem aks_get : ∀ (l : List (Int × Int)) (i j : Nat) (q : Int × Int), l[i]? = some q → j < 14 → (l.flatMap ak)[14 * i + j]? = (ak q)[j]?
  | a :: l, 0, j, q, h, hj => by
    simp at h
    subst h
    rw [List.flatMap_cons, List.getElem?_append_left (by rw [ak_len]; omega)]
    simp
  | a :: l, i + 1, j, q, h, hj => by
    rw [List.flatMap_cons, List.getElem?_append_right (by rw [ak_len]; omega)]
    rw [show 14 * (i + 1) + j - (ak a).length = 14 * i + j from by rw [ak_len]; omega]
    exact aks_get l i j q (by simpa using h) hj
/-- The block's cells: its bound, how many wait, eight requests. -/
def tgc (most nn : Int) (Q : List (Int × Int)) : Array Value := ⟨.int .i64 most :: .int .i64 nn :: Q.flatMap ak⟩
theorem tgc_size (most nn : Int) (Q : List (Int × Int)) (h : Q.length = 8) : (tgc most nn Q).size = 114 := by
  show (_ :: _ :: Q.flatMap ak).length = 114
  rw [List.length_cons, List.length_cons, aks_len, h]
theorem tgc_sub (most nn : Int) (Q : List (Int × Int)) (i : Nat) (q : Int × Int) (h : Q[i]? = some q) : ∀ j v, (akA q)[j]? = some v → (tgc most nn Q)[2 + 14 * i + j]? = some v := by
  intro j v hv
  have hj : j < 14 := by
    have := (Array.getElem?_eq_some_iff.1 hv).1
    exact this
  have h1 := aks_get Q i j q h hj
  have h2 : (akA q)[j]? = (ak q)[j]? := by simp [akA]
  rw [h2] at hv
  show (Array.mk (_ :: _ :: Q.flatMap ak))[2 + 14 * i + j]? = some v
  rw [List.getElem?_toArray, show 2 + 14 * i + j = (14 * i + j) + 1 + 1 from by omega]
  simp only [List.getElem?_cons_succ]
  rw [h1, hv]
def pad (L : List (Int × Int)) : List (Int × Int) := L ++ List.replicate (8 - L.length) (0, 0)
theorem pad_len (L : List (Int × Int)) (h : L.length ≤ 8) : (pad L).length = 8 := by simp [pad]; omega
theorem pad_get (L : List (Int × Int)) (i : Nat) (q : Int × Int) (h : L[i]? = some q) : (pad L)[i]? = some q := by
  have := (List.getElem?_eq_some_iff.1 h).1
  unfold pad
  rw [List.getElem?_append_left this, h]
/-- The requests that wait. -/
def TagT (w : World) (tb : Nat) (most : Nat) (L : List (Int × Int)) : Prop :=
  w.heap[tb]? = some (.cells (tgc most L.length (pad L)) 60 (0, 0)) ∧ L.length ≤ most ∧ most ≤ 8
theorem TagT.ext {w w' : World} {tb most : Nat} {L : List (Int × Int)} (h : TagT w tb most L) (he : Ext w w') : TagT w' tb most L := ⟨he.heap h.1, h.2⟩
theorem ak_info (p : Int × Int) : (Try.prog.info? 32).map (·.size) = some (akA p).size := by
  have h : (Try.prog.info? 32).map (·.size) = some 14 := by kernel_rfl
  exact h
theorem ak_one (p : Int × Int) : (akA p).all (·.oneCell') = true := by simp [akA, ak, Value.oneCell']
theorem tg_slice (tb n : Nat) (hn : n ≤ 8) (w : World) : (Instr.sliceAt 58 (.pointer (some ⟨tb, 2, none⟩)) none (some (.int .i64 (n : Int))) none).run Try.prog w = .ok (.slice (some ⟨tb, 2, none⟩) n 8) w := by
  have ha : Try.prog.arrayLen 58 = 8 := by kernel_rfl
  have he : Try.prog.elem 58 = 32 := by kernel_rfl
  have ht : Try.prog.underlying 58 = some (.array (Try.prog.arrayLen 58) (Try.prog.elem 58)) := by rw [ha, he]; exact Try.underlying58
  have hs : (sizeOf 32).run Try.prog w = .ok 14 w := by
    have h := ak_info (0, 0)
    cases hq : Try.prog.info? 32 with
    | none => rw [hq] at h; cases h
    | some i =>
      rw [hq] at h
      have h2 : i.size = 14 := by simpa [akA, ak] using h
      simp [sizeOf, typeInfo, hq, h2]
  rw [run_sliceAt_array_h w _ _ ht .i64 (n : Int) (by omega) (by rw [ha]; omega), he, hs, ha]
  simp [slicedAt, Addr.add, Result.andThen]
/-- What find tells: a number and no error, or the error. -/
def fndV (L : List (Int × Int)) (tag : Int) : Value := match L.findIdx? fun p => p.2 == tag with
  | some k => .tuple #[.int .i64 (k : Int), .nilIface]
  | none => .tuple #[.int .i64 0, .iface 25 (.int .i64 6)]
set_option maxRecDepth 20000 in
set_option maxHeartbeats 2000000 in
theorem tfind_any (tb most : Nat) (L : List (Int × Int)) (tag : Int) (w : World) (h : TagT w tb most L) :
    Calls Try.prog 25 #[.pointer (some ⟨tb, 0, none⟩), .int .i64 tag] w fun e w' => e = .returned (fndV L tag) ∧ Ext w w' := by
  have hL8 : L.length ≤ 8 := Nat.le_trans h.2.1 h.2.2
  have HB := Lib.hid h.1
  have HC : Hid (∀ w', Ext w.drew w' → w'.cell? ⟨tb, 1, none⟩ = some (.int .i64 (L.length : Int))) := Lib.hid fun w' he => by
    have := cell_of_row w' tb 1 _ _ _ (he.heap (show w.drew.heap[tb]? = _ from h.1))
    rw [this]
    rfl
  have HNO : Hid ((∀ (j : Nat) (q : Int × Int), L[j]? = some q → ¬ q.2 = tag) → fndV L tag = .tuple #[.int .i64 0, .iface 25 (.int .i64 6)]) := Lib.hid fun hh => by
    have : (L.findIdx? fun p => p.2 == tag) = none := by
      rw [List.findIdx?_eq_none_iff]
      intro q hq
      obtain ⟨j, hj⟩ := List.getElem?_of_mem hq
      simpa using hh j q hj
    unfold fndV
    rw [this]
  have HYES : Hid (∀ (k : Nat) (q : Int × Int), L[k]? = some q → q.2 = tag → (∀ (j : Nat) (q : Int × Int), L[j]? = some q → j < k → ¬ q.2 = tag) → fndV L tag = .tuple #[.int .i64 (k : Int), .nilIface]) := Lib.hid fun k q hq ht hh => by
    have : (L.findIdx? fun p => p.2 == tag) = some k := by
      rw [List.findIdx?_eq_some_iff_getElem]
      have hk := (List.getElem?_eq_some_iff.1 hq)
      have hk1 := hk.1
      refine ⟨hk.1, by rw [hk.2]; simpa using ht, fun j hj => ?_⟩
      have := hh j _ (List.getElem?_eq_getElem (by omega)) hj
      simpa using this
    unfold fndV
    rw [this]
  have hsl := tg_slice tb L.length hL8
  have HI := Lib.hid ak_info
  have HU := Lib.hid ak_one
  clear h
  go_enter Try.func25, Try.ntmps25
  go_wp2_with fail
  refine wp_region_pl (.free 0 (.free 1 (.free 2 (.free 3 (.free 4 (.free 5 (.free 6 (.free 7 (.free 8 (.free 9 .nil)))))))))) (by kernel_rfl) (by kernel_rfl) (by kernel_rfl) (by kernel_rfl) ?_
  refine pl_val (v := ?_) rfl rfl (fun w' hw' => ?_) ?_; rotate_left; (· have c1 := HC.out w' hw'; go_simp; try with_reducible rfl); simp only [Act.put, List.setIfInBounds_toArray, List.set_cons_zero, List.set_cons_succ]
  refine pl_val (v := ?_) rfl rfl (fun w' hw' => ?_) ?_; rotate_left; (· have c1 := HC.out w' hw'; go_simp; try with_reducible rfl); simp only [Act.put, List.setIfInBounds_toArray, List.set_cons_zero, List.set_cons_succ]
  refine pl_val (v := ?_) rfl rfl (fun w' hw' => ?_) ?_; rotate_left; (· have c1 := HC.out w' hw'; go_simp; try with_reducible rfl); simp only [Act.put, List.setIfInBounds_toArray, List.set_cons_zero, List.set_cons_succ]
  refine pl_val (v := ?_) rfl rfl (fun w' hw' => ?_) ?_; rotate_left; (· have c1 := HC.out w' hw'; go_simp; try with_reducible rfl); simp only [Act.put, List.setIfInBounds_toArray, List.set_cons_zero, List.set_cons_succ]
  refine pl_val (v := ?_) rfl rfl (fun w' hw' => ?_) ?_; rotate_left; (· have c1 := HC.out w' hw'; go_simp; try with_reducible rfl); simp only [Act.put, List.setIfInBounds_toArray, List.set_cons_zero, List.set_cons_succ]
  refine pl_val (v := ?_) rfl rfl (fun w' hw' => ?_) ?_; rotate_left; (· have c1 := HC.out w' hw'; go_simp; try with_reducible rfl); simp only [Act.put, List.setIfInBounds_toArray, List.set_cons_zero, List.set_cons_succ]
  refine pl_val (v := ?_) rfl rfl (fun w' hw' => ?_) ?_; rotate_left; (· have c1 := HC.out w' hw'; go_simp; try with_reducible rfl); simp only [Act.put, List.setIfInBounds_toArray, List.set_cons_zero, List.set_cons_succ]
  refine pl_val (v := ?_) rfl rfl (fun w' hw' => ?_) ?_; rotate_left; (· have c1 := HC.out w' hw'; go_simp; try with_reducible rfl); simp only [Act.put, List.setIfInBounds_toArray, List.set_cons_zero, List.set_cons_succ]
  refine pl_val (v := ?_) rfl rfl (fun w' hw' => ?_) ?_; rotate_left; (· have c1 := HC.out w' hw'; go_simp; try with_reducible rfl); simp only [Act.put, List.setIfInBounds_toArray, List.set_cons_zero, List.set_cons_succ]
  refine pl_val (v := ?_) rfl rfl (fun w' hw' => ?_) ?_; rotate_left; (· have c1 := HC.out w' hw'; go_simp; try with_reducible rfl); simp only [Act.put, List.setIfInBounds_toArray, List.set_cons_zero, List.set_cons_succ]
  refine pl_done ?_
  clear HC
  go_wp2_with fail
  go_loopw [17] (fun i wr => ∃ k : Nat, k ≤ L.length ∧ i = .int .i64 k ∧ (∀ (j : Nat) (q : Int × Int), L[j]? = some q → j < k → ¬ q.2 = tag) ∧ Ext w wr) (fun i _ => L.length - (intOf i).toNat)
  case atStart => exact ⟨0, by omega, rfl, fun j q _ h => absurd h (by omega), (Ext.refl w).drew⟩
  case round =>
    obtain ⟨k, hk, rfl, hall, ext⟩ := hrel
    have HALL := Lib.hid hall
    have EX := Lib.hid ext
    clear hall ext
    by_cases hkl : k < L.length
    · obtain ⟨q, hq⟩ : ∃ q, L[k]? = some q := ⟨_, List.getElem?_eq_getElem hkl⟩
      have HQ := Lib.hid hq
      have HBr := Lib.hid (EX.out.heap HB.out)
      have HSUB := Lib.hid (tgc_sub most L.length (pad L) k q (pad_get L k q hq))
      have HZ0 : Hid ((wr.alloc (.cells #[.int .i64 0, .int .i64 0, .int .i64 0, .int .i64 0, .int .i64 0, .int .i64 0, .int .i64 0, .int .i64 0, .int .i64 0, .int .i64 0, .string ⟨#[]⟩, .slice none 0 0, .int .i64 0, .slice none 0 0] 32)).heap[wr.heap.size]? = some (.cells #[.int .i64 0, .int .i64 0, .int .i64 0, .int .i64 0, .int .i64 0, .int .i64 0, .int .i64 0, .int .i64 0, .int .i64 0, .int .i64 0, .string ⟨#[]⟩, .slice none 0 0, .int .i64 0, .slice none 0 0] 32 (0, 0))) := Lib.hid (heap_alloc_new wr _)
      have HS : Hid ((#[.int .i64 0, .int .i64 0, .int .i64 0, .int .i64 0, .int .i64 0, .int .i64 0, .int .i64 0, .int .i64 0, .int .i64 0, .int .i64 0, .string ⟨#[]⟩, .slice none 0 0, .int .i64 0, .slice none 0 0] : Array Value).size = (akA q).size) := Lib.hid rfl
      obtain ⟨W, hW⟩ : ∃ W, (wr.alloc (.cells #[.int .i64 0, .int .i64 0, .int .i64 0, .int .i64 0, .int .i64 0, .int .i64 0, .int .i64 0, .int .i64 0, .int .i64 0, .int .i64 0, .string ⟨#[]⟩, .slice none 0 0, .int .i64 0, .slice none 0 0] 32)).setRow wr.heap.size (akA q) = W := ⟨_, rfl⟩
      have hbW : W.heap[wr.heap.size]? = some (.cells (akA q) 32 (0, 0)) := by rw [← hW]; exact setRow_heap _ _ _ _ _ _ HZ0.out
      have EW : Hid (Ext w W) := Lib.hid (by
        rw [← hW]
        exact Below.trans (EX.out.alloc _) ⟨rfl, rfl, rfl, by simp [World.setRow], fun j hj => setRow_other _ _ j _ (by have := EX.out.size; omega)⟩)
      have x1 := cell_of_row W wr.heap.size 1 _ _ _ hbW
      simp [akA, ak] at x1
      rw [← hW] at x1
      have EW2 : Hid (Ext w ((wr.alloc (.cells #[.int .i64 0, .int .i64 0, .int .i64 0, .int .i64 0, .int .i64 0, .int .i64 0, .int .i64 0, .int .i64 0, .int .i64 0, .int .i64 0, .string ⟨#[]⟩, .slice none 0 0, .int .i64 0, .slice none 0 0] 32)).setRow wr.heap.size (akA q))) := Lib.hid (by rw [hW]; exact EW.out)
      have hidx : (k : Int) < 8 := by omega
      clear hq hbW hW EW
      by_cases ht : q.2 = tag
      · have HR := Lib.hid (HYES.out k q HQ.out ht HALL.out)
        go_wp2_with (first | (refine wpList_load_sub rfl 32 (.tmp 20) rfl tb (2 + 14 * k) (by first | rfl | exact congrArg (fun n => Value.pointer (some ⟨tb, n, none⟩)) (by omega)) _ _ _ _ _ HBr.out HSUB.out Try.underlying32 rfl (HI.out q) ?_) | (refine wpList_store_row rfl 32 (.tmp 7) (.tmp 21) rfl wr.heap.size (akA q) rfl rfl _ _ HZ0.out (HI.out q) HS.out (HU.out q) ?_) | fail)
        go_ret2
        exact ⟨by rw [HR.out]; rfl, EW2.out⟩
      · go_wp2_with (first | (refine wpList_load_sub rfl 32 (.tmp 20) rfl tb (2 + 14 * k) (by first | rfl | exact congrArg (fun n => Value.pointer (some ⟨tb, n, none⟩)) (by omega)) _ _ _ _ _ HBr.out HSUB.out Try.underlying32 rfl (HI.out q) ?_) | (refine wpList_store_row rfl 32 (.tmp 7) (.tmp 21) rfl wr.heap.size (akA q) rfl rfl _ _ HZ0.out (HI.out q) HS.out (HU.out q) ?_) | fail)
        go_roundw
        case rel => exact ⟨k + 1, by omega, by go_num, fun j q' hj hjk => by
          by_cases hjk2 : j < k
          · exact HALL.out j q' hj hjk2
          · rw [show j = k from by omega, HQ.out] at hj
            injection hj with hj
            rw [← hj]
            exact ht, EW2.out⟩
        case measure => simp [intOf]; omega
    · obtain rfl : k = L.length := by omega
      have HR := Lib.hid (HNO.out fun j q hj => HALL.out j q hj (List.getElem?_eq_some_iff.1 hj).1)
      go_wp2_with fail
      go_ret2
      exact ⟨by rw [HR.out]; rfl, EX.out⟩
end Go.Proofs.Ytnbeeglomciieaa
