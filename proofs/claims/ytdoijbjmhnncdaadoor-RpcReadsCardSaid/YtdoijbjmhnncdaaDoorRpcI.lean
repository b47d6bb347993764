/-
  Layer 6: an error's number and place, where the error is a fault; the beginnings of a head.
-/
import Derived.Test.YtdoijbjmhnncdaaDoorRpcH
namespace Go.Proofs.YtdoijbjmhnncdaaDoor
open Go Go.RowKit
set_option linter.unusedVariables false
set_option linter.unusedSimpArgs false
theorem as_fault (v : Value) (w : World) : (Instr.typeAssert (.iface 46 v) 34 46 true).run Tryd.prog w = .ok (.tuple #[v, .bool true]) w := by kernel_rfl
set_option maxRecDepth 20000 in
theorem find_fault (fb : Nat) (w : World) :
    Calls Tryd.prog 23 #[.iface 46 (.pointer (some ⟨fb, 0, none⟩))] w fun e w' => e = .returned (.pointer (some ⟨fb, 0, none⟩)) ∧ w = w' := by
  have ta := as_fault (.pointer (some ⟨fb, 0, none⟩)) w
  go_enter Tryd.func23, Tryd.ntmps23
  go_wp2_with fail
  go_ret
  exact ⟨rfl, rfl⟩
set_option maxRecDepth 20000 in
theorem number_fault (fb : Nat) (x y : Int) (w : World) (h : w.heap[fb]? = some (.cells #[.int .i64 x, .int .i64 y] 48 (0, 0))) :
    Calls Tryd.prog 13 #[.iface 46 (.pointer (some ⟨fb, 0, none⟩))] w fun e w' => e = .returned (.int .i64 x) ∧ w = w' := by
  have c0 := cell_of_row w fb 0 _ _ _ h
  simp at c0
  clear h
  go_enter Tryd.func13, Tryd.ntmps13
  go_wp2_with fail
  refine (find_fault fb w).mono ?_
  rintro e w1 ⟨rfl, rfl⟩
  go_wp2_with fail
  go_ret
  exact ⟨rfl, rfl⟩
set_option maxRecDepth 20000 in
theorem place_fault (fb : Nat) (x y : Int) (w : World) (h : w.heap[fb]? = some (.cells #[.int .i64 x, .int .i64 y] 48 (0, 0))) :
    Calls Tryd.prog 14 #[.iface 46 (.pointer (some ⟨fb, 0, none⟩))] w fun e w' => e = .returned (.int .i64 y) ∧ w = w' := by
  have c0 := cell_of_row w fb 1 _ _ _ h
  simp at c0
  clear h
  go_enter Tryd.func14, Tryd.ntmps14
  go_wp2_with fail
  refine (find_fault fb w).mono ?_
  rintro e w1 ⟨rfl, rfl⟩
  go_wp2_with fail
  go_ret
  exact ⟨rfl, rfl⟩
/-! The header of too few bytes. -/
theorem numE_be (e x : Int) (t : List UInt8) : numE e (be4 x ++ t) = e := by
  rw [numE, if_pos (by rw [List.length_append, be4_length]; omega)]
theorem numL_be (x : Int) (t : List UInt8) : numL (be4 x ++ t) = t := by
  rw [numL, if_pos (by rw [List.length_append, be4_length]; omega)]
  rfl
theorem numN_be (x : Int) (t : List UInt8) (h : 0 ≤ x ∧ x < 4294967296) : numN (be4 x ++ t) = x := by
  rw [numN, if_pos (by rw [List.length_append, be4_length]; omega), num4_be x t h.1 h.2]
theorem nx_be (x : Int) (t : List UInt8) (k : Nat) : nx (0, be4 x ++ t, none) k = (0, t, none) := by
  simp only [nx, numE_be, numL_be, numF, if_true]
theorem cx_be (x : Int) (t : List UInt8) (zs : List Int) (k : Nat) (h : 0 ≤ x ∧ x < 4294967296) (hx : x ∈ zs) : cx (0, be4 x ++ t, none) zs k = (0, t, none) := by
  simp only [cx, numE_be, numL_be, numF, if_true, numN_be x t h, choF, if_pos hx]
theorem num_few {t : List UInt8} (h : t.length < 4) : numE 0 t = 3 ∧ numL t = [] ∧ numN t = 0 := by
  have h4 : ¬ 4 ≤ t.length := by omega
  refine ⟨by rw [numE, if_neg h4]; rfl, by rw [numL, if_neg h4], by rw [numN, if_neg h4]⟩
theorem nx_few {t : List UInt8} (h : t.length < 4) (k : Nat) : nx (0, t, none) k = (3, [], some (3, (k : Int))) := by
  obtain ⟨h1, h2, _⟩ := num_few h
  simp only [nx, h1, h2]
  rfl
theorem cx_few {t : List UInt8} (h : t.length < 4) (zs : List Int) (k : Nat) : cx (0, t, none) zs k = (3, [], some (3, (k : Int))) := by
  obtain ⟨h1, h2, _⟩ := num_few h
  simp only [cx, h1, h2]
  have : numF none 3 k = some (3, (k : Int)) := rfl
  rw [this, choF]
  split <;> rfl
theorem nx_bad (p : Int × Int) (k : Nat) : nx (3, [], some p) k = (3, [], some p) := rfl
theorem cx_bad (p : Int × Int) (zs : List Int) (k : Nat) : cx (3, [], some p) zs k = (3, [], some p) := by
  have h1 : numE 3 [] = 3 := rfl
  have h2 : numL [] = [] := rfl
  have : numF (some p) 3 k = some p := rfl
  simp only [cx, h1, h2, this]
  rw [choF]
  split <;> rfl
theorem tk_few (x : Int) (T : List UInt8) (k : Nat) (h : k < 4) : ((be4 x ++ T).take k).length < 4 := by
  rw [List.length_take]
  omega
theorem tk_more (x : Int) (T : List UInt8) (k : Nat) (h : ¬ k < 4) : (be4 x ++ T).take k = be4 x ++ T.take (k - 4) := by
  rw [List.take_append, List.take_of_length_le (by rw [be4_length]; omega), be4_length]
theorem rd_few1 {t : List UInt8} (h : t.length < 4) : (rd4 t).2.2 = some (3, 0) := by
  have r1 : rd1 t = (3, [], some (3, 0)) := nx_few h 0
  have r2 : rd2 t = (3, [], some (3, 0)) := by rw [rd2, r1]; exact cx_bad _ _ _
  have r3 : rd3 t = (3, [], some (3, 0)) := by
    rw [rd3, r2]
    split
    · exact cx_bad _ _ _
    · rw [cx_bad, cx_bad, cx_bad]
  rw [rd4, r3, nx_bad]
theorem rd_few2 {x : Int} {t : List UInt8} (h : t.length < 4) : (rd4 (be4 x ++ t)).2.2 = some (3, 4) := by
  have r1 : rd1 (be4 x ++ t) = (0, t, none) := nx_be _ _ _
  have r2 : rd2 (be4 x ++ t) = (3, [], some (3, 4)) := by rw [rd2, r1]; exact cx_few h _ _
  have r3 : rd3 (be4 x ++ t) = (3, [], some (3, 4)) := by
    rw [rd3, r2]
    split
    · exact cx_bad _ _ _
    · rw [cx_bad, cx_bad, cx_bad]
  rw [rd4, r3, nx_bad]
theorem rd_call {x : Int} {t : List UInt8} : rdR (be4 x ++ (be4 0 ++ t)) = false ∧ rd2 (be4 x ++ (be4 0 ++ t)) = (0, t, none) := by
  have r1 : rd1 (be4 x ++ (be4 0 ++ t)) = (0, be4 0 ++ t, none) := nx_be _ _ _
  exact ⟨by rw [rdR, r1]; simp only [numN_be 0 _ ⟨by omega, by omega⟩]; rfl, by rw [rd2, r1]; exact cx_be _ _ _ _ ⟨by omega, by omega⟩ (by simp)⟩
theorem rd_reply {x : Int} {t : List UInt8} : rdR (be4 x ++ (be4 1 ++ t)) = true ∧ rd2 (be4 x ++ (be4 1 ++ t)) = (0, t, none) := by
  have r1 : rd1 (be4 x ++ (be4 1 ++ t)) = (0, be4 1 ++ t, none) := nx_be _ _ _
  exact ⟨by rw [rdR, r1]; simp only [numN_be 1 _ ⟨by omega, by omega⟩]; rfl, by rw [rd2, r1]; exact cx_be _ _ _ _ ⟨by omega, by omega⟩ (by simp)⟩
theorem msg_cut (rep : Bool) (xid proc : Int) (k : Nat) (hk : k < (msgB rep xid proc []).length) : (rd4 ((msgB rep xid proc []).take k)).2.2 = some (3, ((k / 4 * 4 : Nat) : Int)) := by
  cases rep with
  | true =>
    have e : msgB true xid proc [] = be4 xid ++ (be4 1 ++ (be4 0 ++ (be4 proc ++ []))) := by simp [msgB, numsB, headZ]
    rw [e] at hk ⊢
    simp only [List.length_append, be4_length, List.length_nil] at hk
    by_cases h4 : k < 4
    · rw [rd_few1 (tk_few _ _ _ h4), show k / 4 * 4 = 0 from by omega]; try rfl
    · rw [tk_more _ _ _ h4]
      by_cases h8 : k - 4 < 4
      · rw [rd_few2 (tk_few _ _ _ h8), show k / 4 * 4 = 4 from by omega]; try rfl
      · rw [tk_more _ _ _ h8]
        obtain ⟨rR, r2⟩ := rd_reply (x := xid) (t := (be4 0 ++ (be4 proc ++ [])).take (k - 4 - 4))
        by_cases h12 : k - 4 - 4 < 4
        · rw [rd4, rd3, rR, if_pos rfl, r2, cx_few (tk_few _ _ _ h12), nx_bad, show k / 4 * 4 = 8 from by omega]; try rfl
        · rw [tk_more _ _ _ h12] at rR r2 ⊢
          rw [rd4, rd3, rR, if_pos rfl, r2, cx_be 0 _ _ _ ⟨by omega, by omega⟩ (by simp), nx_few (tk_few _ _ _ (by omega)), rdA, rR, show k / 4 * 4 = 12 from by omega]; try rfl
  | false =>
    have e : msgB false xid proc [] = be4 xid ++ (be4 0 ++ (be4 2 ++ (be4 536870913 ++ (be4 1 ++ (be4 proc ++ []))))) := by simp [msgB, numsB, headZ]
    rw [e] at hk ⊢
    simp only [List.length_append, be4_length, List.length_nil] at hk
    by_cases h4 : k < 4
    · rw [rd_few1 (tk_few _ _ _ h4), show k / 4 * 4 = 0 from by omega]; try rfl
    · rw [tk_more _ _ _ h4]
      by_cases h8 : k - 4 < 4
      · rw [rd_few2 (tk_few _ _ _ h8), show k / 4 * 4 = 4 from by omega]; try rfl
      · rw [tk_more _ _ _ h8]
        obtain ⟨rR, r2⟩ := rd_call (x := xid) (t := (be4 2 ++ (be4 536870913 ++ (be4 1 ++ (be4 proc ++ [])))).take (k - 4 - 4))
        have hf : ¬ (false = true) := by decide
        by_cases h12 : k - 4 - 4 < 4
        · rw [rd4, rd3, rR, if_neg hf, r2, cx_few (tk_few _ _ _ h12), cx_bad, cx_bad, nx_bad, show k / 4 * 4 = 8 from by omega]; try rfl
        · rw [tk_more _ _ _ h12] at rR r2 ⊢
          by_cases h16 : k - 4 - 4 - 4 < 4
          · rw [rd4, rd3, rR, if_neg hf, r2, cx_be 2 _ _ _ ⟨by omega, by omega⟩ (by simp), cx_few (tk_few _ _ _ h16), cx_bad, nx_bad, show k / 4 * 4 = 12 from by omega]; try rfl
          · rw [tk_more _ _ _ h16] at rR r2 ⊢
            by_cases h20 : k - 4 - 4 - 4 - 4 < 4
            · rw [rd4, rd3, rR, if_neg hf, r2, cx_be 2 _ _ _ ⟨by omega, by omega⟩ (by simp), cx_be 536870913 _ _ _ ⟨by omega, by omega⟩ (by simp), cx_few (tk_few _ _ _ h20), nx_bad, show k / 4 * 4 = 16 from by omega]; try rfl
            · rw [tk_more _ _ _ h20] at rR r2 ⊢
              rw [rd4, rd3, rR, if_neg hf, r2, cx_be 2 _ _ _ ⟨by omega, by omega⟩ (by simp), cx_be 536870913 _ _ _ ⟨by omega, by omega⟩ (by simp), cx_be 1 _ _ _ ⟨by omega, by omega⟩ (by simp), nx_few (tk_few _ _ _ (by omega)), rdA, rR, show k / 4 * 4 = 20 from by omega]; try rfl
end Go.Proofs.YtdoijbjmhnncdaaDoor
