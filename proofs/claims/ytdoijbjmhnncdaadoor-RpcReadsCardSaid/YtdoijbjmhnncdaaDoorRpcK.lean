/-
  Layer 6: the document's Read: its reader's numbers, what a header comes to step by step.
-/
import Derived.Test.YtdoijbjmhnncdaaDoorRpcJ
namespace Go.Proofs.YtdoijbjmhnncdaaDoor
open Go Go.RowKit
set_option linter.unusedVariables false
set_option linter.unusedSimpArgs false
theorem ru32_row (h : Nat) (A : Option Addr) (n c I : Nat) (B : List UInt8) (w : World) (hb : w.heap[h]? = some (.cells #[.slice A n c, .int .i64 ((I : Nat) : Int), .int .i64 0] 66 (0, 0))) (hs : Sees w A n c (bs B)) (hI : I + 4 ≤ n) :
    Calls Tryd.prog 22 #[.pointer (some ⟨h, 0, none⟩)] w fun x w' => x = .returned (.int .u32 (num4 (B.drop I))) ∧ w'.heap[h]? = some (.cells #[.slice A n c, .int .i64 ((I + 4 : Nat) : Int), .int .i64 0] 66 (0, 0)) ∧ Onl h w w' := by
  have hBl := hs.len
  rw [bs_length] at hBl
  have hr : Rfr w h 0 (B.drop I) := ⟨A, n, c, B, I, hb, hs, by omega, fun _ => rfl, fun q => absurd rfl q⟩
  have HR := Lib.hid hr
  have HB := Lib.hid hb
  have HS := Lib.hid hs
  have hlen : (4 : Int) ≤ ((B.drop I).length : Int) := by rw [List.length_drop]; omega
  have hm := hs.max
  have hle := hs.le
  unfold maxLen at hm
  clear hr hb hs
  go_enter Tryd.func22, Tryd.ntmps22
  go_wp2_with fail
  refine (rshort_ok h 4 _ _ HR.out hlen).mono ?_
  rintro x w1 ⟨rfl, e1⟩
  have hb1 := e1.heap HB.out
  have hs1 := HS.out.ext e1
  have c1 := cell_of_row w1 h 1 _ _ _ hb1
  simp at c1
  have HW := Lib.hid (rword_any h I A n c I 0 B _ hb1 hs1 hI)
  have HB1 := Lib.hid hb1
  clear hb1 hs1
  go_wp2_with fail
  refine HW.out.mono ?_
  rintro x w2 ⟨rfl, e2⟩
  have hb2 := e2.heap HB1.out
  have c1' := cell_of_row w2 h 1 _ _ _ hb2
  have f1 := blk_free hb2 1
  simp at c1'
  have hset := set_blk hb2 1 (.int .i64 ((I : Int) + 4))
  clear c1 hb2
  go_wp2
  go_ret
  exact ⟨rfl, by simpa using hset, (Onl.of_ext (e1.trans e2)).trans (Onl.set _ 1 _)⟩
/-- The number in place j. -/
def nn (b : List UInt8) (j : Nat) : Int := num4 (b.drop (4 * j))
theorem nx_keep {s : Int × List UInt8 × Option (Int × Int)} {p : Int × Int} (h : s.2.2 = some p) (a : Nat) : (nx s a).2.2 = some p := by
  simp only [nx, h, numF]
  split <;> rfl
theorem cx_keep {s : Int × List UInt8 × Option (Int × Int)} {p : Int × Int} (h : s.2.2 = some p) (zs : List Int) (a : Nat) : (cx s zs a).2.2 = some p := by
  have h1 : numF (some p) (numE s.1 s.2.1) a = some p := by
    simp only [numF]
    split <;> rfl
  simp only [cx, h, h1, choF]
  split <;> rfl
theorem rd4_keep2 {b : List UInt8} {p : Int × Int} (h : (rd2 b).2.2 = some p) : (rd4 b).2.2 = some p := by
  rw [rd4]
  refine nx_keep ?_ _
  rw [rd3]
  split
  · exact cx_keep h _ _
  · exact cx_keep (cx_keep (cx_keep h _ _) _ _) _ _
theorem dr_few {b : List UInt8} {i : Nat} (h : ¬ 4 * i + 4 ≤ b.length) : (b.drop (4 * i)).length < 4 := by rw [List.length_drop]; omega
theorem dr_ok {b : List UInt8} {i : Nat} (h : 4 * i + 4 ≤ b.length) : 4 ≤ (b.drop (4 * i)).length := by rw [List.length_drop]; omega
theorem dr_nums {b : List UInt8} {i : Nat} (h : 4 * i + 4 ≤ b.length) : numE 0 (b.drop (4 * i)) = 0 ∧ numL (b.drop (4 * i)) = b.drop (4 * (i + 1)) ∧ numN (b.drop (4 * i)) = nn b i := by
  have h4 := dr_ok h
  refine ⟨by rw [numE, if_pos h4], by rw [numL, if_pos h4, List.drop_drop]; rfl, by rw [numN, if_pos h4]; rfl⟩
theorem nx_ok {b : List UInt8} (i : Nat) (h : 4 * i + 4 ≤ b.length) (a : Nat) : nx (0, b.drop (4 * i), none) a = (0, b.drop (4 * (i + 1)), none) := by
  obtain ⟨h1, h2, h3⟩ := dr_nums h
  simp only [nx, h1, h2, numF, if_true]
theorem cx_ok {b : List UInt8} (i : Nat) (h : 4 * i + 4 ≤ b.length) (zs : List Int) (hz : nn b i ∈ zs) (a : Nat) : cx (0, b.drop (4 * i), none) zs a = (0, b.drop (4 * (i + 1)), none) := by
  obtain ⟨h1, h2, h3⟩ := dr_nums h
  simp only [cx, h1, h2, h3, numF, if_true, choF, if_pos hz]
theorem cx_no {b : List UInt8} (i : Nat) (h : 4 * i + 4 ≤ b.length) (zs : List Int) (hz : nn b i ∉ zs) (a : Nat) : (cx (0, b.drop (4 * i), none) zs a).2.2 = some (2, (a : Int)) := by
  obtain ⟨h1, h2, h3⟩ := dr_nums h
  simp only [cx, h1, h2, h3, numF, if_true, choF, if_neg hz]
  rfl
theorem nx_fewD {b : List UInt8} (i : Nat) (h : ¬ 4 * i + 4 ≤ b.length) (a : Nat) : (nx (0, b.drop (4 * i), none) a).2.2 = some (3, (a : Int)) := by rw [nx_few (dr_few h)]
theorem cx_fewD {b : List UInt8} (i : Nat) (h : ¬ 4 * i + 4 ≤ b.length) (zs : List Int) (a : Nat) : (cx (0, b.drop (4 * i), none) zs a).2.2 = some (3, (a : Int)) := by rw [cx_few (dr_few h)]
/-- What a header has come to behind its first numbers. -/
def InvX (b : List UInt8) : Nat → Nat → Prop
  | 0, 2 => True
  | 1, 2 => rd1 b = (0, b.drop (4 * 1), none)
  | 2, 4 => rdR b = true ∧ rd2 b = (0, b.drop (4 * 2), none)
  | 3, 4 => rdR b = true ∧ rd3 b = (0, b.drop (4 * 3), none)
  | 4, 4 => rdR b = true ∧ rd3 b = (0, b.drop (4 * 3), none) ∧ rd4 b = (0, b.drop (4 * 4), none)
  | 2, 6 => rdR b = false ∧ rd2 b = (0, b.drop (4 * 2), none)
  | 3, 6 => rdR b = false ∧ cx (rd2 b) [2] 8 = (0, b.drop (4 * 3), none)
  | 4, 6 => rdR b = false ∧ cx (cx (rd2 b) [2] 8) [536870913] 12 = (0, b.drop (4 * 4), none)
  | 5, 6 => rdR b = false ∧ rd3 b = (0, b.drop (4 * 5), none)
  | 6, 6 => rdR b = false ∧ rd3 b = (0, b.drop (4 * 5), none) ∧ rd4 b = (0, b.drop (4 * 6), none)
  | _, _ => False
theorem InvX.cases {b : List UInt8} {i m : Nat} (h : InvX b i m) : (i = 0 ∧ m = 2) ∨ (i = 1 ∧ m = 2) ∨ (i = 2 ∧ m = 4) ∨ (i = 3 ∧ m = 4) ∨ (i = 4 ∧ m = 4) ∨ (i = 2 ∧ m = 6) ∨ (i = 3 ∧ m = 6) ∨ (i = 4 ∧ m = 6) ∨ (i = 5 ∧ m = 6) ∨ (i = 6 ∧ m = 6) := by
  unfold InvX at h
  split at h <;> first | omega | exact h.elim
theorem i0_few {b : List UInt8} (h : ¬ 4 * 0 + 4 ≤ b.length) : (rd4 b).2.2 = some (3, 0) := rd_few1 (by omega)
theorem i0_ok {b : List UInt8} (h : 4 * 0 + 4 ≤ b.length) : InvX b 1 2 := nx_ok 0 h 0
theorem i1_few {b : List UInt8} (h : InvX b 1 2) (hl : ¬ 4 * 1 + 4 ≤ b.length) : (rd4 b).2.2 = some (3, 4) := rd4_keep2 (by
  rw [rd2, show rd1 b = (0, b.drop (4 * 1), none) from h]
  exact cx_fewD 1 hl _ _)
theorem i1_no {b : List UInt8} (h : InvX b 1 2) (hl : 4 * 1 + 4 ≤ b.length) (hx : nn b 1 ∉ [(0 : Int), 1]) : (rd4 b).2.2 = some (2, 4) := rd4_keep2 (by
  rw [rd2, show rd1 b = (0, b.drop (4 * 1), none) from h]
  exact cx_no 1 hl _ hx _)
theorem i1_reply {b : List UInt8} (h : InvX b 1 2) (hl : 4 * 1 + 4 ≤ b.length) (hx : nn b 1 = 1) : InvX b 2 4 := by
  have h1 : rd1 b = (0, b.drop (4 * 1), none) := h
  refine ⟨?_, ?_⟩
  · rw [rdR, h1]; simp only [(dr_nums hl).2.2, hx]; rfl
  · rw [rd2, h1]; exact cx_ok 1 hl _ (by simp [hx]) _
theorem i1_call {b : List UInt8} (h : InvX b 1 2) (hl : 4 * 1 + 4 ≤ b.length) (hx : nn b 1 = 0) : InvX b 2 6 := by
  have h1 : rd1 b = (0, b.drop (4 * 1), none) := h
  refine ⟨?_, ?_⟩
  · rw [rdR, h1]; simp only [(dr_nums hl).2.2, hx]; rfl
  · rw [rd2, h1]; exact cx_ok 1 hl _ (by simp [hx]) _
theorem r2_few {b : List UInt8} (h : InvX b 2 4) (hl : ¬ 4 * 2 + 4 ≤ b.length) : (rd4 b).2.2 = some (3, 8) := by
  rw [rd4]; refine nx_keep ?_ _; rw [rd3, h.1, if_pos rfl, h.2]; exact cx_fewD 2 hl _ _
theorem r2_no {b : List UInt8} (h : InvX b 2 4) (hl : 4 * 2 + 4 ≤ b.length) (hx : nn b 2 ∉ [(0 : Int)]) : (rd4 b).2.2 = some (2, 8) := by
  rw [rd4]; refine nx_keep ?_ _; rw [rd3, h.1, if_pos rfl, h.2]; exact cx_no 2 hl _ hx _
theorem r2_ok {b : List UInt8} (h : InvX b 2 4) (hl : 4 * 2 + 4 ≤ b.length) (hx : nn b 2 ∈ [(0 : Int)]) : InvX b 3 4 := by
  refine ⟨h.1, ?_⟩
  rw [rd3, h.1, if_pos rfl, h.2]; exact cx_ok 2 hl _ hx _
theorem r3_few {b : List UInt8} (h : InvX b 3 4) (hl : ¬ 4 * 3 + 4 ≤ b.length) : (rd4 b).2.2 = some (3, 12) := by
  rw [rd4, rdA, h.1, h.2]; exact nx_fewD 3 hl _
theorem r3_ok {b : List UInt8} (h : InvX b 3 4) (hl : 4 * 3 + 4 ≤ b.length) : InvX b 4 4 := by
  refine ⟨h.1, h.2, ?_⟩
  rw [rd4, h.2]; exact nx_ok 3 hl _
theorem ff : ¬ (false = true) := by decide
theorem c2_few {b : List UInt8} (h : InvX b 2 6) (hl : ¬ 4 * 2 + 4 ≤ b.length) : (rd4 b).2.2 = some (3, 8) := by
  rw [rd4]; refine nx_keep ?_ _; rw [rd3, h.1, if_neg ff, h.2]; exact cx_keep (cx_keep (cx_fewD 2 hl _ _) _ _) _ _
theorem c2_no {b : List UInt8} (h : InvX b 2 6) (hl : 4 * 2 + 4 ≤ b.length) (hx : nn b 2 ∉ [(2 : Int)]) : (rd4 b).2.2 = some (2, 8) := by
  rw [rd4]; refine nx_keep ?_ _; rw [rd3, h.1, if_neg ff, h.2]; exact cx_keep (cx_keep (cx_no 2 hl _ hx _) _ _) _ _
theorem c2_ok {b : List UInt8} (h : InvX b 2 6) (hl : 4 * 2 + 4 ≤ b.length) (hx : nn b 2 ∈ [(2 : Int)]) : InvX b 3 6 := by
  refine ⟨h.1, ?_⟩
  rw [h.2]; exact cx_ok 2 hl _ hx _
theorem c3_few {b : List UInt8} (h : InvX b 3 6) (hl : ¬ 4 * 3 + 4 ≤ b.length) : (rd4 b).2.2 = some (3, 12) := by
  rw [rd4]; refine nx_keep ?_ _; rw [rd3, h.1, if_neg ff, h.2]; exact cx_keep (cx_fewD 3 hl _ _) _ _
theorem c3_no {b : List UInt8} (h : InvX b 3 6) (hl : 4 * 3 + 4 ≤ b.length) (hx : nn b 3 ∉ [(536870913 : Int)]) : (rd4 b).2.2 = some (2, 12) := by
  rw [rd4]; refine nx_keep ?_ _; rw [rd3, h.1, if_neg ff, h.2]; exact cx_keep (cx_no 3 hl _ hx _) _ _
theorem c3_ok {b : List UInt8} (h : InvX b 3 6) (hl : 4 * 3 + 4 ≤ b.length) (hx : nn b 3 ∈ [(536870913 : Int)]) : InvX b 4 6 := by
  refine ⟨h.1, ?_⟩
  rw [h.2]; exact cx_ok 3 hl _ hx _
theorem c4_few {b : List UInt8} (h : InvX b 4 6) (hl : ¬ 4 * 4 + 4 ≤ b.length) : (rd4 b).2.2 = some (3, 16) := by
  rw [rd4]; refine nx_keep ?_ _; rw [rd3, h.1, if_neg ff, h.2]; exact cx_fewD 4 hl _ _
theorem c4_no {b : List UInt8} (h : InvX b 4 6) (hl : 4 * 4 + 4 ≤ b.length) (hx : nn b 4 ∉ [(1 : Int)]) : (rd4 b).2.2 = some (2, 16) := by
  rw [rd4]; refine nx_keep ?_ _; rw [rd3, h.1, if_neg ff, h.2]; exact cx_no 4 hl _ hx _
theorem c4_ok {b : List UInt8} (h : InvX b 4 6) (hl : 4 * 4 + 4 ≤ b.length) (hx : nn b 4 ∈ [(1 : Int)]) : InvX b 5 6 := by
  refine ⟨h.1, ?_⟩
  rw [rd3, h.1, if_neg ff, h.2]; exact cx_ok 4 hl _ hx _
theorem c5_few {b : List UInt8} (h : InvX b 5 6) (hl : ¬ 4 * 5 + 4 ≤ b.length) : (rd4 b).2.2 = some (3, 20) := by
  rw [rd4, rdA, h.1, h.2]; exact nx_fewD 5 hl _
theorem c5_ok {b : List UInt8} (h : InvX b 5 6) (hl : 4 * 5 + 4 ≤ b.length) : InvX b 6 6 := by
  refine ⟨h.1, h.2, ?_⟩
  rw [rd4, h.2]; exact nx_ok 5 hl _
end Go.Proofs.YtdoijbjmhnncdaaDoor
