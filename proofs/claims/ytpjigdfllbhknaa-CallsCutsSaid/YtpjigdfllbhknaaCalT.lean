/-
  Layer 14: what may be, by the document.
-/
import Derived.Test.YtpjigdfllbhknaaCalS
namespace Go.Proofs.Ytpjigdfllbhknaa
open Go Go.RowKit
set_option linter.unusedVariables false
set_option linter.unusedSimpArgs false
def wdA (a : AR) : Bool := bi a.h1 4294967295 && (bi a.h2 4294967295 && (bi a.g1 4294967295 && (bi a.g2 4294967295 && (bi a.sz 4294967295 && (bi a.ct 4294967295 && bi a.md 4294967295)))))
def bdA (a : AR) : Bool := decide (¬ fld a.pr = []) && (decide (¬ a.off < 0) && (decide (¬ (4611686018427387904 : Int) < a.off) && (decide (¬ (64 : Int) < (a.nm.length : Int)) && (decide (¬ (64 : Int) < (a.n2.length : Int)) && decide (¬ (2048 : Int) < (a.dn : Int))))))
def mayR (a : AR) (l : List UInt8) : Bool := wdA a && (bdA a && cEq (ownA a) a (ownL a.pr l) l)
theorem word14 (x : Int) (w : World) : Calls Try.prog 26 #[.int .i64 x] w fun e w' => e = .returned (.bool (bi x 4294967295)) ∧ w = w' := by
  by_cases h0 : 0 ≤ x
  · by_cases h1 : x ≤ 4294967295
    · have hb : bi x 4294967295 = true := by simp [bi, h0, h1]
      rw [hb]
      go_enter Try.func26, Try.ntmps26
      go_wp2
      go_ret
      exact ⟨rfl, rfl⟩
    · have hb : bi x 4294967295 = false := by simp [bi, h0, h1]
      rw [hb]
      go_enter Try.func26, Try.ntmps26
      go_wp2
      go_ret
      exact ⟨rfl, rfl⟩
  · have hb : bi x 4294967295 = false := by simp [bi, h0]
    rw [hb]
    go_enter Try.func26, Try.ntmps26
    go_wp2
    go_ret
    exact ⟨rfl, rfl⟩
set_option maxRecDepth 20000 in
set_option maxHeartbeats 4000000 in
theorem rmay14 (a : AR) (l : List UInt8) (w : World) (hs : Sees w a.dA a.dn a.dk (bs l)) :
    Calls Try.prog 14 #[.agg a.cs] w fun e w' => e = .returned (.bool (mayR a l)) ∧ Ext w w' := by
  obtain ⟨ab, hab⟩ : ∃ ab, w.heap.size = ab := ⟨_, rfl⟩
  obtain ⟨w1, hw1⟩ : ∃ w1, w.alloc (.cells a.cs 26) = w1 := ⟨_, rfl⟩
  have e1 : Ext w w1 := by rw [← hw1]; exact (Ext.refl w).alloc _
  have hb : w1.heap[ab]? = some (.cells a.cs 26 (0, 0)) := by rw [← hw1, ← hab]; exact heap_alloc_new w _
  have E1 := Lib.hid e1
  have HB := Lib.hid hb
  have HSD := Lib.hid (hs.ext e1)
  have HI := Lib.hid (fun b : AR => arg_info b)
  have HU := Lib.hid (fun b : AR => AR.one b)
  have q0 : w1.cell? ⟨ab, 0, none⟩ = some (.int .i64 a.pr) := (cell_of_row w1 ab 0 _ _ _ hb).trans rfl
  have q1 : w1.cell? ⟨ab, 1, none⟩ = some (.int .i64 a.off) := (cell_of_row w1 ab 1 _ _ _ hb).trans rfl
  have q2 : w1.cell? ⟨ab, 2, none⟩ = some (.int .i64 a.ct) := (cell_of_row w1 ab 2 _ _ _ hb).trans rfl
  have q3 : w1.cell? ⟨ab, 3, none⟩ = some (.int .i64 a.sz) := (cell_of_row w1 ab 3 _ _ _ hb).trans rfl
  have q4 : w1.cell? ⟨ab, 4, none⟩ = some (.int .i64 a.md) := (cell_of_row w1 ab 4 _ _ _ hb).trans rfl
  have q5 : w1.cell? ⟨ab, 5, none⟩ = some (.int .i64 a.h1) := (cell_of_row w1 ab 5 _ _ _ hb).trans rfl
  have q6 : w1.cell? ⟨ab, 6, none⟩ = some (.int .i64 a.h2) := (cell_of_row w1 ab 6 _ _ _ hb).trans rfl
  have q7 : w1.cell? ⟨ab, 7, none⟩ = some (.int .i64 a.g1) := (cell_of_row w1 ab 7 _ _ _ hb).trans rfl
  have q8 : w1.cell? ⟨ab, 8, none⟩ = some (.int .i64 a.g2) := (cell_of_row w1 ab 8 _ _ _ hb).trans rfl
  have q9 : w1.cell? ⟨ab, 9, none⟩ = some (.string ⟨a.nm.toArray⟩) := (cell_of_row w1 ab 9 _ _ _ hb).trans rfl
  have q10 : w1.cell? ⟨ab, 10, none⟩ = some (.string ⟨a.n2.toArray⟩) := (cell_of_row w1 ab 10 _ _ _ hb).trans rfl
  have q11 : w1.cell? ⟨ab, 11, none⟩ = some (.slice a.dA a.dn a.dk) := (cell_of_row w1 ab 11 _ _ _ hb).trans rfl
  clear e1 hb hs
  go_enter Try.func14, Try.ntmps14
  go_wp2_with fail
  refine (word14 a.h1 _).mono ?_
  rintro e _ ⟨rfl, rfl⟩
  rcases Bool.eq_false_or_eq_true (bi a.h1 4294967295) with bh1 | bh1
  rotate_left
  · rw [bh1]
    have Bh1 := Lib.hid bh1
    clear bh1
    go_wp2_with fail
    go_ret
    exact ⟨congrArg (fun b => Ending.returned (Value.bool b)) (by simp [mayR, wdA, Bh1.out]), E1.out⟩
  rw [bh1]
  have Bh1 := Lib.hid bh1
  clear bh1
  go_wp2_with fail
  refine (word14 a.h2 _).mono ?_
  rintro e _ ⟨rfl, rfl⟩
  rcases Bool.eq_false_or_eq_true (bi a.h2 4294967295) with bh2 | bh2
  rotate_left
  · rw [bh2]
    have Bh2 := Lib.hid bh2
    clear bh2
    go_wp2_with fail
    go_ret
    exact ⟨congrArg (fun b => Ending.returned (Value.bool b)) (by simp [mayR, wdA, Bh1.out, Bh2.out]), E1.out⟩
  rw [bh2]
  have Bh2 := Lib.hid bh2
  clear bh2
  go_wp2_with fail
  refine (word14 a.g1 _).mono ?_
  rintro e _ ⟨rfl, rfl⟩
  rcases Bool.eq_false_or_eq_true (bi a.g1 4294967295) with bg1 | bg1
  rotate_left
  · rw [bg1]
    have Bg1 := Lib.hid bg1
    clear bg1
    go_wp2_with fail
    go_ret
    exact ⟨congrArg (fun b => Ending.returned (Value.bool b)) (by simp [mayR, wdA, Bh1.out, Bh2.out, Bg1.out]), E1.out⟩
  rw [bg1]
  have Bg1 := Lib.hid bg1
  clear bg1
  go_wp2_with fail
  refine (word14 a.g2 _).mono ?_
  rintro e _ ⟨rfl, rfl⟩
  rcases Bool.eq_false_or_eq_true (bi a.g2 4294967295) with bg2 | bg2
  rotate_left
  · rw [bg2]
    have Bg2 := Lib.hid bg2
    clear bg2
    go_wp2_with fail
    go_ret
    exact ⟨congrArg (fun b => Ending.returned (Value.bool b)) (by simp [mayR, wdA, Bh1.out, Bh2.out, Bg1.out, Bg2.out]), E1.out⟩
  rw [bg2]
  have Bg2 := Lib.hid bg2
  clear bg2
  go_wp2_with fail
  refine (word14 a.sz _).mono ?_
  rintro e _ ⟨rfl, rfl⟩
  rcases Bool.eq_false_or_eq_true (bi a.sz 4294967295) with bsz | bsz
  rotate_left
  · rw [bsz]
    have Bsz := Lib.hid bsz
    clear bsz
    go_wp2_with fail
    go_ret
    exact ⟨congrArg (fun b => Ending.returned (Value.bool b)) (by simp [mayR, wdA, Bh1.out, Bh2.out, Bg1.out, Bg2.out, Bsz.out]), E1.out⟩
  rw [bsz]
  have Bsz := Lib.hid bsz
  clear bsz
  go_wp2_with fail
  refine (word14 a.ct _).mono ?_
  rintro e _ ⟨rfl, rfl⟩
  rcases Bool.eq_false_or_eq_true (bi a.ct 4294967295) with bct | bct
  rotate_left
  · rw [bct]
    have Bct := Lib.hid bct
    clear bct
    go_wp2_with fail
    go_ret
    exact ⟨congrArg (fun b => Ending.returned (Value.bool b)) (by simp [mayR, wdA, Bh1.out, Bh2.out, Bg1.out, Bg2.out, Bsz.out, Bct.out]), E1.out⟩
  rw [bct]
  have Bct := Lib.hid bct
  clear bct
  go_wp2_with fail
  refine (word14 a.md _).mono ?_
  rintro e _ ⟨rfl, rfl⟩
  rcases Bool.eq_false_or_eq_true (bi a.md 4294967295) with bmd | bmd
  rotate_left
  · rw [bmd]
    have Bmd := Lib.hid bmd
    clear bmd
    go_wp2_with fail
    go_ret
    exact ⟨congrArg (fun b => Ending.returned (Value.bool b)) (by simp [mayR, wdA, Bh1.out, Bh2.out, Bg1.out, Bg2.out, Bsz.out, Bct.out, Bmd.out]), E1.out⟩
  rw [bmd]
  have Bmd := Lib.hid bmd
  clear bmd
  go_wp2_with fail
  refine (fields14 a.pr _).mono ?_
  rintro e w2 ⟨rfl, e2⟩
  have E2 := Lib.hid e2
  have HB2 := Lib.hid (e2.heap HB.out)
  have r1 : w2.cell? ⟨ab, 1, none⟩ = some (.int .i64 a.off) := (cell_of_row w2 ab 1 _ _ _ (e2.heap HB.out)).trans rfl
  have r9 : w2.cell? ⟨ab, 9, none⟩ = some (.string ⟨a.nm.toArray⟩) := (cell_of_row w2 ab 9 _ _ _ (e2.heap HB.out)).trans rfl
  have r10 : w2.cell? ⟨ab, 10, none⟩ = some (.string ⟨a.n2.toArray⟩) := (cell_of_row w2 ab 10 _ _ _ (e2.heap HB.out)).trans rfl
  have r11 : w2.cell? ⟨ab, 11, none⟩ = some (.slice a.dA a.dn a.dk) := (cell_of_row w2 ab 11 _ _ _ (e2.heap HB.out)).trans rfl
  clear e2 q0 q1 q2 q3 q4 q5 q6 q7 q8 q9 q10 q11
  by_cases hf : fld a.pr = []
  · have HF := Lib.hid hf
    rw [hf]
    clear hf
    go_wp2_with fail
    go_ret
    exact ⟨congrArg (fun b => Ending.returned (Value.bool b)) (by simp [mayR, wdA, bdA, Bh1.out, Bh2.out, Bg1.out, Bg2.out, Bsz.out, Bct.out, Bmd.out, HF.out]), E1.out.trans E2.out⟩
  have HF := Lib.hid hf
  by_cases h0 : a.off < 0
  · go_wp2_with fail
    go_ret
    exact ⟨congrArg (fun b => Ending.returned (Value.bool b)) (by simp [mayR, wdA, bdA, Bh1.out, Bh2.out, Bg1.out, Bg2.out, Bsz.out, Bct.out, Bmd.out, HF.out, h0]), E1.out.trans E2.out⟩
  by_cases h3 : (4611686018427387904 : Int) < a.off
  · go_wp2_with fail
    go_ret
    exact ⟨congrArg (fun b => Ending.returned (Value.bool b)) (by simp [mayR, wdA, bdA, Bh1.out, Bh2.out, Bg1.out, Bg2.out, Bsz.out, Bct.out, Bmd.out, HF.out, h0, h3]), E1.out.trans E2.out⟩
  by_cases h4 : (64 : Int) < (a.nm.length : Int)
  · go_wp2_with fail
    go_ret
    exact ⟨congrArg (fun b => Ending.returned (Value.bool b)) (by simp [mayR, wdA, bdA, Bh1.out, Bh2.out, Bg1.out, Bg2.out, Bsz.out, Bct.out, Bmd.out, HF.out, h0, h3, h4]), E1.out.trans E2.out⟩
  by_cases h5 : (64 : Int) < (a.n2.length : Int)
  · go_wp2_with fail
    go_ret
    exact ⟨congrArg (fun b => Ending.returned (Value.bool b)) (by simp [mayR, wdA, bdA, Bh1.out, Bh2.out, Bg1.out, Bg2.out, Bsz.out, Bct.out, Bmd.out, HF.out, h0, h3, h4, h5]), E1.out.trans E2.out⟩
  by_cases h6 : (2048 : Int) < (a.dn : Int)
  · go_wp2_with fail
    go_ret
    exact ⟨congrArg (fun b => Ending.returned (Value.bool b)) (by simp [mayR, wdA, bdA, Bh1.out, Bh2.out, Bg1.out, Bg2.out, Bsz.out, Bct.out, Bmd.out, HF.out, h0, h3, h4, h5, h6]), E1.out.trans E2.out⟩
  have HX := Lib.hid (⟨h0, h3, h4, h5, h6⟩ : ¬ a.off < 0 ∧ ¬ (4611686018427387904 : Int) < a.off ∧ ¬ (64 : Int) < (a.nm.length : Int) ∧ ¬ (64 : Int) < (a.n2.length : Int) ∧ ¬ (2048 : Int) < (a.dn : Int))
  go_wp2_with (first | (with_reducible refine wpList_load_row rfl 26 (.tmp 1) rfl ab rfl _ _ _ _ HB2.out Try.underlying26 rfl (HI.out _) ?_) | fail)
  · rename_i hh
    exfalso
    rcases hh with ((((hh | hh) | hh) | hh) | hh) | hh
    · exact hf (by simpa using hh)
    all_goals omega
  refine (own14 a _).mono ?_
  rintro e w3 ⟨rfl, e3⟩
  obtain ⟨xb, hxb⟩ : ∃ xb, w3.heap.size = xb := ⟨_, rfl⟩
  have HXA : Hid ((w3.alloc (.cells #[.int .i64 0, .int .i64 0, .int .i64 0, .int .i64 0, .int .i64 0, .int .i64 0, .int .i64 0, .int .i64 0, .int .i64 0, .string ⟨#[]⟩, .string ⟨#[]⟩, .slice none 0 0] 26)).heap[xb]? = some (.cells #[.int .i64 0, .int .i64 0, .int .i64 0, .int .i64 0, .int .i64 0, .int .i64 0, .int .i64 0, .int .i64 0, .int .i64 0, .string ⟨#[]⟩, .string ⟨#[]⟩, .slice none 0 0] 26 (0, 0))) := Lib.hid (by rw [← hxb]; exact heap_alloc_new _ _)
  have E34 : Hid (Ext w3 ((w3.alloc (.cells #[.int .i64 0, .int .i64 0, .int .i64 0, .int .i64 0, .int .i64 0, .int .i64 0, .int .i64 0, .int .i64 0, .int .i64 0, .string ⟨#[]⟩, .string ⟨#[]⟩, .slice none 0 0] 26)).setRow xb (ownA a).cs)) := Lib.hid (by exact below_setRow ((Ext.refl w3).alloc _) (by omega) _)
  have HX4 : Hid (((w3.alloc (.cells #[.int .i64 0, .int .i64 0, .int .i64 0, .int .i64 0, .int .i64 0, .int .i64 0, .int .i64 0, .int .i64 0, .int .i64 0, .string ⟨#[]⟩, .string ⟨#[]⟩, .slice none 0 0] 26)).setRow xb (ownA a).cs).heap[xb]? = some (.cells (ownA a).cs 26 (0, 0))) := Lib.hid (by exact setRow_heap _ xb _ _ _ _ HXA.out)
  have HB4 := Lib.hid (E34.out.heap (e3.heap HB2.out))
  have E4 := Lib.hid ((E1.out.trans E2.out).trans (e3.trans E34.out))
  have HS4 := Lib.hid (HSD.out.ext (E2.out.trans (e3.trans E34.out)))
  clear e3
  go_wp2_with (first | (with_reducible refine wpList_store_row rfl 26 (.tmp 4) (.tmp 79) rfl xb _ rfl rfl _ _ HXA.out (HI.out _) rfl (HU.out _) ?_) | (with_reducible refine wpList_load_row rfl 26 (.tmp 4) rfl xb rfl _ _ _ _ HX4.out Try.underlying26 rfl (HI.out _) ?_) | (with_reducible refine wpList_load_row rfl 26 (.tmp 1) rfl ab rfl _ _ _ _ HB4.out Try.underlying26 rfl (HI.out _) ?_) | fail)
  refine (rsame14 (ownA a) a (ownL a.pr l) l _ (sees_ownA HS4.out) HS4.out).mono ?_
  rintro e w5 ⟨rfl, e5⟩
  go_wp2_with fail
  go_ret
  obtain ⟨g0, g3, g4, g5, g6⟩ := HX.out
  exact ⟨congrArg (fun b => Ending.returned (Value.bool b)) (by simp only [mayR, wdA, bdA, Bh1.out, Bh2.out, Bg1.out, Bg2.out, Bsz.out, Bct.out, Bmd.out, HF.out, decide_eq_true (show ¬ a.off < 0 by omega), decide_eq_true (show ¬ (4611686018427387904 : Int) < a.off by omega), decide_eq_true (show ¬ (64 : Int) < (a.nm.length : Int) by omega), decide_eq_true (show ¬ (64 : Int) < (a.n2.length : Int) by omega), decide_eq_true (show ¬ (2048 : Int) < (a.dn : Int) by omega), not_false_eq_true, decide_true, Bool.true_and]), E4.out.trans e5⟩
end Go.Proofs.Ytpjigdfllbhknaa
