/-
  Structs by value, opened.
-/
import Derived.Test.YtabcmhiobfddnaaProg
import Derived.WalkKit
import Derived.ProofKit
import Derived.OpenShut
import Derived.ShutString
namespace Go.Proofs.Ytabcmhiobfddnaa
open Go Go.WideShapes
set_option linter.unusedVariables false
set_option linter.unusedSimpArgs false
theorem list_of2 {α : Type} (l : List α) (h : l.length = 2) : ∃ x0 x1 : α, l = [x0, x1] := by
  match l, h with
  | [x0, x1], _ => exact ⟨x0, x1, rfl⟩
theorem list_of8 {α : Type} (l : List α) (h : l.length = 8) : ∃ x0 x1 x2 x3 x4 x5 x6 x7 : α, l = [x0, x1, x2, x3, x4, x5, x6, x7] := by
  match l, h with
  | [x0, x1, x2, x3, x4, x5, x6, x7], _ => exact ⟨x0, x1, x2, x3, x4, x5, x6, x7, rfl⟩
theorem list_of10 {α : Type} (l : List α) (h : l.length = 10) : ∃ x0 x1 x2 x3 x4 x5 x6 x7 x8 x9 : α, l = [x0, x1, x2, x3, x4, x5, x6, x7, x8, x9] := by
  match l, h with
  | [x0, x1, x2, x3, x4, x5, x6, x7, x8, x9], _ => exact ⟨x0, x1, x2, x3, x4, x5, x6, x7, x8, x9, rfl⟩
set_option maxHeartbeats 1000000 in
theorem open_fid {H : Type} {enc : TypeId × Value → H} {W : World} {r : Reach} {b b0 : Nat} {sp : Nat → Bool} {hd : Bool} {v : Value} {d : DataW H} {p : List MemPlace} (hv : Value.okWide Try.prog W r b 34 v) (h : DataW.Trod enc Try.prog W b0 sp hd 34 v d p) :
    ∃ (z0 : Int) (z1 : Int) (z2 : Int) (z3 : Int) (z4 : ByteArray) (z5 : Bool) (z6 : Bool) (z7 : Int) (z8 : Int) (z9 : Int), v = .agg #[.int .i64 z0, .int .i64 z1, .int .i64 z2, .int .i64 z3, .string z4, .bool z5, .bool z6, .int .i64 z7, .int .i64 z8, .int .i64 z9] ∧ p = [] ∧ (Lit.int .i64 z0).wf = true ∧ (Lit.int .i64 z1).wf = true ∧ (Lit.int .i64 z2).wf = true ∧ (Lit.int .i64 z3).wf = true ∧ z4.size ≤ maxLen ∧ (Lit.int .i64 z7).wf = true ∧ (Lit.int .i64 z8).wf = true ∧ (Lit.int .i64 z9).wf = true ∧ ∀ (W9 : World) (b9 : Nat) (sp9 : Nat → Bool) (hd9 : Bool), DataW.Trod enc Try.prog W9 b9 sp9 hd9 34 v d [] := by
  have hc0 : Try.prog.cellsOf 32 = 2 := by kernel_rfl
  have hc1 : Try.prog.cellsOf 3 = 1 := by kernel_rfl
  have hc2 : Try.prog.cellsOf 9 = 1 := by kernel_rfl
  have hc3 : Try.prog.cellsOf 4 = 1 := by kernel_rfl
  have hc4 : Try.prog.cellsOf 34 = 10 := by kernel_rfl
  obtain ⟨cs, rfl, hsz⟩ := okWide_struct Try.underlying34 hv
  obtain ⟨l⟩ := cs
  obtain ⟨c0, c1, c2, c3, c4, c5, c6, c7, c8, c9, rfl⟩ := list_of10 l (by simpa [hc4] using hsz)
  obtain ⟨fuel, hf⟩ := h
  simp only [Value.cells] at hf
  obtain ⟨xs, n, _, hx, _, hlen, hg⟩ := DataW.trod_struct Try.underlying34 hf
  obtain ⟨y_0, y_1, y_2, y_3, y_4, y_5, y_6, y_7, rfl⟩ := list_of8 xs (by simpa using hlen)
  have g_0 := hg 0 _ rfl
  have g_1 := hg 1 _ rfl
  have g_2 := hg 2 _ rfl
  have g_3 := hg 3 _ rfl
  have g_4 := hg 4 _ rfl
  have g_5 := hg 5 _ rfl
  have g_6 := hg 6 _ rfl
  have g_7 := hg 7 _ rfl
  simp [hc0, hc1, hc2, hc3, hc4] at g_0 g_1 g_2 g_3 g_4 g_5 g_6 g_7
  clear hg hlen
  obtain ⟨xs_0, n_0, _, hx_0, _, hlen_0, hg_0⟩ := DataW.trod_struct Try.underlying32 g_0
  obtain ⟨y_0_0, y_0_1, rfl⟩ := list_of2 xs_0 (by simpa using hlen_0)
  have g_0_0 := hg_0 0 _ rfl
  have g_0_1 := hg_0 1 _ rfl
  simp [hc0, hc1, hc2, hc3, hc4] at g_0_0 g_0_1
  clear hg_0 hlen_0
  obtain ⟨z0, ef_0_0, ey_0_0, wz0⟩ := DataW.trod_int Try.underlying3 g_0_0
  simp at ef_0_0
  subst ef_0_0 ey_0_0
  obtain ⟨z1, ef_0_1, ey_0_1, wz1⟩ := DataW.trod_int Try.underlying3 g_0_1
  simp at ef_0_1
  subst ef_0_1 ey_0_1
  subst hx_0
  obtain ⟨xs_1, n_1, _, hx_1, _, hlen_1, hg_1⟩ := DataW.trod_struct Try.underlying32 g_1
  obtain ⟨y_1_0, y_1_1, rfl⟩ := list_of2 xs_1 (by simpa using hlen_1)
  have g_1_0 := hg_1 0 _ rfl
  have g_1_1 := hg_1 1 _ rfl
  simp [hc0, hc1, hc2, hc3, hc4] at g_1_0 g_1_1
  clear hg_1 hlen_1
  obtain ⟨z2, ef_1_0, ey_1_0, wz2⟩ := DataW.trod_int Try.underlying3 g_1_0
  simp at ef_1_0
  subst ef_1_0 ey_1_0
  obtain ⟨z3, ef_1_1, ey_1_1, wz3⟩ := DataW.trod_int Try.underlying3 g_1_1
  simp at ef_1_1
  subst ef_1_1 ey_1_1
  subst hx_1
  obtain ⟨z4, ef_2, ey_2, wz4⟩ := DataW.trod_string Try.underlying9 g_2
  simp at ef_2
  subst ef_2 ey_2
  obtain ⟨z5, ef_3, ey_3⟩ := DataW.trod_bool Try.underlying4 g_3
  simp at ef_3
  subst ef_3 ey_3
  obtain ⟨z6, ef_4, ey_4⟩ := DataW.trod_bool Try.underlying4 g_4
  simp at ef_4
  subst ef_4 ey_4
  obtain ⟨z7, ef_5, ey_5, wz7⟩ := DataW.trod_int Try.underlying3 g_5
  simp at ef_5
  subst ef_5 ey_5
  obtain ⟨z8, ef_6, ey_6, wz8⟩ := DataW.trod_int Try.underlying3 g_6
  simp at ef_6
  subst ef_6 ey_6
  obtain ⟨z9, ef_7, ey_7, wz9⟩ := DataW.trod_int Try.underlying3 g_7
  simp at ef_7
  subst ef_7 ey_7
  simp at hx
  obtain ⟨rfl, rfl⟩ := hx
  refine ⟨z0, z1, z2, z3, z4, z5, z6, z7, z8, z9, rfl, rfl, wz0, wz1, wz2, wz3, wz4, wz7, wz8, wz9, fun W9 b9 sp9 hd9 => ⟨5, ?_⟩⟩
  simp [DataW.trod, Value.cells, Try.underlying32, Try.underlying3, Try.underlying9, Try.underlying4, Try.underlying34, hc0, hc1, hc2, hc3, hc4, wz0, wz1, wz2, wz3, wz4, wz7, wz8, wz9]
end Go.Proofs.Ytabcmhiobfddnaa
