/-
  What is proved: the Go function truchman/truchmanlaw06.RpcSame returns true for every input, and each argument reads behind the call as it read before. No conditions.
  The frame is made after the kit's own shell; the walk is mine.
-/
import Derived.Test.YtdoijbjmhnncdaaRows
import Derived.Test.YtdoijbjmhnncdaaRpcSame
import Derived.WalkKit
import Derived.ProofKit
import Derived.OpenShut
import Derived.ShutString
import Derived.ChangeOld
import Derived.Below
import Derived.Deep.Matrix
import Derived.Deep.Grids
import Derived.Lib.SmallJoins
import Derived.SliceStrings
namespace Go.Proofs.Ytdoijbjmhnncdaa.rpcSame
open Go.ChangeShapes Go.WideShapes Go.ChangeAt Go.RowKit Go.Deep Go.Joins
open Go.ChangeMaps (open_string shut_string)
set_option linter.unusedVariables false
set_option linter.unusedSimpArgs false

theorem own : ownKnob Try.prog.godebug = none := by kernel_rfl
theorem laidOut : laidOutB Try.prog = true := by kernel_rfl

theorem walk (a0_0 : Bool) (a0_1 : Int) (a0_2 : Int) (a0_3 : ByteArray) (a1_0 : Bool) (a1_1 : Int) (a1_2 : Int) (a1_3 : ByteArray) (w : World) (w0_1 : (Lit.int .u32 a0_1).wf = true) (w0_2 : (Lit.int .u32 a0_2).wf = true) (w0_3 : a0_3.size ≤ maxLen) (w1_1 : (Lit.int .u32 a1_1).wf = true) (w1_2 : (Lit.int .u32 a1_2).wf = true) (w1_3 : a1_3.size ≤ maxLen) :
    Calls Try.prog 4 #[.agg #[.bool a0_0, .int .u32 a0_1, .int .u32 a0_2, .string a0_3], .agg #[.bool a1_0, .int .u32 a1_1, .int .u32 a1_2, .string a1_3]] w fun e w' => e = .returned (.bool true) ∧ Below w.heap.size w w' := by
  exact rsame_walk a0_0 a0_1 a0_2 a0_3 a1_0 a1_1 a1_2 a1_3 w w0_3 w1_3

set_option maxRecDepth 100000 in
theorem lifted (os : Os) (started : os.Started) (H : Type) (enc : TypeId × Value → H) :
    ReturnsInHanded {} Try.checked os 4 .any (Rows.rpcSameSpec.pre6 enc Try.prog Try.f4 Rows.rpcSameRow.domain false) (Rows.rpcSameSpec.post enc Try.prog Try.f4 false true false false) := by
  refine returnsInHanded_of_change (C := Try.checked) own started (by kernel_rfl) Try.func4
    (ChangeSpec.witness6 (enc := enc) (C := Try.checked) false ⟨#[], #[.agg #[.bool false, .int .u32 0, .int .u32 0, .string ByteArray.empty], .agg #[.bool false, .int .u32 0, .int .u32 0, .string ByteArray.empty]], []⟩ 8 (by kernel_rfl) (by kernel_rfl) (by kernel_rfl) (by kernel_rfl)) ?_
  intro W base args ds gs before hval0 hW hcnd _
  have hval : ∀ (j : Nat) t v, Try.f4.params[j]? = some t → args[j]? = some v → Value.okWide Try.prog W .any base t v := hval0
  have hW' := hW
  obtain ⟨p, q, hA0, hV, rfl, hfz, hnd⟩ := hW
  have hA : DataW.TrodAll enc Try.prog W 0 (fun _ => true) true Try.f4.params.toList args.toList ds p := hA0
  rw [Try.params4] at hA hval
  obtain ⟨v0, vs0, d0, ds0, p0, q0, hargs, rfl, rfl, h0, r0⟩ := trodAll_cons hA
  obtain ⟨v1, vs1, d1, ds1, p1, q1, rfl, rfl, rfl, h1, r1⟩ := trodAll_cons r0
  obtain ⟨rfl, rfl, rfl⟩ := trodAll_nil r1
  obtain rfl : args = #[v0, v1] := by cases args; simp_all
  obtain ⟨rfl, rfl⟩ := trodVars_none hV
  obtain ⟨cf0_0, cf0_1, cf0_2, cf0_3, yf0_0, yf0_1, yf0_2, yf0_3, m0, rfl, rfl, rfl, hf0_0, hf0_1, hf0_2, hf0_3⟩ := open_agg4 Try.underlying24 (by kernel_rfl) (by kernel_rfl) (hval 0 24 v0 rfl rfl) h0
  obtain ⟨a0_0, ef0_0, hb0_0⟩ := DataW.trod_bool Try.underlying4 hf0_0
  subst hb0_0
  obtain ⟨a0_1, ef0_1, rfl, w0_1⟩ := DataW.trod_int Try.underlying22 hf0_1
  obtain ⟨a0_2, ef0_2, rfl, w0_2⟩ := DataW.trod_int Try.underlying22 hf0_2
  obtain ⟨a0_3, ef0_3, rfl, w0_3⟩ := DataW.trod_string Try.underlying9 hf0_3
  simp at ef0_0 ef0_1 ef0_2 ef0_3
  subst ef0_0 ef0_1 ef0_2 ef0_3
  have sr0 : ∀ (W9 : World) (sp : Nat → Bool), DataW.Trod enc Try.prog W9 0 sp true 24 (.agg #[.bool a0_0, .int .u32 a0_1, .int .u32 a0_2, .string a0_3]) (.agg [.lit (.bool a0_0), .lit (.int .u32 a0_1), .lit (.int .u32 a0_2), .lit (.string a0_3.data.toList)]) [] := fun W9 sp => shut_agg4 (y0 := (.lit (.bool a0_0), [])) (y1 := (.lit (.int .u32 a0_1), [])) (y2 := (.lit (.int .u32 a0_2), [])) (y3 := (.lit (.string a0_3.data.toList), [])) Try.underlying24 (by kernel_rfl) (by kernel_rfl) ⟨1, by simp [DataW.trod, Try.underlying4]⟩ ⟨1, by simp [DataW.trod, Try.underlying22, w0_1]⟩ ⟨1, by simp [DataW.trod, Try.underlying22, w0_2]⟩ ⟨1, by simp [DataW.trod, Try.underlying9, w0_3]⟩
  obtain ⟨cf1_0, cf1_1, cf1_2, cf1_3, yf1_0, yf1_1, yf1_2, yf1_3, m1, rfl, rfl, rfl, hf1_0, hf1_1, hf1_2, hf1_3⟩ := open_agg4 Try.underlying24 (by kernel_rfl) (by kernel_rfl) (hval 1 24 v1 rfl rfl) h1
  obtain ⟨a1_0, ef1_0, hb1_0⟩ := DataW.trod_bool Try.underlying4 hf1_0
  subst hb1_0
  obtain ⟨a1_1, ef1_1, rfl, w1_1⟩ := DataW.trod_int Try.underlying22 hf1_1
  obtain ⟨a1_2, ef1_2, rfl, w1_2⟩ := DataW.trod_int Try.underlying22 hf1_2
  obtain ⟨a1_3, ef1_3, rfl, w1_3⟩ := DataW.trod_string Try.underlying9 hf1_3
  simp at ef1_0 ef1_1 ef1_2 ef1_3
  subst ef1_0 ef1_1 ef1_2 ef1_3
  have sr1 : ∀ (W9 : World) (sp : Nat → Bool), DataW.Trod enc Try.prog W9 0 sp true 24 (.agg #[.bool a1_0, .int .u32 a1_1, .int .u32 a1_2, .string a1_3]) (.agg [.lit (.bool a1_0), .lit (.int .u32 a1_1), .lit (.int .u32 a1_2), .lit (.string a1_3.data.toList)]) [] := fun W9 sp => shut_agg4 (y0 := (.lit (.bool a1_0), [])) (y1 := (.lit (.int .u32 a1_1), [])) (y2 := (.lit (.int .u32 a1_2), [])) (y3 := (.lit (.string a1_3.data.toList), [])) Try.underlying24 (by kernel_rfl) (by kernel_rfl) ⟨1, by simp [DataW.trod, Try.underlying4]⟩ ⟨1, by simp [DataW.trod, Try.underlying22, w1_1]⟩ ⟨1, by simp [DataW.trod, Try.underlying22, w1_2]⟩ ⟨1, by simp [DataW.trod, Try.underlying9, w1_3]⟩
  clear hA0 hval0
  refine (walk a0_0 a0_1 a0_2 a0_3 a1_0 a1_1 a1_2 a1_3 W w0_1 w0_2 w0_3 w1_1 w1_2 w1_3).mono fun e W' ⟨he, bel⟩ => ?_
  subst he
  exact ⟨_, rfl, _, _, _, [], _, [], hW', trodAll_mk1 (shut_bool Try.underlying4 _), (trodAll_cons_mk (sr0 _ _) (trodAll_cons_mk (sr1 _ _) trodAll_mk0)), rfl, bel.frame _, fun h => by cases h⟩

theorem over : Rows.rpcSameRow.holds Try.pinned (OpenSpec.ofChange Rows.rpcSameSpec) :=
  OpenClaim.holds_of_wide 4 Try.f4 rfl rfl rfl rfl rfl rfl rfl ⟨rfl, rfl, rfl, rfl, rfl⟩ rfl rfl rfl rfl rfl (by kernel_rfl) Try.func4 (by kernel_rfl)
    (of_decide_eq_true (by kernel_rfl)) (by unfold Func.isWrapper; first | (rw [if_pos (by decide +kernel)]; kernel_rfl) | (rw [if_neg (by decide +kernel)]; exact ⟨rfl, rfl⟩))
    (fun os started H enc _ => lifted os started H enc)

theorem proved : Rows.RpcSameSaid := over
#print axioms proved
end Go.Proofs.Ytdoijbjmhnncdaa.rpcSame
