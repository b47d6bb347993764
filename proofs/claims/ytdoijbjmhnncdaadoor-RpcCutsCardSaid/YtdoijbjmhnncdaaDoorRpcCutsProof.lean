/-
  What is proved: the Go function truchman/truchmanlaw06.RpcCuts returns true for every input, and each argument reads behind the call as it read before, where the listed variables start as the program's text lays them (the card ties them; the walk reads none of them). No other conditions.
  The frame is made after the kit's own examples; the walk is mine.
-/
import Derived.Test.YtdoijbjmhnncdaaDoorRows
import Derived.Test.YtdoijbjmhnncdaaDoorCards
import Derived.Test.YtdoijbjmhnncdaaDoorTie
import Derived.Test.YtdoijbjmhnncdaaDoorRpcCuts
import Derived.WalkKit
import Derived.ProofKit
import Derived.LaidMore
import Derived.LaidHandle
import Derived.OpenShut
import Derived.ShutString
import Derived.ChangeOld
import Derived.Below
import Derived.Deep.Matrix
import Derived.Deep.Grids
import Derived.Lib.SmallJoins
import Derived.SliceStrings
import Derived.Stop.Joined
import Derived.SevenTiedAt
namespace Go.Proofs.YtdoijbjmhnncdaaDoor.rpcCuts
open Go.ChangeShapes Go.WideShapes Go.ChangeAt Go.RowKit Go.Deep Go.Joins
open Go.ChangeMaps (open_string shut_string)
set_option linter.unusedVariables false
set_option linter.unusedSimpArgs false

theorem own : ownKnob Tryd.prog.godebug = none := by kernel_rfl
theorem laidOut : laidOutB Tryd.prog = true := by kernel_rfl
def laidL : List (String × DataW Unit) := [("errors.errorType", Rows.laid_errors_errorType)]

theorem walk (a0_0 : Bool) (a0_1 : Int) (a0_2 : Int) (a0_3 : ByteArray) (a1 : Int) (w : World) (w0_1 : (Lit.int .u32 a0_1).wf = true) (w0_2 : (Lit.int .u32 a0_2).wf = true) (w0_3 : a0_3.size ≤ maxLen) (w1 : (Lit.int .i64 a1).wf = true) :
    Calls Tryd.prog 5 #[.agg #[.bool a0_0, .int .u32 a0_1, .int .u32 a0_2, .string a0_3], .int .i64 a1] w fun e w' => e = .returned (.bool true) ∧ Below w.heap.size w w' := by
  have b1 := bounds_u32 w0_1
  have b2 := bounds_u32 w0_2
  have b3 := bounds_i64 w1
  exact rcuts_walk a0_0 a0_1 a0_2 a0_3 a1 w ⟨b1.1, by omega⟩ ⟨b2.1, by omega⟩ b3.1 b3.2

/-- The door's own heap meets the condition. -/
theorem door_met (os : Os) (args : Array Value) : laidMetH Tryd.prog laidL ((World.doorLaid Tryd.prog 400 os).forCall (fun _ _ => 0) ⟨#[], args, []⟩).memory :=
  laidMetH_of_parts3 (fuel := 8) (laidMet_of_run' 8 (by kernel_rfl) (by kernel_rfl)) (by kernel_rfl) (by kernel_rfl)

set_option maxRecDepth 100000 in
theorem lifted (os : Os) (started : os.Started) (H : Type) (enc : TypeId × Value → H) :
    ReturnsInHanded {} Tryd.checked os 5 .any (fun w args => (Rows.rpcCutsSpec.pre enc Tryd.prog Tryd.f5 [] false w args ∧ laidMetH Tryd.prog laidL w) ∧ sizedMet enc Tryd.prog Tryd.f5 (OpenSpec.ofChange Rows.rpcCutsSpec) false w args)
      (Rows.rpcCutsSpec.post enc Tryd.prog Tryd.f5 false true false false) := by
  refine returnsInHanded_of_change_and (C := Tryd.checked) (X := fun w _ => laidMetH Tryd.prog laidL w) (fun _ _ _ hh h => h.of_heap hh) own started (by kernel_rfl) Tryd.func5
    (ChangeSpec.witness_shaped (enc := enc) (C := Tryd.checked) (os := os) (X := fun w _ => laidMetH Tryd.prog laidL w) false (World.doorLaid Tryd.prog 400 os) #[.agg #[.bool false, .int .u32 0, .int .u32 0, .string ByteArray.empty], .int .i64 0] 8 rfl (World.shaped_of_RefB (by kernel_rfl) (by kernel_rfl)) (by kernel_rfl) (by kernel_rfl) (by kernel_rfl) (door_met os _)) ?_
  intro W base args ds gs before hval0 hW _ _ hL _
  have hval : ∀ (j : Nat) t v, Tryd.f5.params[j]? = some t → args[j]? = some v → Value.okWide Tryd.prog W .any base t v := hval0
  have hW' := hW
  obtain ⟨p, q, hA0, hV, rfl, hfz, hnd⟩ := hW
  have hA : DataW.TrodAll enc Tryd.prog W 0 (fun _ => true) true Tryd.f5.params.toList args.toList ds p := hA0
  rw [Tryd.params5] at hA hval
  obtain ⟨v0, vs0, d0, ds0, p0, q0, hargs, rfl, rfl, h0, r0⟩ := trodAll_cons hA
  obtain ⟨v1, vs1, d1, ds1, p1, q1, rfl, rfl, rfl, h1, r1⟩ := trodAll_cons r0
  obtain ⟨rfl, rfl, rfl⟩ := trodAll_nil r1
  obtain rfl : args = #[v0, v1] := by cases args; simp_all
  obtain ⟨rfl, rfl⟩ := trodVars_none hV
  obtain ⟨cf0_0, cf0_1, cf0_2, cf0_3, yf0_0, yf0_1, yf0_2, yf0_3, m0, rfl, rfl, rfl, hf0_0, hf0_1, hf0_2, hf0_3⟩ := open_agg4 Tryd.underlying25 (by kernel_rfl) (by kernel_rfl) (hval 0 25 v0 rfl rfl) h0
  obtain ⟨a0_0, ef0_0, hb0_0⟩ := DataW.trod_bool Tryd.underlying4 hf0_0
  subst hb0_0
  obtain ⟨a0_1, ef0_1, rfl, w0_1⟩ := DataW.trod_int Tryd.underlying23 hf0_1
  obtain ⟨a0_2, ef0_2, rfl, w0_2⟩ := DataW.trod_int Tryd.underlying23 hf0_2
  obtain ⟨a0_3, ef0_3, rfl, w0_3⟩ := DataW.trod_string Tryd.underlying9 hf0_3
  simp at ef0_0 ef0_1 ef0_2 ef0_3
  subst ef0_0 ef0_1 ef0_2 ef0_3
  have sr0 : ∀ (W9 : World) (sp : Nat → Bool), DataW.Trod enc Tryd.prog W9 0 sp true 25 (.agg #[.bool a0_0, .int .u32 a0_1, .int .u32 a0_2, .string a0_3]) (.agg [.lit (.bool a0_0), .lit (.int .u32 a0_1), .lit (.int .u32 a0_2), .lit (.string a0_3.data.toList)]) [] := fun W9 sp => shut_agg4 (y0 := (.lit (.bool a0_0), [])) (y1 := (.lit (.int .u32 a0_1), [])) (y2 := (.lit (.int .u32 a0_2), [])) (y3 := (.lit (.string a0_3.data.toList), [])) Tryd.underlying25 (by kernel_rfl) (by kernel_rfl) ⟨1, by simp [DataW.trod, Tryd.underlying4]⟩ ⟨1, by simp [DataW.trod, Tryd.underlying23, w0_1]⟩ ⟨1, by simp [DataW.trod, Tryd.underlying23, w0_2]⟩ ⟨1, by simp [DataW.trod, Tryd.underlying9, w0_3]⟩
  obtain ⟨a1, rfl, rfl, rfl, w1⟩ := open_int Tryd.underlying3 (hval 1 3 v1 rfl rfl) h1
  clear hA0 hval0
  refine (walk a0_0 a0_1 a0_2 a0_3 a1 W w0_1 w0_2 w0_3 w1).mono fun e W' ⟨he, bel⟩ => ?_
  subst he
  exact ⟨_, rfl, _, _, _, [], _, [], hW', trodAll_mk1 (shut_bool Tryd.underlying4 _), (trodAll_cons_mk (sr0 _ _) (trodAll_cons_mk (shut_int Tryd.underlying3 w1) trodAll_mk0)), rfl, bel.frame _, fun h => by cases h⟩

theorem row_holds : Rows.RpcCutsSaid :=
  OpenClaim.holds_of_wide 5 Tryd.f5 rfl rfl rfl rfl rfl rfl rfl ⟨rfl, rfl, rfl, rfl, rfl⟩ rfl rfl rfl rfl rfl (by kernel_rfl) Tryd.func5 (by kernel_rfl)
    (of_decide_eq_true (by kernel_rfl)) (by unfold Func.isWrapper; first | (rw [if_pos (by decide +kernel)]; kernel_rfl) | (rw [if_neg (by decide +kernel)]; exact ⟨rfl, rfl⟩))
    (fun os started H enc _ => lifted os started H enc)

theorem proved : Rows.RpcCutsCardSaid :=
  Claim7.holds_tied_plain_at .later [] [.handle] true (true, "67d047caa4d7292fc884cc40a0daf96a4b25d60375334712f6a81ca699f81ddd") true
    row_holds (fun _ h => by cases h) (by kernel_rfl) (fun _ h => by cases h) rpcCuts_row_tie rfl ⟨rfl, rfl⟩ (by kernel_rfl) rfl
    (fun f fn hf hfn => by
      obtain rfl : f = 5 := Option.some.inj ((show Tryd.prog.funcNamed Rows.rpcCutsRow.func = some 5 by kernel_rfl).symm.trans hf) |>.symm
      obtain rfl : fn = Tryd.f5 := (Option.some.inj (Tryd.func5.symm.trans hfn)).symm
      exact ⟨by kernel_rfl, fun j t ht => by
        rw [Tryd.params5] at ht
        have hm : t ∈ [25, 3] := by simpa using Array.mem_of_getElem? ht
        have hall : ([25, 3].all fun u => !Tryd.prog.wantsStandIn u) = true := by kernel_rfl
        exact (show Tryd.prog.wantsStandIn t = false by simpa using List.all_eq_true.1 hall t hm)⟩)
    (by kernel_rfl)
#print axioms proved
end Go.Proofs.YtdoijbjmhnncdaaDoor.rpcCuts
