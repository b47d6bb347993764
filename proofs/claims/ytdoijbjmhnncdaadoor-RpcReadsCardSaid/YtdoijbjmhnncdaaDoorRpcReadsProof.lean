/-
  What is proved: the Go function truchman/truchmanlaw06.RpcReads returns true for every input, and each argument reads behind the call as it read before, where the listed variables start as the program's text lays them (the card ties them; the walk reads none of them). No other conditions.
  The frame is made after the kit's own examples; the walk is mine.
-/
import Derived.Test.YtdoijbjmhnncdaaDoorRows
import Derived.Test.YtdoijbjmhnncdaaDoorCards
import Derived.Test.YtdoijbjmhnncdaaDoorTie
import Derived.Test.YtdoijbjmhnncdaaDoorRpcReads
import Derived.WalkKit
import Derived.ProofKit
import Derived.LaidMore
import Derived.LaidHandle
import Derived.OpenShut
import Derived.ShutString
import Derived.ChangeOld
import Derived.Below
import Derived.Deep.Matrix
import Derived.Deep.Grids
import Derived.Lib.SmallJoins
import Derived.SliceStrings
import Derived.Stop.Joined
import Derived.SevenTiedAt
namespace Go.Proofs.YtdoijbjmhnncdaaDoor.rpcReads
open Go.ChangeShapes Go.WideShapes Go.ChangeAt Go.RowKit Go.Deep Go.Joins
open Go.ChangeMaps (open_string shut_string)
set_option linter.unusedVariables false
set_option linter.unusedSimpArgs false

theorem own : ownKnob Tryd.prog.godebug = none := by kernel_rfl
theorem laidOut : laidOutB Tryd.prog = true := by kernel_rfl
def laidL : List (String × DataW Unit) := [("errors.errorType", Rows.laid_errors_errorType)]

theorem walk (a0 : Option Addr) (len0 cap0 : Nat) (z0 : List Int) (a1_0 : Bool) (a1_1 : Int) (a1_2 : Int) (a1_3 : ByteArray) (a2 : Int) (a3 : Int) (w : World) (w0 : Sees w a0 len0 cap0 (z0.map (Value.int .u8))) (q0 : ∀ n ∈ z0, (Lit.int .u8 n).wf = true) (w1_1 : (Lit.int .u32 a1_1).wf = true) (w1_2 : (Lit.int .u32 a1_2).wf = true) (w1_3 : a1_3.size ≤ maxLen) (w2 : (Lit.int .i64 a2).wf = true) (w3 : (Lit.int .u8 a3).wf = true) :
    Calls Tryd.prog 3 #[.slice a0 len0 cap0, .agg #[.bool a1_0, .int .u32 a1_1, .int .u32 a1_2, .string a1_3], .int .i64 a2, .int .u8 a3] w fun e w' => e = .returned (.bool true) ∧ Below w.heap.size w w' := by
  have b1 := bounds_u32 w1_1
  have b2 := bounds_u32 w1_2
  have b3 := bounds_i64 w2
  have b4 := bounds_u8 w3
  have e4 := u8_of a3 b4.1 (by omega)
  have h := rreads_walk a0 len0 cap0 (z0.map fun n => UInt8.ofNat n.toNat) a1_0 a1_1 a1_2 a1_3 a2 (UInt8.ofNat a3.toNat) w (by rw [← ints_bytes q0]; exact w0) ⟨b1.1, by omega⟩ ⟨b2.1, by omega⟩ w1_3 b3.1 b3.2
  rw [e4] at h
  exact h

/-- The door's own heap meets the condition. -/
theorem door_met (os : Os) (args : Array Value) : laidMetH Tryd.prog laidL ((World.doorLaid Tryd.prog 400 os).forCall (fun _ _ => 0) ⟨#[], args, []⟩).memory :=
  laidMetH_of_parts3 (fuel := 8) (laidMet_of_run' 8 (by kernel_rfl) (by kernel_rfl)) (by kernel_rfl) (by kernel_rfl)

set_option maxRecDepth 100000 in
theorem lifted (os : Os) (started : os.Started) (H : Type) (enc : TypeId × Value → H) :
    ReturnsInHanded {} Tryd.checked os 3 .any (fun w args => (Rows.rpcReadsSpec.pre enc Tryd.prog Tryd.f3 [] false w args ∧ laidMetH Tryd.prog laidL w) ∧ sizedMet enc Tryd.prog Tryd.f3 (OpenSpec.ofChange Rows.rpcReadsSpec) false w args)
      (Rows.rpcReadsSpec.post enc Tryd.prog Tryd.f3 false true false false) := by
  refine returnsInHanded_of_change_and (C := Tryd.checked) (X := fun w _ => laidMetH Tryd.prog laidL w) (fun _ _ _ hh h => h.of_heap hh) own started (by kernel_rfl) Tryd.func3
    (ChangeSpec.witness_shaped (enc := enc) (C := Tryd.checked) (os := os) (X := fun w _ => laidMetH Tryd.prog laidL w) false (World.doorLaid Tryd.prog 400 os) #[.slice none 0 0, .agg #[.bool false, .int .u32 0, .int .u32 0, .string ByteArray.empty], .int .i64 0, .int .u8 0] 8 rfl (World.shaped_of_RefB (by kernel_rfl) (by kernel_rfl)) (by kernel_rfl) (by kernel_rfl) (by kernel_rfl) (door_met os _)) ?_
  intro W base args ds gs before hval0 hW _ _ hL _
  have hval : ∀ (j : Nat) t v, Tryd.f3.params[j]? = some t → args[j]? = some v → Value.okWide Tryd.prog W .any base t v := hval0
  have hW' := hW
  obtain ⟨p, q, hA0, hV, rfl, hfz, hnd⟩ := hW
  have hA : DataW.TrodAll enc Tryd.prog W 0 (fun _ => true) true Tryd.f3.params.toList args.toList ds p := hA0
  rw [Tryd.params3] at hA hval
  obtain ⟨v0, vs0, d0, ds0, p0, q0, hargs, rfl, rfl, h0, r0⟩ := trodAll_cons hA
  obtain ⟨v1, vs1, d1, ds1, p1, q1, rfl, rfl, rfl, h1, r1⟩ := trodAll_cons r0
  obtain ⟨v2, vs2, d2, ds2, p2, q2, rfl, rfl, rfl, h2, r2⟩ := trodAll_cons r1
  obtain ⟨v3, vs3, d3, ds3, p3, q3, rfl, rfl, rfl, h3, r3⟩ := trodAll_cons r2
  obtain ⟨rfl, rfl, rfl⟩ := trodAll_nil r3
  obtain rfl : args = #[v0, v1, v2, v3] := by cases args; simp_all
  obtain ⟨rfl, rfl⟩ := trodVars_none hV
  obtain ⟨a0, len0, cap0, rfl⟩ := okWide_slice Tryd.underlying22 (hval 0 22 v0 rfl rfl)
  have k0 := h0
  have lt0 : ∀ x ∈ p0, x.block < W.heap.size := by obtain ⟨m, hm⟩ := k0; exact DataW.trod_lt m _ _ _ hm
  obtain ⟨z0, w0, q0⟩ : ∃ zs : List Int, Sees W a0 len0 cap0 (zs.map (Value.int .u8)) ∧ ∀ n ∈ zs, (Lit.int .u8 n).wf = true := by
    obtain ⟨fuel, hf⟩ := h0
    rcases open_ints Tryd.underlying22 Tryd.underlying5 (by kernel_rfl) hf with ⟨hcs, _⟩ | ⟨x, l, c, zs, hcs, _, hl, hm, hz, _, hcell, hwz⟩
    · simp [Value.cells] at hcs
      obtain ⟨rfl, rfl, rfl⟩ := hcs
      exact ⟨[], Sees.nil W, fun _ h => by cases h⟩
    · simp [Value.cells] at hcs
      obtain ⟨rfl, rfl, rfl⟩ := hcs
      exact sees_row (.inr ⟨_, rfl, hl, hm, by simpa using hz, hcell, hwz⟩)
  obtain ⟨cf1_0, cf1_1, cf1_2, cf1_3, yf1_0, yf1_1, yf1_2, yf1_3, m1, rfl, rfl, rfl, hf1_0, hf1_1, hf1_2, hf1_3⟩ := open_agg4 Tryd.underlying25 (by kernel_rfl) (by kernel_rfl) (hval 1 25 v1 rfl rfl) h1
  obtain ⟨a1_0, ef1_0, hb1_0⟩ := DataW.trod_bool Tryd.underlying4 hf1_0
  subst hb1_0
  obtain ⟨a1_1, ef1_1, rfl, w1_1⟩ := DataW.trod_int Tryd.underlying23 hf1_1
  obtain ⟨a1_2, ef1_2, rfl, w1_2⟩ := DataW.trod_int Tryd.underlying23 hf1_2
  obtain ⟨a1_3, ef1_3, rfl, w1_3⟩ := DataW.trod_string Tryd.underlying9 hf1_3
  simp at ef1_0 ef1_1 ef1_2 ef1_3
  subst ef1_0 ef1_1 ef1_2 ef1_3
  have sr1 : ∀ (W9 : World) (sp : Nat → Bool), DataW.Trod enc Tryd.prog W9 0 sp true 25 (.agg #[.bool a1_0, .int .u32 a1_1, .int .u32 a1_2, .string a1_3]) (.agg [.lit (.bool a1_0), .lit (.int .u32 a1_1), .lit (.int .u32 a1_2), .lit (.string a1_3.data.toList)]) [] := fun W9 sp => shut_agg4 (y0 := (.lit (.bool a1_0), [])) (y1 := (.lit (.int .u32 a1_1), [])) (y2 := (.lit (.int .u32 a1_2), [])) (y3 := (.lit (.string a1_3.data.toList), [])) Tryd.underlying25 (by kernel_rfl) (by kernel_rfl) ⟨1, by simp [DataW.trod, Tryd.underlying4]⟩ ⟨1, by simp [DataW.trod, Tryd.underlying23, w1_1]⟩ ⟨1, by simp [DataW.trod, Tryd.underlying23, w1_2]⟩ ⟨1, by simp [DataW.trod, Tryd.underlying9, w1_3]⟩
  obtain ⟨a2, rfl, rfl, rfl, w2⟩ := open_int Tryd.underlying3 (hval 2 3 v2 rfl rfl) h2
  obtain ⟨a3, rfl, rfl, rfl, w3⟩ := open_int Tryd.underlying5 (hval 3 5 v3 rfl rfl) h3
  clear hA0 hval0
  refine (walk a0 len0 cap0 z0 a1_0 a1_1 a1_2 a1_3 a2 a3 W w0 q0 w1_1 w1_2 w1_3 w2 w3).mono fun e W' ⟨he, bel⟩ => ?_
  subst he
  exact ⟨_, rfl, _, _, _, [], _, [], hW', trodAll_mk1 (shut_bool Tryd.underlying4 _), (trodAll_cons_mk (Below.trod laidOut (by kernel_rfl) (of_decide_eq_true (by kernel_rfl)) k0 bel lt0) (trodAll_cons_mk (sr1 _ _) (trodAll_cons_mk (shut_int Tryd.underlying3 w2) (trodAll_cons_mk (shut_int Tryd.underlying5 w3) trodAll_mk0)))), rfl, bel.frame _, fun h => by cases h⟩

theorem row_holds : Rows.RpcReadsSaid :=
  OpenClaim.holds_of_wide 3 Tryd.f3 rfl rfl rfl rfl rfl rfl rfl ⟨rfl, rfl, rfl, rfl, rfl⟩ rfl rfl rfl rfl rfl (by kernel_rfl) Tryd.func3 (by kernel_rfl)
    (of_decide_eq_true (by kernel_rfl)) (by unfold Func.isWrapper; first | (rw [if_pos (by decide +kernel)]; kernel_rfl) | (rw [if_neg (by decide +kernel)]; exact ⟨rfl, rfl⟩))
    (fun os started H enc _ => lifted os started H enc)

theorem proved : Rows.RpcReadsCardSaid :=
  Claim7.holds_tied_plain_at .later [] [.handle] true (true, "67d047caa4d7292fc884cc40a0daf96a4b25d60375334712f6a81ca699f81ddd") true
    row_holds (fun _ h => by cases h) (by kernel_rfl) (fun _ h => by cases h) rpcReads_row_tie rfl ⟨rfl, rfl⟩ (by kernel_rfl) rfl
    (fun f fn hf hfn => by
      obtain rfl : f = 3 := Option.some.inj ((show Tryd.prog.funcNamed Rows.rpcReadsRow.func = some 3 by kernel_rfl).symm.trans hf) |>.symm
      obtain rfl : fn = Tryd.f3 := (Option.some.inj (Tryd.func3.symm.trans hfn)).symm
      exact ⟨by kernel_rfl, fun j t ht => by
        rw [Tryd.params3] at ht
        have hm : t ∈ [22, 25, 3, 5] := by simpa using Array.mem_of_getElem? ht
        have hall : ([22, 25, 3, 5].all fun u => !Tryd.prog.wantsStandIn u) = true := by kernel_rfl
        exact (show Tryd.prog.wantsStandIn t = false by simpa using List.all_eq_true.1 hall t hm)⟩)
    (by kernel_rfl)
#print axioms proved
end Go.Proofs.YtdoijbjmhnncdaaDoor.rpcReads
