/-
  No cell of these rows narrows 'for every input' (looked for: loops, veiled, ifaces, maps, wideKeys, modest, calm, conditions, laid).
  DERIVED. THE GIVEN ROWS OF THIS SEAT. 7 by the template 'for every input the law returns true; each argument reads behind the call as it read before'; 0 by the template 'total and deterministic' (their statements: YtihiclnbbpablaaTotals.lean).
  GIVEN WITH THE SEED: the statements are not yours to turn. If you find one false, say at which input.
  Laid BY PROGRAM, IN A SANDBOX (cutbox-rows.mjs): the forced cells as the released guide's own fill.sh prints them over the translation 8b7af2da83694726… (all of the seat's roots in one cut). By AI agents, Wed Nov 11 2026. No macro, syntax, notation, axiom, sorry.
-/
import Derived.Test.YtihiclnbbpablaaChecked
import GoSem.Claim
import GoSem.ClaimJoined
import GoSem.ClaimMapViews
import Derived.JoinedTies
import Derived.KernelRfl
namespace Go.Proofs.Ytihiclnbbpablaa
/- THE CELL 'sum', in the pinned program and in every row, IS THE sha256 OF THE DUMP (.gsa) THAT YtihiclnbbpablaaProg.lean LOADS. Nothing in Lean hashes anything: it is a label: what it is worth is what the hold of that sum in a sandbox is worth. -/
noncomputable def Try.pinned : Pinned := { name := "ytihiclnbbpablaa", sum := "8b7af2da83694726e99eb786e10ae0bb37d4b9c1db5275380492531668c20558", checked := Try.checked }
namespace Rows
def none {H : Type} : Left H := { results := [], args := [] }

/-- 'truchmanlaw18.TellMay': WHATEVER THE INPUT: true; the input reads as it did. -/
def tellMaySpec : ChangeSpec := { name := "tellMay", fn := fun _ => fun
  | [d1, d2, d3, d4] => { results := [.lit (.bool true)], args := [d1, d2, d3, d4] }
  | _ => none }
def tellMayRow : OpenClaim := { program := "ytihiclnbbpablaa", sum := "8b7af2da83694726e99eb786e10ae0bb37d4b9c1db5275380492531668c20558", func := "truchman/truchmanlaw18.TellMay", spec := "tellMay", apart := false }
def TellMaySaid : Prop := tellMayRow.holds Try.pinned (OpenSpec.ofChange tellMaySpec)

/-- ITS FALSE NEIGHBOUR: 'it returns false'. Refute it at one input. -/
def tellMayWrong : ChangeSpec := { name := "tellMay", fn := fun _ => fun
  | [d1, d2, d3, d4] => { results := [.lit (.bool false)], args := [d1, d2, d3, d4] }
  | _ => none }
def TellMayWrongFalsely : Prop := tellMayRow.holds Try.pinned (OpenSpec.ofChange tellMayWrong)

/-- 'truchmanlaw18.TellReads': WHATEVER THE INPUT: true; the input reads as it did. -/
def tellReadsSpec : ChangeSpec := { name := "tellReads", fn := fun _ => fun
  | [d1, d2, d3, d4] => { results := [.lit (.bool true)], args := [d1, d2, d3, d4] }
  | _ => none }
def tellReadsRow : OpenClaim := { program := "ytihiclnbbpablaa", sum := "8b7af2da83694726e99eb786e10ae0bb37d4b9c1db5275380492531668c20558", func := "truchman/truchmanlaw18.TellReads", spec := "tellReads", apart := false }
def TellReadsSaid : Prop := tellReadsRow.holds Try.pinned (OpenSpec.ofChange tellReadsSpec)

/-- ITS FALSE NEIGHBOUR: 'it returns false'. Refute it at one input. -/
def tellReadsWrong : ChangeSpec := { name := "tellReads", fn := fun _ => fun
  | [d1, d2, d3, d4] => { results := [.lit (.bool false)], args := [d1, d2, d3, d4] }
  | _ => none }
def TellReadsWrongFalsely : Prop := tellReadsRow.holds Try.pinned (OpenSpec.ofChange tellReadsWrong)

/-- 'truchmanlaw18.TellRound': WHATEVER THE INPUT: true; the input reads as it did. -/
def tellRoundSpec : ChangeSpec := { name := "tellRound", fn := fun _ => fun
  | [d] => { results := [.lit (.bool true)], args := [d] }
  | _ => none }
def tellRoundRow : OpenClaim := { program := "ytihiclnbbpablaa", sum := "8b7af2da83694726e99eb786e10ae0bb37d4b9c1db5275380492531668c20558", func := "truchman/truchmanlaw18.TellRound", spec := "tellRound", apart := false }
def TellRoundSaid : Prop := tellRoundRow.holds Try.pinned (OpenSpec.ofChange tellRoundSpec)

/-- ITS FALSE NEIGHBOUR: 'it returns false'. Refute it at one input. -/
def tellRoundWrong : ChangeSpec := { name := "tellRound", fn := fun _ => fun
  | [d] => { results := [.lit (.bool false)], args := [d] }
  | _ => none }
def TellRoundWrongFalsely : Prop := tellRoundRow.holds Try.pinned (OpenSpec.ofChange tellRoundWrong)

/-- 'truchmanlaw18.TellRoom': WHATEVER THE INPUT: true; the input reads as it did. -/
def tellRoomSpec : ChangeSpec := { name := "tellRoom", fn := fun _ => fun
  | [d1, d2, d3] => { results := [.lit (.bool true)], args := [d1, d2, d3] }
  | _ => none }
def tellRoomRow : OpenClaim := { program := "ytihiclnbbpablaa", sum := "8b7af2da83694726e99eb786e10ae0bb37d4b9c1db5275380492531668c20558", func := "truchman/truchmanlaw18.TellRoom", spec := "tellRoom", apart := false }
def TellRoomSaid : Prop := tellRoomRow.holds Try.pinned (OpenSpec.ofChange tellRoomSpec)

/-- ITS FALSE NEIGHBOUR: 'it returns false'. Refute it at one input. -/
def tellRoomWrong : ChangeSpec := { name := "tellRoom", fn := fun _ => fun
  | [d1, d2, d3] => { results := [.lit (.bool false)], args := [d1, d2, d3] }
  | _ => none }
def TellRoomWrongFalsely : Prop := tellRoomRow.holds Try.pinned (OpenSpec.ofChange tellRoomWrong)

/-- 'truchmanlaw18.TellBounds': WHATEVER THE INPUT: true; the input reads as it did. -/
def tellBoundsSpec : ChangeSpec := { name := "tellBounds", fn := fun _ => fun
  | [d1, d2, d3] => { results := [.lit (.bool true)], args := [d1, d2, d3] }
  | _ => none }
def tellBoundsRow : OpenClaim := { program := "ytihiclnbbpablaa", sum := "8b7af2da83694726e99eb786e10ae0bb37d4b9c1db5275380492531668c20558", func := "truchman/truchmanlaw18.TellBounds", spec := "tellBounds", apart := false }
def TellBoundsSaid : Prop := tellBoundsRow.holds Try.pinned (OpenSpec.ofChange tellBoundsSpec)

/-- ITS FALSE NEIGHBOUR: 'it returns false'. Refute it at one input. -/
def tellBoundsWrong : ChangeSpec := { name := "tellBounds", fn := fun _ => fun
  | [d1, d2, d3] => { results := [.lit (.bool false)], args := [d1, d2, d3] }
  | _ => none }
def TellBoundsWrongFalsely : Prop := tellBoundsRow.holds Try.pinned (OpenSpec.ofChange tellBoundsWrong)

/-- 'truchmanlaw18.TellSame': WHATEVER THE INPUT: true; the input reads as it did. -/
def tellSameSpec : ChangeSpec := { name := "tellSame", fn := fun _ => fun
  | [d1, d2, d3, d4, d5] => { results := [.lit (.bool true)], args := [d1, d2, d3, d4, d5] }
  | _ => none }
def tellSameRow : OpenClaim := { program := "ytihiclnbbpablaa", sum := "8b7af2da83694726e99eb786e10ae0bb37d4b9c1db5275380492531668c20558", func := "truchman/truchmanlaw18.TellSame", spec := "tellSame", apart := false }
def TellSameSaid : Prop := tellSameRow.holds Try.pinned (OpenSpec.ofChange tellSameSpec)

/-- ITS FALSE NEIGHBOUR: 'it returns false'. Refute it at one input. -/
def tellSameWrong : ChangeSpec := { name := "tellSame", fn := fun _ => fun
  | [d1, d2, d3, d4, d5] => { results := [.lit (.bool false)], args := [d1, d2, d3, d4, d5] }
  | _ => none }
def TellSameWrongFalsely : Prop := tellSameRow.holds Try.pinned (OpenSpec.ofChange tellSameWrong)

/-- 'truchmanlaw18.TellErrors': WHATEVER THE INPUT: true; the input reads as it did. -/
def tellErrorsSpec : ChangeSpec := { name := "tellErrors", fn := fun _ => fun
  | [d1, d2] => { results := [.lit (.bool true)], args := [d1, d2] }
  | _ => none }
def tellErrorsRow : OpenClaim := { program := "ytihiclnbbpablaa", sum := "8b7af2da83694726e99eb786e10ae0bb37d4b9c1db5275380492531668c20558", func := "truchman/truchmanlaw18.TellErrors", spec := "tellErrors", apart := false }
def TellErrorsSaid : Prop := tellErrorsRow.holds Try.pinned (OpenSpec.ofChange tellErrorsSpec)

/-- ITS FALSE NEIGHBOUR: 'it returns false'. Refute it at one input. -/
def tellErrorsWrong : ChangeSpec := { name := "tellErrors", fn := fun _ => fun
  | [d1, d2] => { results := [.lit (.bool false)], args := [d1, d2] }
  | _ => none }
def TellErrorsWrongFalsely : Prop := tellErrorsRow.holds Try.pinned (OpenSpec.ofChange tellErrorsWrong)

/- THE SECOND FORM. 'bulk': how many values and letters a reading holds, each counted each time it is reached (what is shared counts as often as it is met; a slice's spare places count too). A statement '..UptoSaid' is the law's where the arguments, and the package variables that the reading takes, are together of bulk at most 1048576: NARROWER than '..Said'. Prove '..Said' where nothing that the law and all that it calls make is longer than what came in: it says more and counts as full. Else prove '..UptoSaid'. A law counts once. -/
mutual
def uptoBulk {H : Type} : DataW H → Nat
  | .lit (.string bytes) => bytes.length + 1
  | .lit _ => 1
  | .nil => 1
  | .ptr d => uptoBulk d + 1
  | .slice elems spare => uptoBulkAll elems + uptoBulkAll spare + 1
  | .agg parts => uptoBulkAll parts + 1
  | .iface _ d => uptoBulk d + 1
  | .map entries => uptoBulkEntries entries + 1
  | .held _ => 1
def uptoBulkAll {H : Type} : List (DataW H) → Nat
  | [] => 0
  | d :: r => uptoBulk d + uptoBulkAll r
def uptoBulkEntries {H : Type} : List (Lit × DataW H) → Nat
  | [] => 0
  | x :: r => uptoBulkEntry x + uptoBulkEntries r
def uptoBulkEntry {H : Type} : Lit × DataW H → Nat
  | (.string bytes, d) => bytes.length + uptoBulk d + 1
  | (_, d) => uptoBulk d + 1
 end
def uptoSmall : (H : Type) → List (DataW H) → Bool := fun _ ds => decide (uptoBulkAll ds ≤ 1048576)
def OpenSpec.upto (s : _root_.Go.ChangeSpec) : _root_.Go.OpenSpec := { _root_.Go.OpenSpec.ofChange s with cond := some uptoSmall }

/-- 'truchmanlaw18.TellMay', WHERE WHAT IT READS IS OF BULK AT MOST 1048576: true; the input reads as it did. -/
def tellMayUptoRow : OpenClaim := { program := "ytihiclnbbpablaa", sum := "8b7af2da83694726e99eb786e10ae0bb37d4b9c1db5275380492531668c20558", func := "truchman/truchmanlaw18.TellMay", spec := "tellMay", apart := false, narrowed := true }
def TellMayUptoSaid : Prop := tellMayUptoRow.holds Try.pinned (OpenSpec.upto tellMaySpec)

/-- 'truchmanlaw18.TellReads', WHERE WHAT IT READS IS OF BULK AT MOST 1048576: true; the input reads as it did. -/
def tellReadsUptoRow : OpenClaim := { program := "ytihiclnbbpablaa", sum := "8b7af2da83694726e99eb786e10ae0bb37d4b9c1db5275380492531668c20558", func := "truchman/truchmanlaw18.TellReads", spec := "tellReads", apart := false, narrowed := true }
def TellReadsUptoSaid : Prop := tellReadsUptoRow.holds Try.pinned (OpenSpec.upto tellReadsSpec)

/-- 'truchmanlaw18.TellRound', WHERE WHAT IT READS IS OF BULK AT MOST 1048576: true; the input reads as it did. -/
def tellRoundUptoRow : OpenClaim := { program := "ytihiclnbbpablaa", sum := "8b7af2da83694726e99eb786e10ae0bb37d4b9c1db5275380492531668c20558", func := "truchman/truchmanlaw18.TellRound", spec := "tellRound", apart := false, narrowed := true }
def TellRoundUptoSaid : Prop := tellRoundUptoRow.holds Try.pinned (OpenSpec.upto tellRoundSpec)

/-- 'truchmanlaw18.TellRoom', WHERE WHAT IT READS IS OF BULK AT MOST 1048576: true; the input reads as it did. -/
def tellRoomUptoRow : OpenClaim := { program := "ytihiclnbbpablaa", sum := "8b7af2da83694726e99eb786e10ae0bb37d4b9c1db5275380492531668c20558", func := "truchman/truchmanlaw18.TellRoom", spec := "tellRoom", apart := false, narrowed := true }
def TellRoomUptoSaid : Prop := tellRoomUptoRow.holds Try.pinned (OpenSpec.upto tellRoomSpec)

/-- 'truchmanlaw18.TellBounds', WHERE WHAT IT READS IS OF BULK AT MOST 1048576: true; the input reads as it did. -/
def tellBoundsUptoRow : OpenClaim := { program := "ytihiclnbbpablaa", sum := "8b7af2da83694726e99eb786e10ae0bb37d4b9c1db5275380492531668c20558", func := "truchman/truchmanlaw18.TellBounds", spec := "tellBounds", apart := false, narrowed := true }
def TellBoundsUptoSaid : Prop := tellBoundsUptoRow.holds Try.pinned (OpenSpec.upto tellBoundsSpec)

/-- 'truchmanlaw18.TellSame', WHERE WHAT IT READS IS OF BULK AT MOST 1048576: true; the input reads as it did. -/
def tellSameUptoRow : OpenClaim := { program := "ytihiclnbbpablaa", sum := "8b7af2da83694726e99eb786e10ae0bb37d4b9c1db5275380492531668c20558", func := "truchman/truchmanlaw18.TellSame", spec := "tellSame", apart := false, narrowed := true }
def TellSameUptoSaid : Prop := tellSameUptoRow.holds Try.pinned (OpenSpec.upto tellSameSpec)

/-- 'truchmanlaw18.TellErrors', WHERE WHAT IT READS IS OF BULK AT MOST 1048576: true; the input reads as it did. -/
def tellErrorsUptoRow : OpenClaim := { program := "ytihiclnbbpablaa", sum := "8b7af2da83694726e99eb786e10ae0bb37d4b9c1db5275380492531668c20558", func := "truchman/truchmanlaw18.TellErrors", spec := "tellErrors", apart := false, narrowed := true }
def TellErrorsUptoSaid : Prop := tellErrorsUptoRow.holds Try.pinned (OpenSpec.upto tellErrorsSpec)

end Rows
end Go.Proofs.Ytihiclnbbpablaa
