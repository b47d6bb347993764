/-
  No cell of these rows narrows 'for every input' (looked for: loops, veiled, ifaces, maps, wideKeys, modest, calm, conditions, laid).
  DERIVED. THE GIVEN ROWS OF THIS SEAT. 12 by the template 'for every input the law returns true; each argument reads behind the call as it read before'; 0 by the template 'total and deterministic' (their statements: YtlbokdoipajodaaTotals.lean).
  GIVEN WITH THE SEED: the statements are not yours to turn. If you find one false, say at which input.
  Laid BY PROGRAM, IN A SANDBOX (cutbox-rows.mjs): the forced cells as the released guide's own fill.sh prints them over the translation 77a32a0c3408c72c… (all of the seat's roots in one cut). By AI agents, Wed Nov 11 2026. No macro, syntax, notation, axiom, sorry.
-/
import Derived.Test.YtlbokdoipajodaaChecked
import GoSem.Claim
import GoSem.ClaimJoined
import GoSem.ClaimMapViews
import Derived.JoinedTies
import Derived.KernelRfl
namespace Go.Proofs.Ytlbokdoipajodaa
/- THE CELL 'sum', in the pinned program and in every row, IS THE sha256 OF THE DUMP (.gsa) THAT YtlbokdoipajodaaProg.lean LOADS. Nothing in Lean hashes anything: it is a label: what it is worth is what the hold of that sum in a sandbox is worth. -/
noncomputable def Try.pinned : Pinned := { name := "ytlbokdoipajodaa", sum := "77a32a0c3408c72c2dc879059905eabc60b7749039776f5e84259a93f494c78d", checked := Try.checked }
namespace Rows
def none {H : Type} : Left H := { results := [], args := [] }

/-- 'truchmanlaw02.LittlePuts': WHATEVER THE INPUT: true; the input reads as it did. -/
def littlePutsSpec : ChangeSpec := { name := "littlePuts", fn := fun _ => fun
  | [d1, d2, d3, d4, d5] => { results := [.lit (.bool true)], args := [d1, d2, d3, d4, d5] }
  | _ => none }
def littlePutsRow : OpenClaim := { program := "ytlbokdoipajodaa", sum := "77a32a0c3408c72c2dc879059905eabc60b7749039776f5e84259a93f494c78d", func := "truchman/truchmanlaw02.LittlePuts", spec := "littlePuts", apart := false }
def LittlePutsSaid : Prop := littlePutsRow.holds Try.pinned (OpenSpec.ofChange littlePutsSpec)

/-- ITS FALSE NEIGHBOUR: 'it returns false'. Refute it at one input. -/
def littlePutsWrong : ChangeSpec := { name := "littlePuts", fn := fun _ => fun
  | [d1, d2, d3, d4, d5] => { results := [.lit (.bool false)], args := [d1, d2, d3, d4, d5] }
  | _ => none }
def LittlePutsWrongFalsely : Prop := littlePutsRow.holds Try.pinned (OpenSpec.ofChange littlePutsWrong)

/-- 'truchmanlaw02.LittleReads': WHATEVER THE INPUT: true; the input reads as it did. -/
def littleReadsSpec : ChangeSpec := { name := "littleReads", fn := fun _ => fun
  | [d1, d2] => { results := [.lit (.bool true)], args := [d1, d2] }
  | _ => none }
def littleReadsRow : OpenClaim := { program := "ytlbokdoipajodaa", sum := "77a32a0c3408c72c2dc879059905eabc60b7749039776f5e84259a93f494c78d", func := "truchman/truchmanlaw02.LittleReads", spec := "littleReads", apart := false }
def LittleReadsSaid : Prop := littleReadsRow.holds Try.pinned (OpenSpec.ofChange littleReadsSpec)

/-- ITS FALSE NEIGHBOUR: 'it returns false'. Refute it at one input. -/
def littleReadsWrong : ChangeSpec := { name := "littleReads", fn := fun _ => fun
  | [d1, d2] => { results := [.lit (.bool false)], args := [d1, d2] }
  | _ => none }
def LittleReadsWrongFalsely : Prop := littleReadsRow.holds Try.pinned (OpenSpec.ofChange littleReadsWrong)

/-- 'truchmanlaw02.LittleRound': WHATEVER THE INPUT: true; the input reads as it did. -/
def littleRoundSpec : ChangeSpec := { name := "littleRound", fn := fun _ => fun
  | [d1, d2] => { results := [.lit (.bool true)], args := [d1, d2] }
  | _ => none }
def littleRoundRow : OpenClaim := { program := "ytlbokdoipajodaa", sum := "77a32a0c3408c72c2dc879059905eabc60b7749039776f5e84259a93f494c78d", func := "truchman/truchmanlaw02.LittleRound", spec := "littleRound", apart := false }
def LittleRoundSaid : Prop := littleRoundRow.holds Try.pinned (OpenSpec.ofChange littleRoundSpec)

/-- ITS FALSE NEIGHBOUR: 'it returns false'. Refute it at one input. -/
def littleRoundWrong : ChangeSpec := { name := "littleRound", fn := fun _ => fun
  | [d1, d2] => { results := [.lit (.bool false)], args := [d1, d2] }
  | _ => none }
def LittleRoundWrongFalsely : Prop := littleRoundRow.holds Try.pinned (OpenSpec.ofChange littleRoundWrong)

/-- 'truchmanlaw02.LittleSplits': WHATEVER THE INPUT: true; the input reads as it did. -/
def littleSplitsSpec : ChangeSpec := { name := "littleSplits", fn := fun _ => fun
  | [d1, d2, d3] => { results := [.lit (.bool true)], args := [d1, d2, d3] }
  | _ => none }
def littleSplitsRow : OpenClaim := { program := "ytlbokdoipajodaa", sum := "77a32a0c3408c72c2dc879059905eabc60b7749039776f5e84259a93f494c78d", func := "truchman/truchmanlaw02.LittleSplits", spec := "littleSplits", apart := false }
def LittleSplitsSaid : Prop := littleSplitsRow.holds Try.pinned (OpenSpec.ofChange littleSplitsSpec)

/-- ITS FALSE NEIGHBOUR: 'it returns false'. Refute it at one input. -/
def littleSplitsWrong : ChangeSpec := { name := "littleSplits", fn := fun _ => fun
  | [d1, d2, d3] => { results := [.lit (.bool false)], args := [d1, d2, d3] }
  | _ => none }
def LittleSplitsWrongFalsely : Prop := littleSplitsRow.holds Try.pinned (OpenSpec.ofChange littleSplitsWrong)

/-- 'truchmanlaw02.LittlePieces': WHATEVER THE INPUT: true; the input reads as it did. -/
def littlePiecesSpec : ChangeSpec := { name := "littlePieces", fn := fun _ => fun
  | [d1, d2, d3] => { results := [.lit (.bool true)], args := [d1, d2, d3] }
  | _ => none }
def littlePiecesRow : OpenClaim := { program := "ytlbokdoipajodaa", sum := "77a32a0c3408c72c2dc879059905eabc60b7749039776f5e84259a93f494c78d", func := "truchman/truchmanlaw02.LittlePieces", spec := "littlePieces", apart := false }
def LittlePiecesSaid : Prop := littlePiecesRow.holds Try.pinned (OpenSpec.ofChange littlePiecesSpec)

/-- ITS FALSE NEIGHBOUR: 'it returns false'. Refute it at one input. -/
def littlePiecesWrong : ChangeSpec := { name := "littlePieces", fn := fun _ => fun
  | [d1, d2, d3] => { results := [.lit (.bool false)], args := [d1, d2, d3] }
  | _ => none }
def LittlePiecesWrongFalsely : Prop := littlePiecesRow.holds Try.pinned (OpenSpec.ofChange littlePiecesWrong)

/-- 'truchmanlaw12.BlobReads': WHATEVER THE INPUT: true; the input reads as it did. -/
def blobReadsSpec : ChangeSpec := { name := "blobReads", fn := fun _ => fun
  | [d1, d2, d3] => { results := [.lit (.bool true)], args := [d1, d2, d3] }
  | _ => none }
def blobReadsRow : OpenClaim := { program := "ytlbokdoipajodaa", sum := "77a32a0c3408c72c2dc879059905eabc60b7749039776f5e84259a93f494c78d", func := "truchman/truchmanlaw12.BlobReads", spec := "blobReads", apart := false }
def BlobReadsSaid : Prop := blobReadsRow.holds Try.pinned (OpenSpec.ofChange blobReadsSpec)

/-- ITS FALSE NEIGHBOUR: 'it returns false'. Refute it at one input. -/
def blobReadsWrong : ChangeSpec := { name := "blobReads", fn := fun _ => fun
  | [d1, d2, d3] => { results := [.lit (.bool false)], args := [d1, d2, d3] }
  | _ => none }
def BlobReadsWrongFalsely : Prop := blobReadsRow.holds Try.pinned (OpenSpec.ofChange blobReadsWrong)

/-- 'truchmanlaw12.BlobWrites': WHATEVER THE INPUT: true; the input reads as it did. -/
def blobWritesSpec : ChangeSpec := { name := "blobWrites", fn := fun _ => fun
  | [d1, d2, d3] => { results := [.lit (.bool true)], args := [d1, d2, d3] }
  | _ => none }
def blobWritesRow : OpenClaim := { program := "ytlbokdoipajodaa", sum := "77a32a0c3408c72c2dc879059905eabc60b7749039776f5e84259a93f494c78d", func := "truchman/truchmanlaw12.BlobWrites", spec := "blobWrites", apart := false }
def BlobWritesSaid : Prop := blobWritesRow.holds Try.pinned (OpenSpec.ofChange blobWritesSpec)

/-- ITS FALSE NEIGHBOUR: 'it returns false'. Refute it at one input. -/
def blobWritesWrong : ChangeSpec := { name := "blobWrites", fn := fun _ => fun
  | [d1, d2, d3] => { results := [.lit (.bool false)], args := [d1, d2, d3] }
  | _ => none }
def BlobWritesWrongFalsely : Prop := blobWritesRow.holds Try.pinned (OpenSpec.ofChange blobWritesWrong)

/-- 'truchmanlaw12.BlobBounds': WHATEVER THE INPUT: true; the input reads as it did. -/
def blobBoundsSpec : ChangeSpec := { name := "blobBounds", fn := fun _ => fun
  | [d1, d2, d3] => { results := [.lit (.bool true)], args := [d1, d2, d3] }
  | _ => none }
def blobBoundsRow : OpenClaim := { program := "ytlbokdoipajodaa", sum := "77a32a0c3408c72c2dc879059905eabc60b7749039776f5e84259a93f494c78d", func := "truchman/truchmanlaw12.BlobBounds", spec := "blobBounds", apart := false }
def BlobBoundsSaid : Prop := blobBoundsRow.holds Try.pinned (OpenSpec.ofChange blobBoundsSpec)

/-- ITS FALSE NEIGHBOUR: 'it returns false'. Refute it at one input. -/
def blobBoundsWrong : ChangeSpec := { name := "blobBounds", fn := fun _ => fun
  | [d1, d2, d3] => { results := [.lit (.bool false)], args := [d1, d2, d3] }
  | _ => none }
def BlobBoundsWrongFalsely : Prop := blobBoundsRow.holds Try.pinned (OpenSpec.ofChange blobBoundsWrong)

/-- 'truchmanlaw12.BlobSizes': WHATEVER THE INPUT: true; the input reads as it did. -/
def blobSizesSpec : ChangeSpec := { name := "blobSizes", fn := fun _ => fun
  | [d1, d2] => { results := [.lit (.bool true)], args := [d1, d2] }
  | _ => none }
def blobSizesRow : OpenClaim := { program := "ytlbokdoipajodaa", sum := "77a32a0c3408c72c2dc879059905eabc60b7749039776f5e84259a93f494c78d", func := "truchman/truchmanlaw12.BlobSizes", spec := "blobSizes", apart := false }
def BlobSizesSaid : Prop := blobSizesRow.holds Try.pinned (OpenSpec.ofChange blobSizesSpec)

/-- ITS FALSE NEIGHBOUR: 'it returns false'. Refute it at one input. -/
def blobSizesWrong : ChangeSpec := { name := "blobSizes", fn := fun _ => fun
  | [d1, d2] => { results := [.lit (.bool false)], args := [d1, d2] }
  | _ => none }
def BlobSizesWrongFalsely : Prop := blobSizesRow.holds Try.pinned (OpenSpec.ofChange blobSizesWrong)

/-- 'truchmanlaw12.BlobFits': WHATEVER THE INPUT: true; the input reads as it did. -/
def blobFitsSpec : ChangeSpec := { name := "blobFits", fn := fun _ => fun
  | [d1, d2, d3, d4] => { results := [.lit (.bool true)], args := [d1, d2, d3, d4] }
  | _ => none }
def blobFitsRow : OpenClaim := { program := "ytlbokdoipajodaa", sum := "77a32a0c3408c72c2dc879059905eabc60b7749039776f5e84259a93f494c78d", func := "truchman/truchmanlaw12.BlobFits", spec := "blobFits", apart := false }
def BlobFitsSaid : Prop := blobFitsRow.holds Try.pinned (OpenSpec.ofChange blobFitsSpec)

/-- ITS FALSE NEIGHBOUR: 'it returns false'. Refute it at one input. -/
def blobFitsWrong : ChangeSpec := { name := "blobFits", fn := fun _ => fun
  | [d1, d2, d3, d4] => { results := [.lit (.bool false)], args := [d1, d2, d3, d4] }
  | _ => none }
def BlobFitsWrongFalsely : Prop := blobFitsRow.holds Try.pinned (OpenSpec.ofChange blobFitsWrong)

/-- 'truchmanlaw12.BlobStays': WHATEVER THE INPUT: true; the input reads as it did. -/
def blobStaysSpec : ChangeSpec := { name := "blobStays", fn := fun _ => fun
  | [d1, d2, d3, d4] => { results := [.lit (.bool true)], args := [d1, d2, d3, d4] }
  | _ => none }
def blobStaysRow : OpenClaim := { program := "ytlbokdoipajodaa", sum := "77a32a0c3408c72c2dc879059905eabc60b7749039776f5e84259a93f494c78d", func := "truchman/truchmanlaw12.BlobStays", spec := "blobStays", apart := false }
def BlobStaysSaid : Prop := blobStaysRow.holds Try.pinned (OpenSpec.ofChange blobStaysSpec)

/-- ITS FALSE NEIGHBOUR: 'it returns false'. Refute it at one input. -/
def blobStaysWrong : ChangeSpec := { name := "blobStays", fn := fun _ => fun
  | [d1, d2, d3, d4] => { results := [.lit (.bool false)], args := [d1, d2, d3, d4] }
  | _ => none }
def BlobStaysWrongFalsely : Prop := blobStaysRow.holds Try.pinned (OpenSpec.ofChange blobStaysWrong)

/-- 'truchmanlaw12.BlobTwice': WHATEVER THE INPUT: true; the input reads as it did. -/
def blobTwiceSpec : ChangeSpec := { name := "blobTwice", fn := fun _ => fun
  | [d1, d2, d3, d4] => { results := [.lit (.bool true)], args := [d1, d2, d3, d4] }
  | _ => none }
def blobTwiceRow : OpenClaim := { program := "ytlbokdoipajodaa", sum := "77a32a0c3408c72c2dc879059905eabc60b7749039776f5e84259a93f494c78d", func := "truchman/truchmanlaw12.BlobTwice", spec := "blobTwice", apart := false }
def BlobTwiceSaid : Prop := blobTwiceRow.holds Try.pinned (OpenSpec.ofChange blobTwiceSpec)

/-- ITS FALSE NEIGHBOUR: 'it returns false'. Refute it at one input. -/
def blobTwiceWrong : ChangeSpec := { name := "blobTwice", fn := fun _ => fun
  | [d1, d2, d3, d4] => { results := [.lit (.bool false)], args := [d1, d2, d3, d4] }
  | _ => none }
def BlobTwiceWrongFalsely : Prop := blobTwiceRow.holds Try.pinned (OpenSpec.ofChange blobTwiceWrong)

/- THE SECOND FORM. 'bulk': how many values and letters a reading holds, each counted each time it is reached (what is shared counts as often as it is met; a slice's spare places count too). A statement '..UptoSaid' is the law's where the arguments, and the package variables that the reading takes, are together of bulk at most 1048576: NARROWER than '..Said'. Prove '..Said' where nothing that the law and all that it calls make is longer than what came in: it says more and counts as full. Else prove '..UptoSaid'. A law counts once. -/
mutual
def uptoBulk {H : Type} : DataW H → Nat
  | .lit (.string bytes) => bytes.length + 1
  | .lit _ => 1
  | .nil => 1
  | .ptr d => uptoBulk d + 1
  | .slice elems spare => uptoBulkAll elems + uptoBulkAll spare + 1
  | .agg parts => uptoBulkAll parts + 1
  | .iface _ d => uptoBulk d + 1
  | .map entries => uptoBulkEntries entries + 1
  | .held _ => 1
def uptoBulkAll {H : Type} : List (DataW H) → Nat
  | [] => 0
  | d :: r => uptoBulk d + uptoBulkAll r
def uptoBulkEntries {H : Type} : List (Lit × DataW H) → Nat
  | [] => 0
  | x :: r => uptoBulkEntry x + uptoBulkEntries r
def uptoBulkEntry {H : Type} : Lit × DataW H → Nat
  | (.string bytes, d) => bytes.length + uptoBulk d + 1
  | (_, d) => uptoBulk d + 1
 end
def uptoSmall : (H : Type) → List (DataW H) → Bool := fun _ ds => decide (uptoBulkAll ds ≤ 1048576)
def OpenSpec.upto (s : _root_.Go.ChangeSpec) : _root_.Go.OpenSpec := { _root_.Go.OpenSpec.ofChange s with cond := some uptoSmall }

/-- 'truchmanlaw02.LittlePuts', WHERE WHAT IT READS IS OF BULK AT MOST 1048576: true; the input reads as it did. -/
def littlePutsUptoRow : OpenClaim := { program := "ytlbokdoipajodaa", sum := "77a32a0c3408c72c2dc879059905eabc60b7749039776f5e84259a93f494c78d", func := "truchman/truchmanlaw02.LittlePuts", spec := "littlePuts", apart := false, narrowed := true }
def LittlePutsUptoSaid : Prop := littlePutsUptoRow.holds Try.pinned (OpenSpec.upto littlePutsSpec)

/-- 'truchmanlaw02.LittleReads', WHERE WHAT IT READS IS OF BULK AT MOST 1048576: true; the input reads as it did. -/
def littleReadsUptoRow : OpenClaim := { program := "ytlbokdoipajodaa", sum := "77a32a0c3408c72c2dc879059905eabc60b7749039776f5e84259a93f494c78d", func := "truchman/truchmanlaw02.LittleReads", spec := "littleReads", apart := false, narrowed := true }
def LittleReadsUptoSaid : Prop := littleReadsUptoRow.holds Try.pinned (OpenSpec.upto littleReadsSpec)

/-- 'truchmanlaw02.LittleRound', WHERE WHAT IT READS IS OF BULK AT MOST 1048576: true; the input reads as it did. -/
def littleRoundUptoRow : OpenClaim := { program := "ytlbokdoipajodaa", sum := "77a32a0c3408c72c2dc879059905eabc60b7749039776f5e84259a93f494c78d", func := "truchman/truchmanlaw02.LittleRound", spec := "littleRound", apart := false, narrowed := true }
def LittleRoundUptoSaid : Prop := littleRoundUptoRow.holds Try.pinned (OpenSpec.upto littleRoundSpec)

/-- 'truchmanlaw02.LittleSplits', WHERE WHAT IT READS IS OF BULK AT MOST 1048576: true; the input reads as it did. -/
def littleSplitsUptoRow : OpenClaim := { program := "ytlbokdoipajodaa", sum := "77a32a0c3408c72c2dc879059905eabc60b7749039776f5e84259a93f494c78d", func := "truchman/truchmanlaw02.LittleSplits", spec := "littleSplits", apart := false, narrowed := true }
def LittleSplitsUptoSaid : Prop := littleSplitsUptoRow.holds Try.pinned (OpenSpec.upto littleSplitsSpec)

/-- 'truchmanlaw02.LittlePieces', WHERE WHAT IT READS IS OF BULK AT MOST 1048576: true; the input reads as it did. -/
def littlePiecesUptoRow : OpenClaim := { program := "ytlbokdoipajodaa", sum := "77a32a0c3408c72c2dc879059905eabc60b7749039776f5e84259a93f494c78d", func := "truchman/truchmanlaw02.LittlePieces", spec := "littlePieces", apart := false, narrowed := true }
def LittlePiecesUptoSaid : Prop := littlePiecesUptoRow.holds Try.pinned (OpenSpec.upto littlePiecesSpec)

/-- 'truchmanlaw12.BlobReads', WHERE WHAT IT READS IS OF BULK AT MOST 1048576: true; the input reads as it did. -/
def blobReadsUptoRow : OpenClaim := { program := "ytlbokdoipajodaa", sum := "77a32a0c3408c72c2dc879059905eabc60b7749039776f5e84259a93f494c78d", func := "truchman/truchmanlaw12.BlobReads", spec := "blobReads", apart := false, narrowed := true }
def BlobReadsUptoSaid : Prop := blobReadsUptoRow.holds Try.pinned (OpenSpec.upto blobReadsSpec)

/-- 'truchmanlaw12.BlobWrites', WHERE WHAT IT READS IS OF BULK AT MOST 1048576: true; the input reads as it did. -/
def blobWritesUptoRow : OpenClaim := { program := "ytlbokdoipajodaa", sum := "77a32a0c3408c72c2dc879059905eabc60b7749039776f5e84259a93f494c78d", func := "truchman/truchmanlaw12.BlobWrites", spec := "blobWrites", apart := false, narrowed := true }
def BlobWritesUptoSaid : Prop := blobWritesUptoRow.holds Try.pinned (OpenSpec.upto blobWritesSpec)

/-- 'truchmanlaw12.BlobBounds', WHERE WHAT IT READS IS OF BULK AT MOST 1048576: true; the input reads as it did. -/
def blobBoundsUptoRow : OpenClaim := { program := "ytlbokdoipajodaa", sum := "77a32a0c3408c72c2dc879059905eabc60b7749039776f5e84259a93f494c78d", func := "truchman/truchmanlaw12.BlobBounds", spec := "blobBounds", apart := false, narrowed := true }
def BlobBoundsUptoSaid : Prop := blobBoundsUptoRow.holds Try.pinned (OpenSpec.upto blobBoundsSpec)

/-- 'truchmanlaw12.BlobSizes', WHERE WHAT IT READS IS OF BULK AT MOST 1048576: true; the input reads as it did. -/
def blobSizesUptoRow : OpenClaim := { program := "ytlbokdoipajodaa", sum := "77a32a0c3408c72c2dc879059905eabc60b7749039776f5e84259a93f494c78d", func := "truchman/truchmanlaw12.BlobSizes", spec := "blobSizes", apart := false, narrowed := true }
def BlobSizesUptoSaid : Prop := blobSizesUptoRow.holds Try.pinned (OpenSpec.upto blobSizesSpec)

/-- 'truchmanlaw12.BlobFits', WHERE WHAT IT READS IS OF BULK AT MOST 1048576: true; the input reads as it did. -/
def blobFitsUptoRow : OpenClaim := { program := "ytlbokdoipajodaa", sum := "77a32a0c3408c72c2dc879059905eabc60b7749039776f5e84259a93f494c78d", func := "truchman/truchmanlaw12.BlobFits", spec := "blobFits", apart := false, narrowed := true }
def BlobFitsUptoSaid : Prop := blobFitsUptoRow.holds Try.pinned (OpenSpec.upto blobFitsSpec)

/-- 'truchmanlaw12.BlobStays', WHERE WHAT IT READS IS OF BULK AT MOST 1048576: true; the input reads as it did. -/
def blobStaysUptoRow : OpenClaim := { program := "ytlbokdoipajodaa", sum := "77a32a0c3408c72c2dc879059905eabc60b7749039776f5e84259a93f494c78d", func := "truchman/truchmanlaw12.BlobStays", spec := "blobStays", apart := false, narrowed := true }
def BlobStaysUptoSaid : Prop := blobStaysUptoRow.holds Try.pinned (OpenSpec.upto blobStaysSpec)

/-- 'truchmanlaw12.BlobTwice', WHERE WHAT IT READS IS OF BULK AT MOST 1048576: true; the input reads as it did. -/
def blobTwiceUptoRow : OpenClaim := { program := "ytlbokdoipajodaa", sum := "77a32a0c3408c72c2dc879059905eabc60b7749039776f5e84259a93f494c78d", func := "truchman/truchmanlaw12.BlobTwice", spec := "blobTwice", apart := false, narrowed := true }
def BlobTwiceUptoSaid : Prop := blobTwiceUptoRow.holds Try.pinned (OpenSpec.upto blobTwiceSpec)

end Rows
end Go.Proofs.Ytlbokdoipajodaa
