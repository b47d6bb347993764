/-
  No cell of these rows narrows 'for every input' (looked for: loops, veiled, ifaces, maps, wideKeys, modest, calm, conditions, laid).
  DERIVED. THE GIVEN ROWS OF THIS SEAT. 12 by the template 'for every input the law returns true; each argument reads behind the call as it read before'; 0 by the template 'total and deterministic' (their statements: YtiiagecacegmbaaTotals.lean).
  GIVEN WITH THE SEED: the statements are not yours to turn. If you find one false, say at which input.
  Laid BY PROGRAM, IN A SANDBOX (cutbox-rows.mjs): the forced cells as the released guide's own fill.sh prints them over the translation a1fad059183779e0… (all of the seat's roots in one cut). By AI agents, Wed Nov 11 2026. No macro, syntax, notation, axiom, sorry.
-/
import Derived.Test.YtiiagecacegmbaaChecked
import GoSem.Claim
import GoSem.ClaimJoined
import GoSem.ClaimMapViews
import Derived.JoinedTies
import Derived.KernelRfl
namespace Go.Proofs.Ytiiagecacegmbaa
/- THE CELL 'sum', in the pinned program and in every row, IS THE sha256 OF THE DUMP (.gsa) THAT YtiiagecacegmbaaProg.lean LOADS. Nothing in Lean hashes anything: it is a label: what it is worth is what the hold of that sum in a sandbox is worth. -/
noncomputable def Try.pinned : Pinned := { name := "ytiiagecacegmbaa", sum := "a1fad059183779e0f21716e55e4b81ada255fa0b478aa65c88e312c62bf6cb16", checked := Try.checked }
namespace Rows
def none {H : Type} : Left H := { results := [], args := [] }

/-- 'truchmanlaw02.LittleSplits': WHATEVER THE INPUT: true; the input reads as it did. -/
def littleSplitsSpec : ChangeSpec := { name := "littleSplits", fn := fun _ => fun
  | [d1, d2, d3] => { results := [.lit (.bool true)], args := [d1, d2, d3] }
  | _ => none }
def littleSplitsRow : OpenClaim := { program := "ytiiagecacegmbaa", sum := "a1fad059183779e0f21716e55e4b81ada255fa0b478aa65c88e312c62bf6cb16", func := "truchman/truchmanlaw02.LittleSplits", spec := "littleSplits", apart := false }
def LittleSplitsSaid : Prop := littleSplitsRow.holds Try.pinned (OpenSpec.ofChange littleSplitsSpec)

/-- ITS FALSE NEIGHBOUR: 'it returns false'. Refute it at one input. -/
def littleSplitsWrong : ChangeSpec := { name := "littleSplits", fn := fun _ => fun
  | [d1, d2, d3] => { results := [.lit (.bool false)], args := [d1, d2, d3] }
  | _ => none }
def LittleSplitsWrongFalsely : Prop := littleSplitsRow.holds Try.pinned (OpenSpec.ofChange littleSplitsWrong)

/-- 'truchmanlaw02.LittlePieces': WHATEVER THE INPUT: true; the input reads as it did. -/
def littlePiecesSpec : ChangeSpec := { name := "littlePieces", fn := fun _ => fun
  | [d1, d2, d3] => { results := [.lit (.bool true)], args := [d1, d2, d3] }
  | _ => none }
def littlePiecesRow : OpenClaim := { program := "ytiiagecacegmbaa", sum := "a1fad059183779e0f21716e55e4b81ada255fa0b478aa65c88e312c62bf6cb16", func := "truchman/truchmanlaw02.LittlePieces", spec := "littlePieces", apart := false }
def LittlePiecesSaid : Prop := littlePiecesRow.holds Try.pinned (OpenSpec.ofChange littlePiecesSpec)

/-- ITS FALSE NEIGHBOUR: 'it returns false'. Refute it at one input. -/
def littlePiecesWrong : ChangeSpec := { name := "littlePieces", fn := fun _ => fun
  | [d1, d2, d3] => { results := [.lit (.bool false)], args := [d1, d2, d3] }
  | _ => none }
def LittlePiecesWrongFalsely : Prop := littlePiecesRow.holds Try.pinned (OpenSpec.ofChange littlePiecesWrong)

/-- 'truchmanlaw04.DemarkFeeds': WHATEVER THE INPUT: true; the input reads as it did. -/
def demarkFeedsSpec : ChangeSpec := { name := "demarkFeeds", fn := fun _ => fun
  | [d1, d2, d3, d4, d5, d6] => { results := [.lit (.bool true)], args := [d1, d2, d3, d4, d5, d6] }
  | _ => none }
def demarkFeedsRow : OpenClaim := { program := "ytiiagecacegmbaa", sum := "a1fad059183779e0f21716e55e4b81ada255fa0b478aa65c88e312c62bf6cb16", func := "truchman/truchmanlaw04.DemarkFeeds", spec := "demarkFeeds", unfollowed := true, recurses := true, apart := false }
def DemarkFeedsSaid : Prop := demarkFeedsRow.holds Try.pinned (OpenSpec.ofChange demarkFeedsSpec)

/-- ITS FALSE NEIGHBOUR: 'it returns false'. Refute it at one input. -/
def demarkFeedsWrong : ChangeSpec := { name := "demarkFeeds", fn := fun _ => fun
  | [d1, d2, d3, d4, d5, d6] => { results := [.lit (.bool false)], args := [d1, d2, d3, d4, d5, d6] }
  | _ => none }
def DemarkFeedsWrongFalsely : Prop := demarkFeedsRow.holds Try.pinned (OpenSpec.ofChange demarkFeedsWrong)

/-- 'truchmanlaw04.DemarkRound': WHATEVER THE INPUT: true; the input reads as it did. -/
def demarkRoundSpec : ChangeSpec := { name := "demarkRound", fn := fun _ => fun
  | [d1, d2, d3] => { results := [.lit (.bool true)], args := [d1, d2, d3] }
  | _ => none }
def demarkRoundRow : OpenClaim := { program := "ytiiagecacegmbaa", sum := "a1fad059183779e0f21716e55e4b81ada255fa0b478aa65c88e312c62bf6cb16", func := "truchman/truchmanlaw04.DemarkRound", spec := "demarkRound", unfollowed := true, recurses := true, apart := false }
def DemarkRoundSaid : Prop := demarkRoundRow.holds Try.pinned (OpenSpec.ofChange demarkRoundSpec)

/-- ITS FALSE NEIGHBOUR: 'it returns false'. Refute it at one input. -/
def demarkRoundWrong : ChangeSpec := { name := "demarkRound", fn := fun _ => fun
  | [d1, d2, d3] => { results := [.lit (.bool false)], args := [d1, d2, d3] }
  | _ => none }
def DemarkRoundWrongFalsely : Prop := demarkRoundRow.holds Try.pinned (OpenSpec.ofChange demarkRoundWrong)

/-- 'truchmanlaw04.DemarkCuts': WHATEVER THE INPUT: true; the input reads as it did. -/
def demarkCutsSpec : ChangeSpec := { name := "demarkCuts", fn := fun _ => fun
  | [d1, d2, d3, d4, d5] => { results := [.lit (.bool true)], args := [d1, d2, d3, d4, d5] }
  | _ => none }
def demarkCutsRow : OpenClaim := { program := "ytiiagecacegmbaa", sum := "a1fad059183779e0f21716e55e4b81ada255fa0b478aa65c88e312c62bf6cb16", func := "truchman/truchmanlaw04.DemarkCuts", spec := "demarkCuts", unfollowed := true, recurses := true, apart := false }
def DemarkCutsSaid : Prop := demarkCutsRow.holds Try.pinned (OpenSpec.ofChange demarkCutsSpec)

/-- ITS FALSE NEIGHBOUR: 'it returns false'. Refute it at one input. -/
def demarkCutsWrong : ChangeSpec := { name := "demarkCuts", fn := fun _ => fun
  | [d1, d2, d3, d4, d5] => { results := [.lit (.bool false)], args := [d1, d2, d3, d4, d5] }
  | _ => none }
def DemarkCutsWrongFalsely : Prop := demarkCutsRow.holds Try.pinned (OpenSpec.ofChange demarkCutsWrong)

/-- 'truchmanlaw04.DemarkErrors': WHATEVER THE INPUT: true; the input reads as it did. -/
def demarkErrorsSpec : ChangeSpec := { name := "demarkErrors", fn := fun _ => fun
  | [d1, d2, d3] => { results := [.lit (.bool true)], args := [d1, d2, d3] }
  | _ => none }
def demarkErrorsRow : OpenClaim := { program := "ytiiagecacegmbaa", sum := "a1fad059183779e0f21716e55e4b81ada255fa0b478aa65c88e312c62bf6cb16", func := "truchman/truchmanlaw04.DemarkErrors", spec := "demarkErrors", unfollowed := true, recurses := true, apart := false }
def DemarkErrorsSaid : Prop := demarkErrorsRow.holds Try.pinned (OpenSpec.ofChange demarkErrorsSpec)

/-- ITS FALSE NEIGHBOUR: 'it returns false'. Refute it at one input. -/
def demarkErrorsWrong : ChangeSpec := { name := "demarkErrors", fn := fun _ => fun
  | [d1, d2, d3] => { results := [.lit (.bool false)], args := [d1, d2, d3] }
  | _ => none }
def DemarkErrorsWrongFalsely : Prop := demarkErrorsRow.holds Try.pinned (OpenSpec.ofChange demarkErrorsWrong)

/-- 'truchmanlaw04.DemarkNews': WHATEVER THE INPUT: true; the input reads as it did. -/
def demarkNewsSpec : ChangeSpec := { name := "demarkNews", fn := fun _ => fun
  | [d1, d2] => { results := [.lit (.bool true)], args := [d1, d2] }
  | _ => none }
def demarkNewsRow : OpenClaim := { program := "ytiiagecacegmbaa", sum := "a1fad059183779e0f21716e55e4b81ada255fa0b478aa65c88e312c62bf6cb16", func := "truchman/truchmanlaw04.DemarkNews", spec := "demarkNews", unfollowed := true, recurses := true, apart := false }
def DemarkNewsSaid : Prop := demarkNewsRow.holds Try.pinned (OpenSpec.ofChange demarkNewsSpec)

/-- ITS FALSE NEIGHBOUR: 'it returns false'. Refute it at one input. -/
def demarkNewsWrong : ChangeSpec := { name := "demarkNews", fn := fun _ => fun
  | [d1, d2] => { results := [.lit (.bool false)], args := [d1, d2] }
  | _ => none }
def DemarkNewsWrongFalsely : Prop := demarkNewsRow.holds Try.pinned (OpenSpec.ofChange demarkNewsWrong)

/-- 'truchmanlaw09.NamePrints': WHATEVER THE INPUT: true; the input reads as it did. -/
def namePrintsSpec : ChangeSpec := { name := "namePrints", fn := fun _ => fun
  | [d1, d2] => { results := [.lit (.bool true)], args := [d1, d2] }
  | _ => none }
def namePrintsRow : OpenClaim := { program := "ytiiagecacegmbaa", sum := "a1fad059183779e0f21716e55e4b81ada255fa0b478aa65c88e312c62bf6cb16", func := "truchman/truchmanlaw09.NamePrints", spec := "namePrints", inPlace := ["internal/abi.NoEscape", "internal/bytealg.IndexByteString"], apart := false }
def NamePrintsSaid : Prop := namePrintsRow.holds Try.pinned (OpenSpec.ofChange namePrintsSpec)

/-- ITS FALSE NEIGHBOUR: 'it returns false'. Refute it at one input. -/
def namePrintsWrong : ChangeSpec := { name := "namePrints", fn := fun _ => fun
  | [d1, d2] => { results := [.lit (.bool false)], args := [d1, d2] }
  | _ => none }
def NamePrintsWrongFalsely : Prop := namePrintsRow.holds Try.pinned (OpenSpec.ofChange namePrintsWrong)

/-- 'truchmanlaw09.NameScans': WHATEVER THE INPUT: true; the input reads as it did. -/
def nameScansSpec : ChangeSpec := { name := "nameScans", fn := fun _ => fun
  | [d1, d2, d3, d4] => { results := [.lit (.bool true)], args := [d1, d2, d3, d4] }
  | _ => none }
def nameScansRow : OpenClaim := { program := "ytiiagecacegmbaa", sum := "a1fad059183779e0f21716e55e4b81ada255fa0b478aa65c88e312c62bf6cb16", func := "truchman/truchmanlaw09.NameScans", spec := "nameScans", inPlace := ["internal/bytealg.IndexByteString", "internal/abi.NoEscape"], apart := false }
def NameScansSaid : Prop := nameScansRow.holds Try.pinned (OpenSpec.ofChange nameScansSpec)

/-- ITS FALSE NEIGHBOUR: 'it returns false'. Refute it at one input. -/
def nameScansWrong : ChangeSpec := { name := "nameScans", fn := fun _ => fun
  | [d1, d2, d3, d4] => { results := [.lit (.bool false)], args := [d1, d2, d3, d4] }
  | _ => none }
def NameScansWrongFalsely : Prop := nameScansRow.holds Try.pinned (OpenSpec.ofChange nameScansWrong)

/-- 'truchmanlaw12.BlobReads': WHATEVER THE INPUT: true; the input reads as it did. -/
def blobReadsSpec : ChangeSpec := { name := "blobReads", fn := fun _ => fun
  | [d1, d2, d3] => { results := [.lit (.bool true)], args := [d1, d2, d3] }
  | _ => none }
def blobReadsRow : OpenClaim := { program := "ytiiagecacegmbaa", sum := "a1fad059183779e0f21716e55e4b81ada255fa0b478aa65c88e312c62bf6cb16", func := "truchman/truchmanlaw12.BlobReads", spec := "blobReads", apart := false }
def BlobReadsSaid : Prop := blobReadsRow.holds Try.pinned (OpenSpec.ofChange blobReadsSpec)

/-- ITS FALSE NEIGHBOUR: 'it returns false'. Refute it at one input. -/
def blobReadsWrong : ChangeSpec := { name := "blobReads", fn := fun _ => fun
  | [d1, d2, d3] => { results := [.lit (.bool false)], args := [d1, d2, d3] }
  | _ => none }
def BlobReadsWrongFalsely : Prop := blobReadsRow.holds Try.pinned (OpenSpec.ofChange blobReadsWrong)

/-- 'truchmanlaw12.BlobWrites': WHATEVER THE INPUT: true; the input reads as it did. -/
def blobWritesSpec : ChangeSpec := { name := "blobWrites", fn := fun _ => fun
  | [d1, d2, d3] => { results := [.lit (.bool true)], args := [d1, d2, d3] }
  | _ => none }
def blobWritesRow : OpenClaim := { program := "ytiiagecacegmbaa", sum := "a1fad059183779e0f21716e55e4b81ada255fa0b478aa65c88e312c62bf6cb16", func := "truchman/truchmanlaw12.BlobWrites", spec := "blobWrites", apart := false }
def BlobWritesSaid : Prop := blobWritesRow.holds Try.pinned (OpenSpec.ofChange blobWritesSpec)

/-- ITS FALSE NEIGHBOUR: 'it returns false'. Refute it at one input. -/
def blobWritesWrong : ChangeSpec := { name := "blobWrites", fn := fun _ => fun
  | [d1, d2, d3] => { results := [.lit (.bool false)], args := [d1, d2, d3] }
  | _ => none }
def BlobWritesWrongFalsely : Prop := blobWritesRow.holds Try.pinned (OpenSpec.ofChange blobWritesWrong)

/-- 'truchmanlaw12.BlobSizes': WHATEVER THE INPUT: true; the input reads as it did. -/
def blobSizesSpec : ChangeSpec := { name := "blobSizes", fn := fun _ => fun
  | [d1, d2] => { results := [.lit (.bool true)], args := [d1, d2] }
  | _ => none }
def blobSizesRow : OpenClaim := { program := "ytiiagecacegmbaa", sum := "a1fad059183779e0f21716e55e4b81ada255fa0b478aa65c88e312c62bf6cb16", func := "truchman/truchmanlaw12.BlobSizes", spec := "blobSizes", apart := false }
def BlobSizesSaid : Prop := blobSizesRow.holds Try.pinned (OpenSpec.ofChange blobSizesSpec)

/-- ITS FALSE NEIGHBOUR: 'it returns false'. Refute it at one input. -/
def blobSizesWrong : ChangeSpec := { name := "blobSizes", fn := fun _ => fun
  | [d1, d2] => { results := [.lit (.bool false)], args := [d1, d2] }
  | _ => none }
def BlobSizesWrongFalsely : Prop := blobSizesRow.holds Try.pinned (OpenSpec.ofChange blobSizesWrong)

/- THE SECOND FORM. 'bulk': how many values and letters a reading holds, each counted each time it is reached (what is shared counts as often as it is met; a slice's spare places count too). A statement '..UptoSaid' is the law's where the arguments, and the package variables that the reading takes, are together of bulk at most 1048576: NARROWER than '..Said'. Prove '..Said' where nothing that the law and all that it calls make is longer than what came in: it says more and counts as full. Else prove '..UptoSaid'. A law counts once. -/
mutual
def uptoBulk {H : Type} : DataW H → Nat
  | .lit (.string bytes) => bytes.length + 1
  | .lit _ => 1
  | .nil => 1
  | .ptr d => uptoBulk d + 1
  | .slice elems spare => uptoBulkAll elems + uptoBulkAll spare + 1
  | .agg parts => uptoBulkAll parts + 1
  | .iface _ d => uptoBulk d + 1
  | .map entries => uptoBulkEntries entries + 1
  | .held _ => 1
def uptoBulkAll {H : Type} : List (DataW H) → Nat
  | [] => 0
  | d :: r => uptoBulk d + uptoBulkAll r
def uptoBulkEntries {H : Type} : List (Lit × DataW H) → Nat
  | [] => 0
  | x :: r => uptoBulkEntry x + uptoBulkEntries r
def uptoBulkEntry {H : Type} : Lit × DataW H → Nat
  | (.string bytes, d) => bytes.length + uptoBulk d + 1
  | (_, d) => uptoBulk d + 1
 end
def uptoSmall : (H : Type) → List (DataW H) → Bool := fun _ ds => decide (uptoBulkAll ds ≤ 1048576)
def OpenSpec.upto (s : _root_.Go.ChangeSpec) : _root_.Go.OpenSpec := { _root_.Go.OpenSpec.ofChange s with cond := some uptoSmall }

/-- 'truchmanlaw02.LittleSplits', WHERE WHAT IT READS IS OF BULK AT MOST 1048576: true; the input reads as it did. -/
def littleSplitsUptoRow : OpenClaim := { program := "ytiiagecacegmbaa", sum := "a1fad059183779e0f21716e55e4b81ada255fa0b478aa65c88e312c62bf6cb16", func := "truchman/truchmanlaw02.LittleSplits", spec := "littleSplits", apart := false, narrowed := true }
def LittleSplitsUptoSaid : Prop := littleSplitsUptoRow.holds Try.pinned (OpenSpec.upto littleSplitsSpec)

/-- 'truchmanlaw02.LittlePieces', WHERE WHAT IT READS IS OF BULK AT MOST 1048576: true; the input reads as it did. -/
def littlePiecesUptoRow : OpenClaim := { program := "ytiiagecacegmbaa", sum := "a1fad059183779e0f21716e55e4b81ada255fa0b478aa65c88e312c62bf6cb16", func := "truchman/truchmanlaw02.LittlePieces", spec := "littlePieces", apart := false, narrowed := true }
def LittlePiecesUptoSaid : Prop := littlePiecesUptoRow.holds Try.pinned (OpenSpec.upto littlePiecesSpec)

/-- 'truchmanlaw04.DemarkFeeds', WHERE WHAT IT READS IS OF BULK AT MOST 1048576: true; the input reads as it did. -/
def demarkFeedsUptoRow : OpenClaim := { program := "ytiiagecacegmbaa", sum := "a1fad059183779e0f21716e55e4b81ada255fa0b478aa65c88e312c62bf6cb16", func := "truchman/truchmanlaw04.DemarkFeeds", spec := "demarkFeeds", unfollowed := true, recurses := true, apart := false, narrowed := true }
def DemarkFeedsUptoSaid : Prop := demarkFeedsUptoRow.holds Try.pinned (OpenSpec.upto demarkFeedsSpec)

/-- 'truchmanlaw04.DemarkRound', WHERE WHAT IT READS IS OF BULK AT MOST 1048576: true; the input reads as it did. -/
def demarkRoundUptoRow : OpenClaim := { program := "ytiiagecacegmbaa", sum := "a1fad059183779e0f21716e55e4b81ada255fa0b478aa65c88e312c62bf6cb16", func := "truchman/truchmanlaw04.DemarkRound", spec := "demarkRound", unfollowed := true, recurses := true, apart := false, narrowed := true }
def DemarkRoundUptoSaid : Prop := demarkRoundUptoRow.holds Try.pinned (OpenSpec.upto demarkRoundSpec)

/-- 'truchmanlaw04.DemarkCuts', WHERE WHAT IT READS IS OF BULK AT MOST 1048576: true; the input reads as it did. -/
def demarkCutsUptoRow : OpenClaim := { program := "ytiiagecacegmbaa", sum := "a1fad059183779e0f21716e55e4b81ada255fa0b478aa65c88e312c62bf6cb16", func := "truchman/truchmanlaw04.DemarkCuts", spec := "demarkCuts", unfollowed := true, recurses := true, apart := false, narrowed := true }
def DemarkCutsUptoSaid : Prop := demarkCutsUptoRow.holds Try.pinned (OpenSpec.upto demarkCutsSpec)

/-- 'truchmanlaw04.DemarkErrors', WHERE WHAT IT READS IS OF BULK AT MOST 1048576: true; the input reads as it did. -/
def demarkErrorsUptoRow : OpenClaim := { program := "ytiiagecacegmbaa", sum := "a1fad059183779e0f21716e55e4b81ada255fa0b478aa65c88e312c62bf6cb16", func := "truchman/truchmanlaw04.DemarkErrors", spec := "demarkErrors", unfollowed := true, recurses := true, apart := false, narrowed := true }
def DemarkErrorsUptoSaid : Prop := demarkErrorsUptoRow.holds Try.pinned (OpenSpec.upto demarkErrorsSpec)

/-- 'truchmanlaw04.DemarkNews', WHERE WHAT IT READS IS OF BULK AT MOST 1048576: true; the input reads as it did. -/
def demarkNewsUptoRow : OpenClaim := { program := "ytiiagecacegmbaa", sum := "a1fad059183779e0f21716e55e4b81ada255fa0b478aa65c88e312c62bf6cb16", func := "truchman/truchmanlaw04.DemarkNews", spec := "demarkNews", unfollowed := true, recurses := true, apart := false, narrowed := true }
def DemarkNewsUptoSaid : Prop := demarkNewsUptoRow.holds Try.pinned (OpenSpec.upto demarkNewsSpec)

/-- 'truchmanlaw09.NamePrints', WHERE WHAT IT READS IS OF BULK AT MOST 1048576: true; the input reads as it did. -/
def namePrintsUptoRow : OpenClaim := { program := "ytiiagecacegmbaa", sum := "a1fad059183779e0f21716e55e4b81ada255fa0b478aa65c88e312c62bf6cb16", func := "truchman/truchmanlaw09.NamePrints", spec := "namePrints", inPlace := ["internal/abi.NoEscape", "internal/bytealg.IndexByteString"], apart := false, narrowed := true }
def NamePrintsUptoSaid : Prop := namePrintsUptoRow.holds Try.pinned (OpenSpec.upto namePrintsSpec)

/-- 'truchmanlaw09.NameScans', WHERE WHAT IT READS IS OF BULK AT MOST 1048576: true; the input reads as it did. -/
def nameScansUptoRow : OpenClaim := { program := "ytiiagecacegmbaa", sum := "a1fad059183779e0f21716e55e4b81ada255fa0b478aa65c88e312c62bf6cb16", func := "truchman/truchmanlaw09.NameScans", spec := "nameScans", inPlace := ["internal/bytealg.IndexByteString", "internal/abi.NoEscape"], apart := false, narrowed := true }
def NameScansUptoSaid : Prop := nameScansUptoRow.holds Try.pinned (OpenSpec.upto nameScansSpec)

/-- 'truchmanlaw12.BlobReads', WHERE WHAT IT READS IS OF BULK AT MOST 1048576: true; the input reads as it did. -/
def blobReadsUptoRow : OpenClaim := { program := "ytiiagecacegmbaa", sum := "a1fad059183779e0f21716e55e4b81ada255fa0b478aa65c88e312c62bf6cb16", func := "truchman/truchmanlaw12.BlobReads", spec := "blobReads", apart := false, narrowed := true }
def BlobReadsUptoSaid : Prop := blobReadsUptoRow.holds Try.pinned (OpenSpec.upto blobReadsSpec)

/-- 'truchmanlaw12.BlobWrites', WHERE WHAT IT READS IS OF BULK AT MOST 1048576: true; the input reads as it did. -/
def blobWritesUptoRow : OpenClaim := { program := "ytiiagecacegmbaa", sum := "a1fad059183779e0f21716e55e4b81ada255fa0b478aa65c88e312c62bf6cb16", func := "truchman/truchmanlaw12.BlobWrites", spec := "blobWrites", apart := false, narrowed := true }
def BlobWritesUptoSaid : Prop := blobWritesUptoRow.holds Try.pinned (OpenSpec.upto blobWritesSpec)

/-- 'truchmanlaw12.BlobSizes', WHERE WHAT IT READS IS OF BULK AT MOST 1048576: true; the input reads as it did. -/
def blobSizesUptoRow : OpenClaim := { program := "ytiiagecacegmbaa", sum := "a1fad059183779e0f21716e55e4b81ada255fa0b478aa65c88e312c62bf6cb16", func := "truchman/truchmanlaw12.BlobSizes", spec := "blobSizes", apart := false, narrowed := true }
def BlobSizesUptoSaid : Prop := blobSizesUptoRow.holds Try.pinned (OpenSpec.upto blobSizesSpec)

end Rows
end Go.Proofs.Ytiiagecacegmbaa
