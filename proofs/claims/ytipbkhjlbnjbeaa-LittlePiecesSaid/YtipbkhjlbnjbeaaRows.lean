/-
  No cell of these rows narrows 'for every input' (looked for: loops, veiled, ifaces, maps, wideKeys, modest, calm, conditions, laid).
  DERIVED. THE GIVEN ROWS OF THIS SEAT. 12 by the template 'for every input the law returns true; each argument reads behind the call as it read before'; 0 by the template 'total and deterministic' (their statements: YtipbkhjlbnjbeaaTotals.lean).
  GIVEN WITH THE SEED: the statements are not yours to turn. If you find one false, say at which input.
  Laid BY PROGRAM, IN A SANDBOX (cutbox-rows.mjs): the forced cells as the released guide's own fill.sh prints them over the translation 92abf5153e38271e… (all of the seat's roots in one cut). By AI agents, Wed Nov 11 2026. No macro, syntax, notation, axiom, sorry.
-/
import Derived.Test.YtipbkhjlbnjbeaaChecked
import GoSem.Claim
import GoSem.ClaimJoined
import GoSem.ClaimMapViews
import Derived.JoinedTies
import Derived.KernelRfl
namespace Go.Proofs.Ytipbkhjlbnjbeaa
/- THE CELL 'sum', in the pinned program and in every row, IS THE sha256 OF THE DUMP (.gsa) THAT YtipbkhjlbnjbeaaProg.lean LOADS. Nothing in Lean hashes anything: it is a label: what it is worth is what the hold of that sum in a sandbox is worth. -/
noncomputable def Try.pinned : Pinned := { name := "ytipbkhjlbnjbeaa", sum := "92abf5153e38271ed79ba36c97e2f3ad1c3edac94b37022607a470b737da8705", checked := Try.checked }
namespace Rows
def none {H : Type} : Left H := { results := [], args := [] }

/-- 'truchmanlaw01.XdrReads': WHATEVER THE INPUT: true; the input reads as it did. -/
def xdrReadsSpec : ChangeSpec := { name := "xdrReads", fn := fun _ => fun
  | [d1, d2] => { results := [.lit (.bool true)], args := [d1, d2] }
  | _ => none }
def xdrReadsRow : OpenClaim := { program := "ytipbkhjlbnjbeaa", sum := "92abf5153e38271ed79ba36c97e2f3ad1c3edac94b37022607a470b737da8705", func := "truchman/truchmanlaw01.XdrReads", spec := "xdrReads", apart := false }
def XdrReadsSaid : Prop := xdrReadsRow.holds Try.pinned (OpenSpec.ofChange xdrReadsSpec)

/-- ITS FALSE NEIGHBOUR: 'it returns false'. Refute it at one input. -/
def xdrReadsWrong : ChangeSpec := { name := "xdrReads", fn := fun _ => fun
  | [d1, d2] => { results := [.lit (.bool false)], args := [d1, d2] }
  | _ => none }
def XdrReadsWrongFalsely : Prop := xdrReadsRow.holds Try.pinned (OpenSpec.ofChange xdrReadsWrong)

/-- 'truchmanlaw02.LittlePuts': WHATEVER THE INPUT: true; the input reads as it did. -/
def littlePutsSpec : ChangeSpec := { name := "littlePuts", fn := fun _ => fun
  | [d1, d2, d3, d4, d5] => { results := [.lit (.bool true)], args := [d1, d2, d3, d4, d5] }
  | _ => none }
def littlePutsRow : OpenClaim := { program := "ytipbkhjlbnjbeaa", sum := "92abf5153e38271ed79ba36c97e2f3ad1c3edac94b37022607a470b737da8705", func := "truchman/truchmanlaw02.LittlePuts", spec := "littlePuts", apart := false }
def LittlePutsSaid : Prop := littlePutsRow.holds Try.pinned (OpenSpec.ofChange littlePutsSpec)

/-- ITS FALSE NEIGHBOUR: 'it returns false'. Refute it at one input. -/
def littlePutsWrong : ChangeSpec := { name := "littlePuts", fn := fun _ => fun
  | [d1, d2, d3, d4, d5] => { results := [.lit (.bool false)], args := [d1, d2, d3, d4, d5] }
  | _ => none }
def LittlePutsWrongFalsely : Prop := littlePutsRow.holds Try.pinned (OpenSpec.ofChange littlePutsWrong)

/-- 'truchmanlaw02.LittleReads': WHATEVER THE INPUT: true; the input reads as it did. -/
def littleReadsSpec : ChangeSpec := { name := "littleReads", fn := fun _ => fun
  | [d1, d2] => { results := [.lit (.bool true)], args := [d1, d2] }
  | _ => none }
def littleReadsRow : OpenClaim := { program := "ytipbkhjlbnjbeaa", sum := "92abf5153e38271ed79ba36c97e2f3ad1c3edac94b37022607a470b737da8705", func := "truchman/truchmanlaw02.LittleReads", spec := "littleReads", apart := false }
def LittleReadsSaid : Prop := littleReadsRow.holds Try.pinned (OpenSpec.ofChange littleReadsSpec)

/-- ITS FALSE NEIGHBOUR: 'it returns false'. Refute it at one input. -/
def littleReadsWrong : ChangeSpec := { name := "littleReads", fn := fun _ => fun
  | [d1, d2] => { results := [.lit (.bool false)], args := [d1, d2] }
  | _ => none }
def LittleReadsWrongFalsely : Prop := littleReadsRow.holds Try.pinned (OpenSpec.ofChange littleReadsWrong)

/-- 'truchmanlaw02.LittleRound': WHATEVER THE INPUT: true; the input reads as it did. -/
def littleRoundSpec : ChangeSpec := { name := "littleRound", fn := fun _ => fun
  | [d1, d2] => { results := [.lit (.bool true)], args := [d1, d2] }
  | _ => none }
def littleRoundRow : OpenClaim := { program := "ytipbkhjlbnjbeaa", sum := "92abf5153e38271ed79ba36c97e2f3ad1c3edac94b37022607a470b737da8705", func := "truchman/truchmanlaw02.LittleRound", spec := "littleRound", apart := false }
def LittleRoundSaid : Prop := littleRoundRow.holds Try.pinned (OpenSpec.ofChange littleRoundSpec)

/-- ITS FALSE NEIGHBOUR: 'it returns false'. Refute it at one input. -/
def littleRoundWrong : ChangeSpec := { name := "littleRound", fn := fun _ => fun
  | [d1, d2] => { results := [.lit (.bool false)], args := [d1, d2] }
  | _ => none }
def LittleRoundWrongFalsely : Prop := littleRoundRow.holds Try.pinned (OpenSpec.ofChange littleRoundWrong)

/-- 'truchmanlaw02.LittleSplits': WHATEVER THE INPUT: true; the input reads as it did. -/
def littleSplitsSpec : ChangeSpec := { name := "littleSplits", fn := fun _ => fun
  | [d1, d2, d3] => { results := [.lit (.bool true)], args := [d1, d2, d3] }
  | _ => none }
def littleSplitsRow : OpenClaim := { program := "ytipbkhjlbnjbeaa", sum := "92abf5153e38271ed79ba36c97e2f3ad1c3edac94b37022607a470b737da8705", func := "truchman/truchmanlaw02.LittleSplits", spec := "littleSplits", apart := false }
def LittleSplitsSaid : Prop := littleSplitsRow.holds Try.pinned (OpenSpec.ofChange littleSplitsSpec)

/-- ITS FALSE NEIGHBOUR: 'it returns false'. Refute it at one input. -/
def littleSplitsWrong : ChangeSpec := { name := "littleSplits", fn := fun _ => fun
  | [d1, d2, d3] => { results := [.lit (.bool false)], args := [d1, d2, d3] }
  | _ => none }
def LittleSplitsWrongFalsely : Prop := littleSplitsRow.holds Try.pinned (OpenSpec.ofChange littleSplitsWrong)

/-- 'truchmanlaw02.LittlePieces': WHATEVER THE INPUT: true; the input reads as it did. -/
def littlePiecesSpec : ChangeSpec := { name := "littlePieces", fn := fun _ => fun
  | [d1, d2, d3] => { results := [.lit (.bool true)], args := [d1, d2, d3] }
  | _ => none }
def littlePiecesRow : OpenClaim := { program := "ytipbkhjlbnjbeaa", sum := "92abf5153e38271ed79ba36c97e2f3ad1c3edac94b37022607a470b737da8705", func := "truchman/truchmanlaw02.LittlePieces", spec := "littlePieces", apart := false }
def LittlePiecesSaid : Prop := littlePiecesRow.holds Try.pinned (OpenSpec.ofChange littlePiecesSpec)

/-- ITS FALSE NEIGHBOUR: 'it returns false'. Refute it at one input. -/
def littlePiecesWrong : ChangeSpec := { name := "littlePieces", fn := fun _ => fun
  | [d1, d2, d3] => { results := [.lit (.bool false)], args := [d1, d2, d3] }
  | _ => none }
def LittlePiecesWrongFalsely : Prop := littlePiecesRow.holds Try.pinned (OpenSpec.ofChange littlePiecesWrong)

/-- 'truchmanlaw03.MarkHas': WHATEVER THE INPUT: true; the input reads as it did. -/
def markHasSpec : ChangeSpec := { name := "markHas", fn := fun _ => fun
  | [d1, d2] => { results := [.lit (.bool true)], args := [d1, d2] }
  | _ => none }
def markHasRow : OpenClaim := { program := "ytipbkhjlbnjbeaa", sum := "92abf5153e38271ed79ba36c97e2f3ad1c3edac94b37022607a470b737da8705", func := "truchman/truchmanlaw03.MarkHas", spec := "markHas", apart := false }
def MarkHasSaid : Prop := markHasRow.holds Try.pinned (OpenSpec.ofChange markHasSpec)

/-- ITS FALSE NEIGHBOUR: 'it returns false'. Refute it at one input. -/
def markHasWrong : ChangeSpec := { name := "markHas", fn := fun _ => fun
  | [d1, d2] => { results := [.lit (.bool false)], args := [d1, d2] }
  | _ => none }
def MarkHasWrongFalsely : Prop := markHasRow.holds Try.pinned (OpenSpec.ofChange markHasWrong)

/-- 'truchmanlaw04.DemarkFeeds': WHATEVER THE INPUT: true; the input reads as it did. -/
def demarkFeedsSpec : ChangeSpec := { name := "demarkFeeds", fn := fun _ => fun
  | [d1, d2, d3, d4, d5, d6] => { results := [.lit (.bool true)], args := [d1, d2, d3, d4, d5, d6] }
  | _ => none }
def demarkFeedsRow : OpenClaim := { program := "ytipbkhjlbnjbeaa", sum := "92abf5153e38271ed79ba36c97e2f3ad1c3edac94b37022607a470b737da8705", func := "truchman/truchmanlaw04.DemarkFeeds", spec := "demarkFeeds", unfollowed := true, recurses := true, apart := false }
def DemarkFeedsSaid : Prop := demarkFeedsRow.holds Try.pinned (OpenSpec.ofChange demarkFeedsSpec)

/-- ITS FALSE NEIGHBOUR: 'it returns false'. Refute it at one input. -/
def demarkFeedsWrong : ChangeSpec := { name := "demarkFeeds", fn := fun _ => fun
  | [d1, d2, d3, d4, d5, d6] => { results := [.lit (.bool false)], args := [d1, d2, d3, d4, d5, d6] }
  | _ => none }
def DemarkFeedsWrongFalsely : Prop := demarkFeedsRow.holds Try.pinned (OpenSpec.ofChange demarkFeedsWrong)

/-- 'truchmanlaw04.DemarkRound': WHATEVER THE INPUT: true; the input reads as it did. -/
def demarkRoundSpec : ChangeSpec := { name := "demarkRound", fn := fun _ => fun
  | [d1, d2, d3] => { results := [.lit (.bool true)], args := [d1, d2, d3] }
  | _ => none }
def demarkRoundRow : OpenClaim := { program := "ytipbkhjlbnjbeaa", sum := "92abf5153e38271ed79ba36c97e2f3ad1c3edac94b37022607a470b737da8705", func := "truchman/truchmanlaw04.DemarkRound", spec := "demarkRound", unfollowed := true, recurses := true, apart := false }
def DemarkRoundSaid : Prop := demarkRoundRow.holds Try.pinned (OpenSpec.ofChange demarkRoundSpec)

/-- ITS FALSE NEIGHBOUR: 'it returns false'. Refute it at one input. -/
def demarkRoundWrong : ChangeSpec := { name := "demarkRound", fn := fun _ => fun
  | [d1, d2, d3] => { results := [.lit (.bool false)], args := [d1, d2, d3] }
  | _ => none }
def DemarkRoundWrongFalsely : Prop := demarkRoundRow.holds Try.pinned (OpenSpec.ofChange demarkRoundWrong)

/-- 'truchmanlaw04.DemarkCuts': WHATEVER THE INPUT: true; the input reads as it did. -/
def demarkCutsSpec : ChangeSpec := { name := "demarkCuts", fn := fun _ => fun
  | [d1, d2, d3, d4, d5] => { results := [.lit (.bool true)], args := [d1, d2, d3, d4, d5] }
  | _ => none }
def demarkCutsRow : OpenClaim := { program := "ytipbkhjlbnjbeaa", sum := "92abf5153e38271ed79ba36c97e2f3ad1c3edac94b37022607a470b737da8705", func := "truchman/truchmanlaw04.DemarkCuts", spec := "demarkCuts", unfollowed := true, recurses := true, apart := false }
def DemarkCutsSaid : Prop := demarkCutsRow.holds Try.pinned (OpenSpec.ofChange demarkCutsSpec)

/-- ITS FALSE NEIGHBOUR: 'it returns false'. Refute it at one input. -/
def demarkCutsWrong : ChangeSpec := { name := "demarkCuts", fn := fun _ => fun
  | [d1, d2, d3, d4, d5] => { results := [.lit (.bool false)], args := [d1, d2, d3, d4, d5] }
  | _ => none }
def DemarkCutsWrongFalsely : Prop := demarkCutsRow.holds Try.pinned (OpenSpec.ofChange demarkCutsWrong)

/-- 'truchmanlaw04.DemarkErrors': WHATEVER THE INPUT: true; the input reads as it did. -/
def demarkErrorsSpec : ChangeSpec := { name := "demarkErrors", fn := fun _ => fun
  | [d1, d2, d3] => { results := [.lit (.bool true)], args := [d1, d2, d3] }
  | _ => none }
def demarkErrorsRow : OpenClaim := { program := "ytipbkhjlbnjbeaa", sum := "92abf5153e38271ed79ba36c97e2f3ad1c3edac94b37022607a470b737da8705", func := "truchman/truchmanlaw04.DemarkErrors", spec := "demarkErrors", unfollowed := true, recurses := true, apart := false }
def DemarkErrorsSaid : Prop := demarkErrorsRow.holds Try.pinned (OpenSpec.ofChange demarkErrorsSpec)

/-- ITS FALSE NEIGHBOUR: 'it returns false'. Refute it at one input. -/
def demarkErrorsWrong : ChangeSpec := { name := "demarkErrors", fn := fun _ => fun
  | [d1, d2, d3] => { results := [.lit (.bool false)], args := [d1, d2, d3] }
  | _ => none }
def DemarkErrorsWrongFalsely : Prop := demarkErrorsRow.holds Try.pinned (OpenSpec.ofChange demarkErrorsWrong)

/-- 'truchmanlaw04.DemarkNews': WHATEVER THE INPUT: true; the input reads as it did. -/
def demarkNewsSpec : ChangeSpec := { name := "demarkNews", fn := fun _ => fun
  | [d1, d2] => { results := [.lit (.bool true)], args := [d1, d2] }
  | _ => none }
def demarkNewsRow : OpenClaim := { program := "ytipbkhjlbnjbeaa", sum := "92abf5153e38271ed79ba36c97e2f3ad1c3edac94b37022607a470b737da8705", func := "truchman/truchmanlaw04.DemarkNews", spec := "demarkNews", unfollowed := true, recurses := true, apart := false }
def DemarkNewsSaid : Prop := demarkNewsRow.holds Try.pinned (OpenSpec.ofChange demarkNewsSpec)

/-- ITS FALSE NEIGHBOUR: 'it returns false'. Refute it at one input. -/
def demarkNewsWrong : ChangeSpec := { name := "demarkNews", fn := fun _ => fun
  | [d1, d2] => { results := [.lit (.bool false)], args := [d1, d2] }
  | _ => none }
def DemarkNewsWrongFalsely : Prop := demarkNewsRow.holds Try.pinned (OpenSpec.ofChange demarkNewsWrong)

/- THE SECOND FORM. 'bulk': how many values and letters a reading holds, each counted each time it is reached (what is shared counts as often as it is met; a slice's spare places count too). A statement '..UptoSaid' is the law's where the arguments, and the package variables that the reading takes, are together of bulk at most 1048576: NARROWER than '..Said'. Prove '..Said' where nothing that the law and all that it calls make is longer than what came in: it says more and counts as full. Else prove '..UptoSaid'. A law counts once. -/
mutual
def uptoBulk {H : Type} : DataW H → Nat
  | .lit (.string bytes) => bytes.length + 1
  | .lit _ => 1
  | .nil => 1
  | .ptr d => uptoBulk d + 1
  | .slice elems spare => uptoBulkAll elems + uptoBulkAll spare + 1
  | .agg parts => uptoBulkAll parts + 1
  | .iface _ d => uptoBulk d + 1
  | .map entries => uptoBulkEntries entries + 1
  | .held _ => 1
def uptoBulkAll {H : Type} : List (DataW H) → Nat
  | [] => 0
  | d :: r => uptoBulk d + uptoBulkAll r
def uptoBulkEntries {H : Type} : List (Lit × DataW H) → Nat
  | [] => 0
  | x :: r => uptoBulkEntry x + uptoBulkEntries r
def uptoBulkEntry {H : Type} : Lit × DataW H → Nat
  | (.string bytes, d) => bytes.length + uptoBulk d + 1
  | (_, d) => uptoBulk d + 1
 end
def uptoSmall : (H : Type) → List (DataW H) → Bool := fun _ ds => decide (uptoBulkAll ds ≤ 1048576)
def OpenSpec.upto (s : _root_.Go.ChangeSpec) : _root_.Go.OpenSpec := { _root_.Go.OpenSpec.ofChange s with cond := some uptoSmall }

/-- 'truchmanlaw01.XdrReads', WHERE WHAT IT READS IS OF BULK AT MOST 1048576: true; the input reads as it did. -/
def xdrReadsUptoRow : OpenClaim := { program := "ytipbkhjlbnjbeaa", sum := "92abf5153e38271ed79ba36c97e2f3ad1c3edac94b37022607a470b737da8705", func := "truchman/truchmanlaw01.XdrReads", spec := "xdrReads", apart := false, narrowed := true }
def XdrReadsUptoSaid : Prop := xdrReadsUptoRow.holds Try.pinned (OpenSpec.upto xdrReadsSpec)

/-- 'truchmanlaw02.LittlePuts', WHERE WHAT IT READS IS OF BULK AT MOST 1048576: true; the input reads as it did. -/
def littlePutsUptoRow : OpenClaim := { program := "ytipbkhjlbnjbeaa", sum := "92abf5153e38271ed79ba36c97e2f3ad1c3edac94b37022607a470b737da8705", func := "truchman/truchmanlaw02.LittlePuts", spec := "littlePuts", apart := false, narrowed := true }
def LittlePutsUptoSaid : Prop := littlePutsUptoRow.holds Try.pinned (OpenSpec.upto littlePutsSpec)

/-- 'truchmanlaw02.LittleReads', WHERE WHAT IT READS IS OF BULK AT MOST 1048576: true; the input reads as it did. -/
def littleReadsUptoRow : OpenClaim := { program := "ytipbkhjlbnjbeaa", sum := "92abf5153e38271ed79ba36c97e2f3ad1c3edac94b37022607a470b737da8705", func := "truchman/truchmanlaw02.LittleReads", spec := "littleReads", apart := false, narrowed := true }
def LittleReadsUptoSaid : Prop := littleReadsUptoRow.holds Try.pinned (OpenSpec.upto littleReadsSpec)

/-- 'truchmanlaw02.LittleRound', WHERE WHAT IT READS IS OF BULK AT MOST 1048576: true; the input reads as it did. -/
def littleRoundUptoRow : OpenClaim := { program := "ytipbkhjlbnjbeaa", sum := "92abf5153e38271ed79ba36c97e2f3ad1c3edac94b37022607a470b737da8705", func := "truchman/truchmanlaw02.LittleRound", spec := "littleRound", apart := false, narrowed := true }
def LittleRoundUptoSaid : Prop := littleRoundUptoRow.holds Try.pinned (OpenSpec.upto littleRoundSpec)

/-- 'truchmanlaw02.LittleSplits', WHERE WHAT IT READS IS OF BULK AT MOST 1048576: true; the input reads as it did. -/
def littleSplitsUptoRow : OpenClaim := { program := "ytipbkhjlbnjbeaa", sum := "92abf5153e38271ed79ba36c97e2f3ad1c3edac94b37022607a470b737da8705", func := "truchman/truchmanlaw02.LittleSplits", spec := "littleSplits", apart := false, narrowed := true }
def LittleSplitsUptoSaid : Prop := littleSplitsUptoRow.holds Try.pinned (OpenSpec.upto littleSplitsSpec)

/-- 'truchmanlaw02.LittlePieces', WHERE WHAT IT READS IS OF BULK AT MOST 1048576: true; the input reads as it did. -/
def littlePiecesUptoRow : OpenClaim := { program := "ytipbkhjlbnjbeaa", sum := "92abf5153e38271ed79ba36c97e2f3ad1c3edac94b37022607a470b737da8705", func := "truchman/truchmanlaw02.LittlePieces", spec := "littlePieces", apart := false, narrowed := true }
def LittlePiecesUptoSaid : Prop := littlePiecesUptoRow.holds Try.pinned (OpenSpec.upto littlePiecesSpec)

/-- 'truchmanlaw03.MarkHas', WHERE WHAT IT READS IS OF BULK AT MOST 1048576: true; the input reads as it did. -/
def markHasUptoRow : OpenClaim := { program := "ytipbkhjlbnjbeaa", sum := "92abf5153e38271ed79ba36c97e2f3ad1c3edac94b37022607a470b737da8705", func := "truchman/truchmanlaw03.MarkHas", spec := "markHas", apart := false, narrowed := true }
def MarkHasUptoSaid : Prop := markHasUptoRow.holds Try.pinned (OpenSpec.upto markHasSpec)

/-- 'truchmanlaw04.DemarkFeeds', WHERE WHAT IT READS IS OF BULK AT MOST 1048576: true; the input reads as it did. -/
def demarkFeedsUptoRow : OpenClaim := { program := "ytipbkhjlbnjbeaa", sum := "92abf5153e38271ed79ba36c97e2f3ad1c3edac94b37022607a470b737da8705", func := "truchman/truchmanlaw04.DemarkFeeds", spec := "demarkFeeds", unfollowed := true, recurses := true, apart := false, narrowed := true }
def DemarkFeedsUptoSaid : Prop := demarkFeedsUptoRow.holds Try.pinned (OpenSpec.upto demarkFeedsSpec)

/-- 'truchmanlaw04.DemarkRound', WHERE WHAT IT READS IS OF BULK AT MOST 1048576: true; the input reads as it did. -/
def demarkRoundUptoRow : OpenClaim := { program := "ytipbkhjlbnjbeaa", sum := "92abf5153e38271ed79ba36c97e2f3ad1c3edac94b37022607a470b737da8705", func := "truchman/truchmanlaw04.DemarkRound", spec := "demarkRound", unfollowed := true, recurses := true, apart := false, narrowed := true }
def DemarkRoundUptoSaid : Prop := demarkRoundUptoRow.holds Try.pinned (OpenSpec.upto demarkRoundSpec)

/-- 'truchmanlaw04.DemarkCuts', WHERE WHAT IT READS IS OF BULK AT MOST 1048576: true; the input reads as it did. -/
def demarkCutsUptoRow : OpenClaim := { program := "ytipbkhjlbnjbeaa", sum := "92abf5153e38271ed79ba36c97e2f3ad1c3edac94b37022607a470b737da8705", func := "truchman/truchmanlaw04.DemarkCuts", spec := "demarkCuts", unfollowed := true, recurses := true, apart := false, narrowed := true }
def DemarkCutsUptoSaid : Prop := demarkCutsUptoRow.holds Try.pinned (OpenSpec.upto demarkCutsSpec)

/-- 'truchmanlaw04.DemarkErrors', WHERE WHAT IT READS IS OF BULK AT MOST 1048576: true; the input reads as it did. -/
def demarkErrorsUptoRow : OpenClaim := { program := "ytipbkhjlbnjbeaa", sum := "92abf5153e38271ed79ba36c97e2f3ad1c3edac94b37022607a470b737da8705", func := "truchman/truchmanlaw04.DemarkErrors", spec := "demarkErrors", unfollowed := true, recurses := true, apart := false, narrowed := true }
def DemarkErrorsUptoSaid : Prop := demarkErrorsUptoRow.holds Try.pinned (OpenSpec.upto demarkErrorsSpec)

/-- 'truchmanlaw04.DemarkNews', WHERE WHAT IT READS IS OF BULK AT MOST 1048576: true; the input reads as it did. -/
def demarkNewsUptoRow : OpenClaim := { program := "ytipbkhjlbnjbeaa", sum := "92abf5153e38271ed79ba36c97e2f3ad1c3edac94b37022607a470b737da8705", func := "truchman/truchmanlaw04.DemarkNews", spec := "demarkNews", unfollowed := true, recurses := true, apart := false, narrowed := true }
def DemarkNewsUptoSaid : Prop := demarkNewsUptoRow.holds Try.pinned (OpenSpec.upto demarkNewsSpec)

end Rows
end Go.Proofs.Ytipbkhjlbnjbeaa
