/-
  No cell of these rows narrows 'for every input' (looked for: loops, veiled, ifaces, maps, wideKeys, modest, calm, conditions, laid).
  DERIVED. THE GIVEN ROWS OF THIS SEAT. 6 by the template 'for every input the law returns true; each argument reads behind the call as it read before'; 0 by the template 'total and deterministic' (their statements: YtallbmobjhfhpaaTotals.lean).
  GIVEN WITH THE SEED: the statements are not yours to turn. If you find one false, say at which input.
  Laid BY PROGRAM, IN A SANDBOX (cutbox-rows.mjs): the forced cells as the released guide's own fill.sh prints them over the translation 99e7389eaa8bf0be… (all of the seat's roots in one cut). By AI agents, Wed Nov 11 2026. No macro, syntax, notation, axiom, sorry.
-/
import Derived.Test.YtallbmobjhfhpaaChecked
import GoSem.Claim
import GoSem.ClaimJoined
import GoSem.ClaimMapViews
import Derived.JoinedTies
import Derived.KernelRfl
namespace Go.Proofs.Ytallbmobjhfhpaa
/- THE CELL 'sum', in the pinned program and in every row, IS THE sha256 OF THE DUMP (.gsa) THAT YtallbmobjhfhpaaProg.lean LOADS. Nothing in Lean hashes anything: it is a label: what it is worth is what the hold of that sum in a sandbox is worth. -/
noncomputable def Try.pinned : Pinned := { name := "ytallbmobjhfhpaa", sum := "99e7389eaa8bf0be04b25d8ef39186cdc66fbcedcb14fa0a99cdfbf38d0c2f95", checked := Try.checked }
namespace Rows
def none {H : Type} : Left H := { results := [], args := [] }

/-- 'truchmanlaw07.MuxPlays': WHATEVER THE INPUT: true; the input reads as it did. -/
def muxPlaysSpec : ChangeSpec := { name := "muxPlays", fn := fun _ => fun
  | [d1, d2, d3, d4] => { results := [.lit (.bool true)], args := [d1, d2, d3, d4] }
  | _ => none }
def muxPlaysRow : OpenClaim := { program := "ytallbmobjhfhpaa", sum := "99e7389eaa8bf0be04b25d8ef39186cdc66fbcedcb14fa0a99cdfbf38d0c2f95", func := "truchman/truchmanlaw07.MuxPlays", spec := "muxPlays", recurses := true, apart := false }
def MuxPlaysSaid : Prop := muxPlaysRow.holds Try.pinned (OpenSpec.ofChange muxPlaysSpec)

/-- ITS FALSE NEIGHBOUR: 'it returns false'. Refute it at one input. -/
def muxPlaysWrong : ChangeSpec := { name := "muxPlays", fn := fun _ => fun
  | [d1, d2, d3, d4] => { results := [.lit (.bool false)], args := [d1, d2, d3, d4] }
  | _ => none }
def MuxPlaysWrongFalsely : Prop := muxPlaysRow.holds Try.pinned (OpenSpec.ofChange muxPlaysWrong)

/-- 'truchmanlaw07.MuxNews': WHATEVER THE INPUT: true; the input reads as it did. -/
def muxNewsSpec : ChangeSpec := { name := "muxNews", fn := fun _ => fun
  | [d1, d2] => { results := [.lit (.bool true)], args := [d1, d2] }
  | _ => none }
def muxNewsRow : OpenClaim := { program := "ytallbmobjhfhpaa", sum := "99e7389eaa8bf0be04b25d8ef39186cdc66fbcedcb14fa0a99cdfbf38d0c2f95", func := "truchman/truchmanlaw07.MuxNews", spec := "muxNews", apart := false }
def MuxNewsSaid : Prop := muxNewsRow.holds Try.pinned (OpenSpec.ofChange muxNewsSpec)

/-- ITS FALSE NEIGHBOUR: 'it returns false'. Refute it at one input. -/
def muxNewsWrong : ChangeSpec := { name := "muxNews", fn := fun _ => fun
  | [d1, d2] => { results := [.lit (.bool false)], args := [d1, d2] }
  | _ => none }
def MuxNewsWrongFalsely : Prop := muxNewsRow.holds Try.pinned (OpenSpec.ofChange muxNewsWrong)

/-- 'truchmanlaw07.MuxOnce': WHATEVER THE INPUT: true; the input reads as it did. -/
def muxOnceSpec : ChangeSpec := { name := "muxOnce", fn := fun _ => fun
  | [d1, d2, d3, d4] => { results := [.lit (.bool true)], args := [d1, d2, d3, d4] }
  | _ => none }
def muxOnceRow : OpenClaim := { program := "ytallbmobjhfhpaa", sum := "99e7389eaa8bf0be04b25d8ef39186cdc66fbcedcb14fa0a99cdfbf38d0c2f95", func := "truchman/truchmanlaw07.MuxOnce", spec := "muxOnce", apart := false }
def MuxOnceSaid : Prop := muxOnceRow.holds Try.pinned (OpenSpec.ofChange muxOnceSpec)

/-- ITS FALSE NEIGHBOUR: 'it returns false'. Refute it at one input. -/
def muxOnceWrong : ChangeSpec := { name := "muxOnce", fn := fun _ => fun
  | [d1, d2, d3, d4] => { results := [.lit (.bool false)], args := [d1, d2, d3, d4] }
  | _ => none }
def MuxOnceWrongFalsely : Prop := muxOnceRow.holds Try.pinned (OpenSpec.ofChange muxOnceWrong)

/-- 'truchmanlaw07.MuxSkips': WHATEVER THE INPUT: true; the input reads as it did. -/
def muxSkipsSpec : ChangeSpec := { name := "muxSkips", fn := fun _ => fun
  | [d1, d2, d3] => { results := [.lit (.bool true)], args := [d1, d2, d3] }
  | _ => none }
def muxSkipsRow : OpenClaim := { program := "ytallbmobjhfhpaa", sum := "99e7389eaa8bf0be04b25d8ef39186cdc66fbcedcb14fa0a99cdfbf38d0c2f95", func := "truchman/truchmanlaw07.MuxSkips", spec := "muxSkips", apart := false }
def MuxSkipsSaid : Prop := muxSkipsRow.holds Try.pinned (OpenSpec.ofChange muxSkipsSpec)

/-- ITS FALSE NEIGHBOUR: 'it returns false'. Refute it at one input. -/
def muxSkipsWrong : ChangeSpec := { name := "muxSkips", fn := fun _ => fun
  | [d1, d2, d3] => { results := [.lit (.bool false)], args := [d1, d2, d3] }
  | _ => none }
def MuxSkipsWrongFalsely : Prop := muxSkipsRow.holds Try.pinned (OpenSpec.ofChange muxSkipsWrong)

/-- 'truchmanlaw07.MuxRows': WHATEVER THE INPUT: true; the input reads as it did. -/
def muxRowsSpec : ChangeSpec := { name := "muxRows", fn := fun _ => fun
  | [d1, d2] => { results := [.lit (.bool true)], args := [d1, d2] }
  | _ => none }
def muxRowsRow : OpenClaim := { program := "ytallbmobjhfhpaa", sum := "99e7389eaa8bf0be04b25d8ef39186cdc66fbcedcb14fa0a99cdfbf38d0c2f95", func := "truchman/truchmanlaw07.MuxRows", spec := "muxRows", recurses := true, apart := false }
def MuxRowsSaid : Prop := muxRowsRow.holds Try.pinned (OpenSpec.ofChange muxRowsSpec)

/-- ITS FALSE NEIGHBOUR: 'it returns false'. Refute it at one input. -/
def muxRowsWrong : ChangeSpec := { name := "muxRows", fn := fun _ => fun
  | [d1, d2] => { results := [.lit (.bool false)], args := [d1, d2] }
  | _ => none }
def MuxRowsWrongFalsely : Prop := muxRowsRow.holds Try.pinned (OpenSpec.ofChange muxRowsWrong)

/-- 'truchmanlaw07.MuxRounds': WHATEVER THE INPUT: true; the input reads as it did. -/
def muxRoundsSpec : ChangeSpec := { name := "muxRounds", fn := fun _ => fun
  | [d1, d2] => { results := [.lit (.bool true)], args := [d1, d2] }
  | _ => none }
def muxRoundsRow : OpenClaim := { program := "ytallbmobjhfhpaa", sum := "99e7389eaa8bf0be04b25d8ef39186cdc66fbcedcb14fa0a99cdfbf38d0c2f95", func := "truchman/truchmanlaw07.MuxRounds", spec := "muxRounds", apart := false }
def MuxRoundsSaid : Prop := muxRoundsRow.holds Try.pinned (OpenSpec.ofChange muxRoundsSpec)

/-- ITS FALSE NEIGHBOUR: 'it returns false'. Refute it at one input. -/
def muxRoundsWrong : ChangeSpec := { name := "muxRounds", fn := fun _ => fun
  | [d1, d2] => { results := [.lit (.bool false)], args := [d1, d2] }
  | _ => none }
def MuxRoundsWrongFalsely : Prop := muxRoundsRow.holds Try.pinned (OpenSpec.ofChange muxRoundsWrong)

/- THE SECOND FORM. 'bulk': how many values and letters a reading holds, each counted each time it is reached (what is shared counts as often as it is met; a slice's spare places count too). A statement '..UptoSaid' is the law's where the arguments, and the package variables that the reading takes, are together of bulk at most 1048576: NARROWER than '..Said'. Prove '..Said' where nothing that the law and all that it calls make is longer than what came in: it says more and counts as full. Else prove '..UptoSaid'. A law counts once. -/
mutual
def uptoBulk {H : Type} : DataW H → Nat
  | .lit (.string bytes) => bytes.length + 1
  | .lit _ => 1
  | .nil => 1
  | .ptr d => uptoBulk d + 1
  | .slice elems spare => uptoBulkAll elems + uptoBulkAll spare + 1
  | .agg parts => uptoBulkAll parts + 1
  | .iface _ d => uptoBulk d + 1
  | .map entries => uptoBulkEntries entries + 1
  | .held _ => 1
def uptoBulkAll {H : Type} : List (DataW H) → Nat
  | [] => 0
  | d :: r => uptoBulk d + uptoBulkAll r
def uptoBulkEntries {H : Type} : List (Lit × DataW H) → Nat
  | [] => 0
  | x :: r => uptoBulkEntry x + uptoBulkEntries r
def uptoBulkEntry {H : Type} : Lit × DataW H → Nat
  | (.string bytes, d) => bytes.length + uptoBulk d + 1
  | (_, d) => uptoBulk d + 1
 end
def uptoSmall : (H : Type) → List (DataW H) → Bool := fun _ ds => decide (uptoBulkAll ds ≤ 1048576)
def OpenSpec.upto (s : _root_.Go.ChangeSpec) : _root_.Go.OpenSpec := { _root_.Go.OpenSpec.ofChange s with cond := some uptoSmall }

/-- 'truchmanlaw07.MuxPlays', WHERE WHAT IT READS IS OF BULK AT MOST 1048576: true; the input reads as it did. -/
def muxPlaysUptoRow : OpenClaim := { program := "ytallbmobjhfhpaa", sum := "99e7389eaa8bf0be04b25d8ef39186cdc66fbcedcb14fa0a99cdfbf38d0c2f95", func := "truchman/truchmanlaw07.MuxPlays", spec := "muxPlays", recurses := true, apart := false, narrowed := true }
def MuxPlaysUptoSaid : Prop := muxPlaysUptoRow.holds Try.pinned (OpenSpec.upto muxPlaysSpec)

/-- 'truchmanlaw07.MuxNews', WHERE WHAT IT READS IS OF BULK AT MOST 1048576: true; the input reads as it did. -/
def muxNewsUptoRow : OpenClaim := { program := "ytallbmobjhfhpaa", sum := "99e7389eaa8bf0be04b25d8ef39186cdc66fbcedcb14fa0a99cdfbf38d0c2f95", func := "truchman/truchmanlaw07.MuxNews", spec := "muxNews", apart := false, narrowed := true }
def MuxNewsUptoSaid : Prop := muxNewsUptoRow.holds Try.pinned (OpenSpec.upto muxNewsSpec)

/-- 'truchmanlaw07.MuxOnce', WHERE WHAT IT READS IS OF BULK AT MOST 1048576: true; the input reads as it did. -/
def muxOnceUptoRow : OpenClaim := { program := "ytallbmobjhfhpaa", sum := "99e7389eaa8bf0be04b25d8ef39186cdc66fbcedcb14fa0a99cdfbf38d0c2f95", func := "truchman/truchmanlaw07.MuxOnce", spec := "muxOnce", apart := false, narrowed := true }
def MuxOnceUptoSaid : Prop := muxOnceUptoRow.holds Try.pinned (OpenSpec.upto muxOnceSpec)

/-- 'truchmanlaw07.MuxSkips', WHERE WHAT IT READS IS OF BULK AT MOST 1048576: true; the input reads as it did. -/
def muxSkipsUptoRow : OpenClaim := { program := "ytallbmobjhfhpaa", sum := "99e7389eaa8bf0be04b25d8ef39186cdc66fbcedcb14fa0a99cdfbf38d0c2f95", func := "truchman/truchmanlaw07.MuxSkips", spec := "muxSkips", apart := false, narrowed := true }
def MuxSkipsUptoSaid : Prop := muxSkipsUptoRow.holds Try.pinned (OpenSpec.upto muxSkipsSpec)

/-- 'truchmanlaw07.MuxRows', WHERE WHAT IT READS IS OF BULK AT MOST 1048576: true; the input reads as it did. -/
def muxRowsUptoRow : OpenClaim := { program := "ytallbmobjhfhpaa", sum := "99e7389eaa8bf0be04b25d8ef39186cdc66fbcedcb14fa0a99cdfbf38d0c2f95", func := "truchman/truchmanlaw07.MuxRows", spec := "muxRows", recurses := true, apart := false, narrowed := true }
def MuxRowsUptoSaid : Prop := muxRowsUptoRow.holds Try.pinned (OpenSpec.upto muxRowsSpec)

/-- 'truchmanlaw07.MuxRounds', WHERE WHAT IT READS IS OF BULK AT MOST 1048576: true; the input reads as it did. -/
def muxRoundsUptoRow : OpenClaim := { program := "ytallbmobjhfhpaa", sum := "99e7389eaa8bf0be04b25d8ef39186cdc66fbcedcb14fa0a99cdfbf38d0c2f95", func := "truchman/truchmanlaw07.MuxRounds", spec := "muxRounds", apart := false, narrowed := true }
def MuxRoundsUptoSaid : Prop := muxRoundsUptoRow.holds Try.pinned (OpenSpec.upto muxRoundsSpec)

end Rows
end Go.Proofs.Ytallbmobjhfhpaa
