/-
  No cell of these rows narrows 'for every input' (looked for: loops, veiled, ifaces, maps, wideKeys, modest, calm, conditions, laid).
  DERIVED. THE GIVEN ROWS OF THIS SEAT. 5 by the template 'for every input the law returns true; each argument reads behind the call as it read before'; 0 by the template 'total and deterministic' (their statements: YtfajnfaipgajdaaTotals.lean).
  GIVEN WITH THE SEED: the statements are not yours to turn. If you find one false, say at which input.
  Laid BY PROGRAM, IN A SANDBOX (cutbox-rows.mjs): the forced cells as the released guide's own fill.sh prints them over the translation cb1fdbb72f417295… (all of the seat's roots in one cut). By AI agents, Wed Nov 11 2026. No macro, syntax, notation, axiom, sorry.
-/
import Derived.Test.YtfajnfaipgajdaaChecked
import GoSem.Claim
import GoSem.ClaimJoined
import GoSem.ClaimMapViews
import Derived.JoinedTies
import Derived.KernelRfl
namespace Go.Proofs.Ytfajnfaipgajdaa
/- THE CELL 'sum', in the pinned program and in every row, IS THE sha256 OF THE DUMP (.gsa) THAT YtfajnfaipgajdaaProg.lean LOADS. Nothing in Lean hashes anything: it is a label: what it is worth is what the hold of that sum in a sandbox is worth. -/
noncomputable def Try.pinned : Pinned := { name := "ytfajnfaipgajdaa", sum := "cb1fdbb72f4172950bc53f3059f9cfe79c81a77e807aa8186033f6ff60259c23", checked := Try.checked }
namespace Rows
def none {H : Type} : Left H := { results := [], args := [] }

/-- 'truchmanlaw19.StatModes': WHATEVER THE INPUT: true; the input reads as it did. -/
def statModesSpec : ChangeSpec := { name := "statModes", fn := fun _ => fun
  | [d1, d2] => { results := [.lit (.bool true)], args := [d1, d2] }
  | _ => none }
def statModesRow : OpenClaim := { program := "ytfajnfaipgajdaa", sum := "cb1fdbb72f4172950bc53f3059f9cfe79c81a77e807aa8186033f6ff60259c23", func := "truchman/truchmanlaw19.StatModes", spec := "statModes", apart := false }
def StatModesSaid : Prop := statModesRow.holds Try.pinned (OpenSpec.ofChange statModesSpec)

/-- ITS FALSE NEIGHBOUR: 'it returns false'. Refute it at one input. -/
def statModesWrong : ChangeSpec := { name := "statModes", fn := fun _ => fun
  | [d1, d2] => { results := [.lit (.bool false)], args := [d1, d2] }
  | _ => none }
def StatModesWrongFalsely : Prop := statModesRow.holds Try.pinned (OpenSpec.ofChange statModesWrong)

/-- 'truchmanlaw19.StatPerms': WHATEVER THE INPUT: true; the input reads as it did. -/
def statPermsSpec : ChangeSpec := { name := "statPerms", fn := fun _ => fun
  | [d] => { results := [.lit (.bool true)], args := [d] }
  | _ => none }
def statPermsRow : OpenClaim := { program := "ytfajnfaipgajdaa", sum := "cb1fdbb72f4172950bc53f3059f9cfe79c81a77e807aa8186033f6ff60259c23", func := "truchman/truchmanlaw19.StatPerms", spec := "statPerms", apart := false }
def StatPermsSaid : Prop := statPermsRow.holds Try.pinned (OpenSpec.ofChange statPermsSpec)

/-- ITS FALSE NEIGHBOUR: 'it returns false'. Refute it at one input. -/
def statPermsWrong : ChangeSpec := { name := "statPerms", fn := fun _ => fun
  | [d] => { results := [.lit (.bool false)], args := [d] }
  | _ => none }
def StatPermsWrongFalsely : Prop := statPermsRow.holds Try.pinned (OpenSpec.ofChange statPermsWrong)

/-- 'truchmanlaw09.NameNames': WHATEVER THE INPUT: true; the input reads as it did. -/
def nameNamesSpec : ChangeSpec := { name := "nameNames", fn := fun _ => fun
  | [d1, d2, d3, d4] => { results := [.lit (.bool true)], args := [d1, d2, d3, d4] }
  | _ => none }
def nameNamesRow : OpenClaim := { program := "ytfajnfaipgajdaa", sum := "cb1fdbb72f4172950bc53f3059f9cfe79c81a77e807aa8186033f6ff60259c23", func := "truchman/truchmanlaw09.NameNames", spec := "nameNames", inPlace := ["internal/abi.NoEscape"], apart := false }
def NameNamesSaid : Prop := nameNamesRow.holds Try.pinned (OpenSpec.ofChange nameNamesSpec)

/-- ITS FALSE NEIGHBOUR: 'it returns false'. Refute it at one input. -/
def nameNamesWrong : ChangeSpec := { name := "nameNames", fn := fun _ => fun
  | [d1, d2, d3, d4] => { results := [.lit (.bool false)], args := [d1, d2, d3, d4] }
  | _ => none }
def NameNamesWrongFalsely : Prop := nameNamesRow.holds Try.pinned (OpenSpec.ofChange nameNamesWrong)

/-- 'truchmanlaw09.NameChecks': WHATEVER THE INPUT: true; the input reads as it did. -/
def nameChecksSpec : ChangeSpec := { name := "nameChecks", fn := fun _ => fun
  | [d1, d2, d3, d4] => { results := [.lit (.bool true)], args := [d1, d2, d3, d4] }
  | _ => none }
def nameChecksRow : OpenClaim := { program := "ytfajnfaipgajdaa", sum := "cb1fdbb72f4172950bc53f3059f9cfe79c81a77e807aa8186033f6ff60259c23", func := "truchman/truchmanlaw09.NameChecks", spec := "nameChecks", inPlace := ["internal/abi.NoEscape"], apart := false }
def NameChecksSaid : Prop := nameChecksRow.holds Try.pinned (OpenSpec.ofChange nameChecksSpec)

/-- ITS FALSE NEIGHBOUR: 'it returns false'. Refute it at one input. -/
def nameChecksWrong : ChangeSpec := { name := "nameChecks", fn := fun _ => fun
  | [d1, d2, d3, d4] => { results := [.lit (.bool false)], args := [d1, d2, d3, d4] }
  | _ => none }
def NameChecksWrongFalsely : Prop := nameChecksRow.holds Try.pinned (OpenSpec.ofChange nameChecksWrong)

/-- 'truchmanlaw14.CallsProcs': WHATEVER THE INPUT: true; the input reads as it did. -/
def callsProcsSpec : ChangeSpec := { name := "callsProcs", fn := fun _ => fun
  | [d] => { results := [.lit (.bool true)], args := [d] }
  | _ => none }
def callsProcsRow : OpenClaim := { program := "ytfajnfaipgajdaa", sum := "cb1fdbb72f4172950bc53f3059f9cfe79c81a77e807aa8186033f6ff60259c23", func := "truchman/truchmanlaw14.CallsProcs", spec := "callsProcs", unfollowed := true, recurses := true, apart := false }
def CallsProcsSaid : Prop := callsProcsRow.holds Try.pinned (OpenSpec.ofChange callsProcsSpec)

/-- ITS FALSE NEIGHBOUR: 'it returns false'. Refute it at one input. -/
def callsProcsWrong : ChangeSpec := { name := "callsProcs", fn := fun _ => fun
  | [d] => { results := [.lit (.bool false)], args := [d] }
  | _ => none }
def CallsProcsWrongFalsely : Prop := callsProcsRow.holds Try.pinned (OpenSpec.ofChange callsProcsWrong)

/- THE SECOND FORM. 'bulk': how many values and letters a reading holds, each counted each time it is reached (what is shared counts as often as it is met; a slice's spare places count too). A statement '..UptoSaid' is the law's where the arguments, and the package variables that the reading takes, are together of bulk at most 1048576: NARROWER than '..Said'. Prove '..Said' where nothing that the law and all that it calls make is longer than what came in: it says more and counts as full. Else prove '..UptoSaid'. A law counts once. -/
mutual
def uptoBulk {H : Type} : DataW H → Nat
  | .lit (.string bytes) => bytes.length + 1
  | .lit _ => 1
  | .nil => 1
  | .ptr d => uptoBulk d + 1
  | .slice elems spare => uptoBulkAll elems + uptoBulkAll spare + 1
  | .agg parts => uptoBulkAll parts + 1
  | .iface _ d => uptoBulk d + 1
  | .map entries => uptoBulkEntries entries + 1
  | .held _ => 1
def uptoBulkAll {H : Type} : List (DataW H) → Nat
  | [] => 0
  | d :: r => uptoBulk d + uptoBulkAll r
def uptoBulkEntries {H : Type} : List (Lit × DataW H) → Nat
  | [] => 0
  | x :: r => uptoBulkEntry x + uptoBulkEntries r
def uptoBulkEntry {H : Type} : Lit × DataW H → Nat
  | (.string bytes, d) => bytes.length + uptoBulk d + 1
  | (_, d) => uptoBulk d + 1
 end
def uptoSmall : (H : Type) → List (DataW H) → Bool := fun _ ds => decide (uptoBulkAll ds ≤ 1048576)
def OpenSpec.upto (s : _root_.Go.ChangeSpec) : _root_.Go.OpenSpec := { _root_.Go.OpenSpec.ofChange s with cond := some uptoSmall }

/-- 'truchmanlaw19.StatModes', WHERE WHAT IT READS IS OF BULK AT MOST 1048576: true; the input reads as it did. -/
def statModesUptoRow : OpenClaim := { program := "ytfajnfaipgajdaa", sum := "cb1fdbb72f4172950bc53f3059f9cfe79c81a77e807aa8186033f6ff60259c23", func := "truchman/truchmanlaw19.StatModes", spec := "statModes", apart := false, narrowed := true }
def StatModesUptoSaid : Prop := statModesUptoRow.holds Try.pinned (OpenSpec.upto statModesSpec)

/-- 'truchmanlaw19.StatPerms', WHERE WHAT IT READS IS OF BULK AT MOST 1048576: true; the input reads as it did. -/
def statPermsUptoRow : OpenClaim := { program := "ytfajnfaipgajdaa", sum := "cb1fdbb72f4172950bc53f3059f9cfe79c81a77e807aa8186033f6ff60259c23", func := "truchman/truchmanlaw19.StatPerms", spec := "statPerms", apart := false, narrowed := true }
def StatPermsUptoSaid : Prop := statPermsUptoRow.holds Try.pinned (OpenSpec.upto statPermsSpec)

/-- 'truchmanlaw09.NameNames', WHERE WHAT IT READS IS OF BULK AT MOST 1048576: true; the input reads as it did. -/
def nameNamesUptoRow : OpenClaim := { program := "ytfajnfaipgajdaa", sum := "cb1fdbb72f4172950bc53f3059f9cfe79c81a77e807aa8186033f6ff60259c23", func := "truchman/truchmanlaw09.NameNames", spec := "nameNames", inPlace := ["internal/abi.NoEscape"], apart := false, narrowed := true }
def NameNamesUptoSaid : Prop := nameNamesUptoRow.holds Try.pinned (OpenSpec.upto nameNamesSpec)

/-- 'truchmanlaw09.NameChecks', WHERE WHAT IT READS IS OF BULK AT MOST 1048576: true; the input reads as it did. -/
def nameChecksUptoRow : OpenClaim := { program := "ytfajnfaipgajdaa", sum := "cb1fdbb72f4172950bc53f3059f9cfe79c81a77e807aa8186033f6ff60259c23", func := "truchman/truchmanlaw09.NameChecks", spec := "nameChecks", inPlace := ["internal/abi.NoEscape"], apart := false, narrowed := true }
def NameChecksUptoSaid : Prop := nameChecksUptoRow.holds Try.pinned (OpenSpec.upto nameChecksSpec)

/-- 'truchmanlaw14.CallsProcs', WHERE WHAT IT READS IS OF BULK AT MOST 1048576: true; the input reads as it did. -/
def callsProcsUptoRow : OpenClaim := { program := "ytfajnfaipgajdaa", sum := "cb1fdbb72f4172950bc53f3059f9cfe79c81a77e807aa8186033f6ff60259c23", func := "truchman/truchmanlaw14.CallsProcs", spec := "callsProcs", unfollowed := true, recurses := true, apart := false, narrowed := true }
def CallsProcsUptoSaid : Prop := callsProcsUptoRow.holds Try.pinned (OpenSpec.upto callsProcsSpec)

end Rows
end Go.Proofs.Ytfajnfaipgajdaa
