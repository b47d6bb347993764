/-
  No cell of these rows narrows 'for every input' (looked for: loops, veiled, ifaces, maps, wideKeys, modest, calm, conditions, laid).
  DERIVED. THE GIVEN ROWS OF THIS SEAT. 6 by the template 'for every input the law returns true; each argument reads behind the call as it read before'; 0 by the template 'total and deterministic' (their statements: YtjdcbmelladceaaTotals.lean).
  GIVEN WITH THE SEED: the statements are not yours to turn. If you find one false, say at which input.
  Laid BY PROGRAM, IN A SANDBOX (cutbox-rows.mjs): the forced cells as the released guide's own fill.sh prints them over the translation 29390600c5fc93fc… (all of the seat's roots in one cut). By AI agents, Wed Nov 11 2026. No macro, syntax, notation, axiom, sorry.
-/
import Derived.Test.YtjdcbmelladceaaChecked
import GoSem.Claim
import GoSem.ClaimJoined
import GoSem.ClaimMapViews
import Derived.JoinedTies
import Derived.KernelRfl
namespace Go.Proofs.Ytjdcbmelladceaa
/- THE CELL 'sum', in the pinned program and in every row, IS THE sha256 OF THE DUMP (.gsa) THAT YtjdcbmelladceaaProg.lean LOADS. Nothing in Lean hashes anything: it is a label: what it is worth is what the hold of that sum in a sandbox is worth. -/
noncomputable def Try.pinned : Pinned := { name := "ytjdcbmelladceaa", sum := "29390600c5fc93fc1b97f9c3455f45eb1076bbdb59fcbac9db6041726a2d146a", checked := Try.checked }
namespace Rows
def none {H : Type} : Left H := { results := [], args := [] }

/-- 'truchmanlaw05.PipePlays': WHATEVER THE INPUT: true; the input reads as it did. -/
def pipePlaysSpec : ChangeSpec := { name := "pipePlays", fn := fun _ => fun
  | [d1, d2] => { results := [.lit (.bool true)], args := [d1, d2] }
  | _ => none }
def pipePlaysRow : OpenClaim := { program := "ytjdcbmelladceaa", sum := "29390600c5fc93fc1b97f9c3455f45eb1076bbdb59fcbac9db6041726a2d146a", func := "truchman/truchmanlaw05.PipePlays", spec := "pipePlays", apart := false }
def PipePlaysSaid : Prop := pipePlaysRow.holds Try.pinned (OpenSpec.ofChange pipePlaysSpec)

/-- ITS FALSE NEIGHBOUR: 'it returns false'. Refute it at one input. -/
def pipePlaysWrong : ChangeSpec := { name := "pipePlays", fn := fun _ => fun
  | [d1, d2] => { results := [.lit (.bool false)], args := [d1, d2] }
  | _ => none }
def PipePlaysWrongFalsely : Prop := pipePlaysRow.holds Try.pinned (OpenSpec.ofChange pipePlaysWrong)

/-- 'truchmanlaw05.PipeDrains': WHATEVER THE INPUT: true; the input reads as it did. -/
def pipeDrainsSpec : ChangeSpec := { name := "pipeDrains", fn := fun _ => fun
  | [d1, d2] => { results := [.lit (.bool true)], args := [d1, d2] }
  | _ => none }
def pipeDrainsRow : OpenClaim := { program := "ytjdcbmelladceaa", sum := "29390600c5fc93fc1b97f9c3455f45eb1076bbdb59fcbac9db6041726a2d146a", func := "truchman/truchmanlaw05.PipeDrains", spec := "pipeDrains", apart := false }
def PipeDrainsSaid : Prop := pipeDrainsRow.holds Try.pinned (OpenSpec.ofChange pipeDrainsSpec)

/-- ITS FALSE NEIGHBOUR: 'it returns false'. Refute it at one input. -/
def pipeDrainsWrong : ChangeSpec := { name := "pipeDrains", fn := fun _ => fun
  | [d1, d2] => { results := [.lit (.bool false)], args := [d1, d2] }
  | _ => none }
def PipeDrainsWrongFalsely : Prop := pipeDrainsRow.holds Try.pinned (OpenSpec.ofChange pipeDrainsWrong)

/-- 'truchmanlaw05.PipeNews': WHATEVER THE INPUT: true; the input reads as it did. -/
def pipeNewsSpec : ChangeSpec := { name := "pipeNews", fn := fun _ => fun
  | [d1, d2, d3] => { results := [.lit (.bool true)], args := [d1, d2, d3] }
  | _ => none }
def pipeNewsRow : OpenClaim := { program := "ytjdcbmelladceaa", sum := "29390600c5fc93fc1b97f9c3455f45eb1076bbdb59fcbac9db6041726a2d146a", func := "truchman/truchmanlaw05.PipeNews", spec := "pipeNews", apart := false }
def PipeNewsSaid : Prop := pipeNewsRow.holds Try.pinned (OpenSpec.ofChange pipeNewsSpec)

/-- ITS FALSE NEIGHBOUR: 'it returns false'. Refute it at one input. -/
def pipeNewsWrong : ChangeSpec := { name := "pipeNews", fn := fun _ => fun
  | [d1, d2, d3] => { results := [.lit (.bool false)], args := [d1, d2, d3] }
  | _ => none }
def PipeNewsWrongFalsely : Prop := pipeNewsRow.holds Try.pinned (OpenSpec.ofChange pipeNewsWrong)

/-- 'truchmanlaw05.PipeFull': WHATEVER THE INPUT: true; the input reads as it did. -/
def pipeFullSpec : ChangeSpec := { name := "pipeFull", fn := fun _ => fun
  | [d1, d2] => { results := [.lit (.bool true)], args := [d1, d2] }
  | _ => none }
def pipeFullRow : OpenClaim := { program := "ytjdcbmelladceaa", sum := "29390600c5fc93fc1b97f9c3455f45eb1076bbdb59fcbac9db6041726a2d146a", func := "truchman/truchmanlaw05.PipeFull", spec := "pipeFull", apart := false }
def PipeFullSaid : Prop := pipeFullRow.holds Try.pinned (OpenSpec.ofChange pipeFullSpec)

/-- ITS FALSE NEIGHBOUR: 'it returns false'. Refute it at one input. -/
def pipeFullWrong : ChangeSpec := { name := "pipeFull", fn := fun _ => fun
  | [d1, d2] => { results := [.lit (.bool false)], args := [d1, d2] }
  | _ => none }
def PipeFullWrongFalsely : Prop := pipeFullRow.holds Try.pinned (OpenSpec.ofChange pipeFullWrong)

/-- 'truchmanlaw05.PipeOwns': WHATEVER THE INPUT: true; the input reads as it did. -/
def pipeOwnsSpec : ChangeSpec := { name := "pipeOwns", fn := fun _ => fun
  | [d1, d2] => { results := [.lit (.bool true)], args := [d1, d2] }
  | _ => none }
def pipeOwnsRow : OpenClaim := { program := "ytjdcbmelladceaa", sum := "29390600c5fc93fc1b97f9c3455f45eb1076bbdb59fcbac9db6041726a2d146a", func := "truchman/truchmanlaw05.PipeOwns", spec := "pipeOwns", apart := false }
def PipeOwnsSaid : Prop := pipeOwnsRow.holds Try.pinned (OpenSpec.ofChange pipeOwnsSpec)

/-- ITS FALSE NEIGHBOUR: 'it returns false'. Refute it at one input. -/
def pipeOwnsWrong : ChangeSpec := { name := "pipeOwns", fn := fun _ => fun
  | [d1, d2] => { results := [.lit (.bool false)], args := [d1, d2] }
  | _ => none }
def PipeOwnsWrongFalsely : Prop := pipeOwnsRow.holds Try.pinned (OpenSpec.ofChange pipeOwnsWrong)

/-- 'truchmanlaw05.PipeSame': WHATEVER THE INPUT: true; the input reads as it did. -/
def pipeSameSpec : ChangeSpec := { name := "pipeSame", fn := fun _ => fun
  | [d1, d2, d3] => { results := [.lit (.bool true)], args := [d1, d2, d3] }
  | _ => none }
def pipeSameRow : OpenClaim := { program := "ytjdcbmelladceaa", sum := "29390600c5fc93fc1b97f9c3455f45eb1076bbdb59fcbac9db6041726a2d146a", func := "truchman/truchmanlaw05.PipeSame", spec := "pipeSame", apart := false }
def PipeSameSaid : Prop := pipeSameRow.holds Try.pinned (OpenSpec.ofChange pipeSameSpec)

/-- ITS FALSE NEIGHBOUR: 'it returns false'. Refute it at one input. -/
def pipeSameWrong : ChangeSpec := { name := "pipeSame", fn := fun _ => fun
  | [d1, d2, d3] => { results := [.lit (.bool false)], args := [d1, d2, d3] }
  | _ => none }
def PipeSameWrongFalsely : Prop := pipeSameRow.holds Try.pinned (OpenSpec.ofChange pipeSameWrong)

/- THE SECOND FORM. 'bulk': how many values and letters a reading holds, each counted each time it is reached (what is shared counts as often as it is met; a slice's spare places count too). A statement '..UptoSaid' is the law's where the arguments, and the package variables that the reading takes, are together of bulk at most 1048576: NARROWER than '..Said'. Prove '..Said' where nothing that the law and all that it calls make is longer than what came in: it says more and counts as full. Else prove '..UptoSaid'. A law counts once. -/
mutual
def uptoBulk {H : Type} : DataW H → Nat
  | .lit (.string bytes) => bytes.length + 1
  | .lit _ => 1
  | .nil => 1
  | .ptr d => uptoBulk d + 1
  | .slice elems spare => uptoBulkAll elems + uptoBulkAll spare + 1
  | .agg parts => uptoBulkAll parts + 1
  | .iface _ d => uptoBulk d + 1
  | .map entries => uptoBulkEntries entries + 1
  | .held _ => 1
def uptoBulkAll {H : Type} : List (DataW H) → Nat
  | [] => 0
  | d :: r => uptoBulk d + uptoBulkAll r
def uptoBulkEntries {H : Type} : List (Lit × DataW H) → Nat
  | [] => 0
  | x :: r => uptoBulkEntry x + uptoBulkEntries r
def uptoBulkEntry {H : Type} : Lit × DataW H → Nat
  | (.string bytes, d) => bytes.length + uptoBulk d + 1
  | (_, d) => uptoBulk d + 1
 end
def uptoSmall : (H : Type) → List (DataW H) → Bool := fun _ ds => decide (uptoBulkAll ds ≤ 1048576)
def OpenSpec.upto (s : _root_.Go.ChangeSpec) : _root_.Go.OpenSpec := { _root_.Go.OpenSpec.ofChange s with cond := some uptoSmall }

/-- 'truchmanlaw05.PipePlays', WHERE WHAT IT READS IS OF BULK AT MOST 1048576: true; the input reads as it did. -/
def pipePlaysUptoRow : OpenClaim := { program := "ytjdcbmelladceaa", sum := "29390600c5fc93fc1b97f9c3455f45eb1076bbdb59fcbac9db6041726a2d146a", func := "truchman/truchmanlaw05.PipePlays", spec := "pipePlays", apart := false, narrowed := true }
def PipePlaysUptoSaid : Prop := pipePlaysUptoRow.holds Try.pinned (OpenSpec.upto pipePlaysSpec)

/-- 'truchmanlaw05.PipeDrains', WHERE WHAT IT READS IS OF BULK AT MOST 1048576: true; the input reads as it did. -/
def pipeDrainsUptoRow : OpenClaim := { program := "ytjdcbmelladceaa", sum := "29390600c5fc93fc1b97f9c3455f45eb1076bbdb59fcbac9db6041726a2d146a", func := "truchman/truchmanlaw05.PipeDrains", spec := "pipeDrains", apart := false, narrowed := true }
def PipeDrainsUptoSaid : Prop := pipeDrainsUptoRow.holds Try.pinned (OpenSpec.upto pipeDrainsSpec)

/-- 'truchmanlaw05.PipeNews', WHERE WHAT IT READS IS OF BULK AT MOST 1048576: true; the input reads as it did. -/
def pipeNewsUptoRow : OpenClaim := { program := "ytjdcbmelladceaa", sum := "29390600c5fc93fc1b97f9c3455f45eb1076bbdb59fcbac9db6041726a2d146a", func := "truchman/truchmanlaw05.PipeNews", spec := "pipeNews", apart := false, narrowed := true }
def PipeNewsUptoSaid : Prop := pipeNewsUptoRow.holds Try.pinned (OpenSpec.upto pipeNewsSpec)

/-- 'truchmanlaw05.PipeFull', WHERE WHAT IT READS IS OF BULK AT MOST 1048576: true; the input reads as it did. -/
def pipeFullUptoRow : OpenClaim := { program := "ytjdcbmelladceaa", sum := "29390600c5fc93fc1b97f9c3455f45eb1076bbdb59fcbac9db6041726a2d146a", func := "truchman/truchmanlaw05.PipeFull", spec := "pipeFull", apart := false, narrowed := true }
def PipeFullUptoSaid : Prop := pipeFullUptoRow.holds Try.pinned (OpenSpec.upto pipeFullSpec)

/-- 'truchmanlaw05.PipeOwns', WHERE WHAT IT READS IS OF BULK AT MOST 1048576: true; the input reads as it did. -/
def pipeOwnsUptoRow : OpenClaim := { program := "ytjdcbmelladceaa", sum := "29390600c5fc93fc1b97f9c3455f45eb1076bbdb59fcbac9db6041726a2d146a", func := "truchman/truchmanlaw05.PipeOwns", spec := "pipeOwns", apart := false, narrowed := true }
def PipeOwnsUptoSaid : Prop := pipeOwnsUptoRow.holds Try.pinned (OpenSpec.upto pipeOwnsSpec)

/-- 'truchmanlaw05.PipeSame', WHERE WHAT IT READS IS OF BULK AT MOST 1048576: true; the input reads as it did. -/
def pipeSameUptoRow : OpenClaim := { program := "ytjdcbmelladceaa", sum := "29390600c5fc93fc1b97f9c3455f45eb1076bbdb59fcbac9db6041726a2d146a", func := "truchman/truchmanlaw05.PipeSame", spec := "pipeSame", apart := false, narrowed := true }
def PipeSameUptoSaid : Prop := pipeSameUptoRow.holds Try.pinned (OpenSpec.upto pipeSameSpec)

end Rows
end Go.Proofs.Ytjdcbmelladceaa
