/-
  DERIVED. GIVEN WITH THE SEED: THE CARDS: each row of YtdoijbjmhnncdaaDoorRows.lean that lists a variable, with what it lists TIED to the program's text (the seventh form; the later family's looks); each row that meets fmt, with fmt's text TOLD by the authors' own Lean function (tested against real Go, not proved from fmt's source: count such statements apart). THE CARD IS WHAT COUNTS. Prove the row's statement (the work); the ties are given (YtdoijbjmhnncdaaDoorTie.lean); close each card by the builder's one call (the guide's Derived/Test/ToyasCard.lean, 'card_holds'). Laid BY PROGRAM, IN A SANDBOX (cutbox-door.mjs). By AI agents, Wed Nov 11 2026. No macro, syntax, notation, axiom, sorry.
-/
import Derived.Test.YtdoijbjmhnncdaaDoorRows
import GoSem.ClaimSeven
namespace Go.Proofs.YtdoijbjmhnncdaaDoor
namespace Rows

/-- THE TIED CARD OF 'truchmanlaw06.RpcReads'. -/
def rpcReadsCard : Claim7 := { stood := { row := rpcReadsRow, standIns := [], harness := (true, "67d047caa4d7292fc884cc40a0daf96a4b25d60375334712f6a81ca699f81ddd"), looks := true }, kinds := [], alts := [], laidByText := true, laidKinds := [.handle], laidTests := true, laidLooks := .later }
def RpcReadsCardSaid : Prop := Claim7.holds Tryd.pinned (.plain (OpenSpec.ofChange rpcReadsSpec)) rpcReadsCard

/-- THE TIED CARD OF 'truchmanlaw06.RpcFaults'. -/
def rpcFaultsCard : Claim7 := { stood := { row := rpcFaultsRow, standIns := [], harness := (true, "67d047caa4d7292fc884cc40a0daf96a4b25d60375334712f6a81ca699f81ddd"), looks := true }, kinds := [], alts := [], laidByText := true, laidKinds := [.data, .data, .data, .handle], laidTests := true, laidLooks := .later }
def RpcFaultsCardSaid : Prop := Claim7.holds Tryd.pinned (.plain (OpenSpec.ofChange rpcFaultsSpec)) rpcFaultsCard

/-- THE TIED CARD OF 'truchmanlaw06.RpcCuts'. -/
def rpcCutsCard : Claim7 := { stood := { row := rpcCutsRow, standIns := [], harness := (true, "67d047caa4d7292fc884cc40a0daf96a4b25d60375334712f6a81ca699f81ddd"), looks := true }, kinds := [], alts := [], laidByText := true, laidKinds := [.handle], laidTests := true, laidLooks := .later }
def RpcCutsCardSaid : Prop := Claim7.holds Tryd.pinned (.plain (OpenSpec.ofChange rpcCutsSpec)) rpcCutsCard

/-- THE SECOND FORM's CARD OF 'truchmanlaw06.RpcReads'. -/
def rpcReadsUptoCard : Claim7 := { stood := { row := rpcReadsUptoRow, standIns := [], harness := (true, "67d047caa4d7292fc884cc40a0daf96a4b25d60375334712f6a81ca699f81ddd"), looks := true }, kinds := [], alts := [], laidByText := true, laidKinds := [.handle], laidTests := true, laidLooks := .later }
def RpcReadsUptoCardSaid : Prop := Claim7.holds Tryd.pinned (.plain (OpenSpec.upto rpcReadsSpec)) rpcReadsUptoCard

/-- THE SECOND FORM's CARD OF 'truchmanlaw06.RpcFaults'. -/
def rpcFaultsUptoCard : Claim7 := { stood := { row := rpcFaultsUptoRow, standIns := [], harness := (true, "67d047caa4d7292fc884cc40a0daf96a4b25d60375334712f6a81ca699f81ddd"), looks := true }, kinds := [], alts := [], laidByText := true, laidKinds := [.data, .data, .data, .handle], laidTests := true, laidLooks := .later }
def RpcFaultsUptoCardSaid : Prop := Claim7.holds Tryd.pinned (.plain (OpenSpec.upto rpcFaultsSpec)) rpcFaultsUptoCard

/-- THE SECOND FORM's CARD OF 'truchmanlaw06.RpcCuts'. -/
def rpcCutsUptoCard : Claim7 := { stood := { row := rpcCutsUptoRow, standIns := [], harness := (true, "67d047caa4d7292fc884cc40a0daf96a4b25d60375334712f6a81ca699f81ddd"), looks := true }, kinds := [], alts := [], laidByText := true, laidKinds := [.handle], laidTests := true, laidLooks := .later }
def RpcCutsUptoCardSaid : Prop := Claim7.holds Tryd.pinned (.plain (OpenSpec.upto rpcCutsSpec)) rpcCutsUptoCard
end Rows
end Go.Proofs.YtdoijbjmhnncdaaDoor
