/-
  The text of bytes.
-/
import Derived.Test.YtdoijbjmhnncdaaDoorCom00
namespace Go.Proofs.YtdoijbjmhnncdaaDoor
open Go Go.RowKit
set_option linter.unusedVariables false
set_option linter.unusedSimpArgs false
theorem str_of {w : World} {A : Option Addr} {n c : Nat} {l : List UInt8} (h : Sees w A n c (bs l)) : (convert 22 9 (.slice A n c)).run Tryd.prog w = .ok (.string ⟨l.toArray⟩) w :=
  run_string_sees 22 9 5 Tryd.underlying22 Tryd.underlying5 Tryd.underlying9 h
end Go.Proofs.YtdoijbjmhnncdaaDoor
