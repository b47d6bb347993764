/-
  The text of bytes.
-/
import Derived.Test.YtihiclnbbpablaaCom00
namespace Go.Proofs.Ytihiclnbbpablaa
open Go Go.RowKit
set_option linter.unusedVariables false
set_option linter.unusedSimpArgs false
theorem str_of {w : World} {A : Option Addr} {n c : Nat} {l : List UInt8} (h : Sees w A n c (bs l)) : (convert 25 9 (.slice A n c)).run Try.prog w = .ok (.string ⟨l.toArray⟩) w :=
  run_string_sees 25 9 5 Try.underlying25 Try.underlying5 Try.underlying9 h
end Go.Proofs.Ytihiclnbbpablaa
