/-
  What the functions of layer 1 that lay texts return: plain contracts.
-/
import Derived.Test.YtdoijbjmhnncdaaDoorXdrA
import Derived.LoopTactic
namespace Go.Proofs.YtdoijbjmhnncdaaDoor
open Go Go.RowKit
set_option linter.unusedVariables false
set_option linter.unusedSimpArgs false

/-- How many bytes 0 stand behind a text of n bytes. -/
def pad (n : Nat) : Nat := (4 - n % 4) % 4
/-- A text's bytes. -/
def txt (s : List UInt8) : List UInt8 := be4 s.length ++ s ++ zeros (pad s.length)

theorem txt_le (s : List UInt8) : (txt s).length ≤ s.length + 7 := by
  unfold txt pad
  simp only [List.length_append, be4_length, zeros_length]
  omega
