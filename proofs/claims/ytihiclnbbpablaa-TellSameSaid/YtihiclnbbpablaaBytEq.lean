/-
  Layer 18: bytes.Equal.
-/
import Derived.Test.YtihiclnbbpablaaCom0
namespace Go.Proofs.Ytihiclnbbpablaa
open Go Go.RowKit
set_option linter.unusedVariables false
set_option linter.unusedSimpArgs false
/-- bytes.Equal, of bytes that are there. -/
theorem bequal_any (A : Option Addr) (n c : Nat) (l : List UInt8) (B : Option Addr) (m d : Nat) (r : List UInt8) (w : World) (hs : Sees w A n c (bs l)) (ht : Sees w B m d (bs r)) :
    Calls Try.prog 54 #[.slice A n c, .slice B m d] w fun e w' => e = .returned (.bool (l == r)) ∧ w = w' := by
  have x1 := str_of hs
  have x2 := str_of ht
  clear hs ht
  go_enter Try.func54, Try.ntmps54
  go_wp2
  go_ret
  exact ⟨rfl, rfl⟩
end Go.Proofs.Ytihiclnbbpablaa
