/-
  The reader of layer 1: a text that is read.
-/
import Derived.Test.YtdoijbjmhnncdaaDoorXdrR
namespace Go.Proofs.YtdoijbjmhnncdaaDoor
open Go Go.RowKit
set_option linter.unusedVariables false
set_option linter.unusedSimpArgs false

theorem pad_le (n : Nat) : pad n ≤ 3 := by unfold pad; omega
theorem pad_mod (n : Nat) : (n + pad n) % 4 = 0 := by unfold pad; omega
theorem u32_nat (g : Nat) (e : Int) (l : List UInt8) (M : Nat) (w : World) (h : Rdr w g e l) (hk : 4 ≤ l.length) (hM : num4 l = (M : Int)) :
    Calls Tryd.prog 26 #[.pointer (some ⟨g, 0, none⟩)] w fun x w' => x = .returned (.int .u32 (M : Int)) ∧ Rdr w' g e (l.drop 4) ∧ Onl g w w' := by
  rw [← hM]
  exact u32_ok g e l w h hk
theorem take_nat (g : Nat) (e k : Int) (K : Nat) (l : List UInt8) (w : World) (h : Rdr w g e l) (hK : k = (K : Int)) (hk : K ≤ l.length) :
    Calls Tryd.prog 35 #[.pointer (some ⟨g, 0, none⟩), .int .i64 k] w fun x w' => ∃ A c, x = .returned (.tuple #[.slice A K c, .bool true]) ∧ Sees w' A K c (bs (l.take K)) ∧ Rdr w' g e (l.drop K) ∧ Onl g w w' := by
  have h1 : k.toNat = K := by omega
  have := take_ok g e k l w h (by omega) (by omega)
  rw [h1] at this
  exact this
