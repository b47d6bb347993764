/-
  The example of layer 1 is met, and the statement XdrPuts: what is laid is the document's.
-/
import Derived.Test.YtefkjoooecphaaaXdrB
import Derived.Lib.SlBytesConst
namespace Go.Proofs.Ytefkjoooecphaaa
open Go Go.RowKit
set_option linter.unusedVariables false
set_option linter.unusedSimpArgs false

theorem lives_any (w : World) : Calls Try.prog 24 #[] w fun e w' => e = .returned (.bool true) ∧ Ext w w' := by
  have kc := fun (w : World) (C : Array Value) (n c : Nat) => Lib.run_convert_bytes_const (P := Try.prog) w 22 5 C n c Try.underlying22 Try.underlying5
  go_enter Try.func24, Try.ntmps24
  go_wp2_with fail
  refine (text_any none 0 0 _ 2 2 [] [97, 98] _ (Sees.nil _) (sees_mark w 5 #[.int .u8 97, .int .u8 98] (2, 3) (by simp [maxLen])) (by omega) (by omega)).mono ?_
  rintro e w1 ⟨v1, rfl, own1, ext1⟩
  have own1' : w1.ownsRow _ 5 1 v1 8 (bs [0, 0, 0, 2, 97, 98, 0, 0]) := own1
  obtain ⟨A1, c1, rfl, see1⟩ := Sees.of_own own1'
  have hstr := str_of see1
  have ext2 : Ext w w1 := Ext.trans ((Ext.refl w).alloc _) ext1
  clear own1 own1' see1 ext1
  go_wp2
  go_ret
  exact ⟨by simp, ext2⟩
