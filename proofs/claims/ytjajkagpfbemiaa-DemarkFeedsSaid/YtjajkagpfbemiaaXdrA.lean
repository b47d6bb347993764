/-
  What the small functions of layer 1 return: plain contracts.
-/
import Derived.Test.YtjajkagpfbemiaaCom
namespace Go.Proofs.Ytjajkagpfbemiaa
open Go Go.RowKit
set_option linter.unusedVariables false
set_option linter.unusedSimpArgs false

/-- A number's four bytes. -/
def be4 (x : Int) : List UInt8 := [UInt8.ofNat (x / 16777216).toNat, UInt8.ofNat (x / 65536 % 256).toNat, UInt8.ofNat (x / 256 % 256).toNat, UInt8.ofNat (x % 256).toNat]
theorem be4_length (x : Int) : (be4 x).length = 4 := rfl
theorem bs_be4 (x : Int) (h0 : 0 ≤ x) (h1 : x < 4294967296) : bs (be4 x) = [.int .u8 (x / 16777216), .int .u8 (x / 65536 % 256), .int .u8 (x / 256 % 256), .int .u8 (x % 256)] := by
  simp only [bs, be4, List.map_cons, List.map_nil]
  rw [u8_of _ (by omega) (by omega), u8_of _ (by omega) (by omega), u8_of _ (by omega) (by omega), u8_of _ (by omega) (by omega)]

theorem ref_u32 (x : Int) (w : World) (h0 : 0 ≤ x) (h1 : x < 4294967296) :
    Calls Try.prog 25 #[.int .u32 x] w fun e w' => ∃ v, e = .returned v ∧ w'.ownsRow w.heap.size 5 1 v 4 (bs (be4 x)) ∧ Ext w w' := by
  go_enter Try.func25, Try.ntmps25
  go_wp2
  go_ret
  rw [bs_be4 x h0 h1]
  exact ⟨_, rfl, own_new w 5 #[_, _, _, _] w.heap.size (Nat.le_refl _) (by simp [maxLen]), (Ext.refl w).alloc _⟩

/-- A number's eight bytes. -/
def be8 (x : Int) : List UInt8 := be4 (x / 4294967296) ++ be4 (x % 4294967296)
theorem be8_length (x : Int) : (be8 x).length = 8 := rfl
