/-
  slices.Sort of at most 12 numbers.
-/
import Derived.Test.YtallbmobjhfhpaaSortU
import Derived.Test.YtallbmobjhfhpaaShelf
namespace Go.Proofs.Ytallbmobjhfhpaa
open Go Go.RowKit
set_option linter.unusedVariables false
set_option linter.unusedSimpArgs false
set_option maxRecDepth 20000 in
theorem pdq_any (g n c : Nat) (lim : Int) (hnc : n ≤ c) (hn : n ≤ 12) (X : Nat → Int) (w : World) (h : RowU w g n X) (hi : InjN X n) :
    Calls Try.prog 32 #[.slice (some ⟨g, 0, none⟩) n c, .int .i64 0, .int .i64 (n : Int), .int .i64 lim] w (Insd w g n X) := by
  have HI := Lib.hid (ins_any g n c hnc hn X w h hi)
  have h12 : (n : Int) ≤ 12 := by omega
  clear h hi
  go_enter Try.func32, Try.ntmps32
  go_wp2_with fail
  go_loopw [1, 2, 3] (fun a b l wr => a = .int .i64 0 ∧ b = .int .i64 (n : Int) ∧ l = .int .i64 lim ∧ wr = w) (fun _ _ _ _ => 0)
  case atStart => simp
  case round =>
    obtain ⟨rfl, rfl, rfl, rfl⟩ := hrel
    go_wp2_with fail
    refine (HI.out).mono ?_
    rintro e w1 ⟨rfl, hr⟩
    have HX := Lib.hid hr
    clear hr
    go_wp2
    go_end0
    exact ⟨rfl, HX.out⟩
set_option maxRecDepth 20000 in
theorem sort_any (g n c : Nat) (hnc : n ≤ c) (hn : n ≤ 12) (X : Nat → Int) (w : World) (h : RowU w g n X) (hi : InjN X n) :
    Calls Try.prog 30 #[.slice (some ⟨g, 0, none⟩) n c] w (Insd w g n X) := by
  have HI := Lib.hid (fun lim => pdq_any g n c lim hnc hn X w h hi)
  clear h hi
  go_enter Try.func30, Try.ntmps30
  go_wp2_with fail
  refine (Try.bits_Len _ w ?_ ?_).mono ?_
  · omega
  · omega
  rintro e w1 ⟨rfl, rfl⟩
  go_wp2_with fail
  refine (HI.out _).mono ?_
  rintro e w2 ⟨rfl, hr⟩
  have HX := Lib.hid hr
  clear hr
  go_wp2
  go_end0
  exact ⟨rfl, HX.out⟩
end Go.Proofs.Ytallbmobjhfhpaa
