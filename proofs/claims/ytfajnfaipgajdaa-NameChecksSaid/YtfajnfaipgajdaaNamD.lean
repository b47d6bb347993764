/-
  Layer 9: the document's example; a byte of a row of the call's own that is turned.
-/
import Derived.Test.YtfajnfaipgajdaaNamC
import Derived.Test.YtfajnfaipgajdaaQui
namespace Go.Proofs.Ytfajnfaipgajdaa
open Go Go.RowKit
set_option linter.unusedVariables false
set_option linter.unusedSimpArgs false
theorem own_some {w : World} {base : Nat} {e : TypeId} {v : Value} {n : Nat} {xs : List Value} (h : w.ownsRow base e 1 v n xs) (hn : 0 < n) :
    ∃ g cap cur, v = .slice (some ⟨g, 0, none⟩) n cap ∧ base ≤ g ∧ n ≤ cap ∧ cap ≤ maxLen ∧ w.heap[g]? = some (.cells cur e (0, 0)) ∧ cur.size = cap := by
  obtain ⟨_, h⟩ := h
  rcases h with ⟨_, h0⟩ | ⟨g, cap, cur, hv, hb, hg, hnc, hm, hs, _⟩
  · omega
  · exact ⟨g, cap, cur, hv, hb, hnc, hm, hg, by simpa using hs⟩
theorem own_set {w : World} {base : Nat} {e : TypeId} {g n cap : Nat} {xs : List Value} (h : w.ownsRow base e 1 (.slice (some ⟨g, 0, none⟩) n cap) n xs) (k : Nat) (hk : k < n) (u : Value) :
    (w.setCell ⟨g, k, none⟩ u).ownsRow base e 1 (.slice (some ⟨g, 0, none⟩) n cap) n (xs.set k u) := by
  obtain ⟨h1, h⟩ := h
  rcases h with ⟨h', h0⟩ | ⟨g', cap', cur, hv, hb, hg, hnc, hm, hs, ht⟩
  · omega
  · simp only [Value.slice.injEq, Option.some.injEq, Addr.mk.injEq, and_true, true_and] at hv
    obtain ⟨rfl, rfl⟩ := hv
    refine ⟨by simpa using h1, .inr ⟨g, cap, cur.setIfInBounds k u, rfl, hb, ?_, hnc, hm, by simpa using hs, ?_⟩⟩
    · simp [World.setCell, Array.getElem?_modify, hg]
    · rw [Array.toList_setIfInBounds, Nat.mul_one, List.take_set]
      rw [Nat.mul_one] at ht
      rw [ht]
theorem bset (l : List UInt8) (k : Nat) (u : UInt8) : (bs l).set k (.int .u8 (u.toNat : Int)) = bs (l.set k u) := by
  simp [bs, List.map_set]
theorem lives9 (w : World) : Calls Try.prog 26 #[] w fun e w' => e = .returned (.bool true) ∧ Ext w w' := by
  have h1 := Lib.hid (fun w => print_any [97, 32, 98] w (by simp))
  have hp : printB [97, 32, 98] = [97, 37, 50, 48, 98] := by decide
  rw [hp] at h1
  have h2 := Lib.hid (fun w => name_any [97, 32, 98] w (by simp))
  have h3 := Lib.hid (fun w => name_any [46, 46] w (by simp))
  have hn2 : nmB [97, 32, 98] = true := by decide
  have hn3 : nmB [46, 46] = false := by decide
  rw [hn2] at h2
  rw [hn3] at h3
  go_enter Try.func26, Try.ntmps26
  go_wp2_with (go_at_call 38; refine (h1.out _).mono ?_)
  rintro e w1 ⟨rfl, e1⟩
  go_wp2_with (go_at_call 22; refine (h2.out _).mono ?_)
  rintro e w2 ⟨rfl, rfl⟩
  go_wp2_with (go_at_call 22; refine (h3.out _).mono ?_)
  rintro e w2 ⟨rfl, rfl⟩
  go_wp2
  go_ret
  exact ⟨rfl, e1⟩
end Go.Proofs.Ytfajnfaipgajdaa
