/-
  What the document's helper of the first so many bytes returns: plain contracts.
-/
import Derived.Test.YtihiclnbbpablaaCom0
namespace Go.Proofs.Ytihiclnbbpablaa
open Go Go.RowKit
set_option linter.unusedVariables false
set_option linter.unusedSimpArgs false

theorem few_any (A : Option Addr) (n c : Nat) (k : Int) (xs : List Value) (w : World) (hs : Sees w A n c xs) (h1 : ∀ u ∈ xs, u.oneCell' = true) (hk : 0 ≤ k) (hk2 : k ≤ 4096) :
    Calls Try.prog 19 #[.slice A n c, .int .i64 k] w fun e w' => ∃ v, e = .returned v ∧ w'.ownsRow w.heap.size 5 1 v (min n k.toNat) (xs.take k.toNat) ∧ Ext w w' := by
  obtain ⟨i0, hi, hz0, hz1, hz2⟩ := info_parts infoB
  have hl := hs.le
  have hx := hs.len
  have hm := hs.max
  unfold maxLen at hm
  by_cases hn : (n : Int) ≤ k
  · obtain ⟨v', w1, hrun, hown, hg, hat⟩ := run_append_sees (P := Try.prog) (w := w) w.heap.size 25 25 5 i0 _ 1 Try.underlying25 hi hz0 hz1 hz2 rfl (.slice none 0 0) 0 [] (World.ownsRow_nil _ _ _ _)
      A n c xs hs h1 (by unfold maxLen; omega) (by omega) (Nat.le_refl _)
    have hx' := Lib.hid hx
    clear hx
    go_enter Try.func19, Try.ntmps19
    go_wp2_with (at_builtin; refine wpList_append_run rfl (.tmp 6) (.tmp 12) _ rfl (.slice none 0 0) (.slice A n c) rfl rfl v' w1 hrun ?_)
    go_ret
    have hx := hx'.out
    refine ⟨v', rfl, ?_, (Ext.refl w).grown hg (by simp [Value.ownBlock])⟩
    rw [List.take_of_length_le (by omega), show min n k.toNat = 0 + n from by omega]
    simpa using hown
  · obtain ⟨v', w1, hrun, hown, hg, hat⟩ := run_append_sees (P := Try.prog) (w := w) w.heap.size 25 25 5 i0 _ 1 Try.underlying25 hi hz0 hz1 hz2 rfl (.slice none 0 0) 0 [] (World.ownsRow_nil _ _ _ _)
      A k.toNat c (xs.take k.toNat) (hs.take k.toNat (by omega)) (fun u hu => h1 u (List.mem_of_mem_take hu)) (by unfold maxLen; omega) (by omega) (Nat.le_refl _)
    have hx' := Lib.hid hx
    clear hx
    have hn' : k < (n : Int) := by omega
    go_enter Try.func19, Try.ntmps19
    go_wp2_with (at_builtin; refine wpList_append_run rfl (.tmp 6) (.tmp 12) _ rfl (.slice none 0 0) (.slice A k.toNat c) rfl rfl v' w1 hrun ?_)
    go_ret
    refine ⟨v', rfl, ?_, (Ext.refl w).grown hg (by simp [Value.ownBlock])⟩
    rw [show min n k.toNat = 0 + k.toNat from by omega]
    simpa using hown

/-- The same, the number as it is written. -/
theorem few_nat (A : Option Addr) (n c : Nat) (k : Int) (K : Nat) (xs : List Value) (w : World) (hs : Sees w A n c xs) (h1 : ∀ u ∈ xs, u.oneCell' = true) (hk : 0 ≤ k) (hk2 : k ≤ 4096) (hK : k.toNat = K) :
    Calls Try.prog 19 #[.slice A n c, .int .i64 k] w fun e w' => ∃ v, e = .returned v ∧ w'.ownsRow w.heap.size 5 1 v (min n K) (xs.take K) ∧ Ext w w' := by
  subst hK
  exact few_any A n c k xs w hs h1 hk hk2
end Go.Proofs.Ytihiclnbbpablaa
