/-
  More of layer 1: a reader that is made; two readers side by side; a number brought into a range.
-/
import Derived.Test.YtpjigdfllbhknaaXdrT
namespace Go.Proofs.Ytpjigdfllbhknaa
open Go Go.RowKit
set_option linter.unusedVariables false
set_option linter.unusedSimpArgs false

theorem Ext.onl {a b c : World} {g : Nat} (h : Ext a b) (k : Onl g b c) (hg : a.heap.size ≤ g) : Ext a c :=
  Below.trans h (k.below h.size hg)
theorem Rdr.lt {w : World} {g : Nat} {e : Int} {l : List UInt8} (h : Rdr w g e l) : g < w.heap.size := by
  obtain ⟨A, n, c, hb, _⟩ := h
  exact (Array.getElem?_eq_some_iff.1 hb).1
theorem Rdr.onl {w w' : World} {g h : Nat} {e e' : Int} {l l' : List UInt8} (hg : Rdr w g e l) (hh : Rdr w h e' l') (ho : Onl g w w') (hne : h ≠ g) : Rdr w' h e' l' := by
  obtain ⟨A, n, c, hb, hs⟩ := hg
  obtain ⟨A', n', c', hb', hs'⟩ := hh
  exact ⟨A', n', c', ho.heap hb' hne, hs'.apart hb ho⟩
theorem Sees.onl {w w' : World} {g : Nat} {e : Int} {l m : List UInt8} {A : Option Addr} {n c : Nat} (hs : Sees w A n c (bs m)) (hg : Rdr w g e l) (ho : Onl g w w') : Sees w' A n c (bs m) := by
  obtain ⟨A', n', c', hb, _⟩ := hg
  exact hs.apart hb ho

theorem read_any (A : Option Addr) (n c : Nat) (l : List UInt8) (w : World) (hs : Sees w A n c (bs l)) (hn : n ≤ 4194304) :
    Calls Try.prog 32 #[.slice A n c] w fun x w' => ∃ g v, x = .returned (.pointer (some ⟨g, 0, none⟩)) ∧ w.heap.size ≤ g ∧ w'.heap[g]? = some (.cells #[.int .i64 0, v] 93 (0, 0)) ∧ w'.ownsRow w.heap.size 5 1 v n (bs l) ∧ Ext w w' := by
  obtain ⟨i0, hi, hz0, hz1, hz2⟩ := info_parts infoB
  obtain ⟨v', w', hrun, hown, hg, hat⟩ := run_append_sees (P := Try.prog) w.heap.size 24 24 5 i0 _ 1 Try.underlying24 hi hz0 hz1 hz2 rfl (.slice none 0 0) 0 [] (World.ownsRow_nil _ _ _ _)
      A n c _ hs (bs_one _) (by unfold maxLen; omega) (by omega) (Nat.le_refl _)
  rw [Nat.zero_add, List.nil_append] at hown
  have hx : Ext w w' := (Ext.refl _).grown hg (by simp [Value.ownBlock])
  obtain ⟨A', c', rfl, _⟩ := Sees.of_own hown
  clear hg hat hs
  go_enter Try.func32, Try.ntmps32
  go_wp2_with (first | (at_builtin; refine wpList_append_run rfl (.const (.slice none 0 0)) (.tmp 3) _ rfl _ _ rfl rfl _ w' hrun ?_) | fail)
  go_ret
  exact ⟨w'.heap.size, _, rfl, hx.size, heap_alloc_new w' _, hown.alloc _, hx.alloc _⟩
theorem Rdr.of_read {w : World} {g base : Nat} {v : Value} {e : Int} {n : Nat} {l : List UInt8} (hb : w.heap[g]? = some (.cells #[.int .i64 e, v] 93 (0, 0))) (ho : w.ownsRow base 5 1 v n (bs l)) : Rdr w g e l := by
  obtain ⟨A, c, rfl, hs⟩ := Sees.of_own ho
  exact ⟨A, n, c, hb, hs⟩
