/-
  Layer 5: a pipe in memory: what its functions return and leave.
-/
import Derived.Test.YtjdcbmelladceaaPipA
import Derived.Test.YtjdcbmelladceaaPipP
import Derived.Test.YtjdcbmelladceaaDmA
import Derived.StillTailTactics
namespace Go.Proofs.Ytjdcbmelladceaa
open Go Go.RowKit
set_option linter.unusedVariables false
set_option linter.unusedSimpArgs false
/-- Bytes lie in F, apart from two blocks. -/
def InF (F : Nat → Prop) (tb cb : Nat) (A : Option Addr) (n : Nat) : Prop := ∀ a, A = some a → 0 < n → F a.block ∧ ¬ a.block = tb ∧ ¬ a.block = cb
def BufR (w : World) (F : Nat → Prop) (tb cb : Nat) (buf : Array Value) (R : List (List UInt8)) : Prop :=
  buf.size = R.length ∧ ∀ (j : Nat) (x : List UInt8), R[j]? = some x → ∃ A' n' c', buf[j]? = some (.slice A' n' c') ∧ Sees w A' n' c' (bs x) ∧ InF F tb cb A' n'
/-- A pipe in blocks tb, cb: what is left of its first text, the others. Nothing of it is outside F. -/
def PipR (w : World) (F : Nat → Prop) (tb cb left : Nat) (H : List UInt8) (R : List (List UInt8)) (z : List Int) (at_ : Nat) : Prop :=
  ∃ A n c buf s r As cs,
    w.heap[tb]? = some (.cells #[.slice A n c, .chan (some cb), .int .i64 (left : Int), .slice As z.length cs, .int .i64 (at_ : Int)] 56 (0, 0)) ∧
    w.heap[cb]? = some (.chan 63 buf false s r false) ∧ F tb ∧ F cb ∧ (Sees w A n c (bs H) ∧ InF F tb cb A n) ∧ (Sees w As z.length cs (z.map (Value.int .i64)) ∧ InF F tb cb As z.length) ∧ BufR w F tb cb buf R
def Pip (w : World) (F : Nat → Prop) (tb cb : Nat) (T : List (List UInt8)) (z : List Int) (at_ : Nat) : Prop :=
  PipR w F tb cb T.flatten.length (T.headD []) T.tail z at_ ∧ AllNe T ∧ T.length ≤ 64 ∧ at_ < z.length ∧ (∀ x ∈ z, 0 ≤ x ∧ x ≤ 9223372036854775807) ∧ z.length ≤ 1000
section
variable {w w' : World} {F F' : Nat → Prop} {tb cb left : Nat} {H : List UInt8} {R : List (List UInt8)} {z : List Int} {at_ : Nat}
theorem InF.more {A : Option Addr} {n : Nat} (h : InF F tb cb A n) (hf : ∀ k, F k → F' k) : InF F' tb cb A n := fun a ha hn => ⟨hf _ (h a ha hn).1, (h a ha hn).2⟩
theorem InF.none (F : Nat → Prop) (tb cb : Nat) (A : Option Addr) : InF F tb cb A 0 := fun a ha hn => absurd hn (by omega)
theorem BufR.keep {buf : Array Value} (h : BufR w F tb cb buf R) (hk : Kp (fun k => F k ∧ ¬ k = tb ∧ ¬ k = cb) w w') : BufR w' F tb cb buf R :=
  ⟨h.1, fun j x hx => by
    obtain ⟨A', n', c', h1, h2, h3⟩ := h.2 j x hx
    exact ⟨A', n', c', h1, hk.sees h2 h3, h3⟩⟩
theorem BufR.more {buf : Array Value} (h : BufR w F tb cb buf R) (hf : ∀ k, F k → F' k) : BufR w F' tb cb buf R :=
  ⟨h.1, fun j x hx => by
    obtain ⟨A', n', c', h1, h2, h3⟩ := h.2 j x hx
    exact ⟨A', n', c', h1, h2, h3.more hf⟩⟩
theorem PipR.keep (h : PipR w F tb cb left H R z at_) (hk : Kp F w w') : PipR w' F tb cb left H R z at_ := by
  obtain ⟨A, n, c, buf, s, r, As, cs, h1, h2, h3, h4, ⟨h5, h6⟩, ⟨h7, h8⟩, h9⟩ := h
  exact ⟨A, n, c, buf, s, r, As, cs, hk.heap h1 h3, hk.heap h2 h4, h3, h4, ⟨hk.sees h5 fun a ha hn => (h6 a ha hn).1, h6⟩, ⟨hk.sees h7 fun a ha hn => (h8 a ha hn).1, h8⟩, h9.keep (hk.mono fun k q => q.1)⟩
theorem PipR.more (h : PipR w F tb cb left H R z at_) (hf : ∀ k, F k → F' k) : PipR w F' tb cb left H R z at_ := by
  obtain ⟨A, n, c, buf, s, r, As, cs, h1, h2, h3, h4, ⟨h5, h6⟩, ⟨h7, h8⟩, h9⟩ := h
  exact ⟨A, n, c, buf, s, r, As, cs, h1, h2, hf _ h3, hf _ h4, ⟨h5, h6.more hf⟩, ⟨h7, h8.more hf⟩, h9.more hf⟩
theorem PipR.lt (h : PipR w F tb cb left H R z at_) : tb < w.heap.size ∧ cb < w.heap.size ∧ ¬ tb = cb := by
  obtain ⟨A, n, c, buf, s, r, As, cs, h1, h2, _⟩ := h
  refine ⟨(Array.getElem?_eq_some_iff.1 h1).1, (Array.getElem?_eq_some_iff.1 h2).1, fun e => ?_⟩
  subst e
  rw [h1] at h2
  cases h2
theorem PipR.inF (h : PipR w F tb cb left H R z at_) : F tb ∧ F cb := by
  obtain ⟨A, n, c, buf, s, r, As, cs, h1, h2, h3, h4, _⟩ := h
  exact ⟨h3, h4⟩
theorem Pip.keep {T : List (List UInt8)} (h : Pip w F tb cb T z at_) (hk : Kp F w w') : Pip w' F tb cb T z at_ := ⟨h.1.keep hk, h.2⟩
theorem Pip.more {T : List (List UInt8)} (h : Pip w F tb cb T z at_) (hf : ∀ k, F k → F' k) : Pip w F' tb cb T z at_ := ⟨h.1.more hf, h.2⟩
/-- Others than two blocks are as they were. -/
abbrev Two (tb cb : Nat) : Nat → Prop := fun k => ¬ k = tb ∧ ¬ k = cb
theorem kp_chan (w : World) (tb cb cap : Nat) (buf : Array Value) (cl : Bool) (s r : Nat) (tm : Bool) : Kp (Two tb cb) w (w.setChan cb cap buf cl s r tm) :=
  ⟨rfl, rfl, rfl, by simp [World.setChan], fun k hk hlt => by simp only [World.setChan]; rw [Array.getElem?_setIfInBounds_ne (fun e => hk.2 e.symm)]⟩
theorem kp_cell (w : World) (tb cb i : Nat) (v : Value) : Kp (Two tb cb) w (w.setCell ⟨tb, i, none⟩ v) := (Kp.refl _ w).set tb i v (fun q => q.1 rfl)
end
theorem pleft_any (F : Nat → Prop) (tb cb left : Nat) (H : List UInt8) (R : List (List UInt8)) (z : List Int) (at_ : Nat) (w : World) (h : PipR w F tb cb left H R z at_) :
    Calls Try.prog 17 #[.pointer (some ⟨tb, 0, none⟩)] w fun e w' => e = .returned (.int .i64 (left : Int)) ∧ w = w' := by
  obtain ⟨A, n, c, buf, s, r, As, cs, h1, _⟩ := h
  have c2 := cell_of_row w tb 2 _ _ _ h1
  simp at c2
  clear h1
  go_enter Try.func17, Try.ntmps17
  go_wp2
  go_ret
  exact ⟨rfl, rfl⟩
theorem ptexts_any (F : Nat → Prop) (tb cb : Nat) (T : List (List UInt8)) (z : List Int) (at_ : Nat) (w : World) (h : Pip w F tb cb T z at_) :
    Calls Try.prog 19 #[.pointer (some ⟨tb, 0, none⟩)] w fun e w' => e = .returned (.int .i64 (T.length : Int)) ∧ w = w' := by
  obtain ⟨⟨A, n, c, buf, s, r, As, cs, h1, h2, h3, h4, ⟨h5, h6⟩, ⟨h7, h8⟩, h9⟩, hne, h64, _⟩ := h
  have hch := Conc.run_len_chan (P := Try.prog) (w := w) 54 3 Try.underlying54 h2
  unfold goInt at hch
  rw [h9.1] at hch
  have hlen := h5.len
  rw [bs_length] at hlen
  have c0 := cell_of_row w tb 0 _ _ _ h1
  have c1 := cell_of_row w tb 1 _ _ _ h1
  simp at c0 c1
  cases T with
  | nil =>
    simp at hlen
    subst hlen
    clear h1 h2 h5 h6 h7 h8 h9 hne hch
    go_enter Try.func19, Try.ntmps19
    go_wp2
    go_ret
    exact ⟨rfl, rfl⟩
  | cons x t =>
    have hp := hne.head
    simp at hlen hch h64
    have hn : ((n : Int) == 0) = false := by simpa using (show ¬ n = 0 by omega)
    clear h1 h2 h5 h6 h7 h8 h9 hne hlen
    go_enter Try.func19, Try.ntmps19
    go_wp2
    go_ret
    exact ⟨congrArg (fun v : Int => Ending.returned (.int .i64 v)) (show (1 : Int) + (t.length : Int) = _ from by simp; omega), rfl⟩
def PShift (w : World) (F : Nat → Prop) (tb cb left : Nat) (R : List (List UInt8)) (z : List Int) (at_ : Nat) (e : Ending) (w' : World) : Prop :=
  e = .returned (.tuple #[]) ∧ PipR w' F tb cb left (R.headD []) R.tail z at_ ∧ Kp (Two tb cb) w w'
theorem pshift_any (F : Nat → Prop) (tb cb left : Nat) (R : List (List UInt8)) (z : List Int) (at_ : Nat) (w : World) (h : PipR w F tb cb left [] R z at_) :
    Calls Try.prog 25 #[.pointer (some ⟨tb, 0, none⟩)] w (PShift w F tb cb left R z at_) := by
  have hne := h.lt.2.2
  have hlt := h.lt
  obtain ⟨A, n, c, buf, s, r, As, cs, h1, h2, h3, h4, ⟨h5, h6⟩, ⟨h7, h8⟩, h9⟩ := h
  have c0 := cell_of_row w tb 0 _ _ _ h1
  have c1 := cell_of_row w tb 1 _ _ _ h1
  have f0 := Lib.frozen_of_heap h1 0
  simp at c0 c1
  cases R with
  | nil =>
    have hb : buf = #[] := by simpa using h9.1
    subst hb
    refine (shift_none tb cb 63 s r w c1 f0 _ c0 h2).mono ?_
    rintro e w' ⟨rfl, rfl⟩
    have hk : Kp (Two tb cb) w (w.setCell ⟨tb, 0, none⟩ (.slice none 0 0)) := kp_cell w tb cb 0 _
    exact ⟨rfl, ⟨none, 0, 0, #[], s, r, As, cs, by simpa using heap_setCell_same w tb 0 _ _ (.slice none 0 0) h1, (heap_setCell_other _ _ _ _ (fun e => hne e.symm)).trans h2, h3, h4, ⟨Sees.nil _, InF.none _ _ _ _⟩,
      ⟨hk.sees h7 fun a ha hn => (h8 a ha hn).2, h8⟩, h9.keep (hk.mono fun k q => q.2)⟩, hk⟩
  | cons x t =>
    obtain ⟨xA, xn, xc, hx, hxs, hxf⟩ := h9.2 0 x rfl
    refine (shift_some tb cb 63 s r buf xA xn xc w c1 f0 _ c0 h2 hx hne).mono ?_
    rintro e w' ⟨rfl, rfl⟩
    have hk : Kp (Two tb cb) w ((w.setChan cb 63 (buf.extract 1 buf.size) false s (r + 1) false).setCell ⟨tb, 0, none⟩ (.slice xA xn xc)) := (kp_chan w tb cb _ _ _ _ _ _).trans (kp_cell _ tb cb 0 _)
    have hb1 : (w.setChan cb 63 (buf.extract 1 buf.size) false s (r + 1) false).heap[tb]? = some (.cells #[.slice A n c, .chan (some cb), .int .i64 (left : Int), .slice As z.length cs, .int .i64 (at_ : Int)] 56 (0, 0)) := by
      simp only [World.setChan]
      rw [Array.getElem?_setIfInBounds_ne (by omega)]
      exact h1
    have hb2 : (w.setChan cb 63 (buf.extract 1 buf.size) false s (r + 1) false).heap[cb]? = some (.chan 63 (buf.extract 1 buf.size) false s (r + 1) false) := Conc.heap_setChan w cb 63 _ false s (r + 1) false hlt.2.1
    exact ⟨rfl, ⟨xA, xn, xc, _, s, r + 1, As, cs, by simpa using heap_setCell_same _ tb 0 _ _ (.slice xA xn xc) hb1, (heap_setCell_other _ _ _ _ (fun e => hne e.symm)).trans hb2, h3, h4, ⟨hk.sees hxs fun a ha hn => (hxf a ha hn).2, hxf⟩,
      ⟨hk.sees h7 fun a ha hn => (h8 a ha hn).2, h8⟩, ⟨by have := h9.1; simp at this ⊢; omega, fun j y hy => by
        obtain ⟨A', n', c', g1, g2, g3⟩ := h9.2 (j + 1) y (by simpa using hy)
        refine ⟨A', n', c', ?_, hk.sees g2 fun a ha hn => (g3 a ha hn).2, g3⟩
        rw [Array.getElem?_extract]
        have := (Array.getElem?_eq_some_iff.1 g1).1
        rw [if_pos (by omega), Nat.add_comm]
        exact g1⟩⟩, hk⟩
end Go.Proofs.Ytjdcbmelladceaa
