/-
  Layer 5: a new pipe; a text that is sent.
-/
import Derived.Test.YtjdcbmelladceaaPipC
namespace Go.Proofs.Ytjdcbmelladceaa
open Go Go.RowKit
set_option linter.unusedVariables false
set_option linter.unusedSimpArgs false
/-- What is new of a world. -/
def Fresh (F : Nat → Prop) (w w' : World) : Nat → Prop := fun k => F k ∨ (w.heap.size ≤ k ∧ k < w'.heap.size)
def PSent (w : World) (F : Nat → Prop) (tb cb : Nat) (T : List (List UInt8)) (z : List Int) (at_ : Nat) (l : List UInt8) (e : Ending) (w' : World) : Prop :=
  e = .returned (.int .i64 0) ∧ Pip w' (Fresh F w w') tb cb (T ++ [l]) z at_ ∧ Kp (Two tb cb) w w'
theorem flat_snoc (T : List (List UInt8)) (l : List UInt8) : (T ++ [l]).flatten.length = T.flatten.length + l.length := by simp
theorem psend_ok (F : Nat → Prop) (tb cb : Nat) (T : List (List UInt8)) (z : List Int) (at_ : Nat) (A : Option Addr) (n c : Nat) (l : List UInt8) (w : World) (h : Pip w F tb cb T z at_) (hF : ∀ j, F j → j < w.heap.size)
    (hs : Sees w A n c (bs l)) (hl : ¬ l = []) (hT : T.length < 64) (hl1 : T.flatten.length ≤ 100000) (hl2 : l.length ≤ 100000) :
    Calls Try.prog 16 #[.pointer (some ⟨tb, 0, none⟩), .slice A n c] w (PSent w F tb cb T z at_ l) := by
  have hn : n = l.length := by have := hs.len; rw [bs_length] at this; exact this.symm
  have hn0 : 0 < n := by
    cases l with
    | nil => exact absurd rfl hl
    | cons a l => simp at hn; omega
  obtain ⟨i0, hi, hz0', hz1', hz2'⟩ := info_parts infoB
  obtain ⟨v', w1, hrun, hown, hg, hat⟩ := run_append_sees (P := Try.prog) (w := w) w.heap.size 33 33 5 i0 _ 1 Try.underlying33 hi hz0' hz1' hz2' rfl (.slice none 0 0) 0 [] (World.ownsRow_nil _ _ _ _)
    A n c (bs l) hs (bs_one _) (by unfold maxLen; omega) (by omega) (Nat.le_refl _)
  rw [Nat.zero_add, List.nil_append] at hown
  obtain ⟨vA, vc, rfl, hsv⟩ := Sees.of_own hown
  have e1 : Ext w w1 := (Ext.refl w).grown hg (fun k hk => by cases hk)
  obtain ⟨hr, hne, h64, hat', hzb, hzl⟩ := h
  have hlt := hr.lt
  have hr1 := hr.keep (Kp.of_ext e1)
  have hin : InF (Fresh F w w1) tb cb vA n := fun a ha hnn => by
    have h1 := hown.lt a.block (by rw [ha]; rfl)
    exact ⟨.inr ⟨h1.1, h1.2⟩, by omega, by omega⟩
  have hr2 : PipR w1 (Fresh F w w1) tb cb T.flatten.length (T.headD []) T.tail z at_ := hr1.more fun k q => .inl q
  have hne' : AllNe (T ++ [l]) := fun x hx => by
    simp at hx
    rcases hx with hx | rfl
    · exact hne x hx
    · exact hl
  have hlast : ∀ (w' : World), w'.heap.size = w1.heap.size → PipR w' (Fresh F w w1) tb cb (T.flatten.length + n) ((T ++ [l]).headD []) (T ++ [l]).tail z at_ → Pip w' (Fresh F w w') tb cb (T ++ [l]) z at_ := fun w' hsz hp => by
    unfold Fresh at hp ⊢
    rw [hsz]
    refine ⟨?_, hne', by simp; omega, hat', hzb, hzl⟩
    rw [flat_snoc, ← hn]
    exact hp
  obtain ⟨A0, n0, c0, buf, s, r, As, cs, h1, h2, h3, h4, ⟨h5, h6⟩, ⟨h7, h8⟩, h9⟩ := hr2
  have k0 := cell_of_row w1 tb 0 _ _ _ h1
  have k1 := cell_of_row w1 tb 1 _ _ _ h1
  have k2 : w1.cell? ⟨tb, 2, none⟩ = some (.int .i64 (T.flatten.length : Int)) := by rw [cell_of_row w1 tb 2 _ _ _ h1]; rfl
  have f0 := Lib.frozen_of_heap h1 0
  have f2 := Lib.frozen_of_heap h1 2
  simp at k0 k1
  have hlen := h5.len
  rw [bs_length] at hlen
  have hcast : ((T.flatten.length : Int) + (n : Int)) = ((T.flatten.length + n : Nat) : Int) := by omega
  cases T with
  | nil =>
    simp only [List.headD_nil, List.length_nil] at hlen
    subst hlen
    refine (send_first tb c0 n c A A0 _ w vA vc w1 hrun hn0 k0 f0 k2 f2 (by omega) (by omega) (by omega)).mono ?_
    rintro e w' ⟨rfl, rfl⟩
    refine ⟨rfl, hlast _ (by simp [World.setCell]) ?_, ((Kp.of_ext e1).trans (kp_cell w1 tb cb 0 _)).trans (kp_cell _ tb cb 2 _)⟩
    rw [hcast]
    refine PipR.left_to (left := 0) (H := l) (R := []) ?_ _
    exact PipR.first_to (H := []) ⟨A0, 0, c0, buf, s, r, As, cs, h1, h2, h3, h4, ⟨h5, h6⟩, ⟨h7, h8⟩, h9⟩ vA n vc hsv hin
  | cons hh tt =>
    have hhp := hne.head
    simp only [List.headD_cons] at hlen
    have hb := h9.1
    simp only [List.tail_cons] at hb
    refine (send_more tb cb c0 n n0 c 63 s r buf A A0 _ w vA vc w1 hrun hn0 (by omega) k0 k1 k2 f2 (by omega) (by omega) (by omega) h2 (by simp at hT; omega) hlt.2.2).mono ?_
    rintro e w' ⟨rfl, rfl⟩
    refine ⟨rfl, hlast _ (by simp [World.setCell, World.setChan]) ?_, ((Kp.of_ext e1).trans (kp_chan w1 tb cb _ _ _ _ _ _)).trans (kp_cell _ tb cb 2 _)⟩
    rw [hcast]
    have hkc := kp_chan w1 tb cb 63 (buf.push (.slice vA n vc)) false (s + 1) r false
    refine PipR.left_to (left := (hh :: tt).flatten.length) (H := hh) (R := tt ++ [l]) ⟨A0, n0, c0, _, s + 1, r, As, cs, ?_, Conc.heap_setChan w1 cb 63 _ false (s + 1) r false (Array.getElem?_eq_some_iff.1 h2).1, h3, h4,
      ⟨hkc.sees h5 fun a ha hnn => (h6 a ha hnn).2, h6⟩, ⟨hkc.sees h7 fun a ha hnn => (h8 a ha hnn).2, h8⟩, ?_⟩ _
    · simp only [World.setChan]
      rw [Array.getElem?_setIfInBounds_ne (by omega)]
      exact h1
    · refine ⟨by simp; omega, fun j x hx => ?_⟩
      by_cases hj : j < tt.length
      · rw [List.getElem?_append_left hj] at hx
        obtain ⟨A', n', c', g1, g2, g3⟩ := h9.2 j x hx
        exact ⟨A', n', c', by rw [Array.getElem?_push]; rw [if_neg (by omega)]; exact g1, hkc.sees g2 fun a ha hnn => (g3 a ha hnn).2, g3⟩
      · have hj2 := (List.getElem?_eq_some_iff.1 hx).1
        simp at hj2
        obtain rfl : j = tt.length := by omega
        simp at hx
        subst hx
        exact ⟨vA, n, vc, by rw [Array.getElem?_push, if_pos (by omega)], hkc.sees hsv fun a ha hnn => (hin a ha hnn).2, hin⟩
def PFull (w : World) (F : Nat → Prop) (tb cb : Nat) (T : List (List UInt8)) (z : List Int) (at_ : Nat) (e : Ending) (w' : World) : Prop :=
  e = .returned (.int .i64 5) ∧ Pip w' F tb cb T z at_ ∧ Ext w w'
theorem psend_full (F : Nat → Prop) (tb cb : Nat) (T : List (List UInt8)) (z : List Int) (at_ : Nat) (A : Option Addr) (n c : Nat) (l : List UInt8) (w : World) (h : Pip w F tb cb T z at_)
    (hs : Sees w A n c (bs l)) (hl : ¬ l = []) (hT : T.length = 64) (hl1 : T.flatten.length ≤ 100000) (hl2 : l.length ≤ 100000) :
    Calls Try.prog 16 #[.pointer (some ⟨tb, 0, none⟩), .slice A n c] w (PFull w F tb cb T z at_) := by
  have hn : n = l.length := by have := hs.len; rw [bs_length] at this; exact this.symm
  have hn0 : 0 < n := by
    cases l with
    | nil => exact absurd rfl hl
    | cons a l => simp at hn; omega
  obtain ⟨i0, hi, hz0', hz1', hz2'⟩ := info_parts infoB
  obtain ⟨v', w1, hrun, hown, hg, hat⟩ := run_append_sees (P := Try.prog) (w := w) w.heap.size 33 33 5 i0 _ 1 Try.underlying33 hi hz0' hz1' hz2' rfl (.slice none 0 0) 0 [] (World.ownsRow_nil _ _ _ _)
    A n c (bs l) hs (bs_one _) (by unfold maxLen; omega) (by omega) (Nat.le_refl _)
  rw [Nat.zero_add, List.nil_append] at hown
  obtain ⟨vA, vc, rfl, hsv⟩ := Sees.of_own hown
  have e1 : Ext w w1 := (Ext.refl w).grown hg (fun k hk => by cases hk)
  have hp := h.keep (Kp.of_ext e1)
  obtain ⟨hr, hne, h64, hat', hzb, hzl⟩ := hp
  obtain ⟨A0, n0, c0, buf, s, r, As, cs, h1, h2, h3, h4, ⟨h5, h6⟩, ⟨h7, h8⟩, h9⟩ := hr
  have k0 := cell_of_row w1 tb 0 _ _ _ h1
  have k1 := cell_of_row w1 tb 1 _ _ _ h1
  have k2 : w1.cell? ⟨tb, 2, none⟩ = some (.int .i64 (T.flatten.length : Int)) := by rw [cell_of_row w1 tb 2 _ _ _ h1]; rfl
  have f2 := Lib.frozen_of_heap h1 2
  simp at k0 k1
  have hlen := h5.len
  rw [bs_length] at hlen
  cases T with
  | nil => simp at hT
  | cons hh tt =>
    have hhp := hne.head
    simp only [List.headD_cons] at hlen
    have hb := h9.1
    simp only [List.tail_cons] at hb
    refine (send_full tb cb c0 n n0 c 63 s r buf A A0 _ w vA vc w1 hrun hn0 (by omega) k0 k1 k2 f2 (by omega) (by omega) (by omega) h2 (by simp at hT; omega)).mono ?_
    rintro e w' ⟨rfl, rfl⟩
    exact ⟨rfl, h.keep (Kp.of_ext e1), e1⟩
theorem psend_nil (p : Value) (A : Option Addr) (c : Nat) (w : World) : Calls Try.prog 16 #[p, .slice A 0 c] w fun e w' => e = .returned (.int .i64 0) ∧ w = w' :=
  (send_nil p c A w).mono fun e w' h => ⟨h.1, h.2.symm⟩
end Go.Proofs.Ytjdcbmelladceaa
