/-
  Layer 4: words for the statements' loops.
-/
import Derived.Test.YtjajkagpfbemiaaDmI
namespace Go.Proofs.Ytjajkagpfbemiaa
open Go Go.RowKit
set_option linter.unusedVariables false
set_option linter.unusedSimpArgs false
/-- All blocks below S but one. -/
def Blo (S tb : Nat) : Nat → Prop := fun k => k < S ∧ ¬ k = tb
theorem Kp.mono_lt {X X' : Nat → Prop} {a b : World} (h : Kp X a b) (hx : ∀ k, X' k → k < a.heap.size → X k) : Kp X' a b := ⟨h.os, h.tape, h.output, h.size, fun k hk hl => h.block k (hx k hk hl) hl⟩
theorem Sees.old {X : Nat → Prop} {w w2 w' : World} {A : Option Addr} {n c : Nat} {xs : List Value} (h : Sees w A n c xs) (he : Ext w w2) (hk : Kp X w2 w') (hx : ∀ k, k < w.heap.size → X k) : Sees w' A n c xs :=
  hk.sees (h.ext he) fun a ha hn => by
    obtain ⟨b, off, u, hA, _, _, hlt⟩ := h.at_ hn
    rw [ha] at hA
    injection hA with hA
    subst hA
    exact hx _ hlt
theorem SeesI.old {X : Nat → Prop} {w w2 w' : World} {A : Option Addr} {n c : Nat} {zs : List Int} (h : SeesI w A n c zs) (he : Ext w w2) (hk : Kp X w2 w') (hx : ∀ k, k < w.heap.size → X k) : SeesI w' A n c zs := ⟨h.1.old he hk hx, h.2⟩
theorem Ext.kp {X : Nat → Prop} {w w2 w' : World} (he : Ext w w2) (hk : Kp X w2 w') (hx : ∀ k, k < w.heap.size → X k) : Ext w w' :=
  ⟨hk.os.trans he.os, hk.tape.trans he.tape, hk.output.trans he.output, Nat.le_trans he.size hk.size, fun k h => (hk.block k (hx k h) (Nat.lt_of_lt_of_le h he.size)).trans (he.block k h)⟩
theorem Dfm.seesB {w : World} {B : Nat → Prop} {tb m f : Nat} {s : DS} {A : Option Addr} {n c : Nat} {rows : List (List UInt8)} (h : DG w B tb m f s (.slice A n c) rows) (hn : n = rows.length) : SeesB w A n c rows := by
  obtain ⟨A', c', e, hs⟩ := h.toB.sees
  injection e with q1 q2 q3
  subst q1 q3 hn
  exact hs
end Go.Proofs.Ytjajkagpfbemiaa
