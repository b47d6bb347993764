/-
  Plain rules for one statement whose order of evaluation is open: it is checked once that the order of the text stands for every order, and each operation is then met once, in that order.
  'Ext w w2': every block that w has is in w2 as it was. A pure operation has one value in every extension of the world at hand; any other operation must be the only one that may come up.
  Conditions: the region holds no select; the check is a closed Bool.
-/
import Derived.OrdersHeld
import Derived.Below
import Derived.WalkKit
import Derived.RegionTactic
import Derived.Deep.Draws
namespace Go.Proofs.Ytihiclnbbpablaa
open Go Go.RowKit
set_option linter.unusedVariables false
set_option linter.unusedSimpArgs false

/-- What was there is there as it was. -/
def Ext (w w' : World) : Prop := Below w.heap.size w w'
theorem Ext.refl (w : World) : Ext w w := Below.refl _ _
theorem Ext.trans {a b c : World} (h : Ext a b) (k : Ext b c) : Ext a c := Below.trans h (Below.mono k h.size)
theorem Ext.drew {a b : World} (h : Ext a b) : Ext a b.drew := Below.drew h
theorem Ext.drewN {a b : World} (h : Ext a b) (n : Nat) : Ext a (b.drewN n) := ⟨h.os, h.tape, h.output, h.size, h.block⟩
theorem Ext.alloc {a b : World} (h : Ext a b) (o : Obj) : Ext a (b.alloc o) := Below.alloc h h.size o
theorem Ext.of_below {B : Nat} {a b : World} (h : Below B a b) (hB : a.heap.size ≤ B) : Ext a b := Below.mono h hB
theorem Ext.grown {a w w' : World} {row : Option Nat} (h : Ext a w) (hg : w.grownBy w' row) (hr : ∀ k, row = some k → a.heap.size ≤ k) : Ext a w' := Below.grown h hg h.size hr
theorem Ext.setCell {a w : World} (h : Ext a w) {p : Addr} (hp : a.heap.size ≤ p.block) (u : Value) : Ext a (w.setCell p u) := Below.setCell h hp u
theorem Ext.cell {a b : World} (h : Ext a b) {p : Addr} {v : Value} (hc : a.cell? p = some v) : b.cell? p = some v :=
  (Below.cell h (World.block_lt_of_cell? a p hc)).trans hc
theorem Ext.heap {a b : World} (h : Ext a b) {k : Nat} {o : Obj} (hk : a.heap[k]? = some o) : b.heap[k]? = some o :=
  (h.block k (Array.getElem?_eq_some_iff.1 hk).1).trans hk

section
variable {P : Program} {ops : Array Oper} {Q : Exit → Act → World → Prop} {md : Region.Mode} {S S' : World → Prop}

theorem wpAnyH_weak (hS : ∀ w, S' w → S w) : ∀ (fuel : Nat) (listed : Array Bool) (a : Act) (w : World), wpAnyH P md ops Q S' fuel listed a w → wpAnyH P md ops Q S fuel listed a w
  | 0, _, _, _, h => h
  | fuel + 1, _, _, _, h => ⟨h.1, fun i hi => wpOp_mono (fun a' w' h' => ⟨hS _ h'.1, wpAnyH_weak hS fuel _ a' w' h'.2⟩) (h.2 i hi)⟩

/-- May the operations be taken in the order of the text? 'al': those that must be alone. -/
def lexOk (ops : Array Oper) (al : List Nat) : Nat → List Oper → Bool
  | _, [] => true
  | k, o :: rest =>
    (o.after.toList.all fun e => !Region.binds .any e || Nat.blt e.on k) &&
    (if al.contains k then rest.all fun p => p.after.toList.any fun e => Region.binds .any e && Nat.ble k e.on
     else rest.all fun p => (p.after.toList.any fun e => Region.binds .any e && Nat.beq e.on k) || o.apart ops p) && lexOk ops al (k + 1) rest

/-- The steps in the order of the text, at the operations themselves. 'S': the worlds that may come up from here on; each step may say more of them. -/
def wpLexT (P : Program) (ops : Array Oper) (Q : Exit → Act → World → Prop) (al : List Nat) : (World → Prop) → Nat → List Oper → Act → World → Prop
  | _, _, [], a, w => Q .normal a w
  | S, k, o :: rest, a, w => ∃ S' : World → Prop, (∀ w', S' w' → S w') ∧
    if al.contains k then
      (if Region.wanted o (yielded ops a.tmps) then o.wp P a w (fun a' w' => S' w' ∧ wpLexT P ops Q al S' (k + 1) rest a' w') Q else S' w ∧ wpLexT P ops Q al S' (k + 1) rest (a.put o.dst undef) w)
    else S' w ∧ ∃ v, YieldsIf P ops S' o v a ∧ wpLexT P ops Q al S' (k + 1) rest (a.put o.dst v) w
theorem wpLexT_weak {al : List Nat} (hS : ∀ w, S' w → S w) : ∀ (l : List Oper) (k : Nat) (a : Act) (w : World), wpLexT P ops Q al S' k l a w → wpLexT P ops Q al S k l a w
  | [], _, _, _, h => h
  | _ :: _, _, _, _, ⟨S2, h1, h2⟩ => ⟨S2, fun w' hw' => hS w' (h1 w' hw'), h2⟩
/-- The same where nothing that is there is turned. -/
def wpLex (P : Program) (ops : Array Oper) (Q : Exit → Act → World → Prop) (al : List Nat) (k : Nat) (l : List Oper) (a : Act) (w : World) : Prop := wpLexT P ops Q al (Ext w) k l a w

/-- Which have come up: the first k. -/
def First (n k : Nat) (listed : Array Bool) : Prop := listed.size = n ∧ ∀ j (d : Bool), j < n → listed.getD j d = decide (j < k)
theorem First.start (n : Nat) : First n 0 (Array.replicate n false) := ⟨by simp, fun j d hj => by simp [hj]⟩
theorem First.next {n k : Nat} {listed : Array Bool} (h : First n k listed) : First n (k + 1) (listed.setIfInBounds k true) := by
  refine ⟨by simp [h.1], fun j d hj => ?_⟩
  by_cases hkj : k = j
  · subst hkj
    have : k < listed.size := by rw [h.1]; exact hj
    simp [this]
  · have e : (listed.setIfInBounds k true).getD j d = listed.getD j d := by simp [Array.getElem?_setIfInBounds_ne hkj]
    rw [e, h.2 j d hj]
    by_cases h1 : j < k
    · simp [h1, Nat.lt_succ_of_lt h1]
    · simp [h1, show ¬ j < k + 1 from by omega]

theorem wpAnyH_of_lex (al : List Nat) (hs : Region.noSelect ops = true) (hQ : ∀ c a d v w, Q (.panic c) (a.put d v) w → Q (.panic c) a w) :
    ∀ (l : List Oper) (S : World → Prop) (k : Nat) (listed : Array Bool) (a : Act) (w : World), (∀ j, l[j]? = ops[k + j]?) → k + l.length = ops.size → First ops.size k listed → lexOk ops al k l = true →
      wpLexT P ops Q al S k l a w → wpAnyH P .any ops Q S l.length listed a w
  | [], S, k, listed, a, w, hl, hn, hf, hp, h => by
    refine wpAnyH_done ?_ h _
    rw [List.eq_nil_iff_forall_not_mem]
    intro j hj
    obtain ⟨h1, o, ho, _⟩ := mem_ready.1 hj
    have hj : j < ops.size := (Array.getElem?_eq_some_iff.1 ho).1
    rw [hf.2 j true hj] at h1
    have h2 : ¬ j < k := by simpa using h1
    have h3 : k + 0 = ops.size := hn
    omega
  | o :: rest, S, k, listed, a, w, hl, hn, hf, hp, h => by
    have h0 : ops[k]? = some o := by simpa using (hl 0).symm
    have hk : k < ops.size := (Array.getElem?_eq_some_iff.1 h0).1
    have hl' : ∀ j, rest[j]? = ops[k + 1 + j]? := fun j => by have := hl (j + 1); simpa [Nat.add_assoc, Nat.add_comm 1 j] using this
    have hn' : k + 1 + rest.length = ops.size := by rw [← hn, List.length_cons]; omega
    have hlater : ∀ j p, ops[j]? = some p → j ≠ k → ¬ j < k → p ∈ rest := fun j p hj hne hlt => by
      have := hl' (j - (k + 1))
      rw [show k + 1 + (j - (k + 1)) = j from by omega, hj] at this
      exact List.mem_of_getElem? this
    simp only [lexOk, Bool.and_eq_true] at hp
    obtain ⟨⟨h1, h2⟩, h3⟩ := hp
    have hready : k ∈ Region.ready .any ops listed := mem_ready.2 ⟨by rw [hf.2 k true hk]; simp, o, h0, fun e he hb => by
      have := List.all_eq_true.1 h1 e (by simpa using he)
      rw [hb] at this
      have hlt : e.on < k := by
        rcases Bool.or_eq_true _ _ ▸ this with h | h
        · cases h
        · exact Nat.le_of_ble_eq_true h
      rw [hf.2 e.on false (by omega)]
      simpa using hlt⟩
    simp only [List.length_cons]
    unfold wpLexT at h
    obtain ⟨S', hSS, h⟩ := h
    refine wpAnyH_weak hSS _ _ _ _ ?_
    cases hc : al.contains k with
    | true =>
      rw [hc, if_pos rfl] at h h2
      refine ⟨fun hr => (by rw [hr] at hready; cases hready), fun j hj => ?_⟩
      have hjk : j = k := by
        obtain ⟨g1, p, g2, g3⟩ := mem_ready.1 hj
        have hjs : j < ops.size := (Array.getElem?_eq_some_iff.1 g2).1
        rw [hf.2 j true hjs] at g1
        have g1' : ¬ j < k := by simpa using g1
        rcases Nat.lt_or_ge k j with hlt | hge
        · obtain ⟨e, he, hb⟩ := List.any_eq_true.1 (List.all_eq_true.1 h2 p (hlater j p g2 (by omega) g1'))
          simp only [Bool.and_eq_true] at hb
          have g4 := g3 e (by simpa using he) hb.1
          have g5 : k ≤ e.on := Nat.le_of_ble_eq_true hb.2
          rcases Nat.lt_or_ge e.on ops.size with hes | hes
          · rw [hf.2 e.on false hes] at g4
            have : e.on < k := by simpa using g4
            omega
          · have hsz : listed.size ≤ e.on := by rw [hf.1]; exact hes
            simp [Array.getElem?_eq_none hsz] at g4
        · omega
      subst hjk
      simp only [wpOp, h0]
      have key : ∀ a' w', S' w' → wpLexT P ops Q al S' (j + 1) rest a' w' → S' w' ∧ wpAnyH P .any ops Q S' rest.length (listed.setIfInBounds j true) a' w' := fun a' w' he hk' =>
        ⟨he, wpAnyH_of_lex al hs hQ rest S' (j + 1) _ a' w' hl' hn' hf.next h3 hk'⟩
      by_cases hw : Region.wanted o (yielded ops a.tmps) = true
      · rw [if_pos hw] at h
        rw [if_pos hw]
        exact .inl (Oper.wp_mono (fun a' w' ⟨he, hk'⟩ => key a' w' he hk') h)
      · rw [if_neg hw] at h
        rw [if_neg hw]
        exact key _ _ h.1 h.2
    | false =>
      rw [hc, if_neg Bool.false_ne_true] at h h2
      obtain ⟨hw0, v, hy, hk'⟩ := h
      refine wpAnyH_first h0 (Region.noSelect_spec hs) (fun c a w => hQ c a _ _ w) rest.length listed a w (fun j p hj hne hun hno => ?_) hready hy hw0 (wpAnyH_of_lex al hs hQ rest S' (k + 1) _ _ w hl' hn' hf.next h3 hk')
      have hjs : j < ops.size := (Array.getElem?_eq_some_iff.1 hj).1
      rw [hf.2 j true hjs] at hun
      have hun' : ¬ j < k := by simpa using hun
      rcases Bool.or_eq_true _ _ ▸ List.all_eq_true.1 h2 p (hlater j p hj hne hun') with g | g
      · obtain ⟨e, he, hb⟩ := List.any_eq_true.1 g
        simp only [Bool.and_eq_true] at hb
        exact absurd (Nat.eq_of_beq_eq_true hb.2) (hno e (by simpa using he) hb.1)
      · exact g

/-- Q at the normal end alone. -/
def Norm (Q : Exit → Act → World → Prop) : Exit → Act → World → Prop
  | .normal, a, w => Q .normal a w
  | _, _, _ => False
theorem Norm.imp {Q : Exit → Act → World → Prop} : ∀ (e : Exit) (a : Act) (w : World), Norm Q e a w → Q e a w := fun e a w h => by
  cases e <;> first | exact h | exact (h : False).elim

/-- The beginning, in the order of the text. -/
theorem wp_region_lexT {id : Nat} {a : Act} {w : World} {l : List Oper} (S : World → Prop) (al : List Nat) (hm : P.follows .mixedOrders = true) (hs : Region.noSelect l.toArray = true)
    (hp : lexOk l.toArray al 0 l = true) (h : wpLexT P l.toArray (Norm Q) al S 0 l a w.drew) : (Code.region id l.toArray true).wp P Q a w := by
  refine Code.wp_mono Norm.imp (wp_region_held (S := S) hm ?_)
  have := wpAnyH_of_lex (P := P) al hs (fun _ _ _ _ _ h => h) l S 0 (Array.replicate l.toArray.size false) a w.drew (by simp) (by simp) (First.start _) hp h
  rw [List.size_toArray] at this ⊢
  exact this
theorem wp_region_lex {id : Nat} {a : Act} {w : World} {l : List Oper} (al : List Nat) (hm : P.follows .mixedOrders = true) (hs : Region.noSelect l.toArray = true)
    (hp : lexOk l.toArray al 0 l = true) (h : wpLex P l.toArray (Norm Q) al 0 l a w.drew) : (Code.region id l.toArray true).wp P Q a w :=
  wp_region_lexT _ al hm hs hp h
/-- The same where the operations may turn what is there. -/
theorem wp_region_lexU {id : Nat} {a : Act} {w : World} {l : List Oper} (al : List Nat) (hm : P.follows .mixedOrders = true) (hs : Region.noSelect l.toArray = true)
    (hp : lexOk l.toArray al 0 l = true) (h : wpLexT P l.toArray (Norm Q) al (fun _ => True) 0 l a w.drew) : (Code.region id l.toArray true).wp P Q a w :=
  wp_region_lexT _ al hm hs hp h

/-! The steps. -/
section
variable {al : List Nat} {k : Nat} {rest : List Oper} {a : Act} {w : World} {o : Oper}
theorem lex_done (h : Q .normal a w) : wpLex P ops (Norm Q) al k [] a w := h
theorem lexU_done {S : World → Prop} (h : Q .normal a w) : wpLexT P ops (Norm Q) al S k [] a w := h
/-- From here on nothing that is there is turned. -/
theorem lexU_ext {l : List Oper} (h : wpLex P ops Q al k l a w) : wpLexT P ops Q al (fun _ => True) k l a w := wpLexT_weak (fun _ _ => trivial) _ _ _ _ h
/-- A pure operation that is wanted. -/
theorem lex_val (v : Value) (hc : al.contains k = false) (hw : Region.wanted o (yielded ops a.tmps) = true)
    (hv : ∀ w', Ext w w' → (execOp a.eval o).run P w' = .ok (.value v) w') (hk : wpLex P ops Q al (k + 1) rest (a.put o.dst v) w) : wpLex P ops Q al k (o :: rest) a w := by
  unfold wpLex at hk ⊢
  unfold wpLexT
  refine ⟨Ext w, fun _ h => h, ?_⟩
  rw [hc, if_neg Bool.false_ne_true]
  exact ⟨Ext.refl w, v, .inl ⟨hw, hv⟩, hk⟩
theorem lexU_val (v : Value) (hc : al.contains k = false) (hw : Region.wanted o (yielded ops a.tmps) = true)
    (hv : ∀ w', (execOp a.eval o).run P w' = .ok (.value v) w') (hk : wpLexT P ops Q al (fun _ => True) (k + 1) rest (a.put o.dst v) w) : wpLexT P ops Q al (fun _ => True) k (o :: rest) a w := by
  unfold wpLexT
  refine ⟨fun _ => True, fun _ h => h, ?_⟩
  rw [hc, if_neg Bool.false_ne_true]
  exact ⟨trivial, v, .inl ⟨hw, fun w' _ => hv w'⟩, hk⟩
/-- An operation that is passed over. -/
theorem lex_skip (hw : Region.wanted o (yielded ops a.tmps) = false) (hk : wpLex P ops Q al (k + 1) rest (a.put o.dst undef) w) : wpLex P ops Q al k (o :: rest) a w := by
  unfold wpLex at hk ⊢
  unfold wpLexT
  refine ⟨Ext w, fun _ h => h, ?_⟩
  split
  · rw [hw, if_neg Bool.false_ne_true]
    exact ⟨Ext.refl w, hk⟩
  · exact ⟨Ext.refl w, undef, .inr ⟨hw, rfl⟩, hk⟩
theorem lexU_skip (hw : Region.wanted o (yielded ops a.tmps) = false) (hk : wpLexT P ops Q al (fun _ => True) (k + 1) rest (a.put o.dst undef) w) : wpLexT P ops Q al (fun _ => True) k (o :: rest) a w := by
  unfold wpLexT
  refine ⟨fun _ => True, fun _ h => h, ?_⟩
  split
  · rw [hw, if_neg Bool.false_ne_true]
    exact ⟨trivial, hk⟩
  · exact ⟨trivial, undef, .inr ⟨hw, rfl⟩, hk⟩
/-- An operation that is alone, run to a value in some world. -/
theorem lex_run {w' : World} (v : Value) (hc : al.contains k = true) (hw : Region.wanted o (yielded ops a.tmps) = true)
    (hv : (execOp a.eval o).run P w = .ok (.value v) w') (he : Ext w w') (hk : wpLex P ops Q al (k + 1) rest (a.put o.dst v) w') : wpLex P ops Q al k (o :: rest) a w := by
  unfold wpLex at hk ⊢
  unfold wpLexT
  refine ⟨Ext w, fun _ h => h, ?_⟩
  rw [hc, if_pos rfl, hw, if_pos rfl]
  simp only [Oper.wp, hv, Oper.upon]
  exact ⟨he, wpLexT_weak (fun w'' hw'' => he.trans hw'') _ _ _ _ hk⟩
theorem lexU_run {w' : World} (v : Value) (hc : al.contains k = true) (hw : Region.wanted o (yielded ops a.tmps) = true)
    (hv : (execOp a.eval o).run P w = .ok (.value v) w') (hk : wpLexT P ops Q al (fun _ => True) (k + 1) rest (a.put o.dst v) w') : wpLexT P ops Q al (fun _ => True) k (o :: rest) a w := by
  unfold wpLexT
  refine ⟨fun _ => True, fun _ h => h, ?_⟩
  rw [hc, if_pos rfl, hw, if_pos rfl]
  simp only [Oper.wp, hv, Oper.upon]
  exact ⟨trivial, hk⟩
/-- A call of a Go function that is alone. -/
theorem lex_call (f : FuncId) (args : Array Value) (hc : al.contains k = true) (hw : Region.wanted o (yielded ops a.tmps) = true)
    (hv : (execOp a.eval o).run P w = .ok (.enter f args) w)
    (hk : Calls P f args w fun e w' => ∃ v, e = .returned v ∧ Ext w w' ∧ wpLex P ops Q al (k + 1) rest (a.put o.dst v) w') : wpLex P ops Q al k (o :: rest) a w := by
  unfold wpLex at hk ⊢
  unfold wpLexT
  refine ⟨Ext w, fun _ h => h, ?_⟩
  rw [hc, if_pos rfl, hw, if_pos rfl]
  simp only [Oper.wp, hv, Oper.upon]
  refine hk.mono fun e w' ⟨v, he, h1, h2⟩ => ?_
  subst he
  exact ⟨h1, wpLexT_weak (fun w'' hw'' => h1.trans hw'') _ _ _ _ h2⟩
theorem lexU_call (f : FuncId) (args : Array Value) (hc : al.contains k = true) (hw : Region.wanted o (yielded ops a.tmps) = true)
    (hv : (execOp a.eval o).run P w = .ok (.enter f args) w)
    (hk : Calls P f args w fun e w' => ∃ v, e = .returned v ∧ wpLexT P ops Q al (fun _ => True) (k + 1) rest (a.put o.dst v) w') : wpLexT P ops Q al (fun _ => True) k (o :: rest) a w := by
  unfold wpLexT
  refine ⟨fun _ => True, fun _ h => h, ?_⟩
  rw [hc, if_pos rfl, hw, if_pos rfl]
  simp only [Oper.wp, hv, Oper.upon]
  refine hk.mono fun e w' ⟨v, he, h2⟩ => ?_
  subst he
  exact ⟨trivial, h2⟩
end
end
end Go.Proofs.Ytihiclnbbpablaa
