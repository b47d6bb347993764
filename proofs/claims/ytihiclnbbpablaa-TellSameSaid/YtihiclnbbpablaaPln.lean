/-
  One statement whose order of evaluation is open, by a plan: operations that may be taken at any time, taken first; operations that are alone; and two that may come in either order, each way for itself.
-/
import Derived.Test.YtihiclnbbpablaaQui
namespace Go.Proofs.Ytihiclnbbpablaa
open Go Go.RowKit
set_option linter.unusedVariables false
set_option linter.unusedSimpArgs false

inductive Pl where
  | nil
  | free (i : Nat) (r : Pl)
  | one (i : Nat) (r : Pl)
  | fork (i j : Nat) (a b : Pl)
def Pl.depth : Pl → Nat
  | .nil => 0
  | .free _ r => r.depth + 1
  | .one _ r => r.depth + 1
  | .fork _ _ a b => max a.depth b.depth + 1
/-- May an operation come up now? -/
def upB (l : List Oper) (done : List Nat) (i : Nat) : Bool := match l[i]? with
  | none => false
  | some o => !done.contains i && (o.after.toList.all fun e => !Region.binds .any e || done.contains e.on)
/-- May an operation not come up yet? -/
def offB (l : List Oper) (done : List Nat) (j : Nat) : Bool := match l[j]? with
  | some p => p.after.toList.any fun e => Region.binds .any e && !done.contains e.on
  | none => false
def freeB (l : List Oper) (i j : Nat) : Bool := match l[i]?, l[j]? with
  | some o, some p => (p.after.toList.any fun e => Region.binds .any e && Nat.beq e.on i) || o.apart l.toArray p
  | _, _ => false
def Pl.ok (l : List Oper) : List Nat → Pl → Bool
  | done, .nil => (List.range l.length).all fun j => done.contains j
  | done, .free i r => upB l done i && ((List.range l.length).all fun j => Nat.beq j i || done.contains j || freeB l i j) && r.ok l (i :: done)
  | done, .one i r => upB l done i && ((List.range l.length).all fun j => Nat.beq j i || done.contains j || offB l done j) && r.ok l (i :: done)
  | done, .fork i j a b => upB l done i && upB l done j && ((List.range l.length).all fun k => Nat.beq k i || Nat.beq k j || done.contains k || offB l done k) && a.ok l (i :: done) && b.ok l (j :: done)
section
variable {P : Program} {l : List Oper} {Q : Exit → Act → World → Prop}
def stepP (P : Program) (l : List Oper) (Q : Exit → Act → World → Prop) (S : World → Prop) (i : Nat) (K : (World → Prop) → Act → World → Prop) (a : Act) (w : World) : Prop :=
  ∃ S' : World → Prop, (∀ w', S' w' → S w') ∧ ∃ o, l[i]? = some o ∧
    if Region.wanted o (yielded l.toArray a.tmps) then o.wp P a w (fun a' w' => S' w' ∧ K S' a' w') Q else S' w ∧ K S' (a.put o.dst undef) w
def Pl.wp (P : Program) (l : List Oper) (Q : Exit → Act → World → Prop) : Pl → (World → Prop) → Act → World → Prop
  | .nil, S, a, w => Q .normal a w
  | .free i r, S, a, w => ∃ S' : World → Prop, (∀ w', S' w' → S w') ∧ ∃ o, l[i]? = some o ∧ S' w ∧ ∃ v, EvenIf P l.toArray S' o v a ∧ r.wp P l Q S' (a.put o.dst v) w
  | .one i r, S, a, w => stepP P l Q S i (fun S' => r.wp P l Q S') a w
  | .fork i j x y, S, a, w => stepP P l Q S i (fun S' => x.wp P l Q S') a w ∧ stepP P l Q S j (fun S' => y.wp P l Q S') a w
theorem stepP_weak {S S' : World → Prop} (hS : ∀ w, S' w → S w) {i : Nat} {K : (World → Prop) → Act → World → Prop} {a : Act} {w : World} (h : stepP P l Q S' i K a w) : stepP P l Q S i K a w := by
  obtain ⟨S2, h1, h2⟩ := h
  exact ⟨S2, fun w' hw' => hS w' (h1 w' hw'), h2⟩
theorem Pl.weak {S S' : World → Prop} (hS : ∀ w, S' w → S w) : ∀ (p : Pl) (a : Act) (w : World), p.wp P l Q S' a w → p.wp P l Q S a w
  | .nil, a, w, h => h
  | .free i r, a, w, ⟨S2, h1, h2⟩ => ⟨S2, fun w' hw' => hS w' (h1 w' hw'), h2⟩
  | .one i r, a, w, h => stepP_weak hS h
  | .fork i j x y, a, w, h => ⟨stepP_weak hS h.1, stepP_weak hS h.2⟩
theorem up_spec {done : List Nat} {listed : Array Bool} (hd : Done l.length done listed) {i : Nat} (h : upB l done i = true) : ∃ o, l[i]? = some o ∧ done.contains i = false ∧ i < l.length ∧ i ∈ Region.ready .any l.toArray listed := by
  unfold upB at h
  cases ho : l[i]? with
  | none => rw [ho] at h; cases h
  | some o =>
    rw [ho] at h
    simp only [Bool.and_eq_true] at h
    have hi : i < l.length := (List.getElem?_eq_some_iff.1 ho).1
    have ho' : l.toArray[i]? = some o := by simpa using ho
    have h0 : done.contains i = false := by simpa using h.1
    refine ⟨o, rfl, h0, hi, mem_ready.2 ⟨by rw [hd.2.1 i true hi]; exact h0, o, ho', fun e he hb => ?_⟩⟩
    have := List.all_eq_true.1 h.2 e (by simpa using he)
    rw [hb] at this
    have hc : done.contains e.on = true := by simpa using this
    rw [hd.2.1 e.on false (hd.2.2 e.on (by simpa using hc))]
    exact hc
theorem off_spec {done : List Nat} {listed : Array Bool} (hd : Done l.length done listed) {j : Nat} (h : offB l done j = true) : j ∉ Region.ready .any l.toArray listed := by
  intro hj
  obtain ⟨g1, p, g2, g3⟩ := mem_ready.1 hj
  have hjl : l[j]? = some p := by simpa using g2
  unfold offB at h
  rw [hjl] at h
  obtain ⟨e, he, hb⟩ := List.any_eq_true.1 h
  simp only [Bool.and_eq_true] at hb
  have g4 := g3 e (by simpa using he) hb.1
  have hnc : done.contains e.on = false := by simpa using hb.2
  rcases Nat.lt_or_ge e.on l.length with hes | hes
  · rw [hd.2.1 e.on false hes, hnc] at g4
    cases g4
  · have hsz : listed.size ≤ e.on := by rw [hd.1]; exact hes
    simp [Array.getElem?_eq_none hsz] at g4
theorem ready_lt {done : List Nat} {listed : Array Bool} (hd : Done l.length done listed) {j : Nat} (hj : j ∈ Region.ready .any l.toArray listed) : j < l.length ∧ done.contains j = false := by
  obtain ⟨g1, p, g2, g3⟩ := mem_ready.1 hj
  have hjs : j < l.length := by simpa using (Array.getElem?_eq_some_iff.1 g2).1
  rw [hd.2.1 j true hjs] at g1
  exact ⟨hjs, g1⟩
theorem step_of {S : World → Prop} {i : Nat} {K : (World → Prop) → Act → World → Prop} {a : Act} {w : World} {fuel : Nat} {listed : Array Bool} (h : stepP P l Q S i K a w)
    (hK : ∀ S' a' w', (∀ w', S' w' → S w') → K S' a' w' → wpAnyH P .any l.toArray Q S' fuel (listed.setIfInBounds i true) a' w') : wpOp P l.toArray Q i (fun a' w' => S w' ∧ wpAnyH P .any l.toArray Q S fuel (listed.setIfInBounds i true) a' w') a w := by
  obtain ⟨S', hSS, o, ho, h⟩ := h
  have ho' : l.toArray[i]? = some o := by simpa using ho
  simp only [wpOp, ho']
  have key : ∀ a' w', S' w' → K S' a' w' → S w' ∧ wpAnyH P .any l.toArray Q S fuel (listed.setIfInBounds i true) a' w' := fun a' w' he hk =>
    ⟨hSS _ he, wpAnyH_weak hSS _ _ _ _ (hK S' a' w' hSS hk)⟩
  by_cases hw : Region.wanted o (yielded l.toArray a.tmps) = true
  · rw [if_pos hw] at h
    rw [if_pos hw]
    exact .inl (Oper.wp_mono (fun a' w' ⟨he, hk⟩ => key a' w' he hk) h)
  · rw [if_neg hw] at h
    rw [if_neg hw]
    exact key _ _ h.1 h.2
theorem wpAnyH_of_pl (hs : Region.noSelect l.toArray = true) (hQ : ∀ c a d v w, Q (.panic c) (a.put d v) w → Q (.panic c) a w) :
    ∀ (p : Pl) (S : World → Prop) (done : List Nat) (listed : Array Bool) (fuel : Nat) (a : Act) (w : World), Done l.length done listed → p.ok l done = true → p.depth ≤ fuel →
      p.wp P l Q S a w → wpAnyH P .any l.toArray Q S fuel listed a w
  | .nil, S, done, listed, fuel, a, w, hd, hp, hf, h => by
    refine wpAnyH_done ?_ h _
    rw [List.eq_nil_iff_forall_not_mem]
    intro j hj
    obtain ⟨hj', h1⟩ := ready_lt hd hj
    have := List.all_eq_true.1 hp j (List.mem_range.2 hj')
    rw [h1] at this
    cases this
  | .free i r, S, done, listed, 0, a, w, hd, hp, hf, h => absurd hf (by simp [Pl.depth])
  | .one i r, S, done, listed, 0, a, w, hd, hp, hf, h => absurd hf (by simp [Pl.depth])
  | .fork i j x y, S, done, listed, 0, a, w, hd, hp, hf, h => absurd hf (by simp [Pl.depth])
  | .free i r, S, done, listed, fuel + 1, a, w, hd, hp, hf, h => by
    simp only [Pl.ok, Bool.and_eq_true] at hp
    obtain ⟨⟨h1, h2⟩, h3⟩ := hp
    obtain ⟨o, ho, h0, hi, hready⟩ := up_spec hd h1
    obtain ⟨S', hSS, o', ho2, hw0, v, hy, hk'⟩ := h
    rw [ho] at ho2
    injection ho2 with ho2
    subst ho2
    have ho' : l.toArray[i]? = some o := by simpa using ho
    refine wpAnyH_weak hSS _ _ _ _ ?_
    refine wpAnyH_firstQ ho' (Region.noSelect_spec hs) (fun c a w => hQ c a _ _ w) fuel listed a w (fun j p hj hne hun hno => ?_) hready hy hw0 (wpAnyH_of_pl hs hQ r S' (i :: done) _ fuel _ w (hd.next hi) h3 (by simp [Pl.depth] at hf; omega) hk')
    have hjs : j < l.length := by simpa using (Array.getElem?_eq_some_iff.1 hj).1
    rw [hd.2.1 j true hjs] at hun
    have q3 := List.all_eq_true.1 h2 j (List.mem_range.2 hjs)
    rw [hun] at q3
    have hb : Nat.beq j i = false := by
      cases hb : Nat.beq j i with
      | false => rfl
      | true => exact absurd (Nat.eq_of_beq_eq_true hb) hne
    rw [hb] at q3
    have hjl : l[j]? = some p := by simpa using hj
    simp only [Bool.false_or] at q3
    unfold freeB at q3
    rw [ho, hjl] at q3
    rcases Bool.or_eq_true _ _ ▸ q3 with g | g
    · obtain ⟨e, he, hb⟩ := List.any_eq_true.1 g
      simp only [Bool.and_eq_true] at hb
      exact absurd (Nat.eq_of_beq_eq_true hb.2) (hno e (by simpa using he) hb.1)
    · exact g
  | .one i r, S, done, listed, fuel + 1, a, w, hd, hp, hf, h => by
    simp only [Pl.ok, Bool.and_eq_true] at hp
    obtain ⟨⟨h1, h2⟩, h3⟩ := hp
    obtain ⟨o, ho, h0, hi, hready⟩ := up_spec hd h1
    refine ⟨fun hr => (by rw [hr] at hready; cases hready), fun j hj => ?_⟩
    obtain ⟨hjl, hjd⟩ := ready_lt hd hj
    have hji : j = i := by
      by_cases hne : j = i
      · exact hne
      · have q3 := List.all_eq_true.1 h2 j (List.mem_range.2 hjl)
        rw [hjd] at q3
        have hb : Nat.beq j i = false := by
          cases hb : Nat.beq j i with
          | false => rfl
          | true => exact absurd (Nat.eq_of_beq_eq_true hb) hne
        rw [hb] at q3
        exact absurd hj (off_spec hd (by simpa using q3))
    subst hji
    exact step_of h fun S' a' w' hSS hk => wpAnyH_of_pl hs hQ r S' (j :: done) _ fuel a' w' (hd.next hi) h3 (by simp [Pl.depth] at hf; omega) hk
  | .fork i j x y, S, done, listed, fuel + 1, a, w, hd, hp, hf, h => by
    simp only [Pl.ok, Bool.and_eq_true] at hp
    obtain ⟨⟨⟨⟨h1, h1'⟩, h2⟩, h3⟩, h4⟩ := hp
    obtain ⟨o, ho, h0, hi, hready⟩ := up_spec hd h1
    obtain ⟨o', ho', h0', hi', hready'⟩ := up_spec hd h1'
    refine ⟨fun hr => (by rw [hr] at hready; cases hready), fun k hk => ?_⟩
    obtain ⟨hkl, hkd⟩ := ready_lt hd hk
    by_cases hki : k = i
    · subst hki
      exact step_of h.1 fun S' a' w' hSS hk' => wpAnyH_of_pl hs hQ x S' (k :: done) _ fuel a' w' (hd.next hi) h3 (by simp [Pl.depth] at hf; omega) hk'
    · by_cases hkj : k = j
      · subst hkj
        exact step_of h.2 fun S' a' w' hSS hk' => wpAnyH_of_pl hs hQ y S' (k :: done) _ fuel a' w' (hd.next hi') h4 (by simp [Pl.depth] at hf; omega) hk'
      · have q3 := List.all_eq_true.1 h2 k (List.mem_range.2 hkl)
        have nb : ∀ x, ¬ k = x → Nat.beq k x = false := fun x hx => by
          cases hb : Nat.beq k x with
          | false => rfl
          | true => exact absurd (Nat.eq_of_beq_eq_true hb) hx
        rw [hkd, nb i hki, nb j hkj] at q3
        exact absurd hk (off_spec hd (by simpa using q3))
/-- The plan in worlds that only grow. -/
def wpPl (P : Program) (l : List Oper) (Q : Exit → Act → World → Prop) (p : Pl) (a : Act) (w : World) : Prop := p.wp P l Q (Ext w) a w
/-- The plan in any worlds. -/
def wpPlU (P : Program) (l : List Oper) (Q : Exit → Act → World → Prop) (p : Pl) (a : Act) (w : World) : Prop := p.wp P l Q (fun _ => True) a w
theorem wp_region_plU {id : Nat} {a : Act} {w : World} (p : Pl) (hm : P.follows .mixedOrders = true) (hs : Region.noSelect l.toArray = true) (hf : Nat.ble p.depth l.length = true)
    (hp : p.ok l [] = true) (h : wpPlU P l (Norm Q) p a w.drew) : (Code.region id l.toArray true).wp P Q a w := by
  refine Code.wp_mono Norm.imp (wp_region_held (S := fun _ => True) hm ?_)
  have := wpAnyH_of_pl (P := P) hs (fun _ _ _ _ _ h => h) p (fun _ => True) [] (Array.replicate l.length false) l.length a w.drew (Done.start _) hp (Nat.le_of_ble_eq_true hf) h
  rw [List.size_toArray]
  exact this
theorem wp_region_pl {id : Nat} {a : Act} {w : World} (p : Pl) (hm : P.follows .mixedOrders = true) (hs : Region.noSelect l.toArray = true) (hf : Nat.ble p.depth l.length = true)
    (hp : p.ok l [] = true) (h : wpPl P l (Norm Q) p a w.drew) : (Code.region id l.toArray true).wp P Q a w :=
  wp_region_plU p hm hs hf hp (Pl.weak (fun _ _ => trivial) _ _ _ h)
section
variable {a : Act} {w : World} {o : Oper} {i j : Nat} {r x y : Pl}
theorem pl_done (h : Q .normal a w) : wpPl P l (Norm Q) .nil a w := h
theorem plU_done (h : Q .normal a w) : wpPlU P l (Norm Q) .nil a w := h
theorem pl_val (v : Value) (ho : l[i]? = some o) (hw : Region.wanted o (yielded l.toArray a.tmps) = true)
    (hv : ∀ w', Ext w w' → (execOp a.eval o).run P w' = .ok (.value v) w') (hk : wpPl P l Q r (a.put o.dst v) w) : wpPl P l Q (.free i r) a w :=
  ⟨Ext w, fun _ h => h, o, ho, Ext.refl w, v, .inl (.inl ⟨hw, hv⟩), hk⟩
theorem plU_val (v : Value) (ho : l[i]? = some o) (hw : Region.wanted o (yielded l.toArray a.tmps) = true)
    (hv : ∀ w', (execOp a.eval o).run P w' = .ok (.value v) w') (hk : wpPlU P l Q r (a.put o.dst v) w) : wpPlU P l Q (.free i r) a w :=
  ⟨fun _ => True, fun _ h => h, o, ho, trivial, v, .inl (.inl ⟨hw, fun w' _ => hv w'⟩), hk⟩
theorem pl_even (f : FuncId) (args : Array Value) (v : Value) (ho : l[i]? = some o) (hw : Region.wanted o (yielded l.toArray a.tmps) = true)
    (hv : ∀ w', Ext w w' → (execOp a.eval o).run P w' = .ok (.enter f args) w') (hcall : ∀ w', Ext w w' → Calls P f args w' fun e w'' => e = .returned v ∧ w' = w'')
    (hk : wpPl P l Q r (a.put o.dst v) w) : wpPl P l Q (.free i r) a w :=
  ⟨Ext w, fun _ h => h, o, ho, Ext.refl w, v, .inr ⟨hw, fun w' he => ⟨f, args, hv w' he, (hcall w' he).mono fun e w'' h => ⟨h.1, h.2.symm⟩⟩⟩, hk⟩
theorem plU_even (f : FuncId) (args : Array Value) (v : Value) (ho : l[i]? = some o) (hw : Region.wanted o (yielded l.toArray a.tmps) = true)
    (hv : ∀ w', (execOp a.eval o).run P w' = .ok (.enter f args) w') (hcall : ∀ w', Calls P f args w' fun e w'' => e = .returned v ∧ w' = w'')
    (hk : wpPlU P l Q r (a.put o.dst v) w) : wpPlU P l Q (.free i r) a w :=
  ⟨fun _ => True, fun _ h => h, o, ho, trivial, v, .inr ⟨hw, fun w' _ => ⟨f, args, hv w', (hcall w').mono fun e w'' h => ⟨h.1, h.2.symm⟩⟩⟩, hk⟩
theorem pl_skip (ho : l[i]? = some o) (hw : Region.wanted o (yielded l.toArray a.tmps) = false) (hk : wpPl P l Q r (a.put o.dst undef) w) : wpPl P l Q (.free i r) a w :=
  ⟨Ext w, fun _ h => h, o, ho, Ext.refl w, undef, .inl (.inr ⟨hw, rfl⟩), hk⟩
theorem plU_skip (ho : l[i]? = some o) (hw : Region.wanted o (yielded l.toArray a.tmps) = false) (hk : wpPlU P l Q r (a.put o.dst undef) w) : wpPlU P l Q (.free i r) a w :=
  ⟨fun _ => True, fun _ h => h, o, ho, trivial, undef, .inl (.inr ⟨hw, rfl⟩), hk⟩
theorem pl_skip1 (ho : l[i]? = some o) (hw : Region.wanted o (yielded l.toArray a.tmps) = false) (hk : wpPl P l Q r (a.put o.dst undef) w) : wpPl P l Q (.one i r) a w :=
  ⟨Ext w, fun _ h => h, o, ho, by rw [hw, if_neg Bool.false_ne_true]; exact ⟨Ext.refl w, hk⟩⟩
theorem pl_run {w' : World} (v : Value) (ho : l[i]? = some o) (hw : Region.wanted o (yielded l.toArray a.tmps) = true)
    (hv : (execOp a.eval o).run P w = .ok (.value v) w') (he : Ext w w') (hk : wpPl P l Q r (a.put o.dst v) w') : wpPl P l Q (.one i r) a w := by
  refine ⟨Ext w, fun _ h => h, o, ho, ?_⟩
  rw [hw, if_pos rfl]
  simp only [Oper.wp, hv, Oper.upon]
  exact ⟨he, Pl.weak (fun w'' hw'' => he.trans hw'') _ _ _ hk⟩
theorem plU_run {w' : World} (v : Value) (ho : l[i]? = some o) (hw : Region.wanted o (yielded l.toArray a.tmps) = true)
    (hv : (execOp a.eval o).run P w = .ok (.value v) w') (hk : wpPlU P l Q r (a.put o.dst v) w') : wpPlU P l Q (.one i r) a w := by
  refine ⟨fun _ => True, fun _ h => h, o, ho, ?_⟩
  rw [hw, if_pos rfl]
  simp only [Oper.wp, hv, Oper.upon]
  exact ⟨trivial, hk⟩
/-- An operation that gives no value (a store), alone. -/
theorem pl_void {w' : World} (ho : l[i]? = some o) (hw : Region.wanted o (yielded l.toArray a.tmps) = true)
    (hv : (execOp a.eval o).run P w = .ok .skip w') (he : Ext w w') (hk : wpPl P l Q r (a.put o.dst undef) w') : wpPl P l Q (.one i r) a w := by
  refine ⟨Ext w, fun _ h => h, o, ho, ?_⟩
  rw [hw, if_pos rfl]
  simp only [Oper.wp, hv, Oper.upon]
  exact ⟨he, Pl.weak (fun w'' hw'' => he.trans hw'') _ _ _ hk⟩
theorem plU_void {w' : World} (ho : l[i]? = some o) (hw : Region.wanted o (yielded l.toArray a.tmps) = true)
    (hv : (execOp a.eval o).run P w = .ok .skip w') (hk : wpPlU P l Q r (a.put o.dst undef) w') : wpPlU P l Q (.one i r) a w := by
  refine ⟨fun _ => True, fun _ h => h, o, ho, ?_⟩
  rw [hw, if_pos rfl]
  simp only [Oper.wp, hv, Oper.upon]
  exact ⟨trivial, hk⟩
theorem pl_call (f : FuncId) (args : Array Value) (ho : l[i]? = some o) (hw : Region.wanted o (yielded l.toArray a.tmps) = true)
    (hv : (execOp a.eval o).run P w = .ok (.enter f args) w)
    (hk : Calls P f args w fun e w' => ∃ v, e = .returned v ∧ Ext w w' ∧ wpPl P l Q r (a.put o.dst v) w') : wpPl P l Q (.one i r) a w := by
  refine ⟨Ext w, fun _ h => h, o, ho, ?_⟩
  rw [hw, if_pos rfl]
  simp only [Oper.wp, hv, Oper.upon]
  refine hk.mono fun e w' ⟨v, he, h1, h2⟩ => ?_
  subst he
  exact ⟨h1, Pl.weak (fun w'' hw'' => h1.trans hw'') _ _ _ h2⟩
theorem plU_call (f : FuncId) (args : Array Value) (ho : l[i]? = some o) (hw : Region.wanted o (yielded l.toArray a.tmps) = true)
    (hv : (execOp a.eval o).run P w = .ok (.enter f args) w)
    (hk : Calls P f args w fun e w' => ∃ v, e = .returned v ∧ wpPlU P l Q r (a.put o.dst v) w') : wpPlU P l Q (.one i r) a w := by
  refine ⟨fun _ => True, fun _ h => h, o, ho, ?_⟩
  rw [hw, if_pos rfl]
  simp only [Oper.wp, hv, Oper.upon]
  refine hk.mono fun e w' ⟨v, he, h2⟩ => ?_
  subst he
  exact ⟨trivial, h2⟩
theorem pl_fork (h1 : wpPl P l Q (.one i x) a w) (h2 : wpPl P l Q (.one j y) a w) : wpPl P l Q (.fork i j x y) a w := ⟨h1, h2⟩
theorem plU_fork (h1 : wpPlU P l Q (.one i x) a w) (h2 : wpPlU P l Q (.one j y) a w) : wpPlU P l Q (.fork i j x y) a w := ⟨h1, h2⟩
/-- From here on nothing that is there is turned. -/
theorem plU_ext {p : Pl} (h : wpPl P l Q p a w) : wpPlU P l Q p a w := Pl.weak (fun _ _ => trivial) _ _ _ h
end
/-! The same with one relation all through. -/
section
variable {S : World → Prop} {a : Act} {w : World} {o : Oper} {i j : Nat} {r x y : Pl}
def wpPlS (P : Program) (l : List Oper) (Q : Exit → Act → World → Prop) (S : World → Prop) (p : Pl) (a : Act) (w : World) : Prop := p.wp P l Q S a w
theorem wp_region_plS {id : Nat} {a : Act} {w : World} (S : World → Prop) (p : Pl) (hm : P.follows .mixedOrders = true) (hs : Region.noSelect l.toArray = true) (hf : Nat.ble p.depth l.length = true)
    (hp : p.ok l [] = true) (h : wpPlS P l (Norm Q) S p a w.drew) : (Code.region id l.toArray true).wp P Q a w :=
  wp_region_plU p hm hs hf hp (Pl.weak (fun _ _ => trivial) _ _ _ h)
theorem plS_done (h : Q .normal a w) : wpPlS P l (Norm Q) S .nil a w := h
theorem plS_val (v : Value) (ho : l[i]? = some o) (hw : Region.wanted o (yielded l.toArray a.tmps) = true) (hS : S w)
    (hv : ∀ w', S w' → (execOp a.eval o).run P w' = .ok (.value v) w') (hk : wpPlS P l Q S r (a.put o.dst v) w) : wpPlS P l Q S (.free i r) a w :=
  ⟨S, fun _ h => h, o, ho, hS, v, .inl (.inl ⟨hw, hv⟩), hk⟩
theorem plS_even (f : FuncId) (args : Array Value) (v : Value) (ho : l[i]? = some o) (hw : Region.wanted o (yielded l.toArray a.tmps) = true) (hS : S w)
    (hv : ∀ w', S w' → (execOp a.eval o).run P w' = .ok (.enter f args) w') (hcall : ∀ w', S w' → Calls P f args w' fun e w'' => e = .returned v ∧ w' = w'')
    (hk : wpPlS P l Q S r (a.put o.dst v) w) : wpPlS P l Q S (.free i r) a w :=
  ⟨S, fun _ h => h, o, ho, hS, v, .inr ⟨hw, fun w' he => ⟨f, args, hv w' he, (hcall w' he).mono fun e w'' h => ⟨h.1, h.2.symm⟩⟩⟩, hk⟩
theorem plS_skip (ho : l[i]? = some o) (hw : Region.wanted o (yielded l.toArray a.tmps) = false) (hS : S w) (hk : wpPlS P l Q S r (a.put o.dst undef) w) : wpPlS P l Q S (.free i r) a w :=
  ⟨S, fun _ h => h, o, ho, hS, undef, .inl (.inr ⟨hw, rfl⟩), hk⟩
theorem plS_skip1 (ho : l[i]? = some o) (hw : Region.wanted o (yielded l.toArray a.tmps) = false) (hS : S w) (hk : wpPlS P l Q S r (a.put o.dst undef) w) : wpPlS P l Q S (.one i r) a w :=
  ⟨S, fun _ h => h, o, ho, by rw [hw, if_neg Bool.false_ne_true]; exact ⟨hS, hk⟩⟩
theorem plS_run {w' : World} (v : Value) (ho : l[i]? = some o) (hw : Region.wanted o (yielded l.toArray a.tmps) = true)
    (hv : (execOp a.eval o).run P w = .ok (.value v) w') (hS : S w') (hk : wpPlS P l Q S r (a.put o.dst v) w') : wpPlS P l Q S (.one i r) a w := by
  refine ⟨S, fun _ h => h, o, ho, ?_⟩
  rw [hw, if_pos rfl]
  simp only [Oper.wp, hv, Oper.upon]
  exact ⟨hS, hk⟩
theorem plS_void {w' : World} (ho : l[i]? = some o) (hw : Region.wanted o (yielded l.toArray a.tmps) = true)
    (hv : (execOp a.eval o).run P w = .ok .skip w') (hS : S w') (hk : wpPlS P l Q S r (a.put o.dst undef) w') : wpPlS P l Q S (.one i r) a w := by
  refine ⟨S, fun _ h => h, o, ho, ?_⟩
  rw [hw, if_pos rfl]
  simp only [Oper.wp, hv, Oper.upon]
  exact ⟨hS, hk⟩
theorem plS_call (f : FuncId) (args : Array Value) (ho : l[i]? = some o) (hw : Region.wanted o (yielded l.toArray a.tmps) = true)
    (hv : (execOp a.eval o).run P w = .ok (.enter f args) w)
    (hk : Calls P f args w fun e w' => ∃ v, e = .returned v ∧ S w' ∧ wpPlS P l Q S r (a.put o.dst v) w') : wpPlS P l Q S (.one i r) a w := by
  refine ⟨S, fun _ h => h, o, ho, ?_⟩
  rw [hw, if_pos rfl]
  simp only [Oper.wp, hv, Oper.upon]
  refine hk.mono fun e w' ⟨v, he, h1, h2⟩ => ?_
  subst he
  exact ⟨h1, h2⟩
theorem plS_fork (h1 : wpPlS P l Q S (.one i x) a w) (h2 : wpPlS P l Q S (.one j y) a w) : wpPlS P l Q S (.fork i j x y) a w := ⟨h1, h2⟩
end
end
end Go.Proofs.Ytihiclnbbpablaa
