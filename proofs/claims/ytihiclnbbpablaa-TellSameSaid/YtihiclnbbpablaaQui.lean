/-
  One statement whose order of evaluation is open, where a call that turns nothing may come at any time: it is taken first.
-/
import Derived.Test.YtihiclnbbpablaaOrd
namespace Go.Proofs.Ytihiclnbbpablaa
open Go Go.RowKit
set_option linter.unusedVariables false
set_option linter.unusedSimpArgs false

section
variable {P : Program} {ops : Array Oper} {l : List Oper} {Q : Exit → Act → World → Prop} {md : Region.Mode} {S S' : World → Prop}

/-- A call that gives this value in each of these worlds and leaves it as it was. -/
def CallIf (P : Program) (ops : Array Oper) (S : World → Prop) (o : Oper) (v : Value) (a : Act) : Prop :=
  Region.wanted o (yielded ops a.tmps) = true ∧ ∀ w, S w → ∃ f args, (execOp a.eval o).run P w = .ok (.enter f args) w ∧ Calls P f args w fun e w' => e = .returned v ∧ w' = w
/-- Either a value or such a call. -/
def EvenIf (P : Program) (ops : Array Oper) (S : World → Prop) (o : Oper) (v : Value) (a : Act) : Prop := YieldsIf P ops S o v a ∨ CallIf P ops S o v a
theorem EvenIf.step {i : Nat} {o : Oper} {v : Value} {a : Act} (hi : ops[i]? = some o) (hy : EvenIf P ops S o v a) {K : Act → World → Prop} {w : World} (hS : S w) (h : K (a.put o.dst v) w) : wpOp P ops Q i K a w := by
  rcases hy with hy | ⟨hw, hc⟩
  · exact hy.wpOp hi hS h
  · obtain ⟨f, args, hr, hcall⟩ := hc w hS
    unfold Go.wpOp
    simp only [hi, hw, if_true, Oper.wp, hr, Oper.upon]
    refine .inl (hcall.mono ?_)
    rintro e w' ⟨rfl, rfl⟩
    exact h
theorem EvenIf.same {o : Oper} {v : Value} {a a' : Act} (hy : EvenIf P ops S o v a) (he : execOp a'.eval o = execOp a.eval o)
    (hw : Region.wanted o (yielded ops a'.tmps) = Region.wanted o (yielded ops a.tmps)) : EvenIf P ops S o v a' := by
  rcases hy with hy | hy
  · exact .inl (hy.of_same he hw)
  · refine .inr ?_
    unfold CallIf at *
    rw [he, hw]
    exact hy
/-- Another operation does not see whether this one has come up. -/
theorem EvenIf.before {j : Nat} {oi oj : Oper} {v : Value} (hj : ops[j]? = some oj) (hap : oi.apart ops oj = true) (hsi : ∀ cs b, oi.op ≠ .select cs b) (hsj : ∀ cs b, oj.op ≠ .select cs b)
    (hQ : ∀ c a w, Q (.panic c) (a.put oi.dst v) w → Q (.panic c) a w) {K : Act → World → Prop} {a : Act} {w : World} (hy : EvenIf P ops S oi v a) (h : wpOp P ops Q j K (a.put oi.dst v) w) :
    wpOp P ops Q j (fun a' w' => EvenIf P ops S oi v a' ∧ K (a'.put oi.dst v) w') a w := by
  obtain ⟨h1, h2, h3⟩ := Oper.apart_spec hap
  have keep : ∀ u, EvenIf P ops S oi v (a.put oj.dst u) := fun u => hy.same (execOp_put oi hsi a oj.dst u h3) (wanted_put oi a oj.dst u h3)
  have keepD : ∀ d u, EvenIf P ops S oi v (({ a with defers := d :: a.defers } : Act).put oj.dst u) := fun d u =>
    (EvenIf.same (a' := { a with defers := d :: a.defers }) hy rfl rfl).same (execOp_put oi hsi _ oj.dst u h3) (wanted_put oi _ oj.dst u h3)
  have hp : ∀ u, (a.put oi.dst v).put oj.dst u = (a.put oj.dst u).put oi.dst v := fun u => Act.put_comm a v u h2
  unfold wpOp at *
  simp only [hj] at *
  rw [wanted_put oj a oi.dst v h1] at h
  by_cases hw : Region.wanted oj (yielded ops a.tmps) = true
  · rw [if_pos hw] at h ⊢
    rcases h with h | ⟨ha, hl⟩
    · refine .inl ?_
      unfold Oper.wp at *
      rw [execOp_put oj hsj a oi.dst v h1] at h
      cases hr : (execOp a.eval oj).run P w with
      | ok n w' =>
        rw [hr] at h
        cases n with
        | value u => exact ⟨keep u, by rw [← hp]; exact h⟩
        | skip => exact ⟨keep _, by rw [← hp]; exact h⟩
        | defer d => exact ⟨keepD d _, by rw [← Act.put_comm _ v undef h2, ← Act.put_defers]; exact h⟩
        | enter f args =>
          refine Calls.mono h fun e w'' he => ?_
          cases e with
          | returned u => exact ⟨keep u, by rw [← hp]; exact he⟩
          | panicked c => exact hQ _ _ _ he
          | outgrown => exact he
        | row row args => exact Rows.mono h fun u w'' he => ⟨keep u, by rw [← hp]; exact he⟩
        | _ => exact h
      | halt x w' =>
        rw [hr] at h
        cases x with
        | panic u => exact hQ _ _ _ h
        | _ => exact h
    · exact .inr ⟨by unfold Oper.asks at *; rw [execOp_put oj hsj a oi.dst v h1] at ha; exact ha, hl⟩
  · rw [if_neg hw] at h ⊢
    exact ⟨keep _, by rw [← hp]; exact h⟩
theorem wpAnyH_firstQ {i : Nat} {oi : Oper} {v : Value} (hi : ops[i]? = some oi) (hsel : ∀ (j : Nat) (o : Oper) cs b, ops[j]? = some o → o.op ≠ .select cs b)
    (hQ : ∀ c a w, Q (.panic c) (a.put oi.dst v) w → Q (.panic c) a w) :
    ∀ (fuel : Nat) (listed : Array Bool) (a : Act) (w : World),
      (∀ j oj, ops[j]? = some oj → j ≠ i → listed.getD j true = false → (∀ e ∈ oj.after, Region.binds md e = true → e.on ≠ i) → oi.apart ops oj = true) →
      i ∈ Region.ready md ops listed → EvenIf P ops S oi v a → S w →
      wpAnyH P md ops Q S fuel (listed.setIfInBounds i true) (a.put oi.dst v) w → wpAnyH P md ops Q S (fuel + 1) listed a w
  | 0, listed, a, w, _, hr, hy, hS, H => by
    refine ⟨fun h => (by rw [h] at hr; cases hr), fun j hj => ?_⟩
    by_cases hji : j = i
    · subst hji; exact hy.step hi hS ⟨hS, H⟩
    · have := ready_mono hj hji
      rw [H.1] at this
      cases this
  | fuel + 1, listed, a, w, hfree, hr, hy, hS, H => by
    refine ⟨fun h => (by rw [h] at hr; cases hr), fun j hj => ?_⟩
    by_cases hji : j = i
    · subst hji; exact hy.step hi hS ⟨hS, H⟩
    · have h1 := H.2 j (ready_mono hj hji)
      obtain ⟨hjun, oj, hoj, hall⟩ := mem_ready.1 hj
      have hnot : ∀ e ∈ oj.after, Region.binds md e = true → e.on ≠ i := fun e he hb heq => by
        have g1 := hall e he hb
        have g0 := (mem_ready.1 hr).1
        rw [heq] at g1
        rcases Nat.lt_or_ge i listed.size with h' | h'
        · simp [h'] at g0 g1; rw [g0] at g1; cases g1
        · simp [Array.getElem?_eq_none h'] at g1
      have h2 := EvenIf.before hoj (hfree j oj hoj hji hjun hnot) (fun cs b => hsel i oi cs b hi) (fun cs b => hsel j oj cs b hoj) hQ hy h1
      have hfree' : ∀ k ok, ops[k]? = some ok → k ≠ i → (listed.setIfInBounds j true).getD k true = false →
          (∀ e ∈ ok.after, Region.binds md e = true → e.on ≠ i) → oi.apart ops ok = true := fun k ok hk hki hun hno => by
        refine hfree k ok hk hki ?_ hno
        by_cases hjk : j = k
        · subst hjk; exact hjun
        · rw [getD_set_ne true hjk] at hun; exact hun
      refine wpOp_mono (fun a' w' h3 => ⟨h3.2.1, wpAnyH_firstQ hi hsel hQ fuel (listed.setIfInBounds j true) a' w' hfree' (ready_mono hr (Ne.symm hji)) h3.1 h3.2.1 ?_⟩) h2
      rw [Array.setIfInBounds_comm _ _ hji]
      exact h3.2.2

/-- The steps. -/
def wpLexQT (P : Program) (ops : Array Oper) (Q : Exit → Act → World → Prop) (al : List Nat) : (World → Prop) → Nat → List Oper → Act → World → Prop
  | _, _, [], a, w => Q .normal a w
  | S, k, o :: rest, a, w => ∃ S' : World → Prop, (∀ w', S' w' → S w') ∧
    if al.contains k then
      (if Region.wanted o (yielded ops a.tmps) then o.wp P a w (fun a' w' => S' w' ∧ wpLexQT P ops Q al S' (k + 1) rest a' w') Q else S' w ∧ wpLexQT P ops Q al S' (k + 1) rest (a.put o.dst undef) w)
    else S' w ∧ ∃ v, EvenIf P ops S' o v a ∧ wpLexQT P ops Q al S' (k + 1) rest (a.put o.dst v) w
theorem wpLexQT_weak {al : List Nat} (hS : ∀ w, S' w → S w) : ∀ (l : List Oper) (k : Nat) (a : Act) (w : World), wpLexQT P ops Q al S' k l a w → wpLexQT P ops Q al S k l a w
  | [], _, _, _, h => h
  | _ :: _, _, _, _, ⟨S2, h1, h2⟩ => ⟨S2, fun w' hw' => hS w' (h1 w' hw'), h2⟩
def wpLexQ (P : Program) (ops : Array Oper) (Q : Exit → Act → World → Prop) (al : List Nat) (k : Nat) (l : List Oper) (a : Act) (w : World) : Prop := wpLexQT P ops Q al (Ext w) k l a w
theorem wpAnyH_of_ordQ (al : List Nat) (hs : Region.noSelect l.toArray = true) (hQ : ∀ c a d v w, Q (.panic c) (a.put d v) w → Q (.panic c) a w) :
    ∀ (order : List Nat) (S : World → Prop) (k : Nat) (done : List Nat) (listed : Array Bool) (a : Act) (w : World), Done l.length done listed → ordOk l al done k order = true →
      wpLexQT P l.toArray Q al S k (pick l order) a w → wpAnyH P .any l.toArray Q S order.length listed a w
  | [], S, k, done, listed, a, w, hd, hp, h => by
    refine wpAnyH_done ?_ h _
    rw [List.eq_nil_iff_forall_not_mem]
    intro j hj
    obtain ⟨h1, o, ho, _⟩ := mem_ready.1 hj
    have hj' : j < l.length := by simpa using (Array.getElem?_eq_some_iff.1 ho).1
    rw [hd.2.1 j true hj'] at h1
    have := List.all_eq_true.1 hp j (List.mem_range.2 hj')
    rw [h1] at this
    cases this
  | i :: is, S, k, done, listed, a, w, hd, hp, h => by
    have hp0 := hp
    unfold ordOk at hp
    unfold pick at h
    cases ho : l[i]? with
    | none => rw [ho] at hp; cases hp
    | some o =>
      rw [ho] at hp h
      simp only [Bool.and_eq_true] at hp
      obtain ⟨⟨⟨h0, h1⟩, h2⟩, h3⟩ := hp
      have hi : i < l.length := (List.getElem?_eq_some_iff.1 ho).1
      have ho' : l.toArray[i]? = some o := by simpa using ho
      have hlater : ∀ j p, l.toArray[j]? = some p → j ≠ i → done.contains j = false → j ∈ is ∧ l[j]? = some p := fun j p hj hne hnd => by
        have hj2 : l[j]? = some p := by simpa using hj
        have hjl : j < l.length := (List.getElem?_eq_some_iff.1 hj2).1
        rcases ordOk_rest al (i :: is) done k hp0 j hjl with g | g
        · rcases List.mem_cons.1 g with g | g
          · exact absurd g hne
          · exact ⟨g, hj2⟩
        · have : done.contains j = true := by simpa using g
          rw [this] at hnd
          cases hnd
      have hready : i ∈ Region.ready .any l.toArray listed := mem_ready.2 ⟨by rw [hd.2.1 i true hi]; simpa using h0, o, ho', fun e he hb => by
        have := List.all_eq_true.1 h1 e (by simpa using he)
        rw [hb] at this
        have hc : done.contains e.on = true := by simpa using this
        rw [hd.2.1 e.on false (hd.2.2 e.on (by simpa using hc))]
        exact hc⟩
      simp only [List.length_cons]
      unfold wpLexQT at h
      obtain ⟨S', hSS, h⟩ := h
      refine wpAnyH_weak hSS _ _ _ _ ?_
      cases hc : al.contains k with
      | true =>
        rw [hc, if_pos rfl] at h h2
        refine ⟨fun hr => (by rw [hr] at hready; cases hready), fun j hj => ?_⟩
        have hji : j = i := by
          obtain ⟨g1, p, g2, g3⟩ := mem_ready.1 hj
          have hjs : j < l.length := by simpa using (Array.getElem?_eq_some_iff.1 g2).1
          rw [hd.2.1 j true hjs] at g1
          by_cases hne : j = i
          · exact hne
          · obtain ⟨q1, q2⟩ := hlater j p g2 hne g1
            have q3 := List.all_eq_true.1 h2 j q1
            rw [q2] at q3
            obtain ⟨e, he, hb⟩ := List.any_eq_true.1 q3
            simp only [Bool.and_eq_true] at hb
            have g4 := g3 e (by simpa using he) hb.1
            have hnc : done.contains e.on = false := by simpa using hb.2
            rcases Nat.lt_or_ge e.on l.length with hes | hes
            · rw [hd.2.1 e.on false hes, hnc] at g4
              cases g4
            · have hsz : listed.size ≤ e.on := by rw [hd.1]; exact hes
              simp [Array.getElem?_eq_none hsz] at g4
        subst hji
        simp only [wpOp, ho']
        have key : ∀ a' w', S' w' → wpLexQT P l.toArray Q al S' (k + 1) (pick l is) a' w' → S' w' ∧ wpAnyH P .any l.toArray Q S' is.length (listed.setIfInBounds j true) a' w' := fun a' w' he hk' =>
          ⟨he, wpAnyH_of_ordQ al hs hQ is S' (k + 1) (j :: done) _ a' w' (hd.next hi) h3 hk'⟩
        by_cases hw : Region.wanted o (yielded l.toArray a.tmps) = true
        · rw [if_pos hw] at h
          rw [if_pos hw]
          exact .inl (Oper.wp_mono (fun a' w' ⟨he, hk'⟩ => key a' w' he hk') h)
        · rw [if_neg hw] at h
          rw [if_neg hw]
          exact key _ _ h.1 h.2
      | false =>
        rw [hc, if_neg Bool.false_ne_true] at h h2
        obtain ⟨hw0, v, hy, hk'⟩ := h
        refine wpAnyH_firstQ ho' (Region.noSelect_spec hs) (fun c a w => hQ c a _ _ w) is.length listed a w (fun j p hj hne hun hno => ?_) hready hy hw0 (wpAnyH_of_ordQ al hs hQ is S' (k + 1) (i :: done) _ _ w (hd.next hi) h3 hk')
        have hjs : j < l.length := by simpa using (Array.getElem?_eq_some_iff.1 hj).1
        rw [hd.2.1 j true hjs] at hun
        obtain ⟨q1, q2⟩ := hlater j p hj hne hun
        have q3 := List.all_eq_true.1 h2 j q1
        rw [q2] at q3
        rcases Bool.or_eq_true _ _ ▸ q3 with g | g
        · obtain ⟨e, he, hb⟩ := List.any_eq_true.1 g
          simp only [Bool.and_eq_true] at hb
          exact absurd (Nat.eq_of_beq_eq_true hb.2) (hno e (by simpa using he) hb.1)
        · exact g


theorem wp_region_ordQ {id : Nat} {a : Act} {w : World} (order al : List Nat) (hm : P.follows .mixedOrders = true) (hs : Region.noSelect l.toArray = true) (hlen : order.length = l.length)
    (hp : ordOk l al [] 0 order = true) (h : wpLexQ P l.toArray (Norm Q) al 0 (pick l order) a w.drew) : (Code.region id l.toArray true).wp P Q a w := by
  refine Code.wp_mono Norm.imp (wp_region_held (S := fun _ => True) hm ?_)
  have := wpAnyH_of_ordQ (P := P) al hs (fun _ _ _ _ _ h => h) order (fun _ => True) 0 [] (Array.replicate l.length false) a w.drew (Done.start _) hp (wpLexQT_weak (fun _ _ => trivial) _ _ _ _ h)
  rw [hlen] at this
  rw [List.size_toArray]
  exact this
end
section
variable {P : Program} {ops : Array Oper} {Q : Exit → Act → World → Prop} {al : List Nat} {k : Nat} {rest : List Oper} {a : Act} {w : World} {o : Oper}
theorem lexQ_done (h : Q .normal a w) : wpLexQ P ops (Norm Q) al k [] a w := h
theorem lexQ_val (v : Value) (hc : al.contains k = false) (hw : Region.wanted o (yielded ops a.tmps) = true)
    (hv : ∀ w', Ext w w' → (execOp a.eval o).run P w' = .ok (.value v) w') (hk : wpLexQ P ops Q al (k + 1) rest (a.put o.dst v) w) : wpLexQ P ops Q al k (o :: rest) a w := by
  unfold wpLexQ at hk ⊢
  unfold wpLexQT
  refine ⟨Ext w, fun _ h => h, ?_⟩
  rw [hc, if_neg Bool.false_ne_true]
  exact ⟨Ext.refl w, v, .inl (.inl ⟨hw, hv⟩), hk⟩
/-- A call that turns nothing, at any time. -/
theorem lexQ_even (f : FuncId) (args : Array Value) (v : Value) (hc : al.contains k = false) (hw : Region.wanted o (yielded ops a.tmps) = true)
    (hv : ∀ w', Ext w w' → (execOp a.eval o).run P w' = .ok (.enter f args) w') (hcall : ∀ w', Ext w w' → Calls P f args w' fun e w'' => e = .returned v ∧ w' = w'')
    (hk : wpLexQ P ops Q al (k + 1) rest (a.put o.dst v) w) : wpLexQ P ops Q al k (o :: rest) a w := by
  unfold wpLexQ at hk ⊢
  unfold wpLexQT
  refine ⟨Ext w, fun _ h => h, ?_⟩
  rw [hc, if_neg Bool.false_ne_true]
  exact ⟨Ext.refl w, v, .inr ⟨hw, fun w' he => ⟨f, args, hv w' he, (hcall w' he).mono fun e w'' h => ⟨h.1, h.2.symm⟩⟩⟩, hk⟩
theorem lexQ_skip (hw : Region.wanted o (yielded ops a.tmps) = false) (hk : wpLexQ P ops Q al (k + 1) rest (a.put o.dst undef) w) : wpLexQ P ops Q al k (o :: rest) a w := by
  unfold wpLexQ at hk ⊢
  unfold wpLexQT
  refine ⟨Ext w, fun _ h => h, ?_⟩
  split
  · rw [hw, if_neg Bool.false_ne_true]
    exact ⟨Ext.refl w, hk⟩
  · exact ⟨Ext.refl w, undef, .inl (.inr ⟨hw, rfl⟩), hk⟩
theorem lexQ_run {w' : World} (v : Value) (hc : al.contains k = true) (hw : Region.wanted o (yielded ops a.tmps) = true)
    (hv : (execOp a.eval o).run P w = .ok (.value v) w') (he : Ext w w') (hk : wpLexQ P ops Q al (k + 1) rest (a.put o.dst v) w') : wpLexQ P ops Q al k (o :: rest) a w := by
  unfold wpLexQ at hk ⊢
  unfold wpLexQT
  refine ⟨Ext w, fun _ h => h, ?_⟩
  rw [hc, if_pos rfl, hw, if_pos rfl]
  simp only [Oper.wp, hv, Oper.upon]
  exact ⟨he, wpLexQT_weak (fun w'' hw'' => he.trans hw'') _ _ _ _ hk⟩
/-- Two such, one behind the other: what the first laid may be turned by the second. -/
theorem lexQ_run2 {o2 : Oper} {w1 w2 : World} (v1 v2 : Value) (hc : al.contains k = true) (hw : Region.wanted o (yielded ops a.tmps) = true) (hc2 : al.contains (k + 1) = true)
    (hw2 : Region.wanted o2 (yielded ops (a.put o.dst v1).tmps) = true)
    (hv : (execOp a.eval o).run P w = .ok (.value v1) w1) (hv2 : (execOp (a.put o.dst v1).eval o2).run P w1 = .ok (.value v2) w2) (he : Ext w w1) (he2 : Ext w w2)
    (hk : wpLexQ P ops Q al (k + 2) rest ((a.put o.dst v1).put o2.dst v2) w2) : wpLexQ P ops Q al k (o :: o2 :: rest) a w := by
  unfold wpLexQ at hk ⊢
  unfold wpLexQT
  refine ⟨Ext w, fun _ h => h, ?_⟩
  rw [hc, if_pos rfl, hw, if_pos rfl]
  simp only [Oper.wp, hv, Oper.upon]
  refine ⟨he, ?_⟩
  unfold wpLexQT
  refine ⟨Ext w, fun _ h => h, ?_⟩
  rw [hc2, if_pos rfl, hw2, if_pos rfl]
  simp only [Oper.wp, hv2, Oper.upon]
  exact ⟨he2, wpLexQT_weak (fun w'' hw'' => he2.trans hw'') _ _ _ _ hk⟩
theorem lexQ_call (f : FuncId) (args : Array Value) (hc : al.contains k = true) (hw : Region.wanted o (yielded ops a.tmps) = true)
    (hv : (execOp a.eval o).run P w = .ok (.enter f args) w)
    (hk : Calls P f args w fun e w' => ∃ v, e = .returned v ∧ Ext w w' ∧ wpLexQ P ops Q al (k + 1) rest (a.put o.dst v) w') : wpLexQ P ops Q al k (o :: rest) a w := by
  unfold wpLexQ at hk ⊢
  unfold wpLexQT
  refine ⟨Ext w, fun _ h => h, ?_⟩
  rw [hc, if_pos rfl, hw, if_pos rfl]
  simp only [Oper.wp, hv, Oper.upon]
  refine hk.mono fun e w' ⟨v, he, h1, h2⟩ => ?_
  subst he
  exact ⟨h1, wpLexQT_weak (fun w'' hw'' => h1.trans hw'') _ _ _ _ h2⟩
end
end Go.Proofs.Ytihiclnbbpablaa
