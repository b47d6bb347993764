/-
  Plain rules for one statement whose order of evaluation is open, where another order than that of the text is walked: the order is checked once.
-/
import Derived.Test.YtihiclnbbpablaaReg
namespace Go.Proofs.Ytihiclnbbpablaa
open Go Go.RowKit
set_option linter.unusedVariables false
set_option linter.unusedSimpArgs false

/-- The operations in this order. -/
def pick (l : List Oper) : List Nat → List Oper
  | [] => []
  | i :: is => match l[i]? with
    | some o => o :: pick l is
    | none => []

/-- May the operations be taken in this order? -/
def ordOk (l : List Oper) (al : List Nat) : List Nat → Nat → List Nat → Bool
  | done, _, [] => (List.range l.length).all fun j => done.contains j
  | done, k, i :: is => match l[i]? with
    | none => false
    | some o => !done.contains i && (o.after.toList.all fun e => !Region.binds .any e || done.contains e.on) &&
      (if al.contains k then is.all fun j => match l[j]? with
          | some p => p.after.toList.any fun e => Region.binds .any e && !done.contains e.on
          | none => false
       else is.all fun j => match l[j]? with
          | some p => (p.after.toList.any fun e => Region.binds .any e && Nat.beq e.on i) || o.apart l.toArray p
          | none => false) && ordOk l al (i :: done) (k + 1) is

def Done (n : Nat) (done : List Nat) (listed : Array Bool) : Prop := listed.size = n ∧ (∀ j (d : Bool), j < n → listed.getD j d = done.contains j) ∧ ∀ j ∈ done, j < n
theorem Done.start (n : Nat) : Done n [] (Array.replicate n false) := ⟨by simp, fun j d hj => by simp [hj], fun _ h => by cases h⟩
theorem Done.next {n i : Nat} {done : List Nat} {listed : Array Bool} (h : Done n done listed) (hi : i < n) : Done n (i :: done) (listed.setIfInBounds i true) := by
  refine ⟨by simp [h.1], fun j d hj => ?_, fun j hj => ?_⟩
  · by_cases hij : i = j
    · subst hij
      have : i < listed.size := by rw [h.1]; exact hj
      simp [this]
    · have e : (listed.setIfInBounds i true).getD j d = listed.getD j d := by simp [Array.getElem?_setIfInBounds_ne hij]
      rw [e, h.2.1 j d hj]
      have hji : ¬ j = i := fun h => hij h.symm
      simp [hji]
  · rcases List.mem_cons.1 hj with rfl | hj
    · exact hi
    · exact h.2.2 j hj

section
variable {P : Program} {l : List Oper} {Q : Exit → Act → World → Prop}

theorem ordOk_rest (al : List Nat) : ∀ (order done : List Nat) (k : Nat), ordOk l al done k order = true → ∀ j, j < l.length → j ∈ order ∨ j ∈ done
  | [], done, k, h, j, hj => by
    right
    have := List.all_eq_true.1 h j (List.mem_range.2 hj)
    simpa using this
  | i :: is, done, k, h, j, hj => by
    unfold ordOk at h
    cases ho : l[i]? with
    | none => rw [ho] at h; cases h
    | some o =>
      rw [ho] at h
      simp only [Bool.and_eq_true] at h
      rcases ordOk_rest al is (i :: done) (k + 1) h.2 j hj with h1 | h1
      · exact .inl (List.mem_cons_of_mem _ h1)
      · rcases List.mem_cons.1 h1 with h2 | h2
        · subst h2
          exact .inl List.mem_cons_self
        · exact .inr h2

theorem wpAnyH_of_ord (al : List Nat) (hs : Region.noSelect l.toArray = true) (hQ : ∀ c a d v w, Q (.panic c) (a.put d v) w → Q (.panic c) a w) :
    ∀ (order : List Nat) (S : World → Prop) (k : Nat) (done : List Nat) (listed : Array Bool) (a : Act) (w : World), Done l.length done listed → ordOk l al done k order = true →
      wpLexT P l.toArray Q al S k (pick l order) a w → wpAnyH P .any l.toArray Q S order.length listed a w
  | [], S, k, done, listed, a, w, hd, hp, h => by
    refine wpAnyH_done ?_ h _
    rw [List.eq_nil_iff_forall_not_mem]
    intro j hj
    obtain ⟨h1, o, ho, _⟩ := mem_ready.1 hj
    have hj' : j < l.length := by simpa using (Array.getElem?_eq_some_iff.1 ho).1
    rw [hd.2.1 j true hj'] at h1
    have := List.all_eq_true.1 hp j (List.mem_range.2 hj')
    rw [h1] at this
    cases this
  | i :: is, S, k, done, listed, a, w, hd, hp, h => by
    have hp0 := hp
    unfold ordOk at hp
    unfold pick at h
    cases ho : l[i]? with
    | none => rw [ho] at hp; cases hp
    | some o =>
      rw [ho] at hp h
      simp only [Bool.and_eq_true] at hp
      obtain ⟨⟨⟨h0, h1⟩, h2⟩, h3⟩ := hp
      have hi : i < l.length := (List.getElem?_eq_some_iff.1 ho).1
      have ho' : l.toArray[i]? = some o := by simpa using ho
      have hlater : ∀ j p, l.toArray[j]? = some p → j ≠ i → done.contains j = false → j ∈ is ∧ l[j]? = some p := fun j p hj hne hnd => by
        have hj2 : l[j]? = some p := by simpa using hj
        have hjl : j < l.length := (List.getElem?_eq_some_iff.1 hj2).1
        rcases ordOk_rest al (i :: is) done k hp0 j hjl with g | g
        · rcases List.mem_cons.1 g with g | g
          · exact absurd g hne
          · exact ⟨g, hj2⟩
        · have : done.contains j = true := by simpa using g
          rw [this] at hnd
          cases hnd
      have hready : i ∈ Region.ready .any l.toArray listed := mem_ready.2 ⟨by rw [hd.2.1 i true hi]; simpa using h0, o, ho', fun e he hb => by
        have := List.all_eq_true.1 h1 e (by simpa using he)
        rw [hb] at this
        have hc : done.contains e.on = true := by simpa using this
        rw [hd.2.1 e.on false (hd.2.2 e.on (by simpa using hc))]
        exact hc⟩
      simp only [List.length_cons]
      unfold wpLexT at h
      obtain ⟨S', hSS, h⟩ := h
      refine wpAnyH_weak hSS _ _ _ _ ?_
      cases hc : al.contains k with
      | true =>
        rw [hc, if_pos rfl] at h h2
        refine ⟨fun hr => (by rw [hr] at hready; cases hready), fun j hj => ?_⟩
        have hji : j = i := by
          obtain ⟨g1, p, g2, g3⟩ := mem_ready.1 hj
          have hjs : j < l.length := by simpa using (Array.getElem?_eq_some_iff.1 g2).1
          rw [hd.2.1 j true hjs] at g1
          by_cases hne : j = i
          · exact hne
          · obtain ⟨q1, q2⟩ := hlater j p g2 hne g1
            have q3 := List.all_eq_true.1 h2 j q1
            rw [q2] at q3
            obtain ⟨e, he, hb⟩ := List.any_eq_true.1 q3
            simp only [Bool.and_eq_true] at hb
            have g4 := g3 e (by simpa using he) hb.1
            have hnc : done.contains e.on = false := by simpa using hb.2
            rcases Nat.lt_or_ge e.on l.length with hes | hes
            · rw [hd.2.1 e.on false hes, hnc] at g4
              cases g4
            · have hsz : listed.size ≤ e.on := by rw [hd.1]; exact hes
              simp [Array.getElem?_eq_none hsz] at g4
        subst hji
        simp only [wpOp, ho']
        have key : ∀ a' w', S' w' → wpLexT P l.toArray Q al S' (k + 1) (pick l is) a' w' → S' w' ∧ wpAnyH P .any l.toArray Q S' is.length (listed.setIfInBounds j true) a' w' := fun a' w' he hk' =>
          ⟨he, wpAnyH_of_ord al hs hQ is S' (k + 1) (j :: done) _ a' w' (hd.next hi) h3 hk'⟩
        by_cases hw : Region.wanted o (yielded l.toArray a.tmps) = true
        · rw [if_pos hw] at h
          rw [if_pos hw]
          exact .inl (Oper.wp_mono (fun a' w' ⟨he, hk'⟩ => key a' w' he hk') h)
        · rw [if_neg hw] at h
          rw [if_neg hw]
          exact key _ _ h.1 h.2
      | false =>
        rw [hc, if_neg Bool.false_ne_true] at h h2
        obtain ⟨hw0, v, hy, hk'⟩ := h
        refine wpAnyH_first ho' (Region.noSelect_spec hs) (fun c a w => hQ c a _ _ w) is.length listed a w (fun j p hj hne hun hno => ?_) hready hy hw0 (wpAnyH_of_ord al hs hQ is S' (k + 1) (i :: done) _ _ w (hd.next hi) h3 hk')
        have hjs : j < l.length := by simpa using (Array.getElem?_eq_some_iff.1 hj).1
        rw [hd.2.1 j true hjs] at hun
        obtain ⟨q1, q2⟩ := hlater j p hj hne hun
        have q3 := List.all_eq_true.1 h2 j q1
        rw [q2] at q3
        rcases Bool.or_eq_true _ _ ▸ q3 with g | g
        · obtain ⟨e, he, hb⟩ := List.any_eq_true.1 g
          simp only [Bool.and_eq_true] at hb
          exact absurd (Nat.eq_of_beq_eq_true hb.2) (hno e (by simpa using he) hb.1)
        · exact g

/-- The beginning, in this order; the operations may turn what is there. -/
theorem wp_region_ordU {id : Nat} {a : Act} {w : World} (order al : List Nat) (hm : P.follows .mixedOrders = true) (hs : Region.noSelect l.toArray = true) (hlen : order.length = l.length)
    (hp : ordOk l al [] 0 order = true) (h : wpLexT P l.toArray (Norm Q) al (fun _ => True) 0 (pick l order) a w.drew) : (Code.region id l.toArray true).wp P Q a w := by
  refine Code.wp_mono Norm.imp (wp_region_held (S := fun _ => True) hm ?_)
  have := wpAnyH_of_ord (P := P) al hs (fun _ _ _ _ _ h => h) order (fun _ => True) 0 [] (Array.replicate l.length false) a w.drew (Done.start _) hp h
  rw [hlen] at this
  rw [List.size_toArray]
  exact this
theorem wp_region_ord {id : Nat} {a : Act} {w : World} (order al : List Nat) (hm : P.follows .mixedOrders = true) (hs : Region.noSelect l.toArray = true) (hlen : order.length = l.length)
    (hp : ordOk l al [] 0 order = true) (h : wpLex P l.toArray (Norm Q) al 0 (pick l order) a w.drew) : (Code.region id l.toArray true).wp P Q a w :=
  wp_region_ordU order al hm hs hlen hp (wpLexT_weak (fun _ _ => trivial) _ _ _ _ h)

/-! The same where what may turn is said by a relation between worlds. -/
structure Pre (T : World → World → Prop) : Prop where
  refl : ∀ w, T w w
  trans : ∀ a b c, T a b → T b c → T a c

def wpLexR (T : World → World → Prop) (P : Program) (ops : Array Oper) (Q : Exit → Act → World → Prop) (al : List Nat) (k : Nat) (l : List Oper) (a : Act) (w : World) : Prop := wpLexT P ops Q al (T w) k l a w
theorem wp_region_ordR {id : Nat} {a : Act} {w : World} (T : World → World → Prop) (order al : List Nat) (hm : P.follows .mixedOrders = true) (hs : Region.noSelect l.toArray = true) (hlen : order.length = l.length)
    (hp : ordOk l al [] 0 order = true) (h : wpLexR T P l.toArray (Norm Q) al 0 (pick l order) a w.drew) : (Code.region id l.toArray true).wp P Q a w :=
  wp_region_ordU order al hm hs hlen hp (wpLexT_weak (fun _ _ => trivial) _ _ _ _ h)
theorem wp_region_lexR {id : Nat} {a : Act} {w : World} (T : World → World → Prop) (al : List Nat) (hm : P.follows .mixedOrders = true) (hs : Region.noSelect l.toArray = true)
    (hp : lexOk l.toArray al 0 l = true) (h : wpLexR T P l.toArray (Norm Q) al 0 l a w.drew) : (Code.region id l.toArray true).wp P Q a w :=
  wp_region_lexU al hm hs hp (wpLexT_weak (fun _ _ => trivial) _ _ _ _ h)
variable {T : World → World → Prop} {ops : Array Oper} {al : List Nat} {k : Nat} {rest : List Oper} {a : Act} {w : World} {o : Oper}
theorem lexR_done (h : Q .normal a w) : wpLexR T P ops (Norm Q) al k [] a w := h
theorem lexR_val (hT : Pre T) (v : Value) (hc : al.contains k = false) (hw : Region.wanted o (yielded ops a.tmps) = true)
    (hv : ∀ w', T w w' → (execOp a.eval o).run P w' = .ok (.value v) w') (hk : wpLexR T P ops Q al (k + 1) rest (a.put o.dst v) w) : wpLexR T P ops Q al k (o :: rest) a w := by
  unfold wpLexR at hk ⊢
  unfold wpLexT
  refine ⟨T w, fun _ h => h, ?_⟩
  rw [hc, if_neg Bool.false_ne_true]
  exact ⟨hT.refl w, v, .inl ⟨hw, hv⟩, hk⟩
theorem lexR_skip (hT : Pre T) (hw : Region.wanted o (yielded ops a.tmps) = false) (hk : wpLexR T P ops Q al (k + 1) rest (a.put o.dst undef) w) : wpLexR T P ops Q al k (o :: rest) a w := by
  unfold wpLexR at hk ⊢
  unfold wpLexT
  refine ⟨T w, fun _ h => h, ?_⟩
  split
  · rw [hw, if_neg Bool.false_ne_true]
    exact ⟨hT.refl w, hk⟩
  · exact ⟨hT.refl w, undef, .inr ⟨hw, rfl⟩, hk⟩
theorem lexR_run (hT : Pre T) {w' : World} (v : Value) (hc : al.contains k = true) (hw : Region.wanted o (yielded ops a.tmps) = true)
    (hv : (execOp a.eval o).run P w = .ok (.value v) w') (he : T w w') (hk : wpLexR T P ops Q al (k + 1) rest (a.put o.dst v) w') : wpLexR T P ops Q al k (o :: rest) a w := by
  unfold wpLexR at hk ⊢
  unfold wpLexT
  refine ⟨T w, fun _ h => h, ?_⟩
  rw [hc, if_pos rfl, hw, if_pos rfl]
  simp only [Oper.wp, hv, Oper.upon]
  exact ⟨he, wpLexT_weak (fun w'' hw'' => hT.trans _ _ _ he hw'') _ _ _ _ hk⟩
theorem lexR_call (hT : Pre T) (f : FuncId) (args : Array Value) (hc : al.contains k = true) (hw : Region.wanted o (yielded ops a.tmps) = true)
    (hv : (execOp a.eval o).run P w = .ok (.enter f args) w)
    (hk : Calls P f args w fun e w' => ∃ v, e = .returned v ∧ T w w' ∧ wpLexR T P ops Q al (k + 1) rest (a.put o.dst v) w') : wpLexR T P ops Q al k (o :: rest) a w := by
  unfold wpLexR at hk ⊢
  unfold wpLexT
  refine ⟨T w, fun _ h => h, ?_⟩
  rw [hc, if_pos rfl, hw, if_pos rfl]
  simp only [Oper.wp, hv, Oper.upon]
  refine hk.mono fun e w' ⟨v, he, h1, h2⟩ => ?_
  subst he
  exact ⟨h1, wpLexT_weak (fun w'' hw'' => hT.trans _ _ _ h1 hw'') _ _ _ _ h2⟩
end
end Go.Proofs.Ytihiclnbbpablaa
