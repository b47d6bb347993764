/-
  What lies apart from some blocks; rows of rows of bytes that do; what keeps some blocks.
-/
import Derived.Test.YtdoijbjmhnncdaaDoorRwb
namespace Go.Proofs.YtdoijbjmhnncdaaDoor
open Go Go.RowKit
set_option linter.unusedVariables false
set_option linter.unusedSimpArgs false
/-- A slice's own block is none of these. -/
def Off (Y : Nat → Prop) (v : Value) : Prop := ∀ k, v.ownBlock = some k → ¬ Y k
/-- An element's bytes are in none of these. -/
def OffV (Y : Nat → Prop) (u : Value) : Prop := ∀ a n c, u = .slice (some a) n c → 0 < n → ¬ Y a.block
theorem Off.mono {Y Y' : Nat → Prop} {v : Value} (h : Off Y v) (hy : ∀ k, Y' k → Y k) : Off Y' v := fun k hk hy' => h k hk (hy k hy')
theorem OffV.mono {Y Y' : Nat → Prop} {v : Value} (h : OffV Y v) (hy : ∀ k, Y' k → Y k) : OffV Y' v := fun a n c hu hn hy' => h a n c hu hn (hy _ hy')
theorem Off.nil (Y : Nat → Prop) : Off Y (.slice none 0 0) := fun k hk => by cases hk
def OwnX (w : World) (Y : Nat → Prop) (v : Value) (rs : List (List UInt8)) : Prop :=
  ∃ vs : List Value, w.ownsRow 0 22 1 v rs.length vs ∧ Off Y v ∧ ∀ (j : Nat) (r : List UInt8), rs[j]? = some r → ∃ u, vs[j]? = some u ∧ ElB w v.ownBlock u r ∧ OffV Y u
theorem OwnX.nil (w : World) (Y : Nat → Prop) : OwnX w Y (.slice none 0 0) [] := ⟨[], World.ownsRow_nil _ _ _ _, Off.nil Y, fun j r h => by simp at h⟩
theorem OwnX.toB {w : World} {Y : Nat → Prop} {v : Value} {rs : List (List UInt8)} (h : OwnX w Y v rs) : OwnB w 0 v rs := by
  obtain ⟨vs, h1, _, h2⟩ := h
  exact ⟨vs, h1, fun j r hr => by obtain ⟨u, a, b, _⟩ := h2 j r hr; exact ⟨u, a, b⟩⟩
theorem OwnX.off {w : World} {Y : Nat → Prop} {v : Value} {rs : List (List UInt8)} (h : OwnX w Y v rs) : Off Y v := by
  obtain ⟨vs, h1, h2, _⟩ := h
  exact h2
theorem OwnX.mono {w : World} {Y Y' : Nat → Prop} {v : Value} {rs : List (List UInt8)} (h : OwnX w Y v rs) (hy : ∀ k, Y' k → Y k) : OwnX w Y' v rs := by
  obtain ⟨vs, h1, h2, h3⟩ := h
  refine ⟨vs, h1, h2.mono hy, fun j r hr => ?_⟩
  obtain ⟨u, a, b, c⟩ := h3 j r hr
  exact ⟨u, a, b, c.mono hy⟩
theorem OwnX.lt {w : World} {Y : Nat → Prop} {v : Value} {rs : List (List UInt8)} (h : OwnX w Y v rs) : ∀ k, v.ownBlock = some k → k < w.heap.size := fun k hk => (h.toB.lt k hk).2
/-- These blocks are as they were. -/
structure Kp (X : Nat → Prop) (a b : World) : Prop where
  os : b.os = a.os
  tape : b.tape = a.tape
  output : b.output = a.output
  size : a.heap.size ≤ b.heap.size
  block : ∀ k, X k → k < a.heap.size → b.heap[k]? = a.heap[k]?
theorem Kp.refl (X : Nat → Prop) (w : World) : Kp X w w := ⟨rfl, rfl, rfl, Nat.le_refl _, fun _ _ _ => rfl⟩
theorem Kp.trans {X : Nat → Prop} {a b c : World} (h : Kp X a b) (k : Kp X b c) : Kp X a c :=
  ⟨k.os.trans h.os, k.tape.trans h.tape, k.output.trans h.output, Nat.le_trans h.size k.size, fun i hx hi => (k.block i hx (Nat.lt_of_lt_of_le hi h.size)).trans (h.block i hx hi)⟩
theorem Kp.mono {X X' : Nat → Prop} {a b : World} (h : Kp X a b) (hx : ∀ k, X' k → X k) : Kp X' a b := ⟨h.os, h.tape, h.output, h.size, fun k hk => h.block k (hx k hk)⟩
theorem Kp.of_ext {X : Nat → Prop} {a b : World} (h : Ext a b) : Kp X a b := ⟨h.os, h.tape, h.output, h.size, fun k _ hk => h.block k hk⟩
theorem Kp.ext {X : Nat → Prop} {a b c : World} (h : Kp X a b) (k : Ext b c) : Kp X a c := h.trans (Kp.of_ext k)
theorem Kp.set {X : Nat → Prop} {a b : World} (h : Kp X a b) (g i : Nat) (v : Value) (hg : ¬ X g) : Kp X a (b.setCell ⟨g, i, none⟩ v) :=
  h.trans ⟨rfl, rfl, rfl, by simp [World.setCell], fun k hk hlt => Below.heap_setCell b ⟨g, i, none⟩ v k (fun e => hg (by subst e; exact hk))⟩
theorem Kp.drew {X : Nat → Prop} {a b : World} (h : Kp X a b) : Kp X a b.drew := ⟨h.os, h.tape, h.output, h.size, h.block⟩
theorem Kp.drewN {X : Nat → Prop} {a b : World} (h : Kp X a b) (n : Nat) : Kp X a (b.drewN n) := ⟨h.os, h.tape, h.output, h.size, h.block⟩
theorem Kp.alloc {X : Nat → Prop} {a b : World} (h : Kp X a b) (o : Obj) : Kp X a (b.alloc o) := h.ext ((Ext.refl b).alloc o)
theorem Kp.grown {X : Nat → Prop} {a b c : World} {row : Option Nat} (h : Kp X a b) (hg : b.grownBy c row) (hr : ∀ k, row = some k → ¬ X k) : Kp X a c :=
  h.trans ⟨hg.os, hg.tape, hg.output, hg.size, fun k hk hlt => hg.block k hlt (fun e => hr k e.symm hk)⟩
theorem Kp.to_ext {X : Nat → Prop} {a b : World} (h : Kp X a b) (hx : ∀ k, k < a.heap.size → X k) : Ext a b := ⟨h.os, h.tape, h.output, h.size, fun k hk => h.block k (hx k hk) hk⟩
theorem Kp.heap {X : Nat → Prop} {a b : World} (h : Kp X a b) {k : Nat} {o : Obj} (hk : a.heap[k]? = some o) (hx : X k) : b.heap[k]? = some o :=
  (h.block k hx (Array.getElem?_eq_some_iff.1 hk).1).trans hk
theorem Kp.cell {X : Nat → Prop} {a b : World} (h : Kp X a b) {p : Addr} {v : Value} (hc : a.cell? p = some v) (hx : X p.block) : b.cell? p = some v :=
  (World.cell?_of_block (h.block p.block hx (World.block_lt_of_cell? a p hc))).trans hc
theorem Kp.sees {X : Nat → Prop} {w w' : World} {A : Option Addr} {n c : Nat} {xs : List Value} (hk : Kp X w w') (h : Sees w A n c xs) (hx : ∀ a, A = some a → 0 < n → X a.block) : Sees w' A n c xs :=
  ⟨h.1, h.2.1, h.2.2.1, h.2.2.2.1, fun hn => by
    obtain ⟨b, off, hA, hc⟩ := h.2.2.2.2 hn
    exact ⟨b, off, hA, fun j u hu => hk.cell (p := ⟨b, off + j, none⟩) (hc j u hu) (hx ⟨b, off, none⟩ hA hn)⟩⟩
theorem Kp.own {X : Nat → Prop} {w w' : World} {base : Nat} {e : TypeId} {v : Value} {n : Nat} {xs : List Value} (hk : Kp X w w') (h : w.ownsRow base e 1 v n xs) (hx : ∀ k, v.ownBlock = some k → X k) : w'.ownsRow base e 1 v n xs := by
  obtain ⟨h1, h2⟩ := h
  refine ⟨h1, ?_⟩
  rcases h2 with h2 | ⟨g, cap, cur, hv, hg, hh, r⟩
  · exact .inl h2
  · exact .inr ⟨g, cap, cur, hv, hg, hk.heap hh (hx g (by rw [hv]; rfl)), r⟩
/-- A row that keeps: its own block and its elements' are kept. -/
theorem OwnX.kept {Y : Nat → Prop} {w w' : World} {v : Value} {rs : List (List UInt8)} (h : OwnX w Y v rs) (hk : Kp (fun k => ¬ Y k) w w') : OwnX w' Y v rs := by
  obtain ⟨vs, h1, h2, h3⟩ := h
  refine ⟨vs, hk.own h1 h2, h2, fun j r hr => ?_⟩
  obtain ⟨u, a, ⟨A, n, c, rfl, hs, hne⟩, ho⟩ := h3 j r hr
  exact ⟨_, a, ⟨A, n, c, rfl, hk.sees hs (fun ad hA hn => by subst hA; exact ho ad n c rfl hn), hne⟩, ho⟩
theorem OwnX.ext {Y : Nat → Prop} {w w' : World} {v : Value} {rs : List (List UInt8)} (h : OwnX w Y v rs) (he : Ext w w') : OwnX w' Y v rs := h.kept (Kp.of_ext he)
theorem OwnX.elem {w : World} {Y : Nat → Prop} {v : Value} {rs : List (List UInt8)} (h : OwnX w Y v rs) : ∃ A c vs, v = .slice A rs.length c ∧ Sees w A rs.length c vs ∧ vs.length = rs.length ∧ ∀ (j : Nat) (r : List UInt8), rs[j]? = some r → ∃ u, vs[j]? = some u ∧ ElB w v.ownBlock u r ∧ OffV Y u := by
  obtain ⟨vs, h1, h2, h3⟩ := h
  obtain ⟨A, c, hv, hs⟩ := Sees.of_own h1
  exact ⟨A, c, vs, hv, hs, hs.len, h3⟩
/-- Rows that are read, behind those of a row. -/
theorem ownX_app {w : World} {Y : Nat → Prop} {v : Value} {ds ls : List (List UInt8)} {A : Option Addr} {m c : Nat} {vs2 : List Value} (h : OwnX w Y v ds) (hY : ∀ k, Y k → k < w.heap.size) (hl : ds.length + ls.length ≤ 100000) (hs : Sees w A m c vs2) (hlen : vs2.length = ls.length)
    (hel : ∀ (j : Nat) (r : List UInt8), ls[j]? = some r → ∃ u, vs2[j]? = some u ∧ ElB w v.ownBlock u r ∧ OffV Y u) :
    ∃ v' w', (Builtin.append_ #[30, 30] 30 #[v, .slice A m c]).run Tryd.prog w = .ok v' w' ∧ OwnX w' Y v' (ds ++ ls) ∧ w.grownBy w' v.ownBlock ∧ (v'.ownBlock = v.ownBlock ∨ v'.ownBlock = some w.heap.size) := by
  obtain ⟨i0, hi, hz0, hz1, hz2⟩ := info_partsS infoS
  obtain ⟨vs, h1, hoff, h2⟩ := h
  have hlm := hs.len
  obtain ⟨v', w', hrun, hown', hg, hat⟩ := run_append_sees (P := Tryd.prog) (w := w) 0 30 30 22 i0 _ 24 Tryd.underlying30 hi hz0 hz1 hz2 rfl v _ _ h1
    A m c vs2 hs (fun u hu => by
      obtain ⟨j, hj, rfl⟩ := List.mem_iff_getElem.1 hu
      obtain ⟨u2, a, ⟨A', n', c', b, _⟩, _⟩ := hel j (ls[j]'(by omega)) (List.getElem?_eq_getElem (by omega))
      rw [List.getElem?_eq_getElem hj] at a
      have a2 := Option.some.inj a
      rw [a2, b]
      simp [Value.oneCell']) (by unfold maxLen; omega) (by omega) (Nat.zero_le _)
  have hlv : vs.length = ds.length := by have := h1.1; simpa using this
  have key : ∀ u r0, ElB w v.ownBlock u r0 → ElB w' v'.ownBlock u r0 := fun u r0 hE => by
    obtain ⟨A0, n0, c0, rfl, hs0, hne0⟩ := hE
    refine ⟨A0, n0, c0, rfl, hs0.grown hg hne0, fun a hA hn => ?_⟩
    rcases hat with h | h
    · rw [h]
      exact hne0 a hA hn
    · rw [h]
      obtain ⟨b1, off1, u, hA1, _, _, hlt⟩ := hs0.at_ (show 0 < n0 from hn)
      rw [hA] at hA1
      injection hA1 with hA1
      subst hA1
      intro e
      injection e with e
      simp at e
      omega
  have hoff' : Off Y v' := fun k hk hy => by
    rcases hat with h | h
    · rw [h] at hk
      exact hoff k hk hy
    · rw [h] at hk
      injection hk with hk
      have := hY k hy
      omega
  refine ⟨v', w', hrun, ⟨vs ++ vs2, by rw [List.length_append, ← hlen, hlm]; exact hown', hoff', fun j r0 hr => ?_⟩, hg, hat⟩
  by_cases hj : j < ds.length
  · rw [List.getElem?_append_left hj] at hr
    obtain ⟨u, h3, h4, h5⟩ := h2 j r0 hr
    exact ⟨u, by rw [List.getElem?_append_left (by omega)]; exact h3, key _ _ h4, h5⟩
  · rw [List.getElem?_append_right (by omega)] at hr
    obtain ⟨u, h3, h4, h5⟩ := hel _ r0 hr
    exact ⟨u, by rw [List.getElem?_append_right (by omega), hlv]; exact h3, key _ _ h4, h5⟩
theorem ownX_push {w : World} {Y : Nat → Prop} {v : Value} {rs : List (List UInt8)} {A' : Option Addr} {n' c' : Nat} {r : List UInt8} (h : OwnX w Y v rs) (hY : ∀ k, Y k → k < w.heap.size) (hl : rs.length ≤ 99999) (hs : Sees w A' n' c' (bs r))
    (hne : ∀ a, A' = some a → 0 < n' → v.ownBlock ≠ some a.block) (hlo : ∀ a, A' = some a → 0 < n' → ¬ Y a.block) :
    ∃ v' w', (Builtin.append_ #[30, 30] 30 #[v, .slice (some ⟨w.heap.size, 0, none⟩) 1 1]).run Tryd.prog (w.alloc (.cells #[.slice A' n' c'] 22)) = .ok v' w' ∧ OwnX w' Y v' (rs ++ [r]) ∧ (w.alloc (.cells #[.slice A' n' c'] 22)).grownBy w' v.ownBlock ∧ (v'.ownBlock = v.ownBlock ∨ v'.ownBlock = some (w.heap.size + 1)) := by
  have he : Ext w (w.alloc (.cells #[.slice A' n' c'] 22)) := (Ext.refl _).alloc _
  obtain ⟨v', w', h1, h2, h3, h4⟩ := ownX_app (ls := [r]) (vs2 := [.slice A' n' c']) (h.ext he) (fun k hk => Nat.lt_of_lt_of_le (hY k hk) he.size) (by simp; omega) (sees_new w 22 #[.slice A' n' c'] (by simp [maxLen])) rfl (fun j r0 hr => by
    match j, hr with
    | 0, hr =>
      simp at hr
      subst hr
      exact ⟨_, rfl, ⟨A', n', c', rfl, hs.ext he, hne⟩, fun a n c hu hn => by
        injection hu with q1 q2 q3
        exact hlo a q1 (by omega)⟩
    | j + 1, hr => simp at hr)
  exact ⟨v', w', h1, h2, h3, by simpa using h4⟩
/-- A byte behind bytes of the call's own. -/
theorem own_byte {w : World} {v : Value} {n : Nat} {l : List UInt8} (b : UInt8) (h : w.ownsRow 0 5 1 v n (bs l)) (hn : n ≤ 100000) :
    ∃ v' w', (Builtin.append_ #[22, 22] 22 #[v, .slice (some ⟨w.heap.size, 0, none⟩) 1 1]).run Tryd.prog (w.alloc (.cells #[.int .u8 (b.toNat : Int)] 5)) = .ok v' w' ∧ w'.ownsRow 0 5 1 v' (n + 1) (bs (l ++ [b])) ∧
      (w.alloc (.cells #[.int .u8 (b.toNat : Int)] 5)).grownBy w' v.ownBlock ∧ (v'.ownBlock = v.ownBlock ∨ v'.ownBlock = some (w.heap.size + 1)) := by
  obtain ⟨i0, hi, hz0, hz1, hz2⟩ := info_parts infoB
  have he : Ext w (w.alloc (.cells #[.int .u8 (b.toNat : Int)] 5)) := (Ext.refl _).alloc _
  obtain ⟨v', w', hrun, hown, hg, hat⟩ := run_append_sees (P := Tryd.prog) (w := w.alloc (.cells #[.int .u8 (b.toNat : Int)] 5)) 0 22 22 5 i0 _ 1 Tryd.underlying22 hi hz0 hz1 hz2 rfl v n _ (own_ext h he)
    (some ⟨w.heap.size, 0, none⟩) 1 1 (bs [b]) (sees_new w 5 #[.int .u8 (b.toNat : Int)] (by simp [maxLen])) (bs_one _) (by unfold maxLen; omega) (by omega) (Nat.zero_le _)
  exact ⟨v', w', hrun, by rw [bs_append]; exact hown, hg, by simpa using hat⟩
end Go.Proofs.YtdoijbjmhnncdaaDoor
