/-
  The two readers of layer 1 side by side: for every state, what both return and leave.
-/
import Derived.Test.YtefkjoooecphaaaXdrQ
namespace Go.Proofs.Ytefkjoooecphaaa
open Go Go.RowKit
set_option linter.unusedVariables false
set_option linter.unusedSimpArgs false

theorem pre_onlJ (g : Nat) : Pre (Onl g) := ⟨Onl.refl g, fun _ _ _ h k => h.trans k⟩
theorem pre_any : Pre (fun _ _ => True) := ⟨fun _ => trivial, fun _ _ _ _ _ => trivial⟩
theorem pre_ext : Pre Ext := ⟨Ext.refl, fun _ _ _ h k => h.trans k⟩
theorem lexR_turn {P : Program} {ops : Array Oper} {Q : Exit → Act → World → Prop} {al : List Nat} {k : Nat} {l : List Oper} {a : Act} {w : World} {T T' : World → World → Prop} (hT : ∀ w', T' w w' → T w w')
    (h : wpLexR T' P ops Q al k l a w) : wpLexR T P ops Q al k l a w := wpLexT_weak hT _ _ _ _ h

/-- A row of one's own stays where another block is turned. -/
theorem own_onl {w w' : World} {g base : Nat} {e : TypeId} {v : Value} {n : Nat} {xs : List Value} (h : w.ownsRow base e 1 v n xs) (he : Onl g w w') (hg : g < base) : w'.ownsRow base e 1 v n xs := by
  obtain ⟨h1, h2⟩ := h
  refine ⟨h1, ?_⟩
  rcases h2 with h2 | ⟨g', cap, cur, hv, hg', hh, r⟩
  · exact .inl h2
  · exact .inr ⟨g', cap, cur, hv, hg', he.heap hh (by omega), r⟩
theorem Rfr.of_own {w : World} {h base : Nat} {v : Value} {n : Nat} {B : List UInt8} (hb : w.heap[h]? = some (.cells #[v, .int .i64 0, .int .i64 0] 42 (0, 0))) (ho : w.ownsRow base 5 1 v n (bs B)) : Rfr w h 0 B := by
  obtain ⟨A, c, rfl, hs⟩ := Sees.of_own ho
  exact ⟨A, n, c, B, 0, hb, hs, Nat.zero_le _, fun _ => by simp, fun h => absurd rfl h⟩

/-- Both readers return v and are then at e, l. -/
def J2 (f f2 : FuncId) (more : List Value) (e : Int) (l : List UInt8) (v : Value) (e' : Int) (l' : List UInt8) : Prop :=
  (∀ g w, Rdr w g e l → Calls Try.prog f (.pointer (some ⟨g, 0, none⟩) :: more).toArray w fun x w' => x = .returned v ∧ Rdr w' g e' l' ∧ Onl g w w') ∧
  (∀ g w, Rfr w g e l → Calls Try.prog f2 (.pointer (some ⟨g, 0, none⟩) :: more).toArray w fun x w' => x = .returned v ∧ Rfr w' g e' l' ∧ Onl g w w')
theorem u32_j (e : Int) (l : List UInt8) : ∃ x e' l', J2 27 28 [] e l (.int .u32 x) e' l' ∧ l'.length ≤ l.length := by
  by_cases hk : l.length < 4
  · exact ⟨0, ferr e 3, [], ⟨fun g w h => u32_few g e l w h hk, fun g w h => ru32_few g e l w h hk⟩, by simp⟩
  · exact ⟨num4 l, e, l.drop 4, ⟨fun g w h => u32_ok g e l w h (by omega), fun g w h => ru32_ok g e l w h (by omega)⟩, by rw [List.length_drop]; omega⟩
theorem u64_j (e : Int) (l : List UInt8) : ∃ x e' l', J2 29 30 [] e l (.int .u64 x) e' l' ∧ l'.length ≤ l.length := by
  by_cases hk : l.length < 8
  · exact ⟨0, ferr e 3, [], ⟨fun g w h => u64_few g e l w h hk, fun g w h => ru64_few g e l w h hk⟩, by simp⟩
  · exact ⟨num8 l, e, l.drop 8, ⟨fun g w h => u64_ok g e l w h (by omega), fun g w h => ru64_ok g e l w h (by omega)⟩, by rw [List.length_drop]; omega⟩
theorem bool_j (e : Int) (l : List UInt8) : ∃ x e' l', J2 31 32 [] e l (.bool x) e' l' ∧ l'.length ≤ l.length := by
  by_cases hk : l.length < 4
  · exact ⟨false, ferr e 3, [], ⟨fun g w h => bool_few g e l w h hk, fun g w h => rbool_few g e l w h hk⟩, by simp⟩
  · by_cases h1 : num4 l ≤ 1
    · exact ⟨_, e, l.drop 4, ⟨fun g w h => bool_r g e l w h (by omega) h1, fun g w h => rbool_r g e l w h (by omega) h1⟩, by rw [List.length_drop]; omega⟩
    · exact ⟨false, ferr e 2, [], ⟨fun g w h => bool_wrong g e l w h (by omega) (by omega), fun g w h => rbool_wrong g e l w h (by omega) (by omega)⟩, by simp⟩

/-- The first place at which it does not hold, below a number. -/
theorem first_not (p : Nat → Prop) : ∀ n, (∀ k, k < n → p k) ∨ ∃ j, j < n ∧ (∀ k, k < j → p k) ∧ ¬ p j
  | 0 => .inl fun k hk => by omega
  | n + 1 => by
    rcases first_not p n with h | ⟨j, h1, h2, h3⟩
    · by_cases hn : p n
      · exact .inl fun k hk => by
          rcases Nat.lt_or_ge k n with h5 | h5
          · exact h k h5
          · obtain rfl : k = n := by omega
            exact hn
      · exact .inr ⟨n, by omega, h, hn⟩
    · exact .inr ⟨j, by omega, h2, h3⟩
/-- Both readers return the bytes t and are then at e, l. -/
def T2 (most : Int) (e : Int) (l : List UInt8) (t : List UInt8) (e' : Int) (l' : List UInt8) : Prop :=
  (∀ g w, Rdr w g e l → Calls Try.prog 33 #[.pointer (some ⟨g, 0, none⟩), .int .i64 most] w fun x w' => ∃ A n c, x = .returned (.slice A n c) ∧ Sees w' A n c (bs t) ∧ Rdr w' g e' l' ∧ Onl g w w') ∧
  (∀ g w, Rfr w g e l → Calls Try.prog 34 #[.pointer (some ⟨g, 0, none⟩), .int .i64 most] w fun x w' => ∃ A n c, x = .returned (.slice A n c) ∧ Sees w' A n c (bs t) ∧ Rfr w' g e' l' ∧ Onl g w w')
theorem text_j (most e : Int) (l : List UInt8) (hl : l.length ≤ 4194304) : ∃ t e' l', T2 most e l t e' l' ∧ l'.length ≤ l.length := by
  have none_ : ∀ {n : Nat} {f : FuncId} {args : Array Value} {w : World} {R : World → Prop} {t : List UInt8}, Calls Try.prog f args w (fun x w' => ∃ A c, x = .returned (.slice A n c) ∧ Sees w' A n c (bs t) ∧ R w') → Calls Try.prog f args w (fun x w' => ∃ A m c, x = .returned (.slice A m c) ∧ Sees w' A m c (bs t) ∧ R w') :=
    fun h => h.mono fun x w' ⟨A, c, h⟩ => ⟨A, _, c, h⟩
  by_cases hk : l.length < 4
  · exact ⟨[], ferr e 3, [], ⟨fun g w h => none_ (text_few g e most l w h hk), fun g w h => none_ (rtext_few g e most l w h hk)⟩, by simp⟩
  · have hb := num4_bound l
    obtain ⟨M, hM⟩ : ∃ M : Nat, num4 l = (M : Int) := ⟨(num4 l).toNat, by omega⟩
    by_cases hm : most < (M : Int)
    · exact ⟨[], ferr e 4, [], ⟨fun g w h => none_ (text_range g e most l M w h (by omega) hM hm), fun g w h => none_ (rtext_range g e most l M w h (by omega) hM hm)⟩, by simp⟩
    · by_cases hs : l.length - 4 < M + pad M
      · exact ⟨[], ferr e 3, [], ⟨fun g w h => none_ (text_short g e most l M w h (by omega) hM (by omega) hs), fun g w h => none_ (rtext_short g e most l M w h (by omega) hM (by omega) hs)⟩, by simp⟩
      · rcases first_not (fun k => (l.drop 4).getD (M + k) 0 = 0) (pad M) with hz | ⟨j, hj, hz, hn⟩
        · exact ⟨_, e, _, ⟨fun g w h => none_ (text_ok g e most l M w h (by omega) hM (by omega) (by omega) hl hz), fun g w h => none_ (rtext_ok g e most l M w h (by omega) hM (by omega) (by omega) hz)⟩, by rw [List.length_drop]; omega⟩
        · exact ⟨[], ferr e 2, [], ⟨fun g w h => none_ (text_bad g e most l M j w h (by omega) hM (by omega) (by omega) hl hj hz hn), fun g w h => none_ (rtext_bad g e most l M j w h (by omega) hM (by omega) (by omega) hj hz hn)⟩, by simp⟩
end Go.Proofs.Ytefkjoooecphaaa
