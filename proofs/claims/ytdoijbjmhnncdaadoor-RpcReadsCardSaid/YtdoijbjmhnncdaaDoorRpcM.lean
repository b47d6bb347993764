/-
  Layer 6: bytes that are read by both: what a fault is, how many bytes a header has.
-/
import Derived.Test.YtdoijbjmhnncdaaDoorRpcL
namespace Go.Proofs.YtdoijbjmhnncdaaDoor
open Go Go.RowKit
set_option linter.unusedVariables false
set_option linter.unusedSimpArgs false
theorem own_some {w : World} {base : Nat} {e : TypeId} {v : Value} {n : Nat} {xs : List Value} (h : w.ownsRow base e 1 v n xs) (hn : 0 < n) :
    ∃ g cap cur, v = .slice (some ⟨g, 0, none⟩) n cap ∧ base ≤ g ∧ n ≤ cap ∧ cap ≤ maxLen ∧ w.heap[g]? = some (.cells cur e (0, 0)) ∧ cur.size = cap := by
  obtain ⟨_, h⟩ := h
  rcases h with ⟨_, h0⟩ | ⟨g, cap, cur, hv, hb, hg, hnc, hm, hs, _⟩
  · omega
  · exact ⟨g, cap, cur, hv, hb, hnc, hm, hg, by simpa using hs⟩
theorem own_set {w : World} {base : Nat} {e : TypeId} {g n cap : Nat} {xs : List Value} (h : w.ownsRow base e 1 (.slice (some ⟨g, 0, none⟩) n cap) n xs) (k : Nat) (hk : k < n) (u : Value) :
    (w.setCell ⟨g, k, none⟩ u).ownsRow base e 1 (.slice (some ⟨g, 0, none⟩) n cap) n (xs.set k u) := by
  obtain ⟨h1, h⟩ := h
  rcases h with ⟨h', h0⟩ | ⟨g', cap', cur, hv, hb, hg, hnc, hm, hs, ht⟩
  · omega
  · simp only [Value.slice.injEq, Option.some.injEq, Addr.mk.injEq, and_true, true_and] at hv
    obtain ⟨rfl, rfl⟩ := hv
    refine ⟨by simpa using h1, .inr ⟨g, cap, cur.setIfInBounds k u, rfl, hb, ?_, hnc, hm, by simpa using hs, ?_⟩⟩
    · simp [World.setCell, Array.getElem?_modify, hg]
    · rw [Array.toList_setIfInBounds, Nat.mul_one, List.take_set]
      rw [Nat.mul_one] at ht
      rw [ht]
theorem bs_setM (l : List UInt8) (k : Nat) (u : UInt8) : (bs l).set k (.int .u8 (u.toNat : Int)) = bs (l.set k u) := by
  simp [bs, List.map_set]
theorem numE_none {e : Int} {l : List UInt8} (h : numE e l = 0) : 4 ≤ l.length := by
  unfold numE at h
  split at h
  · assumption
  · unfold ferr at h
    split at h
    · omega
    · contradiction
theorem numF_none {F : Option (Int × Int)} {e : Int} {a : Nat} (h : numF F e a = none) : F = none ∧ e = 0 := by
  unfold numF at h
  split at h
  · exact ⟨h, by assumption⟩
  · unfold orF at h
    split at h <;> cases h
theorem choF_none {F : Option (Int × Int)} {n : Int} {zs : List Int} {a : Nat} (h : choF F n zs a = none) : F = none := by
  unfold choF at h
  split at h
  · exact h
  · unfold orF at h
    split at h <;> cases h
theorem nx_none {s : Int × List UInt8 × Option (Int × Int)} {a : Nat} (h : (nx s a).2.2 = none) : s.2.2 = none ∧ 4 ≤ s.2.1.length ∧ (nx s a).2.1.length = s.2.1.length - 4 := by
  obtain ⟨h1, h2⟩ := numF_none (show numF s.2.2 (numE s.1 s.2.1) a = none from h)
  have h4 := numE_none h2
  exact ⟨h1, h4, by rw [show (nx s a).2.1 = numL s.2.1 from rfl, numL, if_pos h4, List.length_drop]⟩
theorem cx_none {s : Int × List UInt8 × Option (Int × Int)} {zs : List Int} {a : Nat} (h : (cx s zs a).2.2 = none) : s.2.2 = none ∧ 4 ≤ s.2.1.length ∧ (cx s zs a).2.1.length = s.2.1.length - 4 := by
  obtain ⟨h1, h2⟩ := numF_none (choF_none (show choF (numF s.2.2 (numE s.1 s.2.1) a) _ zs a = none from h))
  have h4 := numE_none h2
  exact ⟨h1, h4, by rw [show (cx s zs a).2.1 = numL s.2.1 from rfl, numL, if_pos h4, List.length_drop]⟩
theorem rd_le {r : List UInt8} (h : (rd4 r).2.2 = none) : rdA r ≤ r.length := by
  obtain ⟨h3, l3, _⟩ := nx_none (s := rd3 r) (a := rdA r - 4) h
  have two : (rd2 r).2.2 = none → (rd2 r).2.1.length = r.length - 8 ∧ 8 ≤ r.length := fun h2 => by
    obtain ⟨h1, l1, q1⟩ := cx_none (s := rd1 r) (zs := [0, 1]) (a := 4) h2
    obtain ⟨_, l0, q0⟩ := nx_none (s := (0, r, none)) (a := 0) h1
    have q1' : (rd2 r).2.1.length = (rd1 r).2.1.length - 4 := q1
    have q0' : (rd1 r).2.1.length = r.length - 4 := q0
    have l0' : 4 ≤ r.length := l0
    omega
  rcases Bool.eq_false_or_eq_true (rdR r) with hr | hr
  · have e3 : rd3 r = cx (rd2 r) [0] 8 := by rw [rd3, hr]; rfl
    have eA : rdA r = 16 := by rw [rdA, hr]; rfl
    rw [e3] at h3 l3
    obtain ⟨h2, l2, q2⟩ := cx_none h3
    have := two h2
    omega
  · have e3 : rd3 r = cx (cx (cx (rd2 r) [2] 8) [536870913] 12) [1] 16 := by rw [rd3, hr]; rfl
    have eA : rdA r = 24 := by rw [rdA, hr]; rfl
    rw [e3] at h3 l3
    obtain ⟨hb, lb, qb⟩ := cx_none h3
    obtain ⟨ha, la, qa⟩ := cx_none hb
    obtain ⟨h2, l2, q2⟩ := cx_none ha
    have := two h2
    omega
def GoodS (F : Option (Int × Int)) : Prop := ∀ p, F = some p → p.1 ≠ 0
theorem orF_good {F : Option (Int × Int)} {x a : Int} (h : GoodS F) (hx : x ≠ 0) : GoodS (orF F x a) := by
  intro p hp
  unfold orF at hp
  split at hp
  · injection hp with hp
    subst hp
    exact hx
  · injection hp with hp
    subst hp
    exact h _ rfl
theorem numF_good {F : Option (Int × Int)} {e : Int} {a : Nat} (h : GoodS F) : GoodS (numF F e a) := by
  unfold numF
  split
  · exact h
  · exact orF_good h (by assumption)
theorem nx_good {s : Int × List UInt8 × Option (Int × Int)} (h : GoodS s.2.2) (a : Nat) : GoodS (nx s a).2.2 := numF_good h
theorem cx_good {s : Int × List UInt8 × Option (Int × Int)} (h : GoodS s.2.2) (zs : List Int) (a : Nat) : GoodS (cx s zs a).2.2 := by
  have h1 : GoodS (numF s.2.2 (numE s.1 s.2.1) a) := numF_good h
  show GoodS (choF (numF s.2.2 (numE s.1 s.2.1) a) (numN s.2.1) zs a)
  unfold choF
  split
  · exact h1
  · exact orF_good h1 (by omega)
theorem rd_fault {r : List UInt8} {x a : Int} (h : (rd4 r).2.2 = some (x, a)) : x ≠ 0 := by
  have h1 : GoodS (rd1 r).2.2 := nx_good (fun p hp => by cases hp) 0
  have h2 : GoodS (rd2 r).2.2 := cx_good h1 _ _
  have h3 : GoodS (rd3 r).2.2 := by
    unfold rd3
    split
    · exact cx_good h2 _ _
    · exact cx_good (cx_good (cx_good h2 _ _) _ _) _ _
  exact nx_good h3 _ _ h
end Go.Proofs.YtdoijbjmhnncdaaDoor
