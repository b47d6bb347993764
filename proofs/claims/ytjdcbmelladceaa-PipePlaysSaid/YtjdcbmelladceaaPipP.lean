/-
  Layer 5: plain words of a pipe: what is left behind some bytes, the pieces that are told.
-/
namespace Go.Proofs.Ytjdcbmelladceaa
set_option linter.unusedVariables false
set_option linter.unusedSimpArgs false
/-- The texts without the first k bytes. -/
def cutT : Nat → List (List UInt8) → List (List UInt8)
  | _, [] => []
  | k, h :: t => if k < h.length then h.drop k :: t else cutT (k - h.length) t
def AllNe (T : List (List UInt8)) : Prop := ∀ t ∈ T, ¬ t = []
theorem AllNe.tail {h : List UInt8} {t : List (List UInt8)} (H : AllNe (h :: t)) : AllNe t := fun x hx => H x (by simp [hx])
theorem AllNe.head {h : List UInt8} {t : List (List UInt8)} (H : AllNe (h :: t)) : 0 < h.length := by
  have := H h (by simp)
  cases h with
  | nil => exact absurd rfl this
  | cons a l => simp
theorem cutT_ne : ∀ (T : List (List UInt8)) (k : Nat), AllNe T → AllNe (cutT k T)
  | [], _, _ => fun x hx => by simp [cutT] at hx
  | h :: t, k, H => by
    unfold cutT
    by_cases hk : k < h.length
    · rw [if_pos hk]
      intro x hx
      simp at hx
      rcases hx with rfl | hx
      · intro e
        have := congrArg List.length e
        simp at this
        omega
      · exact H.tail x hx
    · rw [if_neg hk]
      exact cutT_ne t _ H.tail
theorem cutT_flat : ∀ (T : List (List UInt8)) (k : Nat), (cutT k T).flatten = T.flatten.drop k
  | [], k => by simp [cutT]
  | h :: t, k => by
    unfold cutT
    by_cases hk : k < h.length
    · rw [if_pos hk]
      simp [List.drop_append, show k - h.length = 0 by omega]
    · rw [if_neg hk, cutT_flat t]
      simp [List.drop_append, List.drop_eq_nil_of_le (show h.length ≤ k by omega)]
theorem cutT_len : ∀ (T : List (List UInt8)) (k : Nat), (cutT k T).length ≤ T.length
  | [], k => by simp [cutT]
  | h :: t, k => by
    unfold cutT
    split
    · simp
    · have := cutT_len t (k - h.length)
      simp
      omega
theorem cutT_zero : ∀ (T : List (List UInt8)), AllNe T → cutT 0 T = T
  | [], _ => rfl
  | h :: t, H => by
    unfold cutT
    rw [if_pos H.head]
    simp
theorem cutT_all (T : List (List UInt8)) (H : AllNe T) (k : Nat) (hk : T.flatten.length ≤ k) : cutT k T = [] := by
  have h1 := cutT_flat T k
  rw [List.drop_eq_nil_of_le hk] at h1
  have h2 := cutT_ne T k H
  cases hc : cutT k T with
  | nil => rfl
  | cons a l =>
    rw [hc] at h1 h2
    simp at h1
    exact absurd h1.1 (h2 a (by simp))
theorem flat_nil {T : List (List UInt8)} (H : AllNe T) (h : T.flatten.length = 0) : T = [] := by
  have := cutT_all T H 0 (by omega)
  rwa [cutT_zero T H] at this
theorem flat_pos {h : List UInt8} {t : List (List UInt8)} (H : AllNe (h :: t)) : 0 < (h :: t).flatten.length := by
  have := H.head
  simp
  omega
/-- The size of a piece's number. -/
def szF (z : List Int) (a : Nat) : Nat := (z.getD a 0).toNat
/-- These pieces are told of these bytes, from a place in the script on. -/
def Dr (z : List Int) : Nat → List UInt8 → List (List UInt8) → Prop
  | _, l, [] => l = []
  | a, l, r :: rs => ¬ l = [] ∧ r = l.take (szF z a) ∧ Dr z ((a + 1) % z.length) (l.drop (szF z a)) rs
theorem Dr.flat {z : List Int} : ∀ {rs : List (List UInt8)} {a : Nat} {l : List UInt8}, Dr z a l rs → rs.flatten = l
  | [], _, _, h => by unfold Dr at h; subst h; rfl
  | r :: rs, a, l, h => by
    unfold Dr at h
    obtain ⟨_, h2, h3⟩ := h
    simp [Dr.flat h3, h2]
/-- How far it is to a size above 0. -/
def dst (z : List Int) : Nat → Nat → Nat
  | 0, _ => 0
  | f + 1, a => if 0 < szF z a then 0 else 1 + dst z f ((a + 1) % z.length)
theorem dst_le (z : List Int) : ∀ (f a d : Nat), 0 < z.length → a < z.length → 0 < szF z ((a + d) % z.length) → dst z f a ≤ d
  | 0, a, d, _, _, _ => by simp [dst]
  | f + 1, a, d, hz, ha, h => by
    unfold dst
    split
    · omega
    · rename_i hn
      have hd : 0 < d := by
        rcases Nat.eq_zero_or_pos d with e | e
        · subst e
          rw [Nat.add_zero, Nat.mod_eq_of_lt ha] at h
          exact absurd h hn
        · exact e
      have := dst_le z f ((a + 1) % z.length) (d - 1) hz (Nat.mod_lt _ hz) (by
        rw [Nat.mod_add_mod, show a + 1 + (d - 1) = a + d by omega]
        exact h)
      omega
theorem dst_pos (z : List Int) : ∀ (f a d : Nat), 0 < z.length → a < z.length → d < f → 0 < szF z ((a + d) % z.length) → 0 < szF z ((a + dst z f a) % z.length) ∧ dst z f a < f
  | 0, a, d, _, _, hd, _ => absurd hd (by omega)
  | f + 1, a, d, hz, ha, hdf, h => by
    unfold dst
    by_cases hp : 0 < szF z a
    · rw [if_pos hp, Nat.add_zero, Nat.mod_eq_of_lt ha]
      exact ⟨hp, by omega⟩
    · rw [if_neg hp]
      have hd : 0 < d := by
        rcases Nat.eq_zero_or_pos d with e | e
        · subst e
          rw [Nat.add_zero, Nat.mod_eq_of_lt ha] at h
          exact absurd h hp
        · exact e
      have := dst_pos z f ((a + 1) % z.length) (d - 1) hz (Nat.mod_lt _ hz) (by omega) (by
        rw [Nat.mod_add_mod, show a + 1 + (d - 1) = a + d by omega]
        exact h)
      rw [Nat.mod_add_mod] at this
      rw [show a + (1 + dst z f ((a + 1) % z.length)) = a + 1 + dst z f ((a + 1) % z.length) by omega]
      exact ⟨this.1, by omega⟩
/-- Bytes come by a script. -/
def Goes (z : List Int) : Prop := 0 < z.length ∧ ∃ j, j < z.length ∧ 0 < szF z j
theorem Goes.from_ {z : List Int} (h : Goes z) (a : Nat) (ha : a < z.length) : ∃ d, d < z.length ∧ 0 < szF z ((a + d) % z.length) := by
  obtain ⟨hz, j, hj, hp⟩ := h
  by_cases h : a ≤ j
  · exact ⟨j - a, by omega, by rw [show a + (j - a) = j by omega, Nat.mod_eq_of_lt hj]; exact hp⟩
  · exact ⟨j + z.length - a, by omega, by rw [show a + (j + z.length - a) = j + z.length by omega, Nat.add_mod_right, Nat.mod_eq_of_lt hj]; exact hp⟩
/-- The measure of a pipe that is drained. -/
def mea (z : List Int) (left a : Nat) : Nat := left * z.length + dst z z.length a
theorem mea_down {z : List Int} (h : Goes z) (left a k : Nat) (ha : a < z.length) (hk : k = min (szF z a) left) (hl : 0 < left) : mea z (left - k) ((a + 1) % z.length) < mea z left a := by
  obtain ⟨d, hd, hp⟩ := h.from_ a ha
  obtain ⟨q1, q2⟩ := dst_pos z z.length a d h.1 ha hd hp
  obtain ⟨d', hd', hp'⟩ := h.from_ ((a + 1) % z.length) (Nat.mod_lt _ h.1)
  obtain ⟨_, q3⟩ := dst_pos z z.length ((a + 1) % z.length) d' h.1 (Nat.mod_lt _ h.1) hd' hp'
  unfold mea
  by_cases hs : 0 < szF z a
  · have hk1 : 1 ≤ k := by omega
    have hk2 : k ≤ left := by omega
    have e : left = (left - k) + k := by omega
    have h3 : (left - k) * z.length + k * z.length = left * z.length := by rw [← Nat.add_mul, ← e]
    have h4 : 1 * z.length ≤ k * z.length := Nat.mul_le_mul_right _ hk1
    omega
  · obtain rfl : k = 0 := by omega
    have hd0 : ¬ dst z z.length a = 0 := fun e => by
      rw [e, Nat.add_zero, Nat.mod_eq_of_lt ha] at q1
      exact hs q1
    have := dst_le z z.length ((a + 1) % z.length) (dst z z.length a - 1) h.1 (Nat.mod_lt _ h.1) (by
      rw [Nat.mod_add_mod, show a + 1 + (dst z z.length a - 1) = a + dst z z.length a by omega]
      exact q1)
    rw [Nat.sub_zero]
    omega
theorem mea_le {z : List Int} (h : Goes z) (left a : Nat) (ha : a < z.length) : mea z left a < (left + 1) * z.length := by
  obtain ⟨d, hd, hp⟩ := h.from_ a ha
  obtain ⟨_, q2⟩ := dst_pos z z.length a d h.1 ha hd hp
  unfold mea
  rw [Nat.add_mul]
  omega
end Go.Proofs.Ytjdcbmelladceaa
