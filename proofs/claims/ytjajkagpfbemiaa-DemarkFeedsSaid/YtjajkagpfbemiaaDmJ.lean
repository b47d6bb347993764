/-
  Layer 4: what fragments of records make of a deframer.
-/
import Derived.Test.YtjajkagpfbemiaaDmI
import Derived.Test.YtjajkagpfbemiaaMarkG
namespace Go.Proofs.Ytjajkagpfbemiaa
open Go Go.RowKit
set_option linter.unusedVariables false
set_option linter.unusedSimpArgs false
theorem nb_be4 (x : Nat) (t : List UInt8) (h1 : x < 4294967296) : nb (be4 (x : Int) ++ t) = x := by
  have e := fun k h0 h1 => u8_of k h0 h1
  have h := num4_nb (be4 (x : Int) ++ t)
  have h2 : num4 (be4 (x : Int) ++ t) = (x : Int) := by
    simp only [num4, be4, List.cons_append, List.getD_cons_zero, List.getD_cons_succ]
    rw [e _ (by omega) (by omega), e _ (by omega) (by omega), e _ (by omega) (by omega), e _ (by omega) (by omega)]
    omega
  omega
theorem btw_put (n : Nat) (en : Bool) (R : List UInt8) (T : List (List UInt8)) (x : Nat) (t : List UInt8) (h1 : x < 4294967296) :
    (btw n en R T).put (be4 (x : Int)) = ⟨0, 0, [], n + 1, x % 2147483648, decide (2147483648 ≤ x), R, T⟩ := by
  have h := nb_be4 x [] h1
  rw [List.append_nil] at h
  unfold DS.put
  rw [h]
  rfl
def frS (b : Bool) (n : Nat) (R d : List UInt8) (T : List (List UInt8)) : DS := match b with
  | true => btw 0 true [] (T ++ [R ++ d])
  | false => btw (n + 1) false (R ++ d) T
/-- A whole fragment. -/
theorem drun_frag {m f n : Nat} {en b : Bool} {R : List UInt8} {T : List (List UInt8)} (x : Nat) (d rest : List UInt8) (hx : x < 4294967296) (hb : decide (2147483648 ≤ x) = b) (hd : d.length = x % 2147483648) (hn : n + 1 ≤ f) (hm : R.length + d.length ≤ m) :
    drun m f (btw n en R T) (be4 (x : Int) ++ d ++ rest) = drun m f (frS b n R d T) rest := by
  have h4 : (be4 (x : Int) ++ d ++ rest).take 4 = be4 (x : Int) := by
    rw [List.append_assoc]
    exact List.take_left' (be4_length (x : Int))
  have h5 : (be4 (x : Int) ++ d ++ rest).drop 4 = d ++ rest := by
    rw [List.append_assoc]
    exact List.drop_left' (be4_length (x : Int))
  have hnb := nb_be4 x [] hx
  rw [List.append_nil] at hnb
  have kf : ¬ f < (btw n en R T).bg + 1 := by simp [btw]; omega
  have km : ¬ m < nb (be4 (x : Int)) % 2147483648 + (btw n en R T).R.length := by rw [hnb]; simp [btw]; omega
  rw [drun_four m f _ _ rfl rfl (by simp [be4]), h4, h5]
  by_cases hz : d.length = 0
  · obtain rfl : d = [] := List.eq_nil_of_length_eq_zero hz
    rw [go_zero kf km (by rw [hnb, ← hd]; rfl), btw_put n en R T x [] hx, hb, List.nil_append]
    unfold frS
    rw [List.append_nil]
    have h0 : x % 2147483648 = 0 := by rw [← hd]; rfl
    rw [h0]
    cases b <;> rfl
  · rw [go_body kf km (by rw [hnb, ← hd]; exact hz), btw_put n en R T x [] hx, hb, drun_body _ _ _ _ rfl (by show 1 ≤ x % 2147483648; omega) (by show x % 2147483648 ≤ (d ++ rest).length; rw [List.length_append]; omega)]
    rw [List.take_left' hd, List.drop_left' hd]
    cases b <;> rfl
theorem drun_frg {m f : Nat} : ∀ (ks : List Nat) (r R : List UInt8) (n : Nat) (en : Bool) (T : List (List UInt8)), ks ≠ [] → ks.sum = r.length → r.length < 2147483648 → n + ks.length ≤ f → R.length + r.length ≤ m →
    drun m f (btw n en R T) (frg ks r) = btw 0 true [] (T ++ [R ++ r])
  | [], _, _, _, _, _, h, _, _, _, _ => absurd rfl h
  | [k], r, R, n, en, T, _, hs, hr, hf, hm => by
    simp at hs hf
    have h := drun_frag (m := m) (f := f) (n := n) (en := en) (b := true) (R := R) (T := T) (k + 2147483648) r [] (by omega) (by simp) (by omega) hf hm
    unfold frg
    rw [show fhd [] k = ((k + 2147483648 : Nat) : Int) from (by show (k : Int) + 2147483648 = _; omega), List.take_of_length_le (by omega), show frg [] (r.drop k) = [] from rfl]
    rw [h]
    rfl
  | k :: k2 :: ks, r, R, n, en, T, _, hs, hr, hf, hm => by
    have hs' : k + (k2 :: ks).sum = r.length := by simpa using hs
    have hk : k ≤ r.length := by omega
    have h := drun_frag (m := m) (f := f) (n := n) (en := en) (b := false) (R := R) (T := T) k (r.take k) (frg (k2 :: ks) (r.drop k)) (by omega) (by simp; omega) (by rw [List.length_take]; omega) (by simp at hf; omega) (by rw [List.length_take]; omega)
    unfold frg
    rw [show fhd (k2 :: ks) k = (k : Int) from rfl, h]
    have h2 := drun_frg (m := m) (f := f) (k2 :: ks) (r.drop k) (R ++ r.take k) (n + 1) false T (by simp) (by rw [List.length_drop]; omega) (by rw [List.length_drop]; omega) (by simp at hf ⊢; omega) (by rw [List.length_append, List.length_take, List.length_drop]; omega)
    rw [List.append_assoc, List.take_append_drop] at h2
    exact h2
theorem szs_ne (n S : Nat) : szs n S ≠ [] := fun h => by
  have := szs_length n S
  rw [h] at this
  have := cnt_pos n S
  simp at *
  omega
/-- Fragments of records, by sizes. -/
theorem drun_allB {m f : Nat} (g : Nat → Int) : ∀ (rs : List (List UInt8)) (i : Nat) (en : Bool) (T : List (List UInt8)), (∀ r ∈ rs, r.length ≤ m ∧ r.length < 2147483648) → (∀ i, 1 ≤ g i) → (∀ r ∈ rs, ∀ i, cnt r.length (g i).toNat ≤ f ∧ mkE r.length (g i) = 0) →
    ∃ en', drun m f (btw 0 en [] T) (allB g i rs) = btw 0 en' [] (T ++ rs)
  | [], i, en, T, _, _, _ => ⟨en, by simp [allB, drun_nil]⟩
  | r :: rs, i, en, T, h1, h2, h3 => by
    obtain ⟨c1, c2⟩ := h3 r (by simp) i
    have hS : 0 < (g i).toNat := by have := h2 i; omega
    have h := drun_frg (m := m) (f := f) (szs r.length (g i).toNat) r [] 0 en T (szs_ne _ _) (szs_sum hS _) (h1 r (by simp)).2 (by rw [szs_length]; omega) (by have := (h1 r (by simp)).1; simpa using this)
    obtain ⟨en', h'⟩ := drun_allB g rs (i + 1) true (T ++ [r]) (fun x hx => h1 x (by simp [hx])) h2 (fun x hx => h3 x (by simp [hx]))
    refine ⟨en', ?_⟩
    unfold allB mkL
    rw [if_pos c2, drun_app, h, List.nil_append, h']
    simp
theorem cnt_le2 {n S : Nat} (hS : 1 ≤ S) : cnt n S ≤ n + 1 ∧ (1 ≤ n → cnt n S ≤ n) := by
  unfold cnt
  have := Nat.div_le_self (n - 1) S
  split <;> omega
theorem mkE_g {n : Nat} {s : Int} (hn : n ≤ 60) (hs : 1 ≤ s) : mkE n s = 0 := by
  have hc := (cnt_le2 (n := n) (S := s.toNat) (by omega)).1
  unfold mkE
  rw [if_neg (by omega), if_neg (by omega), if_neg (by omega)]
theorem allE_ok (g : Nat → Int) (h2 : ∀ i, 1 ≤ g i) : ∀ (rs : List (List UInt8)) (i : Nat), (∀ r ∈ rs, r.length ≤ 60) → allE g i rs = 0
  | [], _, _ => rfl
  | r :: rs, i, h => by
    unfold allE
    rw [if_pos (mkE_g (h r (by simp)) (h2 i))]
    exact allE_ok g h2 rs (i + 1) fun x hx => h x (by simp [hx])
theorem allB_len (g : Nat → Int) (h2 : ∀ i, 1 ≤ g i) : ∀ (rs : List (List UInt8)) (i : Nat), (∀ r ∈ rs, r.length ≤ 40) → (allB g i rs).length ≤ rs.length * 204
  | [], _, _ => by simp [allB]
  | r :: rs, i, h => by
    have hr := h r (by simp)
    have ih := allB_len g h2 rs (i + 1) fun x hx => h x (by simp [hx])
    have hS : 0 < (g i).toNat := by have := h2 i; omega
    have hc := (cnt_le2 (n := r.length) (S := (g i).toNat) hS).1
    unfold allB mkL
    rw [if_pos (mkE_g (by omega) (h2 i)), List.length_append, frg_length _ _ (szs_sum hS _), szs_length]
    simp
    omega
theorem szOf_ge {zs : List Int} (h : ∀ z ∈ zs, 1 ≤ z) (i : Nat) : 1 ≤ szOf zs i := by
  unfold szOf
  split
  · omega
  · have hi : i % zs.length < zs.length := Nat.mod_lt _ (by omega)
    rw [List.getD_eq_getElem?_getD, List.getElem?_eq_getElem hi]
    exact h _ (List.getElem_mem hi)
end Go.Proofs.Ytjajkagpfbemiaa
