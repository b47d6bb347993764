/-
  Layer 4: fragments in pieces: plain words: what a deframer has, and what the next byte makes of it.
-/
import Derived.Below
namespace Go.Proofs.Ytjajkagpfbemiaa
open Go Go.RowKit
set_option linter.unusedVariables false
set_option linter.unusedSimpArgs false
/-- The number of four bytes. -/
def nb (l : List UInt8) : Nat := (l.getD 0 0).toNat * 16777216 + (l.getD 1 0).toNat * 65536 + (l.getD 2 0).toNat * 256 + (l.getD 3 0).toNat
theorem nb_lt (l : List UInt8) : nb l < 4294967296 := by
  unfold nb
  have h0 := (l.getD 0 0).toNat_lt
  have h1 := (l.getD 1 0).toNat_lt
  have h2 := (l.getD 2 0).toNat_lt
  have h3 := (l.getD 3 0).toNat_lt
  omega
theorem nb_take (l : List UInt8) (k : Nat) (hk : 4 ≤ k) : nb (l.take k) = nb l := by
  have h : ∀ i, i < 4 → (l.take k).getD i 0 = l.getD i 0 := fun i hi => by
    simp only [List.getD_eq_getElem?_getD, List.getElem?_take]
    rw [if_pos (by omega)]
  unfold nb
  rw [h 0 (by omega), h 1 (by omega), h 2 (by omega), h 3 (by omega)]
/-- What a deframer has. -/
structure DS where
  md : Nat
  E : Int
  H : List UInt8
  bg : Nat
  lf : Nat
  en : Bool
  R : List UInt8
  T : List (List UInt8)
def DS.fin (s : DS) : DS := match s.en with
  | true => { s with md := 0, T := s.T ++ [s.R], R := [], bg := 0 }
  | false => { s with md := 0 }
def DS.bad (s : DS) (e : Int) : DS := { s with E := e, R := [], md := 2 }
def DS.put (s : DS) (h : List UInt8) : DS := { s with H := [], bg := s.bg + 1, lf := nb h % 2147483648, en := decide (2147483648 ≤ nb h) }
def DS.go (m f : Nat) (s : DS) : DS := if f < s.bg then s.bad 5 else if m < s.lf + s.R.length then s.bad 4 else if s.lf = 0 then s.fin else { s with md := 1 }
def stepH (m f : Nat) (s : DS) (c : UInt8) : DS := if s.H.length + 1 < 4 then { s with H := s.H ++ [c] } else (s.put (s.H ++ [c])).go m f
def DS.add (s : DS) (c : UInt8) : DS := { s with R := s.R ++ [c], lf := s.lf - 1 }
def stepB (s : DS) (c : UInt8) : DS := if s.lf - 1 = 0 then (s.add c).fin else s.add c
def dstep (m f : Nat) (s : DS) (c : UInt8) : DS := match s.md with
  | 0 => stepH m f s c
  | 1 => stepB s c
  | _ => s
def drun (m f : Nat) (s : DS) (l : List UInt8) : DS := l.foldl (dstep m f) s
theorem drun_nil (m f : Nat) (s : DS) : drun m f s [] = s := rfl
theorem drun_cons (m f : Nat) (s : DS) (c : UInt8) (l : List UInt8) : drun m f s (c :: l) = drun m f (dstep m f s c) l := rfl
theorem drun_app (m f : Nat) (s : DS) (l k : List UInt8) : drun m f s (l ++ k) = drun m f (drun m f s l) k := List.foldl_append ..
theorem dstep0 {m f : Nat} {s : DS} (h : s.md = 0) (c : UInt8) : dstep m f s c = stepH m f s c := by
  unfold dstep
  simp [h]
theorem dstep1 {m f : Nat} {s : DS} (h : s.md = 1) (c : UInt8) : dstep m f s c = stepB s c := by
  unfold dstep
  simp [h]
structure DOk (m f : Nat) (s : DS) : Prop where
  h : s.H.length < 4
  bg : s.bg ≤ f + 1
  lf : s.lf ≤ 2147483648
  rl : s.R.length ≤ m
  hd : s.md = 0 → s.bg ≤ f ∧ s.E = 0
  bd : s.md = 1 → s.H = [] ∧ 1 ≤ s.lf ∧ s.lf + s.R.length ≤ m ∧ s.bg ≤ f ∧ s.E = 0
  er : 2 ≤ s.md → s.H = [] ∧ s.R = [] ∧ (s.E = 4 ∨ s.E = 5)
theorem DOk.fin {m f : Nat} {s : DS} (h1 : s.H = []) (h2 : s.bg ≤ f) (h3 : s.lf ≤ 2147483648) (h4 : s.R.length ≤ m) (h5 : s.E = 0) : DOk m f s.fin := by
  unfold DS.fin
  cases s.en
  · exact ⟨by simp [h1], by simpa using by omega, h3, h4, fun _ => ⟨h2, h5⟩, nofun, by simp⟩
  · exact ⟨by simp [h1], by simp, h3, by simp, fun _ => ⟨by simp, h5⟩, nofun, by simp⟩
theorem DOk.step {m f : Nat} {s : DS} (h : DOk m f s) (c : UInt8) : DOk m f (dstep m f s c) := by
  unfold dstep
  split
  · rename_i hm
    obtain ⟨b0, e0⟩ := h.hd hm
    unfold stepH
    by_cases h4 : s.H.length + 1 < 4
    · rw [if_pos h4]
      exact ⟨by simpa using h4, h.bg, h.lf, h.rl, fun _ => ⟨b0, e0⟩, fun k => by simp [hm] at k, fun k => by simp [hm] at k⟩
    · rw [if_neg h4]
      unfold DS.go
      have hlf : nb (s.H ++ [c]) % 2147483648 ≤ 2147483648 := by omega
      by_cases k1 : f < (s.put (s.H ++ [c])).bg
      · rw [if_pos k1]
        exact ⟨by simp [DS.bad, DS.put], by simp [DS.bad, DS.put]; omega, by simpa [DS.bad, DS.put] using hlf, by simp [DS.bad], fun k => by simp [DS.bad] at k, fun k => by simp [DS.bad] at k, fun _ => ⟨rfl, rfl, .inr rfl⟩⟩
      · rw [if_neg k1]
        by_cases k2 : m < (s.put (s.H ++ [c])).lf + (s.put (s.H ++ [c])).R.length
        · rw [if_pos k2]
          exact ⟨by simp [DS.bad, DS.put], by simp [DS.bad, DS.put]; omega, by simpa [DS.bad, DS.put] using hlf, by simp [DS.bad], fun k => by simp [DS.bad] at k, fun k => by simp [DS.bad] at k, fun _ => ⟨rfl, rfl, .inl rfl⟩⟩
        · rw [if_neg k2]
          by_cases k3 : (s.put (s.H ++ [c])).lf = 0
          · rw [if_pos k3]
            exact DOk.fin rfl (by omega) (by omega) (by simpa [DS.put] using h.rl) (by simpa [DS.put] using e0)
          · rw [if_neg k3]
            exact ⟨by simp [DS.put], by simp [DS.put]; omega, by simpa [DS.put] using hlf, by simpa [DS.put] using h.rl, fun k => by simp at k, fun _ => ⟨rfl, (show 1 ≤ (s.put (s.H ++ [c])).lf by omega), (show (s.put (s.H ++ [c])).lf + (s.put (s.H ++ [c])).R.length ≤ m by omega), (show (s.put (s.H ++ [c])).bg ≤ f by omega), by simpa [DS.put] using e0⟩, fun k => by simp at k⟩
  · rename_i hm
    obtain ⟨b0, b1, b2, b3, b4⟩ := h.bd hm
    unfold stepB
    by_cases k : s.lf - 1 = 0
    · rw [if_pos k]
      exact DOk.fin (by simpa [DS.add] using b0) (by simpa [DS.add] using b3) (by simp [DS.add]; omega) (by simp [DS.add]; omega) (by simpa [DS.add] using b4)
    · rw [if_neg k]
      exact ⟨by simp [DS.add, b0], by simpa [DS.add] using h.bg, by simp [DS.add]; have := h.lf; omega, by simp [DS.add]; omega, fun q => by simp [DS.add, hm] at q, fun _ => ⟨by simpa [DS.add] using b0, by simp [DS.add]; omega, by simp [DS.add]; omega, by simpa [DS.add] using b3, by simpa [DS.add] using b4⟩, fun q => by simp [DS.add, hm] at q⟩
  · exact h
theorem DOk.run {m f : Nat} : ∀ (l : List UInt8) {s : DS}, DOk m f s → DOk m f (drun m f s l)
  | [], _, h => h
  | c :: l, _, h => DOk.run l (h.step c)
theorem drun_dead {m f : Nat} {s : DS} (h : 2 ≤ s.md) : ∀ l, drun m f s l = s
  | [] => rfl
  | c :: l => by
    rw [drun_cons]
    have : dstep m f s c = s := by
      unfold dstep
      split <;> first | omega | rfl
    rw [this]
    exact drun_dead h l
/-- Between two fragments. -/
def btw (n : Nat) (en : Bool) (R : List UInt8) (T : List (List UInt8)) : DS := ⟨0, 0, [], n, 0, en, R, T⟩
theorem drun_head (m f : Nat) : ∀ (b : List UInt8) (s : DS), s.md = 0 → s.H.length + b.length < 4 → drun m f s b = { s with H := s.H ++ b }
  | [], s, _, _ => by simp [drun_nil]
  | c :: b, s, hm, hl => by
    simp at hl
    have e : dstep m f s c = { s with H := s.H ++ [c] } := by
      rw [dstep0 hm]
      unfold stepH
      rw [if_pos (by omega)]
    rw [drun_cons, e, drun_head m f b { s with H := s.H ++ [c] } hm (by simp; omega)]
    simp
theorem put_H (s : DS) (h k : List UInt8) : ({ s with H := h } : DS).put k = s.put k := by unfold DS.put; rfl
theorem drun_four (m f : Nat) (b : List UInt8) (s : DS) (hm : s.md = 0) (hH : s.H = []) (hl : 4 ≤ b.length) : drun m f s b = drun m f ((s.put (b.take 4)).go m f) (b.drop 4) := by
  obtain ⟨a0, a1, a2, a3, b, rfl⟩ : ∃ a0 a1 a2 a3 b', b = a0 :: a1 :: a2 :: a3 :: b' := by
    match b, hl with
    | a0 :: a1 :: a2 :: a3 :: b', _ => exact ⟨a0, a1, a2, a3, b', rfl⟩
  have e3 : drun m f s [a0, a1, a2] = { s with H := [a0, a1, a2] } := by
    rw [drun_head m f _ s hm (by simp [hH])]
    simp [hH]
  have e : dstep m f { s with H := [a0, a1, a2] } a3 = (s.put [a0, a1, a2, a3]).go m f := by
    rw [dstep0 (by exact hm)]
    unfold stepH
    rw [if_neg (by simp)]
    rw [put_H]
    simp only [List.cons_append, List.nil_append]
  have e1 : (a0 :: a1 :: a2 :: a3 :: b).take 4 = [a0, a1, a2, a3] := by simp
  have e2 : (a0 :: a1 :: a2 :: a3 :: b).drop 4 = b := by simp
  rw [e1, e2, ← e, ← e3, ← drun_cons, ← drun_app]
  simp only [List.cons_append, List.nil_append]
theorem drun_few (m f : Nat) : ∀ (l : List UInt8) (s : DS), s.md = 1 → l.length < s.lf → drun m f s l = { s with R := s.R ++ l, lf := s.lf - l.length }
  | [], s, _, _ => by simp [drun_nil]
  | c :: l, s, hm, hl => by
    simp at hl
    have e : dstep m f s c = s.add c := by
      rw [dstep1 hm]
      unfold stepB
      rw [if_neg (by omega)]
    rw [drun_cons, e, drun_few m f l _ (by simpa [DS.add] using hm) (by simp [DS.add]; omega)]
    simp [DS.add]
    omega
theorem drun_body (m f : Nat) : ∀ (l : List UInt8) (s : DS), s.md = 1 → 1 ≤ s.lf → s.lf ≤ l.length → drun m f s l = drun m f ({ s with R := s.R ++ l.take s.lf, lf := 0 } : DS).fin (l.drop s.lf)
  | [], s, _, h1, hl => by simp at hl; omega
  | c :: l, s, hm, h1, hl => by
    simp at hl
    by_cases k : s.lf = 1
    · have e : dstep m f s c = (s.add c).fin := by
        rw [dstep1 hm]
        unfold stepB
        rw [if_pos (by omega)]
      rw [drun_cons, e]
      simp [DS.add, k]
    · have e : dstep m f s c = s.add c := by
        rw [dstep1 hm]
        unfold stepB
        rw [if_neg (by omega)]
      rw [drun_cons, e, drun_body m f l _ (by simpa [DS.add] using hm) (by simp [DS.add]; omega) (by simp [DS.add]; omega)]
      obtain ⟨q, hq⟩ : ∃ q, s.lf = q + 1 := ⟨s.lf - 1, by omega⟩
      simp [DS.add, hq]
/-- What is there already is handed on. -/
def DS.onT (s : DS) (T : List (List UInt8)) : DS := { s with T := T ++ s.T }
theorem fin_onT (s : DS) (T : List (List UInt8)) : (s.onT T).fin = s.fin.onT T := by
  unfold DS.fin DS.onT
  cases s.en <;> simp
theorem dstep_onT (m f : Nat) (s : DS) (T : List (List UInt8)) (c : UInt8) : dstep m f (s.onT T) c = (dstep m f s c).onT T := by
  have hm : (s.onT T).md = s.md := rfl
  unfold dstep
  rw [hm]
  split
  · unfold stepH
    rw [show (s.onT T).H = s.H from rfl]
    split
    · rfl
    · rw [show (s.onT T).put (s.H ++ [c]) = (s.put (s.H ++ [c])).onT T from rfl]
      unfold DS.go
      rw [show ((s.put (s.H ++ [c])).onT T).bg = (s.put (s.H ++ [c])).bg from rfl, show ((s.put (s.H ++ [c])).onT T).lf = (s.put (s.H ++ [c])).lf from rfl, show ((s.put (s.H ++ [c])).onT T).R = (s.put (s.H ++ [c])).R from rfl, fin_onT]
      split
      · rfl
      · split
        · rfl
        · split <;> rfl
  · unfold stepB
    rw [show (s.onT T).lf = s.lf from rfl, show (s.onT T).add c = (s.add c).onT T from rfl, fin_onT]
    split <;> rfl
  · rfl
theorem drun_onT (m f : Nat) : ∀ (l : List UInt8) (s : DS) (T : List (List UInt8)), drun m f (s.onT T) l = (drun m f s l).onT T
  | [], _, _ => rfl
  | c :: l, s, T => by rw [drun_cons, drun_cons, dstep_onT, drun_onT m f l]
/-- At the beginning. -/
def d0 : DS := btw 0 false [] []
theorem d0_ok (m f : Nat) : DOk m f d0 := ⟨by simp [d0, btw], by simp [d0, btw], by simp [d0, btw], by simp [d0, btw], fun _ => ⟨by simp [d0, btw], rfl⟩, nofun, by simp [d0, btw]⟩
/-- All is told. -/
def DS.told (s : DS) : DS := { s with T := [] }
theorem told_onT (s : DS) : s.told.onT s.T = s := by
  unfold DS.told DS.onT
  simp
theorem told_ok {m f : Nat} {s : DS} (h : DOk m f s) : DOk m f s.told := ⟨h.h, h.bg, h.lf, h.rl, h.hd, h.bd, h.er⟩
/-- A piece more. -/
theorem drun_piece (m f : Nat) (s : DS) (l : List UInt8) : (drun m f s l).T = s.T ++ (drun m f s.told l).T ∧ (drun m f s.told l).told = (drun m f s l).told := by
  have h := drun_onT m f l s.told s.T
  rw [told_onT] at h
  rw [h]
  exact ⟨rfl, rfl⟩
theorem fin_T (s : DS) : s.fin.T.length ≤ s.T.length + 1 := by
  unfold DS.fin
  cases s.en <;> simp
theorem dstep_T (m f : Nat) (s : DS) (c : UInt8) : (dstep m f s c).T.length ≤ s.T.length + 1 := by
  unfold dstep
  split
  · unfold stepH
    split
    · simp
    · unfold DS.go
      split
      · simp [DS.bad, DS.put]
      · split
        · simp [DS.bad, DS.put]
        · split
          · have := fin_T (s.put (s.H ++ [c]))
            simpa [DS.put] using this
          · simp [DS.put]
  · unfold stepB
    split
    · have := fin_T (s.add c)
      simpa [DS.add] using this
    · simp [DS.add]
  · omega
theorem drun_T (m f : Nat) : ∀ (l : List UInt8) (s : DS), (drun m f s l).T.length ≤ s.T.length + l.length
  | [], _ => by simp [drun_nil]
  | c :: l, s => by
    rw [drun_cons]
    have h1 := drun_T m f l (dstep m f s c)
    have h2 := dstep_T m f s c
    simp
    omega
theorem drun_held {m f : Nat} {s : DS} (h : DOk m f s) : s.R.length + s.H.length ≤ m + 3 := by
  have := h.h
  have := h.rl
  omega
theorem go_full {m f : Nat} {s : DS} {k : List UInt8} (h : f < s.bg + 1) : (s.put k).go m f = (s.put k).bad 5 := by
  unfold DS.go
  exact if_pos h
theorem go_range {m f : Nat} {s : DS} {k : List UInt8} (h : ¬ f < s.bg + 1) (h2 : m < nb k % 2147483648 + s.R.length) : (s.put k).go m f = (s.put k).bad 4 := by
  unfold DS.go
  rw [if_neg (show ¬ f < (s.put k).bg from h)]
  exact if_pos h2
theorem go_zero {m f : Nat} {s : DS} {k : List UInt8} (h : ¬ f < s.bg + 1) (h2 : ¬ m < nb k % 2147483648 + s.R.length) (h3 : nb k % 2147483648 = 0) : (s.put k).go m f = (s.put k).fin := by
  unfold DS.go
  rw [if_neg (show ¬ f < (s.put k).bg from h), if_neg (show ¬ m < (s.put k).lf + (s.put k).R.length from h2)]
  exact if_pos h3
theorem go_body {m f : Nat} {s : DS} {k : List UInt8} (h : ¬ f < s.bg + 1) (h2 : ¬ m < nb k % 2147483648 + s.R.length) (h3 : ¬ nb k % 2147483648 = 0) : (s.put k).go m f = { s.put k with md := 1 } := by
  unfold DS.go
  rw [if_neg (show ¬ f < (s.put k).bg from h), if_neg (show ¬ m < (s.put k).lf + (s.put k).R.length from h2)]
  exact if_neg h3
end Go.Proofs.Ytjajkagpfbemiaa
