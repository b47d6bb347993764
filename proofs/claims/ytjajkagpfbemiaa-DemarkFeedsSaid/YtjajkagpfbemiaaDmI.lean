/-
  Layer 4: how great the next piece is; a piece of bytes.
-/
import Derived.Test.YtjajkagpfbemiaaDmH
namespace Go.Proofs.Ytjajkagpfbemiaa
open Go Go.RowKit
set_option linter.unusedVariables false
set_option linter.unusedSimpArgs false
def PieceOk (i : Nat) (w : World) (e : Ending) (w' : World) : Prop := ∃ p : Nat, e = .returned (.int .i64 (p : Int)) ∧ p ≤ 11 ∧ (i % 9 = 8 → 1 ≤ p) ∧ w = w'
set_option maxHeartbeats 1000000 in
theorem piece_any (A : Option Addr) (n c : Nat) (zs : List Int) (i : Nat) (w : World) (hs : SeesI w A n c zs) (hi : i ≤ 1000000) :
    Calls Try.prog 13 #[.slice A n c, .int .i64 (i : Int)] w (PieceOk i w) := by
  have hl := hs.1.len
  rw [List.length_map] at hl
  have hc := hs.1.le
  have hm := hs.1.max
  unfold maxLen at hm
  by_cases h9 : i % 9 = 8
  · have t9 : ((i : Int) % 9 == 8) = true := by simp; omega
    have t8 : (i : Int) % 9 = 8 := by omega
    have T8 := Lib.hid t8
    clear t8
    by_cases hn : n = 0
    · have h0 : ¬ (0 : Int) < (n : Int) := by omega
      clear hn hl hs
      have H9 := Lib.hid h9
      clear h9
      go_enter Try.func13, Try.ntmps13
      go_wp2
      go_ret
      exact ⟨7, rfl, by omega, fun _ => by omega, rfl⟩
    · obtain ⟨b, off, hA, hcell⟩ := hs.at_ i (by omega)
      have hzb := szOf_bound hs i
      subst hA
      have hnp : 0 < n := by omega
      have hmod : i % n < n := Nat.mod_lt _ hnp
      obtain ⟨z, hz⟩ : ∃ z, szOf zs i = z := ⟨_, rfl⟩
      rw [hz] at hcell hzb
      have H9 := Lib.hid h9
      clear hn hl hs hz h9
      go_enter Try.func13, Try.ntmps13
      go_wp2_with fail
      refine (around_any z 12 _ hzb.1 hzb.2 (by omega) (by omega)).mono ?_
      rintro e w1 ⟨rfl, rfl⟩
      have hr := aroundZ_bound z 12 (by omega)
      obtain ⟨r, hrr⟩ : ∃ r, aroundZ z 12 = r := ⟨_, rfl⟩
      rw [hrr] at hr ⊢
      obtain ⟨r0, r1⟩ := hr
      obtain ⟨p, rfl⟩ := Int.eq_ofNat_of_zero_le r0
      clear hrr
      by_cases hp : (1 : Int) ≤ (p : Int)
      · go_wp2
        go_ret
        exact ⟨p, rfl, by omega, fun _ => by omega, rfl⟩
      · have hp' : (p : Int) < 1 := by omega
        go_wp2
        go_ret
        exact ⟨1, rfl, by omega, fun _ => by omega, rfl⟩
  · have t9 : ((i : Int) % 9 == 8) = false := by simp; omega
    by_cases hn : n = 0
    · have h0 : ¬ (0 : Int) < (n : Int) := by omega
      have H9 := Lib.hid h9
      clear hn hl hs h9
      go_enter Try.func13, Try.ntmps13
      go_wp2
      go_ret
      exact ⟨7, rfl, by omega, fun q => absurd q H9.out, rfl⟩
    · obtain ⟨b, off, hA, hcell⟩ := hs.at_ i (by omega)
      have hzb := szOf_bound hs i
      subst hA
      have hnp : 0 < n := by omega
      have hmod : i % n < n := Nat.mod_lt _ hnp
      obtain ⟨z, hz⟩ : ∃ z, szOf zs i = z := ⟨_, rfl⟩
      rw [hz] at hcell hzb
      have H9 := Lib.hid h9
      clear hn hl hs hz h9
      go_enter Try.func13, Try.ntmps13
      go_wp2_with fail
      refine (around_any z 12 _ hzb.1 hzb.2 (by omega) (by omega)).mono ?_
      rintro e w1 ⟨rfl, rfl⟩
      have hr := aroundZ_bound z 12 (by omega)
      obtain ⟨r, hrr⟩ : ∃ r, aroundZ z 12 = r := ⟨_, rfl⟩
      rw [hrr] at hr ⊢
      obtain ⟨r0, r1⟩ := hr
      obtain ⟨p, rfl⟩ := Int.eq_ofNat_of_zero_le r0
      clear hrr
      go_wp2
      go_ret
      exact ⟨p, rfl, by omega, fun q => absurd q H9.out, rfl⟩
theorem dheld_nat {X : Nat → Prop} {tb m f : Nat} (s : DS) (K : Nat) (w : World) (h : Dfm w X tb m f s) (hK : s.R.length + s.H.length = K) (h1 : K ≤ 100000) :
    Calls Try.prog 18 #[.pointer (some ⟨tb, 0, none⟩)] w fun x w' => x = .returned (.int .i64 (K : Int)) ∧ ∃ n, w' = w.drewN n := by
  subst hK
  exact dheld_any s w h (by omega) (by omega)
/-- A piece of bytes. -/
theorem bpiece {w : World} {b off n c : Nat} {l : List UInt8} (h : Sees w (some ⟨b, off, none⟩) n c (bs l)) (i j : Nat) (hij : i ≤ j) (hj : j ≤ n) (hi : i < n) :
    Sees w (some ⟨b, off + i, none⟩) (j - i) (c - i) (bs ((l.take j).drop i)) ∧ ¬ c = i := by
  have hle := h.le
  have hne : ¬ c = i := by omega
  have h1 := (h.take j hj).drop i hij hne
  rw [bs_take, bs_drop] at h1
  exact ⟨by simpa [addr_add] using h1, hne⟩
theorem take_piece (l : List UInt8) (i j : Nat) (hij : i ≤ j) : l.take i ++ (l.take j).drop i = l.take j := by
  have h := List.take_append_drop i (l.take j)
  rw [List.take_take, show min i j = i by omega] at h
  exact h
/-- Behind the bytes ahead of a place. -/
def atS (m f : Nat) (l : List UInt8) (i : Nat) : DS := drun m f d0 (l.take i)
theorem atS_piece (m f : Nat) (l : List UInt8) (i j : Nat) (hij : i ≤ j) :
    (atS m f l j).T = (atS m f l i).T ++ (drun m f (atS m f l i).told ((l.take j).drop i)).T ∧ (drun m f (atS m f l i).told ((l.take j).drop i)).told = (atS m f l j).told := by
  have h := drun_piece m f (atS m f l i) ((l.take j).drop i)
  have e : drun m f (atS m f l i) ((l.take j).drop i) = atS m f l j := by
    unfold atS
    rw [← drun_app, take_piece l i j hij]
  rw [e] at h
  exact h
theorem atS_ok (m f : Nat) (l : List UInt8) (i : Nat) : DOk m f (atS m f l i) := (d0_ok m f).run _
theorem atS_T (m f : Nat) (l : List UInt8) (i : Nat) : (atS m f l i).T.length ≤ i := by
  have h := drun_T m f (l.take i) d0
  have h2 : (l.take i).length ≤ i := List.length_take_le _ _
  unfold atS
  simp [d0, btw] at h ⊢
  omega
/-- Rounds go on. -/
theorem pc_next {i a a' : Nat} (h : i ≤ 9 * a + i % 9) (h1 : a ≤ a') (h2 : a = a' → ¬ i % 9 = 8) : i + 1 ≤ 9 * a' + (i + 1) % 9 := by omega
theorem pc_meas {i a a' n : Nat} (h1 : a ≤ a') (h0 : a < n) (h3 : a' ≤ n) (h2 : a = a' → ¬ i % 9 = 8) : 9 * (n - a') + 8 - (i + 1) % 9 < 9 * (n - a) + 8 - i % 9 := by omega
end Go.Proofs.Ytjajkagpfbemiaa
