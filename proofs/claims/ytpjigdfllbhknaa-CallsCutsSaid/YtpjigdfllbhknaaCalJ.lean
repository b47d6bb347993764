/-
  Layer 14: the document's fields of a procedure; numbers of 32 bits.
-/
import Derived.Test.YtpjigdfllbhknaaCalI
import Derived.Test.YtpjigdfllbhknaaPln
namespace Go.Proofs.Ytpjigdfllbhknaa
open Go Go.RowKit
set_option linter.unusedVariables false
set_option linter.unusedSimpArgs false
def fpL : List Int := [1, 2, 3, 12, 13, 6, 16, 7, 8, 9, 14]
def faL : List (List UInt8) := [[104], [104, 115], [104, 110], [104, 110], [104, 110], [104, 111, 99], [104, 111, 99], [104, 111, 100], [104, 110, 109], [104, 110, 109], [104, 110, 105, 106]]
def fpV : List Value := [.int .i64 1, .int .i64 2, .int .i64 3, .int .i64 12, .int .i64 13, .int .i64 6, .int .i64 16, .int .i64 7, .int .i64 8, .int .i64 9, .int .i64 14]
def faV : List Value := [.string ⟨#[104]⟩, .string ⟨#[104, 115]⟩, .string ⟨#[104, 110]⟩, .string ⟨#[104, 110]⟩, .string ⟨#[104, 110]⟩, .string ⟨#[104, 111, 99]⟩, .string ⟨#[104, 111, 99]⟩, .string ⟨#[104, 111, 100]⟩, .string ⟨#[104, 110, 109]⟩, .string ⟨#[104, 110, 109]⟩, .string ⟨#[104, 110, 105, 106]⟩]
def fld (k : Int) : List UInt8 :=
  if k = 1 then [104] else if k = 2 then [104, 115] else if k = 3 then [104, 110] else if k = 12 then [104, 110] else if k = 13 then [104, 110] else if k = 6 then [104, 111, 99] else if k = 16 then [104, 111, 99] else if k = 7 then [104, 111, 100] else if k = 8 then [104, 110, 109] else if k = 9 then [104, 110, 109] else if k = 14 then [104, 110, 105, 106] else []
theorem fpV_get (j : Nat) (u : Value) (h : fpV[j]? = some u) : ∃ z, fpL[j]? = some z ∧ u = .int .i64 z := by
  have e : fpV = fpL.map (Value.int .i64) := rfl
  rw [e, List.getElem?_map, Option.map_eq_some_iff] at h
  obtain ⟨z, h1, h2⟩ := h
  exact ⟨z, h1, h2.symm⟩
theorem faV_get (j : Nat) (u : Value) (h : faV[j]? = some u) : ∃ s, faL[j]? = some s ∧ u = .string ⟨s.toArray⟩ := by
  have e : faV = faL.map (fun s => Value.string ⟨s.toArray⟩) := rfl
  rw [e, List.getElem?_map, Option.map_eq_some_iff] at h
  obtain ⟨z, h1, h2⟩ := h
  exact ⟨z, h1, h2.symm⟩
theorem fld_at (j : Nat) (k : Int) (s : List UInt8) (h1 : fpL[j]? = some k) (h2 : faL[j]? = some s) : fld k = s := by
  have hj : j < 11 := (List.getElem?_eq_some_iff.1 h1).1
  have h3 : j = 0 ∨ j = 1 ∨ j = 2 ∨ j = 3 ∨ j = 4 ∨ j = 5 ∨ j = 6 ∨ j = 7 ∨ j = 8 ∨ j = 9 ∨ j = 10 := by omega
  rcases h3 with rfl | rfl | rfl | rfl | rfl | rfl | rfl | rfl | rfl | rfl | rfl <;> (simp [fpL] at h1; simp [faL] at h2; subst h1 h2; rfl)
theorem fld_none (k : Int) (h : ∀ j, j < 11 → fpL[j]? ≠ some k) : fld k = [] := by
  have n1 : ¬ k = 1 := fun e => h 0 (by omega) (by rw [e]; rfl)
  have n2 : ¬ k = 2 := fun e => h 1 (by omega) (by rw [e]; rfl)
  have n3 : ¬ k = 3 := fun e => h 2 (by omega) (by rw [e]; rfl)
  have n12 : ¬ k = 12 := fun e => h 3 (by omega) (by rw [e]; rfl)
  have n13 : ¬ k = 13 := fun e => h 4 (by omega) (by rw [e]; rfl)
  have n6 : ¬ k = 6 := fun e => h 5 (by omega) (by rw [e]; rfl)
  have n16 : ¬ k = 16 := fun e => h 6 (by omega) (by rw [e]; rfl)
  have n7 : ¬ k = 7 := fun e => h 7 (by omega) (by rw [e]; rfl)
  have n8 : ¬ k = 8 := fun e => h 8 (by omega) (by rw [e]; rfl)
  have n9 : ¬ k = 9 := fun e => h 9 (by omega) (by rw [e]; rfl)
  have n14 : ¬ k = 14 := fun e => h 10 (by omega) (by rw [e]; rfl)
  simp only [fld, n1, n2, n3, n12, n13, n6, n16, n7, n8, n9, n14, if_false]
set_option maxHeartbeats 1000000 in
theorem fields14 (k : Int) (w : World) : Calls Try.prog 27 #[.int .i64 k] w fun e w' => e = .returned (.string ⟨(fld k).toArray⟩) ∧ Ext w w' := by
  obtain ⟨w1, hw1⟩ : ∃ w1, w.alloc (.cells #[.int .i64 1, .int .i64 2, .int .i64 3, .int .i64 12, .int .i64 13, .int .i64 6, .int .i64 16, .int .i64 7, .int .i64 8, .int .i64 9, .int .i64 14] 3) = w1 := ⟨_, rfl⟩
  obtain ⟨w2, hw2⟩ : ∃ w2, w1.alloc (.cells #[.string ⟨#[104]⟩, .string ⟨#[104, 115]⟩, .string ⟨#[104, 110]⟩, .string ⟨#[104, 110]⟩, .string ⟨#[104, 110]⟩, .string ⟨#[104, 111, 99]⟩, .string ⟨#[104, 111, 99]⟩, .string ⟨#[104, 111, 100]⟩, .string ⟨#[104, 110, 109]⟩, .string ⟨#[104, 110, 109]⟩, .string ⟨#[104, 110, 105, 106]⟩] 9) = w2 := ⟨_, rfl⟩
  have e1 : Ext w w1 := by rw [← hw1]; exact (Ext.refl w).alloc _
  have e2 : Ext w1 w2 := by rw [← hw2]; exact (Ext.refl w1).alloc _
  have s1 : Sees w1 (some ⟨w.heap.size, 0, none⟩) 11 11 fpV := by rw [← hw1]; exact sees_new w 3 #[.int .i64 1, .int .i64 2, .int .i64 3, .int .i64 12, .int .i64 13, .int .i64 6, .int .i64 16, .int .i64 7, .int .i64 8, .int .i64 9, .int .i64 14] (by unfold maxLen; simp)
  have s2 : Sees w2 (some ⟨w1.heap.size, 0, none⟩) 11 11 faV := by rw [← hw2]; exact sees_new w1 9 #[.string ⟨#[104]⟩, .string ⟨#[104, 115]⟩, .string ⟨#[104, 110]⟩, .string ⟨#[104, 110]⟩, .string ⟨#[104, 110]⟩, .string ⟨#[104, 111, 99]⟩, .string ⟨#[104, 111, 99]⟩, .string ⟨#[104, 111, 100]⟩, .string ⟨#[104, 110, 109]⟩, .string ⟨#[104, 110, 109]⟩, .string ⟨#[104, 110, 105, 106]⟩] (by unfold maxLen; simp)
  have S1 := Lib.hid (s1.ext e2)
  have S2 := Lib.hid s2
  have E2 := Lib.hid (e1.trans e2)
  clear e1 e2 s1 s2
  go_enter Try.func27, Try.ntmps27
  go_wp2_with fail
  go_loopw [5] (fun i wr => ∃ j : Nat, j ≤ 11 ∧ i = .int .i64 j ∧ (∀ m, m < j → fpL[m]? ≠ some k) ∧ w2 = wr) (fun i _ => 11 - (intOf i).toNat)
  case atStart => exact ⟨0, by omega, rfl, fun m h => absurd h (by omega), rfl⟩
  case round =>
    obtain ⟨j, hj, rfl, hall, rfl⟩ := hrel
    have HALL := Lib.hid hall
    clear hall
    by_cases hjl : j < 11
    · obtain ⟨b, off, u, hA, hu, hc, _⟩ := S1.out.at_ hjl
      obtain ⟨z, hz, rfl⟩ := fpV_get j u hu
      obtain ⟨b2, off2, u2, hA2, hu2, hc2, _⟩ := S2.out.at_ hjl
      obtain ⟨s, hs, rfl⟩ := faV_get j u2 hu2
      injection hA with hA
      injection hA with hb ho _
      subst hb ho
      injection hA2 with hA2
      injection hA2 with hb2 ho2 _
      subst hb2 ho2
      simp only [Nat.zero_add] at hc hc2
      have HZ := Lib.hid hz
      have HS := Lib.hid hs
      clear hu hu2 hz hs
      by_cases hzk : z = k
      · subst hzk
        have HF := Lib.hid (fld_at j z s HZ.out HS.out)
        go_wp2_with fail
        go_ret
        exact ⟨by rw [HF.out]; rfl, E2.out⟩
      · go_wp2_with fail
        go_roundw
        case rel => exact ⟨j + 1, by omega, by go_num, fun m hm => by
          by_cases hmj : m < j
          · exact HALL.out m hmj
          · rw [show m = j from by omega, HZ.out]
            exact fun e => hzk (by injection e), trivial⟩
        case measure => simp [intOf]; omega
    · obtain rfl : j = 11 := by omega
      have HF := Lib.hid (fld_none k (fun j h => HALL.out j h))
      go_wp2_with fail
      go_ret
      exact ⟨by rw [HF.out]; rfl, E2.out⟩
theorem low_any (n : Int) (w : World) (h0 : -9223372036854775808 ≤ n) (h1 : n ≤ 9223372036854775807) : Calls Try.prog 40 #[.int .i64 n] w fun e w' => e = .returned (.int .i64 (aroundZ n 4294967296)) ∧ w = w' := by
  go_enter Try.func40, Try.ntmps40
  go_wp2_with fail
  refine (around_any n 4294967296 _ h0 h1 (by omega) (by omega)).mono ?_
  rintro e w1 ⟨rfl, rfl⟩
  go_wp2_with fail
  go_ret
  exact ⟨rfl, rfl⟩
end Go.Proofs.Ytpjigdfllbhknaa
