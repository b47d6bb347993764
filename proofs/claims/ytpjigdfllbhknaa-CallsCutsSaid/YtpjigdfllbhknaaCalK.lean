/-
  Layer 14: whether a procedure has a field, by the document.
-/
import Derived.Test.YtpjigdfllbhknaaCalJ
namespace Go.Proofs.Ytpjigdfllbhknaa
open Go Go.RowKit
set_option linter.unusedVariables false
set_option linter.unusedSimpArgs false
def hasB (l : List UInt8) (x : Int) : Bool := l.any fun b => ((b.toNat : Nat) : Int) == x
set_option maxHeartbeats 1000000 in
theorem has_none (k x : Int) (w : World) (hf : fld k = []) : Calls Try.prog 41 #[.int .i64 k, .int .u8 x] w fun e w' => e = .returned (.bool (hasB (fld k) x)) ∧ Ext w w' := by
  have HF := Lib.hid (fields14 k w)
  rw [hf] at HF ⊢
  clear hf
  go_enter Try.func41, Try.ntmps41
  go_wp2_with fail
  refine HF.out.mono ?_
  rintro e w1 ⟨rfl, e1⟩
  go_wp2_with fail
  go_loopw [6] (fun i wr => ∃ j : Nat, i = .int .i64 j ∧ ((j = 0)) ∧ w1 = wr) (fun i _ => 0 - (intOf i).toNat)
  case atStart => exact ⟨0, rfl, rfl, rfl⟩
  case round =>
    obtain ⟨j, rfl, hi, rfl⟩ := hrel
    subst hi
    have hb : hasB [] x = false := by simp [hasB]
    go_wp2_with fail
    go_ret
    exact ⟨by rw [hb]; rfl, e1⟩
set_option maxHeartbeats 1000000 in
theorem has_h (k x : Int) (w : World) (hf : fld k = [104]) : Calls Try.prog 41 #[.int .i64 k, .int .u8 x] w fun e w' => e = .returned (.bool (hasB (fld k) x)) ∧ Ext w w' := by
  have HF := Lib.hid (fields14 k w)
  rw [hf] at HF ⊢
  clear hf
  go_enter Try.func41, Try.ntmps41
  go_wp2_with fail
  refine HF.out.mono ?_
  rintro e w1 ⟨rfl, e1⟩
  go_wp2_with fail
  go_loopw [6] (fun i wr => ∃ j : Nat, i = .int .i64 j ∧ ((j = 0) ∨ (j = 1 ∧ ¬ (104 : Int) = x)) ∧ w1 = wr) (fun i _ => 1 - (intOf i).toNat)
  case atStart => exact ⟨0, rfl, .inl rfl, rfl⟩
  case round =>
    obtain ⟨j, rfl, hi, rfl⟩ := hrel
    rcases hi with rfl | ⟨rfl, h0⟩
    · by_cases h0 : (104 : Int) = x
      · subst h0
        go_wp2_with fail
        go_ret
        exact ⟨rfl, e1⟩
      · go_wp2_with fail
        · rename_i hh
          exact absurd (eq_of_beq hh) h0
        go_roundw
        case rel => exact ⟨1, rfl, .inr ⟨rfl, h0⟩, trivial⟩
        case measure => simp [intOf]
    · have hb : hasB [104] x = false := by simp [hasB, h0]
      go_wp2_with fail
      go_ret
      exact ⟨by rw [hb]; rfl, e1⟩
set_option maxHeartbeats 1000000 in
theorem has_hs (k x : Int) (w : World) (hf : fld k = [104, 115]) : Calls Try.prog 41 #[.int .i64 k, .int .u8 x] w fun e w' => e = .returned (.bool (hasB (fld k) x)) ∧ Ext w w' := by
  have HF := Lib.hid (fields14 k w)
  rw [hf] at HF ⊢
  clear hf
  go_enter Try.func41, Try.ntmps41
  go_wp2_with fail
  refine HF.out.mono ?_
  rintro e w1 ⟨rfl, e1⟩
  go_wp2_with fail
  go_loopw [6] (fun i wr => ∃ j : Nat, i = .int .i64 j ∧ ((j = 0) ∨ (j = 1 ∧ ¬ (104 : Int) = x) ∨ (j = 2 ∧ ¬ (104 : Int) = x ∧ ¬ (115 : Int) = x)) ∧ w1 = wr) (fun i _ => 2 - (intOf i).toNat)
  case atStart => exact ⟨0, rfl, .inl rfl, rfl⟩
  case round =>
    obtain ⟨j, rfl, hi, rfl⟩ := hrel
    rcases hi with rfl | ⟨rfl, h0⟩ | ⟨rfl, h0, h1⟩
    · by_cases h0 : (104 : Int) = x
      · subst h0
        go_wp2_with fail
        go_ret
        exact ⟨rfl, e1⟩
      · go_wp2_with fail
        · rename_i hh
          exact absurd (eq_of_beq hh) h0
        go_roundw
        case rel => exact ⟨1, rfl, .inr (.inl ⟨rfl, h0⟩), trivial⟩
        case measure => simp [intOf]
    · by_cases h1 : (115 : Int) = x
      · subst h1
        go_wp2_with fail
        go_ret
        exact ⟨rfl, e1⟩
      · go_wp2_with fail
        · rename_i hh
          exact absurd (eq_of_beq hh) h1
        go_roundw
        case rel => exact ⟨2, rfl, .inr (.inr ⟨rfl, h0, h1⟩), trivial⟩
        case measure => simp [intOf]
    · have hb : hasB [104, 115] x = false := by simp [hasB, h0, h1]
      go_wp2_with fail
      go_ret
      exact ⟨by rw [hb]; rfl, e1⟩
set_option maxHeartbeats 1000000 in
theorem has_hn (k x : Int) (w : World) (hf : fld k = [104, 110]) : Calls Try.prog 41 #[.int .i64 k, .int .u8 x] w fun e w' => e = .returned (.bool (hasB (fld k) x)) ∧ Ext w w' := by
  have HF := Lib.hid (fields14 k w)
  rw [hf] at HF ⊢
  clear hf
  go_enter Try.func41, Try.ntmps41
  go_wp2_with fail
  refine HF.out.mono ?_
  rintro e w1 ⟨rfl, e1⟩
  go_wp2_with fail
  go_loopw [6] (fun i wr => ∃ j : Nat, i = .int .i64 j ∧ ((j = 0) ∨ (j = 1 ∧ ¬ (104 : Int) = x) ∨ (j = 2 ∧ ¬ (104 : Int) = x ∧ ¬ (110 : Int) = x)) ∧ w1 = wr) (fun i _ => 2 - (intOf i).toNat)
  case atStart => exact ⟨0, rfl, .inl rfl, rfl⟩
  case round =>
    obtain ⟨j, rfl, hi, rfl⟩ := hrel
    rcases hi with rfl | ⟨rfl, h0⟩ | ⟨rfl, h0, h1⟩
    · by_cases h0 : (104 : Int) = x
      · subst h0
        go_wp2_with fail
        go_ret
        exact ⟨rfl, e1⟩
      · go_wp2_with fail
        · rename_i hh
          exact absurd (eq_of_beq hh) h0
        go_roundw
        case rel => exact ⟨1, rfl, .inr (.inl ⟨rfl, h0⟩), trivial⟩
        case measure => simp [intOf]
    · by_cases h1 : (110 : Int) = x
      · subst h1
        go_wp2_with fail
        go_ret
        exact ⟨rfl, e1⟩
      · go_wp2_with fail
        · rename_i hh
          exact absurd (eq_of_beq hh) h1
        go_roundw
        case rel => exact ⟨2, rfl, .inr (.inr ⟨rfl, h0, h1⟩), trivial⟩
        case measure => simp [intOf]
    · have hb : hasB [104, 110] x = false := by simp [hasB, h0, h1]
      go_wp2_with fail
      go_ret
      exact ⟨by rw [hb]; rfl, e1⟩
set_option maxHeartbeats 1000000 in
theorem has_hoc (k x : Int) (w : World) (hf : fld k = [104, 111, 99]) : Calls Try.prog 41 #[.int .i64 k, .int .u8 x] w fun e w' => e = .returned (.bool (hasB (fld k) x)) ∧ Ext w w' := by
  have HF := Lib.hid (fields14 k w)
  rw [hf] at HF ⊢
  clear hf
  go_enter Try.func41, Try.ntmps41
  go_wp2_with fail
  refine HF.out.mono ?_
  rintro e w1 ⟨rfl, e1⟩
  go_wp2_with fail
  go_loopw [6] (fun i wr => ∃ j : Nat, i = .int .i64 j ∧ ((j = 0) ∨ (j = 1 ∧ ¬ (104 : Int) = x) ∨ (j = 2 ∧ ¬ (104 : Int) = x ∧ ¬ (111 : Int) = x) ∨ (j = 3 ∧ ¬ (104 : Int) = x ∧ ¬ (111 : Int) = x ∧ ¬ (99 : Int) = x)) ∧ w1 = wr) (fun i _ => 3 - (intOf i).toNat)
  case atStart => exact ⟨0, rfl, .inl rfl, rfl⟩
  case round =>
    obtain ⟨j, rfl, hi, rfl⟩ := hrel
    rcases hi with rfl | ⟨rfl, h0⟩ | ⟨rfl, h0, h1⟩ | ⟨rfl, h0, h1, h2⟩
    · by_cases h0 : (104 : Int) = x
      · subst h0
        go_wp2_with fail
        go_ret
        exact ⟨rfl, e1⟩
      · go_wp2_with fail
        · rename_i hh
          exact absurd (eq_of_beq hh) h0
        go_roundw
        case rel => exact ⟨1, rfl, .inr (.inl ⟨rfl, h0⟩), trivial⟩
        case measure => simp [intOf]
    · by_cases h1 : (111 : Int) = x
      · subst h1
        go_wp2_with fail
        go_ret
        exact ⟨rfl, e1⟩
      · go_wp2_with fail
        · rename_i hh
          exact absurd (eq_of_beq hh) h1
        go_roundw
        case rel => exact ⟨2, rfl, .inr (.inr (.inl ⟨rfl, h0, h1⟩)), trivial⟩
        case measure => simp [intOf]
    · by_cases h2 : (99 : Int) = x
      · subst h2
        go_wp2_with fail
        go_ret
        exact ⟨rfl, e1⟩
      · go_wp2_with fail
        · rename_i hh
          exact absurd (eq_of_beq hh) h2
        go_roundw
        case rel => exact ⟨3, rfl, .inr (.inr (.inr ⟨rfl, h0, h1, h2⟩)), trivial⟩
        case measure => simp [intOf]
    · have hb : hasB [104, 111, 99] x = false := by simp [hasB, h0, h1, h2]
      go_wp2_with fail
      go_ret
      exact ⟨by rw [hb]; rfl, e1⟩
set_option maxHeartbeats 1000000 in
theorem has_hod (k x : Int) (w : World) (hf : fld k = [104, 111, 100]) : Calls Try.prog 41 #[.int .i64 k, .int .u8 x] w fun e w' => e = .returned (.bool (hasB (fld k) x)) ∧ Ext w w' := by
  have HF := Lib.hid (fields14 k w)
  rw [hf] at HF ⊢
  clear hf
  go_enter Try.func41, Try.ntmps41
  go_wp2_with fail
  refine HF.out.mono ?_
  rintro e w1 ⟨rfl, e1⟩
  go_wp2_with fail
  go_loopw [6] (fun i wr => ∃ j : Nat, i = .int .i64 j ∧ ((j = 0) ∨ (j = 1 ∧ ¬ (104 : Int) = x) ∨ (j = 2 ∧ ¬ (104 : Int) = x ∧ ¬ (111 : Int) = x) ∨ (j = 3 ∧ ¬ (104 : Int) = x ∧ ¬ (111 : Int) = x ∧ ¬ (100 : Int) = x)) ∧ w1 = wr) (fun i _ => 3 - (intOf i).toNat)
  case atStart => exact ⟨0, rfl, .inl rfl, rfl⟩
  case round =>
    obtain ⟨j, rfl, hi, rfl⟩ := hrel
    rcases hi with rfl | ⟨rfl, h0⟩ | ⟨rfl, h0, h1⟩ | ⟨rfl, h0, h1, h2⟩
    · by_cases h0 : (104 : Int) = x
      · subst h0
        go_wp2_with fail
        go_ret
        exact ⟨rfl, e1⟩
      · go_wp2_with fail
        · rename_i hh
          exact absurd (eq_of_beq hh) h0
        go_roundw
        case rel => exact ⟨1, rfl, .inr (.inl ⟨rfl, h0⟩), trivial⟩
        case measure => simp [intOf]
    · by_cases h1 : (111 : Int) = x
      · subst h1
        go_wp2_with fail
        go_ret
        exact ⟨rfl, e1⟩
      · go_wp2_with fail
        · rename_i hh
          exact absurd (eq_of_beq hh) h1
        go_roundw
        case rel => exact ⟨2, rfl, .inr (.inr (.inl ⟨rfl, h0, h1⟩)), trivial⟩
        case measure => simp [intOf]
    · by_cases h2 : (100 : Int) = x
      · subst h2
        go_wp2_with fail
        go_ret
        exact ⟨rfl, e1⟩
      · go_wp2_with fail
        · rename_i hh
          exact absurd (eq_of_beq hh) h2
        go_roundw
        case rel => exact ⟨3, rfl, .inr (.inr (.inr ⟨rfl, h0, h1, h2⟩)), trivial⟩
        case measure => simp [intOf]
    · have hb : hasB [104, 111, 100] x = false := by simp [hasB, h0, h1, h2]
      go_wp2_with fail
      go_ret
      exact ⟨by rw [hb]; rfl, e1⟩
set_option maxHeartbeats 1000000 in
theorem has_hnm (k x : Int) (w : World) (hf : fld k = [104, 110, 109]) : Calls Try.prog 41 #[.int .i64 k, .int .u8 x] w fun e w' => e = .returned (.bool (hasB (fld k) x)) ∧ Ext w w' := by
  have HF := Lib.hid (fields14 k w)
  rw [hf] at HF ⊢
  clear hf
  go_enter Try.func41, Try.ntmps41
  go_wp2_with fail
  refine HF.out.mono ?_
  rintro e w1 ⟨rfl, e1⟩
  go_wp2_with fail
  go_loopw [6] (fun i wr => ∃ j : Nat, i = .int .i64 j ∧ ((j = 0) ∨ (j = 1 ∧ ¬ (104 : Int) = x) ∨ (j = 2 ∧ ¬ (104 : Int) = x ∧ ¬ (110 : Int) = x) ∨ (j = 3 ∧ ¬ (104 : Int) = x ∧ ¬ (110 : Int) = x ∧ ¬ (109 : Int) = x)) ∧ w1 = wr) (fun i _ => 3 - (intOf i).toNat)
  case atStart => exact ⟨0, rfl, .inl rfl, rfl⟩
  case round =>
    obtain ⟨j, rfl, hi, rfl⟩ := hrel
    rcases hi with rfl | ⟨rfl, h0⟩ | ⟨rfl, h0, h1⟩ | ⟨rfl, h0, h1, h2⟩
    · by_cases h0 : (104 : Int) = x
      · subst h0
        go_wp2_with fail
        go_ret
        exact ⟨rfl, e1⟩
      · go_wp2_with fail
        · rename_i hh
          exact absurd (eq_of_beq hh) h0
        go_roundw
        case rel => exact ⟨1, rfl, .inr (.inl ⟨rfl, h0⟩), trivial⟩
        case measure => simp [intOf]
    · by_cases h1 : (110 : Int) = x
      · subst h1
        go_wp2_with fail
        go_ret
        exact ⟨rfl, e1⟩
      · go_wp2_with fail
        · rename_i hh
          exact absurd (eq_of_beq hh) h1
        go_roundw
        case rel => exact ⟨2, rfl, .inr (.inr (.inl ⟨rfl, h0, h1⟩)), trivial⟩
        case measure => simp [intOf]
    · by_cases h2 : (109 : Int) = x
      · subst h2
        go_wp2_with fail
        go_ret
        exact ⟨rfl, e1⟩
      · go_wp2_with fail
        · rename_i hh
          exact absurd (eq_of_beq hh) h2
        go_roundw
        case rel => exact ⟨3, rfl, .inr (.inr (.inr ⟨rfl, h0, h1, h2⟩)), trivial⟩
        case measure => simp [intOf]
    · have hb : hasB [104, 110, 109] x = false := by simp [hasB, h0, h1, h2]
      go_wp2_with fail
      go_ret
      exact ⟨by rw [hb]; rfl, e1⟩
set_option maxHeartbeats 1000000 in
theorem has_hnij (k x : Int) (w : World) (hf : fld k = [104, 110, 105, 106]) : Calls Try.prog 41 #[.int .i64 k, .int .u8 x] w fun e w' => e = .returned (.bool (hasB (fld k) x)) ∧ Ext w w' := by
  have HF := Lib.hid (fields14 k w)
  rw [hf] at HF ⊢
  clear hf
  go_enter Try.func41, Try.ntmps41
  go_wp2_with fail
  refine HF.out.mono ?_
  rintro e w1 ⟨rfl, e1⟩
  go_wp2_with fail
  go_loopw [6] (fun i wr => ∃ j : Nat, i = .int .i64 j ∧ ((j = 0) ∨ (j = 1 ∧ ¬ (104 : Int) = x) ∨ (j = 2 ∧ ¬ (104 : Int) = x ∧ ¬ (110 : Int) = x) ∨ (j = 3 ∧ ¬ (104 : Int) = x ∧ ¬ (110 : Int) = x ∧ ¬ (105 : Int) = x) ∨ (j = 4 ∧ ¬ (104 : Int) = x ∧ ¬ (110 : Int) = x ∧ ¬ (105 : Int) = x ∧ ¬ (106 : Int) = x)) ∧ w1 = wr) (fun i _ => 4 - (intOf i).toNat)
  case atStart => exact ⟨0, rfl, .inl rfl, rfl⟩
  case round =>
    obtain ⟨j, rfl, hi, rfl⟩ := hrel
    rcases hi with rfl | ⟨rfl, h0⟩ | ⟨rfl, h0, h1⟩ | ⟨rfl, h0, h1, h2⟩ | ⟨rfl, h0, h1, h2, h3⟩
    · by_cases h0 : (104 : Int) = x
      · subst h0
        go_wp2_with fail
        go_ret
        exact ⟨rfl, e1⟩
      · go_wp2_with fail
        · rename_i hh
          exact absurd (eq_of_beq hh) h0
        go_roundw
        case rel => exact ⟨1, rfl, .inr (.inl ⟨rfl, h0⟩), trivial⟩
        case measure => simp [intOf]
    · by_cases h1 : (110 : Int) = x
      · subst h1
        go_wp2_with fail
        go_ret
        exact ⟨rfl, e1⟩
      · go_wp2_with fail
        · rename_i hh
          exact absurd (eq_of_beq hh) h1
        go_roundw
        case rel => exact ⟨2, rfl, .inr (.inr (.inl ⟨rfl, h0, h1⟩)), trivial⟩
        case measure => simp [intOf]
    · by_cases h2 : (105 : Int) = x
      · subst h2
        go_wp2_with fail
        go_ret
        exact ⟨rfl, e1⟩
      · go_wp2_with fail
        · rename_i hh
          exact absurd (eq_of_beq hh) h2
        go_roundw
        case rel => exact ⟨3, rfl, .inr (.inr (.inr (.inl ⟨rfl, h0, h1, h2⟩))), trivial⟩
        case measure => simp [intOf]
    · by_cases h3 : (106 : Int) = x
      · subst h3
        go_wp2_with fail
        go_ret
        exact ⟨rfl, e1⟩
      · go_wp2_with fail
        · rename_i hh
          exact absurd (eq_of_beq hh) h3
        go_roundw
        case rel => exact ⟨4, rfl, .inr (.inr (.inr (.inr ⟨rfl, h0, h1, h2, h3⟩))), trivial⟩
        case measure => simp [intOf]
    · have hb : hasB [104, 110, 105, 106] x = false := by simp [hasB, h0, h1, h2, h3]
      go_wp2_with fail
      go_ret
      exact ⟨by rw [hb]; rfl, e1⟩
theorem has14 (k x : Int) (w : World) : Calls Try.prog 41 #[.int .i64 k, .int .u8 x] w fun e w' => e = .returned (.bool (hasB (fld k) x)) ∧ Ext w w' := by
  by_cases n1 : k = 1
  · subst n1; exact has_h _ x w rfl
  by_cases n2 : k = 2
  · subst n2; exact has_hs _ x w rfl
  by_cases n3 : k = 3
  · subst n3; exact has_hn _ x w rfl
  by_cases n12 : k = 12
  · subst n12; exact has_hn _ x w rfl
  by_cases n13 : k = 13
  · subst n13; exact has_hn _ x w rfl
  by_cases n6 : k = 6
  · subst n6; exact has_hoc _ x w rfl
  by_cases n16 : k = 16
  · subst n16; exact has_hoc _ x w rfl
  by_cases n7 : k = 7
  · subst n7; exact has_hod _ x w rfl
  by_cases n8 : k = 8
  · subst n8; exact has_hnm _ x w rfl
  by_cases n9 : k = 9
  · subst n9; exact has_hnm _ x w rfl
  by_cases n14 : k = 14
  · subst n14; exact has_hnij _ x w rfl
  exact has_none k x w (by simp only [fld, n1, n2, n3, n12, n13, n6, n16, n7, n8, n9, n14, if_false])
end Go.Proofs.Ytpjigdfllbhknaa
