/-
  Both readers of layer 2, in the same words.
-/
import Derived.Test.YtihiclnbbpablaaLitQ
namespace Go.Proofs.Ytihiclnbbpablaa
open Go Go.RowKit
set_option linter.unusedVariables false
set_option linter.unusedSimpArgs false
def tkB (k : Nat) (l : List UInt8) : List UInt8 := if l.length < k then [] else l.take k
def drB (k : Nat) (l : List UInt8) : List UInt8 := if l.length < k then [] else l.drop k
def eeB (e : Int) (k : Nat) (l : List UInt8) : Int := if l.length < k then ferrL e 3 else e
def nvB (k : Nat) (l : List UInt8) : Nat := if l.length < k then 0 else leV (l.take k)
theorem drB_le (k : Nat) (l : List UInt8) : (drB k l).length ≤ l.length := by
  unfold drB
  split
  · simp
  · rw [List.length_drop]; omega
theorem tkB_le (k : Nat) (l : List UInt8) : (tkB k l).length ≤ l.length := by
  unfold tkB
  split
  · simp
  · rw [List.length_take]; omega
theorem nvB_lt (k : Nat) (l : List UInt8) : nvB k l < 256 ^ k := by
  unfold nvB
  split
  · exact Nat.pow_pos (by omega)
  · have h := leV_lt (l.take k)
    rw [List.length_take, Nat.min_eq_left (by omega)] at h
    exact h
theorem le_leV : ∀ l : List UInt8, le l.length (leV l) = l
  | [] => rfl
  | b :: r => by
    have h := le_leV r
    have hb := b.toNat_lt
    have h1 : (b.toNat + 256 * leV r) % 256 = b.toNat := by omega
    have h2 : (b.toNat + 256 * leV r) / 256 = leV r := by omega
    simp only [List.length_cons, leV, le, h1, h2, h]
    simp
theorem le_back (k : Nat) (l : List UInt8) (h : k ≤ l.length) : le k (leV (l.take k)) ++ l.drop k = l := by
  have h1 := le_leV (l.take k)
  rw [List.length_take, Nat.min_eq_left h] at h1
  rw [h1, List.take_append_drop]
theorem ltake_any (g k : Nat) (e : Int) (l : List UInt8) (w : World) (h : Rdl w g e l) :
    Calls Try.prog 91 #[.pointer (some ⟨g, 0, none⟩), .int .i64 (k : Int)] w fun x w' => ∃ A n c, x = .returned (.slice A n c) ∧ Sees w' A n c (bs (tkB k l)) ∧ Rdl w' g (eeB e k l) (drB k l) ∧ Onl g w w' := by
  by_cases hk : l.length < k
  · refine (ltake_few g e k l w h (by omega)).mono ?_
    rintro x w' ⟨rfl, h1, h2⟩
    unfold tkB eeB drB
    rw [if_pos hk, if_pos hk, if_pos hk]
    exact ⟨none, 0, 0, rfl, Sees.nil _, h1, h2⟩
  · refine (ltake_ok g e k l w h (by omega)).mono ?_
    rintro x w' ⟨A, c, rfl, h0, h1, h2⟩
    unfold tkB eeB drB
    rw [if_neg hk, if_neg hk, if_neg hk]
    exact ⟨A, k, c, rfl, h0, h1, h2⟩
theorem rbytes_any (g k : Nat) (e : Int) (l : List UInt8) (w : World) (h : Rfl w g e l) :
    Calls Try.prog 81 #[.pointer (some ⟨g, 0, none⟩), .int .i64 (k : Int)] w fun x w' => ∃ A n c, x = .returned (.slice A n c) ∧ Sees w' A n c (bs (tkB k l)) ∧ Rfl w' g (eeB e k l) (drB k l) ∧ Onl g w w' := by
  by_cases he : e = 0
  · subst he
    by_cases hk : l.length < k
    · refine (rbytes_few g k l w h (by omega)).mono ?_
      rintro x w' ⟨rfl, h1, h2⟩
      unfold tkB eeB drB
      rw [if_pos hk, if_pos hk, if_pos hk]
      exact ⟨none, 0, 0, rfl, Sees.nil _, h1, h2⟩
    · refine (rbytes_ok g k l w h (by omega)).mono ?_
      rintro x w' ⟨A, c, rfl, h0, h1, h2⟩
      unfold tkB eeB drB
      rw [if_neg hk, if_neg hk, if_neg hk]
      exact ⟨A, k, c, rfl, h0, h1, h2⟩
  · obtain rfl := h.emp he
    refine (rbytes_err g e k _ w h he).mono ?_
    rintro x w' ⟨rfl, rfl⟩
    have e1 : tkB k [] = [] := by unfold tkB; split <;> simp
    have e2 : drB k [] = [] := by unfold drB; split <;> simp
    have e3 : eeB e k [] = e := by unfold eeB; split; exact ferrL_ne he; rfl
    rw [e1, e2, e3]
    exact ⟨none, 0, 0, rfl, Sees.nil _, h, Onl.refl _ _⟩
theorem lrd_u8 (g : Nat) (e : Int) (l : List UInt8) (w : World) (h : Rdl w g e l) :
    Calls Try.prog 46 #[.pointer (some ⟨g, 0, none⟩)] w fun r w' => r = .returned (.int .u8 (nvB 1 l : Int)) ∧ Rdl w' g (eeB e 1 l) (drB 1 l) ∧ Onl g w w' := by
  by_cases hk : l.length < 1
  · have e1 : nvB 1 l = 0 := by unfold nvB; rw [if_pos hk]
    have e2 : eeB e 1 l = ferrL e 3 := by unfold eeB; rw [if_pos hk]
    have e3 : drB 1 l = [] := by unfold drB; rw [if_pos hk]
    rw [e1, e2, e3]
    have HT := Lib.hid (ltake_few g e 1 l w h (by omega))
    have hnext : Calls Try.prog 74 #[.pointer (some ⟨g, 0, none⟩), .int .i64 1] w fun r w' => r = .returned (.int .u8 0) ∧ Rdl w' g (ferrL e 3) [] ∧ Onl g w w' := by
      clear h e1 e2 e3
      go_enter Try.func74, Try.ntmps74
      go_wp2_with fail
      refine (Calls.mono HT.out ?_)
      rintro r w1 ⟨rfl, hr, ho⟩
      have HJ := Lib.hid (join_u8 none 0 0 [] w1 (Sees.nil w1) (by omega))
      clear HT
      go_wp2_with fail
      refine (Calls.mono HJ.out ?_)
      rintro r w2 ⟨rfl, e2⟩
      have hv : leV [] = 0 := rfl
      rw [hv]
      go_wp2
      go_ret
      exact ⟨rfl, hr.ext e2, ho.trans (Onl.of_ext e2)⟩
    have HN := Lib.hid hnext
    clear h hnext HT e1 e2 e3
    go_enter Try.func46, Try.ntmps46
    go_wp2_with fail
    refine (Calls.mono HN.out ?_)
    rintro r w2 ⟨rfl, hr, ho⟩
    go_wp2
    go_ret
    exact ⟨rfl, hr, ho⟩
  · have e1 : nvB 1 l = leV (l.take 1) := by unfold nvB; rw [if_neg hk]
    have e2 : eeB e 1 l = e := by unfold eeB; rw [if_neg hk]
    have e3 : drB 1 l = l.drop 1 := by unfold drB; rw [if_neg hk]
    rw [e1, e2, e3]
    have hl := leV_lt (l.take 1)
    rw [List.length_take, Nat.min_eq_left (by omega)] at hl
    exact lr_u8 g e (leV (l.take 1)) (l.drop 1) w (by simpa using hl) (by rw [le_back 1 l (by omega)]; exact h)
theorem lrd_u16 (g : Nat) (e : Int) (l : List UInt8) (w : World) (h : Rdl w g e l) :
    Calls Try.prog 47 #[.pointer (some ⟨g, 0, none⟩)] w fun r w' => r = .returned (.int .u16 (nvB 2 l : Int)) ∧ Rdl w' g (eeB e 2 l) (drB 2 l) ∧ Onl g w w' := by
  by_cases hk : l.length < 2
  · have e1 : nvB 2 l = 0 := by unfold nvB; rw [if_pos hk]
    have e2 : eeB e 2 l = ferrL e 3 := by unfold eeB; rw [if_pos hk]
    have e3 : drB 2 l = [] := by unfold drB; rw [if_pos hk]
    rw [e1, e2, e3]
    have HT := Lib.hid (ltake_few g e 2 l w h (by omega))
    have hnext : Calls Try.prog 75 #[.pointer (some ⟨g, 0, none⟩), .int .i64 2] w fun r w' => r = .returned (.int .u16 0) ∧ Rdl w' g (ferrL e 3) [] ∧ Onl g w w' := by
      clear h e1 e2 e3
      go_enter Try.func75, Try.ntmps75
      go_wp2_with fail
      refine (Calls.mono HT.out ?_)
      rintro r w1 ⟨rfl, hr, ho⟩
      have HJ := Lib.hid (join_u16 none 0 0 [] w1 (Sees.nil w1) (by omega))
      clear HT
      go_wp2_with fail
      refine (Calls.mono HJ.out ?_)
      rintro r w2 ⟨rfl, e2⟩
      have hv : leV [] = 0 := rfl
      rw [hv]
      go_wp2
      go_ret
      exact ⟨rfl, hr.ext e2, ho.trans (Onl.of_ext e2)⟩
    have HN := Lib.hid hnext
    clear h hnext HT e1 e2 e3
    go_enter Try.func47, Try.ntmps47
    go_wp2_with fail
    refine (Calls.mono HN.out ?_)
    rintro r w2 ⟨rfl, hr, ho⟩
    go_wp2
    go_ret
    exact ⟨rfl, hr, ho⟩
  · have e1 : nvB 2 l = leV (l.take 2) := by unfold nvB; rw [if_neg hk]
    have e2 : eeB e 2 l = e := by unfold eeB; rw [if_neg hk]
    have e3 : drB 2 l = l.drop 2 := by unfold drB; rw [if_neg hk]
    rw [e1, e2, e3]
    have hl := leV_lt (l.take 2)
    rw [List.length_take, Nat.min_eq_left (by omega)] at hl
    exact lr_u16 g e (leV (l.take 2)) (l.drop 2) w (by simpa using hl) (by rw [le_back 2 l (by omega)]; exact h)
theorem lrd_u32 (g : Nat) (e : Int) (l : List UInt8) (w : World) (h : Rdl w g e l) :
    Calls Try.prog 45 #[.pointer (some ⟨g, 0, none⟩)] w fun r w' => r = .returned (.int .u32 (nvB 4 l : Int)) ∧ Rdl w' g (eeB e 4 l) (drB 4 l) ∧ Onl g w w' := by
  by_cases hk : l.length < 4
  · have e1 : nvB 4 l = 0 := by unfold nvB; rw [if_pos hk]
    have e2 : eeB e 4 l = ferrL e 3 := by unfold eeB; rw [if_pos hk]
    have e3 : drB 4 l = [] := by unfold drB; rw [if_pos hk]
    rw [e1, e2, e3]
    have HT := Lib.hid (ltake_few g e 4 l w h (by omega))
    have hnext : Calls Try.prog 73 #[.pointer (some ⟨g, 0, none⟩), .int .i64 4] w fun r w' => r = .returned (.int .u32 0) ∧ Rdl w' g (ferrL e 3) [] ∧ Onl g w w' := by
      clear h e1 e2 e3
      go_enter Try.func73, Try.ntmps73
      go_wp2_with fail
      refine (Calls.mono HT.out ?_)
      rintro r w1 ⟨rfl, hr, ho⟩
      have HJ := Lib.hid (join_u32 none 0 0 [] w1 (Sees.nil w1) (by omega))
      clear HT
      go_wp2_with fail
      refine (Calls.mono HJ.out ?_)
      rintro r w2 ⟨rfl, e2⟩
      have hv : leV [] = 0 := rfl
      rw [hv]
      go_wp2
      go_ret
      exact ⟨rfl, hr.ext e2, ho.trans (Onl.of_ext e2)⟩
    have HN := Lib.hid hnext
    clear h hnext HT e1 e2 e3
    go_enter Try.func45, Try.ntmps45
    go_wp2_with fail
    refine (Calls.mono HN.out ?_)
    rintro r w2 ⟨rfl, hr, ho⟩
    go_wp2
    go_ret
    exact ⟨rfl, hr, ho⟩
  · have e1 : nvB 4 l = leV (l.take 4) := by unfold nvB; rw [if_neg hk]
    have e2 : eeB e 4 l = e := by unfold eeB; rw [if_neg hk]
    have e3 : drB 4 l = l.drop 4 := by unfold drB; rw [if_neg hk]
    rw [e1, e2, e3]
    have hl := leV_lt (l.take 4)
    rw [List.length_take, Nat.min_eq_left (by omega)] at hl
    exact lr_u32 g e (leV (l.take 4)) (l.drop 4) w (by simpa using hl) (by rw [le_back 4 l (by omega)]; exact h)
theorem lrd_u64 (g : Nat) (e : Int) (l : List UInt8) (w : World) (h : Rdl w g e l) :
    Calls Try.prog 94 #[.pointer (some ⟨g, 0, none⟩)] w fun r w' => r = .returned (.int .u64 (nvB 8 l : Int)) ∧ Rdl w' g (eeB e 8 l) (drB 8 l) ∧ Onl g w w' := by
  by_cases hk : l.length < 8
  · have e1 : nvB 8 l = 0 := by unfold nvB; rw [if_pos hk]
    have e2 : eeB e 8 l = ferrL e 3 := by unfold eeB; rw [if_pos hk]
    have e3 : drB 8 l = [] := by unfold drB; rw [if_pos hk]
    rw [e1, e2, e3]
    have HT := Lib.hid (ltake_few g e 8 l w h (by omega))
    have hnext : Calls Try.prog 97 #[.pointer (some ⟨g, 0, none⟩), .int .i64 8] w fun r w' => r = .returned (.int .u64 0) ∧ Rdl w' g (ferrL e 3) [] ∧ Onl g w w' := by
      clear h e1 e2 e3
      go_enter Try.func97, Try.ntmps97
      go_wp2_with fail
      refine (Calls.mono HT.out ?_)
      rintro r w1 ⟨rfl, hr, ho⟩
      have HJ := Lib.hid (join_u64 none 0 0 [] w1 (Sees.nil w1) (by omega))
      clear HT
      go_wp2_with fail
      refine (Calls.mono HJ.out ?_)
      rintro r w2 ⟨rfl, e2⟩
      have hv : leV [] = 0 := rfl
      rw [hv]
      go_wp2
      go_ret
      exact ⟨rfl, hr.ext e2, ho.trans (Onl.of_ext e2)⟩
    have HN := Lib.hid hnext
    clear h hnext HT e1 e2 e3
    go_enter Try.func94, Try.ntmps94
    go_wp2_with fail
    refine (Calls.mono HN.out ?_)
    rintro r w2 ⟨rfl, hr, ho⟩
    go_wp2
    go_ret
    exact ⟨rfl, hr, ho⟩
  · have e1 : nvB 8 l = leV (l.take 8) := by unfold nvB; rw [if_neg hk]
    have e2 : eeB e 8 l = e := by unfold eeB; rw [if_neg hk]
    have e3 : drB 8 l = l.drop 8 := by unfold drB; rw [if_neg hk]
    rw [e1, e2, e3]
    have hl := leV_lt (l.take 8)
    rw [List.length_take, Nat.min_eq_left (by omega)] at hl
    exact lr_u64 g e (leV (l.take 8)) (l.drop 8) w (by simpa using hl) (by rw [le_back 8 l (by omega)]; exact h)

theorem leV_drop (t : List UInt8) (j : Nat) (h : j < t.length) : leV (t.drop j) = (t[j]).toNat + 256 * leV (t.drop (j + 1)) := by
  rw [List.drop_eq_getElem_cons h]
  rfl
set_option maxHeartbeats 1000000 in
set_option maxRecDepth 20000 in
theorem rnum_any (h k : Nat) (e : Int) (l : List UInt8) (w : World) (hr : Rfl w h e l) (hk8 : k ≤ 8) :
    Calls Try.prog 51 #[.pointer (some ⟨h, 0, none⟩), .int .i64 (k : Int)] w fun x w' => x = .returned (.int .u64 (nvB k l : Int)) ∧ Rfl w' h (eeB e k l) (drB k l) ∧ Onl h w w' := by
  have HB := Lib.hid (rbytes_any h k e l w hr)
  have hnv : nvB k l = leV (tkB k l) := by
    unfold nvB tkB
    split <;> rfl
  have htl : (tkB k l).length ≤ 8 := by
    unfold tkB
    split
    · simp
    · rw [List.length_take]; omega
  rw [hnv]
  clear hr hnv
  generalize tkB k l = t at *
  generalize drB k l = l2 at *
  generalize eeB e k l = e2 at *
  have HTL := Lib.hid htl
  clear htl
  obtain ⟨N, hN⟩ : ∃ N, N = leV t := ⟨_, rfl⟩
  rw [← hN]
  have HN := Lib.hid hN
  clear hN
  go_enter Try.func51, Try.ntmps51
  go_wp2_with fail
  refine (Calls.mono HB.out ?_)
  rintro x w1 ⟨A, n, c, rfl, hs, hr1, ho⟩
  have hln := hs.len
  rw [bs_length] at hln
  have hcl := hs.le
  have hmx := hs.max
  unfold maxLen at hmx
  have hn8 : n ≤ 8 := by have := HTL.out; omega
  have HS := Lib.hid hs
  have HR := Lib.hid hr1
  have HO := Lib.hid ho
  clear hs hr1 ho HB
  go_wp2_with fail
  go_loopw [6, 7] (fun y i wr => ∃ j : Nat, j ≤ n ∧ i = .int .i64 ((j : Int) - 1) ∧ y = .int .u64 (leV (t.drop j) : Int) ∧ Ext w1 wr) (fun _ i _ => (intOf i + 1).toNat)
  case atStart => exact ⟨n, by omega, rfl, by rw [List.drop_of_length_le (by omega)]; rfl, Ext.refl _⟩
  case round =>
    obtain ⟨j, hj, rfl, rfl, ext⟩ := hrel
    by_cases hlt : 0 < j
    · obtain ⟨i, rfl⟩ : ∃ i, j = i + 1 := ⟨j - 1, by omega⟩
      have hit : i < t.length := by omega
      have hji : (((i + 1 : Nat) : Int) - 1) = (i : Int) := by omega
      rw [hji]
      clear hji
      obtain ⟨b, off, u, hA, hu, hcell, _⟩ := (HS.out.ext ext).at_ (k := i) (by omega)
      subst hA
      obtain ⟨hi2, rfl⟩ := bs_get t i u hu
      have hstep := leV_drop t i hit
      have hlv := leV_lt (t.drop i)
      have hpw : 256 ^ (t.drop i).length ≤ 256 ^ 8 := Nat.pow_le_pow_right (by omega) (by rw [List.length_drop]; omega)
      have hbig : (256 : Nat) ^ 8 = 18446744073709551616 := by decide
      have hx := (t[i]).toNat_lt
      have hv : 256 * leV (t.drop (i + 1)) + (t[i]).toNat < 18446744073709551616 := by omega
      have HST := Lib.hid hstep
      clear hu hstep hlv hpw hbig
      generalize (t[i]).toNat = x at *
      generalize leV (t.drop (i + 1)) = y at *
      go_wp2_with fail
      go_roundw
      case rel => exact ⟨i, by omega, by go_num, by rw [HST.out]; go_num, ext⟩
      case measure => simp [intOf] <;> omega
    · obtain rfl : j = 0 := by omega
      rw [List.drop_zero]
      rw [← HN.out]
      go_wp2
      go_ret
      exact ⟨rfl, HR.out.ext ext, HO.out.trans (Onl.of_ext ext)⟩
end Go.Proofs.Ytihiclnbbpablaa
