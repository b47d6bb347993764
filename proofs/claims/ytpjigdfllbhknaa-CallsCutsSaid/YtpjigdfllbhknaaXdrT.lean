/-
  The reader of layer 1: a text that is read.
-/
import Derived.Test.YtpjigdfllbhknaaXdrR
namespace Go.Proofs.Ytpjigdfllbhknaa
open Go Go.RowKit
set_option linter.unusedVariables false
set_option linter.unusedSimpArgs false
set_option maxRecDepth 20000

theorem padding_nat (n : Nat) (w : World) (hn : n ≤ 8589934592) :
    Calls Try.prog 82 #[.int .i64 n] w fun e w' => e = .returned (.int .i64 (pad n : Nat)) ∧ w = w' := by
  go_enter Try.func82, Try.ntmps82
  go_wp2
  go_ret
  refine ⟨?_, rfl⟩
  have : ((4 : Int) - (n : Int) % 4) % 4 = (pad n : Nat) := by unfold pad; omega
  simp [this]
theorem pad_le (n : Nat) : pad n ≤ 3 := by unfold pad; omega
theorem pad_mod (n : Nat) : (n + pad n) % 4 = 0 := by unfold pad; omega
theorem u32_nat (g : Nat) (e : Int) (l : List UInt8) (M : Nat) (w : World) (h : Rdr w g e l) (hk : 4 ≤ l.length) (hM : num4 l = (M : Int)) :
    Calls Try.prog 96 #[.pointer (some ⟨g, 0, none⟩)] w fun x w' => x = .returned (.int .u32 (M : Int)) ∧ Rdr w' g e (l.drop 4) ∧ Onl g w w' := by
  rw [← hM]
  exact u32_ok g e l w h hk
theorem take_nat (g : Nat) (e k : Int) (K : Nat) (l : List UInt8) (w : World) (h : Rdr w g e l) (hK : k = (K : Int)) (hk : K ≤ l.length) :
    Calls Try.prog 99 #[.pointer (some ⟨g, 0, none⟩), .int .i64 k] w fun x w' => ∃ A c, x = .returned (.tuple #[.slice A K c, .bool true]) ∧ Sees w' A K c (bs (l.take K)) ∧ Rdr w' g e (l.drop K) ∧ Onl g w w' := by
  have h1 : k.toNat = K := by omega
  have := take_ok g e k l w h (by omega) (by omega)
  rw [h1] at this
  exact this

/-- Nothing is read of fewer than four bytes. -/
theorem text_few (g : Nat) (e most : Int) (l : List UInt8) (w : World) (h : Rdr w g e l) (hk : l.length < 4) :
    Calls Try.prog 95 #[.pointer (some ⟨g, 0, none⟩), .int .i64 most] w fun x w' => ∃ A c, x = .returned (.slice A 0 c) ∧ Sees w' A 0 c (bs []) ∧ Rdr w' g (ferr e 3) [] ∧ Onl g w w' := by
  obtain ⟨i0, hi, hz0, hz1, hz2⟩ := info_parts infoB
  have hf : ∀ a b c : Int, b ≠ 0 → ferr (ferr a b) c = ferr a b := fun a b c hb => by unfold ferr; split <;> simp_all
  have hff := Lib.hid (hf e 3 4 (by omega))
  clear hf
  by_cases hm : most < (0 : Int)
  all_goals
    go_enter Try.func95, Try.ntmps95
    go_wp2_with fail
    refine (u32_few g e l _ h hk).mono ?_
    rintro x w1 ⟨rfl, hr1, ho1⟩
    go_wp2_with fail
  · refine (fail_any g _ 4 _ _ hr1).mono ?_
    rintro x w2 ⟨rfl, hr2, ho2⟩
    rw [hff.out] at hr2
    go_wp2_with fail
    refine (padding_nat 0 _ (by omega)).mono ?_
    rintro x w3 ⟨rfl, rfl⟩
    have hp0 : ((pad 0 : Nat) : Int) = 0 := rfl
    go_wp2_with fail
    refine (take_nat g _ _ 0 _ _ hr2 rfl (by simp)).mono ?_
    rintro x w3 ⟨A, c, rfl, hs, hr3, ho3⟩
    obtain ⟨v', w', hrun, hown, hg, hat⟩ := run_append_sees (P := Try.prog) w3.heap.size 24 24 5 i0 _ 1 Try.underlying24 hi hz0 hz1 hz2 rfl (.slice none 0 0) 0 [] (World.ownsRow_nil _ _ _ _)
      A 0 c [] hs (by simp) (by unfold maxLen; omega) (by omega) (Nat.le_refl _)
    obtain ⟨A', c', rfl, hs'⟩ := Sees.of_own hown
    have hx : Ext w3 w' := (Ext.refl _).grown hg (by simp [Value.ownBlock])
    have hfin : Rdr w' g (ferr e 3) [] ∧ Onl g w w' := ⟨by simpa using hr3.ext hx, ((ho1.trans ho2).trans ho3).trans (Onl.of_ext hx)⟩
    have HF := Lib.hid hfin
    clear hfin hx hown hg hat hs
    go_wp2_with fail
    all_goals
      go_loop [33] (fun i => i = .int .i64 0) (fun _ => 0)
      case atStart => rfl
      case round =>
        subst hrel
        go_wp2_with (first | (at_builtin; refine wpList_append_run rfl (.const (.slice none 0 0)) (.tmp 44) _ rfl _ _ rfl rfl _ w' hrun ?_) | fail)
        go_ret
        exact ⟨_, _, rfl, hs', HF.out.1, HF.out.2⟩
  · refine (padding_nat 0 _ (by omega)).mono ?_
    rintro x w3 ⟨rfl, rfl⟩
    have hp0 : ((pad 0 : Nat) : Int) = 0 := rfl
    go_wp2_with fail
    refine (take_nat g _ _ 0 _ _ hr1 rfl (by simp)).mono ?_
    rintro x w3 ⟨A, c, rfl, hs, hr3, ho3⟩
    obtain ⟨v', w', hrun, hown, hg, hat⟩ := run_append_sees (P := Try.prog) w3.heap.size 24 24 5 i0 _ 1 Try.underlying24 hi hz0 hz1 hz2 rfl (.slice none 0 0) 0 [] (World.ownsRow_nil _ _ _ _)
      A 0 c [] hs (by simp) (by unfold maxLen; omega) (by omega) (Nat.le_refl _)
    obtain ⟨A', c', rfl, hs'⟩ := Sees.of_own hown
    have hx : Ext w3 w' := (Ext.refl _).grown hg (by simp [Value.ownBlock])
    have hfin : Rdr w' g (ferr e 3) [] ∧ Onl g w w' := ⟨by simpa using hr3.ext hx, (ho1.trans ho3).trans (Onl.of_ext hx)⟩
    have HF := Lib.hid hfin
    clear hfin hx hown hg hat hs
    go_wp2_with fail
    all_goals
      go_loop [33] (fun i => i = .int .i64 0) (fun _ => 0)
      case atStart => rfl
      case round =>
        subst hrel
        go_wp2_with (first | (at_builtin; refine wpList_append_run rfl (.const (.slice none 0 0)) (.tmp 44) _ rfl _ _ rfl rfl _ w' hrun ?_) | fail)
        go_ret
        exact ⟨_, _, rfl, hs', HF.out.1, HF.out.2⟩

/-- The length is more than may be. -/
theorem text_range (g : Nat) (e most : Int) (l : List UInt8) (M : Nat) (w : World) (h : Rdr w g e l) (hk : 4 ≤ l.length) (hM : num4 l = (M : Int)) (hm : most < (M : Int)) :
    Calls Try.prog 95 #[.pointer (some ⟨g, 0, none⟩), .int .i64 most] w fun x w' => ∃ A c, x = .returned (.slice A 0 c) ∧ Sees w' A 0 c (bs []) ∧ Rdr w' g (ferr e 4) [] ∧ Onl g w w' := by
  obtain ⟨i0, hi, hz0, hz1, hz2⟩ := info_parts infoB
  have hf : ∀ a b c : Int, b ≠ 0 → ferr (ferr a b) c = ferr a b := fun a b c hb => by unfold ferr; split <;> simp_all
  have hff := Lib.hid (hf e 4 3 (by omega))
  have hb := num4_bound l
  rw [hM] at hb
  clear hf
  have hp := pad_le M
  by_cases h0 : M = 0
  all_goals
    go_enter Try.func95, Try.ntmps95
    go_wp2_with fail
    refine (u32_nat g e l M _ h hk hM).mono ?_
    rintro x w1 ⟨rfl, hr1, ho1⟩
    go_wp2_with fail
    refine (fail_any g _ 4 _ _ hr1).mono ?_
    rintro x w2 ⟨rfl, hr2, ho2⟩
    go_wp2_with fail
  · subst h0
    refine (padding_nat 0 _ (by omega)).mono ?_
    rintro x w3 ⟨rfl, rfl⟩
    have hp0 : ((pad 0 : Nat) : Int) = 0 := rfl
    go_wp2_with fail
    refine (take_nat g _ _ 0 _ _ hr2 rfl (by simp)).mono ?_
    rintro x w3 ⟨A, c, rfl, hs, hr3, ho3⟩
    obtain ⟨v', w', hrun, hown, hg, hat⟩ := run_append_sees (P := Try.prog) w3.heap.size 24 24 5 i0 _ 1 Try.underlying24 hi hz0 hz1 hz2 rfl (.slice none 0 0) 0 [] (World.ownsRow_nil _ _ _ _)
      A 0 c [] hs (by simp) (by unfold maxLen; omega) (by omega) (Nat.le_refl _)
    obtain ⟨A', c', rfl, hs'⟩ := Sees.of_own hown
    have hx : Ext w3 w' := (Ext.refl _).grown hg (by simp [Value.ownBlock])
    have hfin : Rdr w' g (ferr e 4) [] ∧ Onl g w w' := ⟨by simpa using hr3.ext hx, ((ho1.trans ho2).trans ho3).trans (Onl.of_ext hx)⟩
    have HF := Lib.hid hfin
    clear hfin hx hown hg hat hs
    go_wp2_with fail
    all_goals
      go_loop [33] (fun i => i = .int .i64 0) (fun _ => 0)
      case atStart => rfl
      case round =>
        subst hrel
        go_wp2_with (first | (at_builtin; refine wpList_append_run rfl (.const (.slice none 0 0)) (.tmp 44) _ rfl _ _ rfl rfl _ w' hrun ?_) | fail)
        go_ret
        exact ⟨_, _, rfl, hs', HF.out.1, HF.out.2⟩
  · refine (padding_nat M _ (by omega)).mono ?_
    rintro x w3 ⟨rfl, rfl⟩
    go_wp2_with fail
    refine (take_few g _ _ _ _ hr2 (by simp; omega)).mono ?_
    rintro x w3 ⟨rfl, hr3, ho3⟩
    rw [hff.out] at hr3
    go_wp2
    go_ret
    exact ⟨_, _, rfl, Sees.nil _, hr3, (ho1.trans ho2).trans ho3⟩

/-- There are fewer bytes than the length and its padding tell. -/
theorem text_short (g : Nat) (e most : Int) (l : List UInt8) (M : Nat) (w : World) (h : Rdr w g e l) (hk : 4 ≤ l.length) (hM : num4 l = (M : Int)) (hm : (M : Int) ≤ most) (hs : l.length - 4 < M + pad M) :
    Calls Try.prog 95 #[.pointer (some ⟨g, 0, none⟩), .int .i64 most] w fun x w' => ∃ A c, x = .returned (.slice A 0 c) ∧ Sees w' A 0 c (bs []) ∧ Rdr w' g (ferr e 3) [] ∧ Onl g w w' := by
  have hb := num4_bound l
  rw [hM] at hb
  have hp := pad_le M
  go_enter Try.func95, Try.ntmps95
  go_wp2_with fail
  refine (u32_nat g e l M _ h hk hM).mono ?_
  rintro x w1 ⟨rfl, hr1, ho1⟩
  go_wp2_with fail
  refine (padding_nat M _ (by omega)).mono ?_
  rintro x w3 ⟨rfl, rfl⟩
  go_wp2_with fail
  refine (take_few g _ _ _ _ hr1 (by rw [List.length_drop]; omega)).mono ?_
  rintro x w3 ⟨rfl, hr3, ho3⟩
  go_wp2
  go_ret
  exact ⟨_, _, rfl, Sees.nil _, hr3, ho1.trans ho3⟩

set_option maxHeartbeats 1000000 in
/-- All bytes behind the text are 0. -/
theorem text_ok (g : Nat) (e most : Int) (l : List UInt8) (M : Nat) (w : World) (h : Rdr w g e l) (hk : 4 ≤ l.length) (hM : num4 l = (M : Int)) (hm : (M : Int) ≤ most) (hs : M + pad M ≤ l.length - 4) (hl : l.length ≤ 4194304)
    (hz : ∀ k, k < pad M → (l.drop 4).getD (M + k) 0 = 0) :
    Calls Try.prog 95 #[.pointer (some ⟨g, 0, none⟩), .int .i64 most] w fun x w' => ∃ A c, x = .returned (.slice A M c) ∧ Sees w' A M c (bs ((l.drop 4).take M)) ∧ Rdr w' g e (l.drop (4 + (M + pad M))) ∧ Onl g w w' := by
  obtain ⟨i0, hi, hz0, hz1, hz2⟩ := info_parts infoB
  have hb := num4_bound l
  rw [hM] at hb
  have hp := pad_le M
  go_enter Try.func95, Try.ntmps95
  go_wp2_with fail
  refine (u32_nat g e l M _ h hk hM).mono ?_
  rintro x w1 ⟨rfl, hr1, ho1⟩
  go_wp2_with fail
  refine (padding_nat M _ (by omega)).mono ?_
  rintro x w3 ⟨rfl, rfl⟩
  go_wp2_with fail
  refine (take_nat g _ _ (M + pad M) _ _ hr1 (by omega) (by rw [List.length_drop]; omega)).mono ?_
  rintro x w3 ⟨A, c, rfl, hs3, hr3, ho3⟩
  have hcap := hs3.le
  have hmax := hs3.max
  unfold maxLen at hmax
  have hsM := hs3.take M (by omega)
  rw [bs_take, List.take_take, Nat.min_eq_left (by omega)] at hsM
  obtain ⟨v', w', hrun, hown, hg, hat⟩ := run_append_sees (P := Try.prog) w3.heap.size 24 24 5 i0 _ 1 Try.underlying24 hi hz0 hz1 hz2 rfl (.slice none 0 0) 0 [] (World.ownsRow_nil _ _ _ _)
      A M c _ hsM (bs_one _) (by unfold maxLen; omega) (by omega) (Nat.le_refl _)
  obtain ⟨A', c', rfl, hs'⟩ := Sees.of_own hown
  have hs' := hs'
  rw [List.nil_append, Nat.zero_add] at hs'
  rw [Nat.zero_add] at hrun

  have hx : Ext w3 w' := (Ext.refl _).grown hg (by simp [Value.ownBlock])
  have hfin : Rdr w' g e (l.drop (4 + (M + pad M))) ∧ Onl g w w' := ⟨by rw [List.drop_drop] at hr3; exact hr3.ext hx, (ho1.trans ho3).trans (Onl.of_ext hx)⟩
  have HF := Lib.hid hfin
  clear hfin hx hown hg hat hsM
  by_cases hp0 : pad M = 0
  · have HP := Lib.hid hp0
    have hpi : ((pad M : Nat) : Int) = 0 := by rw [hp0]; rfl
    by_cases hcM : c = M
    · subst hcM
      go_wp2_with fail
      go_loop [33] (fun i => i = .int .i64 0) (fun _ => 0)
      case atStart => rfl
      case round =>
        subst hrel
        go_wp2_with (first | (at_builtin; refine wpList_append_run rfl (.const (.slice none 0 0)) (.tmp 44) _ rfl _ _ rfl rfl _ w' hrun ?_) | fail)
        go_ret
        exact ⟨_, _, rfl, hs', by have := HF.out.1; rw [HP.out] at this; exact this, HF.out.2⟩
    · go_wp2_with fail
      go_loop [33] (fun i => i = .int .i64 0) (fun _ => 0)
      case atStart => rfl
      case round =>
        subst hrel
        go_wp2_with (first | (at_builtin; refine wpList_append_run rfl (.const (.slice none 0 0)) (.tmp 44) _ rfl _ _ rfl rfl _ w' hrun ?_) | fail)
        go_ret
        exact ⟨_, _, rfl, hs', by have := HF.out.1; rw [HP.out] at this; exact this, HF.out.2⟩
  · obtain ⟨b, off, hA, hc⟩ := hs3.2.2.2.2 (by omega)
    subst hA
    have hcM : M < c := by omega
    have hcell : ∀ k, k < pad M → w3.cell? ⟨b, off + M + k, none⟩ = some (.int .u8 (((l.drop 4).getD (M + k) 0).toNat : Int)) := fun k hk => by
      have h1 : M + k < (l.drop 4).length := by rw [List.length_drop]; omega
      rw [Nat.add_assoc]
      refine hc (M + k) _ ?_
      rw [← bs_take, List.getElem?_take, if_pos (by omega)]
      simp only [bs, List.getElem?_map, List.getD_eq_getElem?_getD, List.getElem?_eq_getElem h1, Option.map_some, Option.getD_some]
    have hne : ¬ c = M := by omega
    have haddr : (⟨b, off, none⟩ : Addr).add M = ⟨b, off + M, none⟩ := addr_add _ _ _
    have HC := Lib.hid hcell
    clear hc hs3 hcell
    go_wp2_with fail
    go_loop [33] (fun i => ∃ k : Nat, k ≤ pad M ∧ i = .int .i64 k) (fun i => pad M - (intOf i).toNat)
    case atStart => exact ⟨0, by omega, rfl⟩
    case round =>
      obtain ⟨k, hk, rfl⟩ := hrel
      by_cases hlt : k < pad M
      · have hc1 := HC.out k hlt
        rw [hz k hlt] at hc1
        have hc2 : w3.cell? ⟨b, off + M + k, none⟩ = some (.int .u8 0) := hc1
        clear hc1
        have HZ := Lib.hid hz
        clear hz
        go_wp2
        go_round
        case rel => exact ⟨k + 1, by omega, by go_num⟩
        case measure => simp [intOf]; omega
      · have HZ := Lib.hid hz
        clear hz
        go_wp2_with (first | (at_builtin; refine wpList_append_run rfl (.const (.slice none 0 0)) (.tmp 44) _ rfl _ _ rfl rfl _ w' hrun ?_) | fail)
        go_ret
        exact ⟨_, _, rfl, hs', HF.out.1, HF.out.2⟩

/-- A byte behind the text is not 0. -/
theorem text_bad (g : Nat) (e most : Int) (l : List UInt8) (M j0 : Nat) (w : World) (h : Rdr w g e l) (hk : 4 ≤ l.length) (hM : num4 l = (M : Int)) (hm : (M : Int) ≤ most) (hs : M + pad M ≤ l.length - 4) (hl : l.length ≤ 4194304)
    (hj : j0 < pad M) (hz : ∀ k, k < j0 → (l.drop 4).getD (M + k) 0 = 0) (hb0 : (l.drop 4).getD (M + j0) 0 ≠ 0) :
    Calls Try.prog 95 #[.pointer (some ⟨g, 0, none⟩), .int .i64 most] w fun x w' => ∃ A c, x = .returned (.slice A 0 c) ∧ Sees w' A 0 c (bs []) ∧ Rdr w' g (ferr e 2) [] ∧ Onl g w w' := by
  have hb := num4_bound l
  rw [hM] at hb
  have hp := pad_le M
  have hnz : ((((l.drop 4).getD (M + j0) 0).toNat : Int) != 0) = true := by
    have h1 : ((l.drop 4).getD (M + j0) 0).toNat ≠ 0 := fun h => hb0 (UInt8.toNat_inj.1 h)
    simp only [bne_iff_ne]
    omega
  clear hb0
  generalize hz0 : ((l.drop 4).getD (M + j0) 0).toNat = z0 at hnz
  have HZ0 := Lib.hid hz0
  clear hz0
  go_enter Try.func95, Try.ntmps95
  go_wp2_with fail
  refine (u32_nat g e l M _ h hk hM).mono ?_
  rintro x w1 ⟨rfl, hr1, ho1⟩
  go_wp2_with fail
  refine (padding_nat M _ (by omega)).mono ?_
  rintro x w3 ⟨rfl, rfl⟩
  go_wp2_with fail
  refine (take_nat g _ _ (M + pad M) _ _ hr1 (by omega) (by rw [List.length_drop]; omega)).mono ?_
  rintro x w3 ⟨A, c, rfl, hs3, hr3, ho3⟩
  have hcap := hs3.le
  have hmax := hs3.max
  unfold maxLen at hmax
  have HZ := Lib.hid hz
  clear hz
  obtain ⟨b, off, hA, hc⟩ := hs3.2.2.2.2 (by omega)
  subst hA
  have hcM : M < c := by omega
  have hcell : ∀ k, k < pad M → w3.cell? ⟨b, off + M + k, none⟩ = some (.int .u8 (((l.drop 4).getD (M + k) 0).toNat : Int)) := fun k hk => by
    have h1 : M + k < (l.drop 4).length := by rw [List.length_drop]; omega
    rw [Nat.add_assoc]
    refine hc (M + k) _ ?_
    rw [← bs_take, List.getElem?_take, if_pos (by omega)]
    simp only [bs, List.getElem?_map, List.getD_eq_getElem?_getD, List.getElem?_eq_getElem h1, Option.map_some, Option.getD_some]
  have hne : ¬ c = M := by omega
  have haddr : (⟨b, off, none⟩ : Addr).add M = ⟨b, off + M, none⟩ := addr_add _ _ _
  have HC := Lib.hid hcell
  clear hc hs3 hcell
  go_wp2_with fail
  go_loop [33] (fun i => ∃ k : Nat, k ≤ j0 ∧ i = .int .i64 k) (fun i => j0 - (intOf i).toNat)
  case atStart => exact ⟨0, by omega, rfl⟩
  case round =>
    obtain ⟨k, hk, rfl⟩ := hrel
    have hkp : k < pad M := by omega
    have hc1 := HC.out k hkp
    by_cases hlt : k < j0
    · rw [HZ.out k hlt] at hc1
      have hc2 : w3.cell? ⟨b, off + M + k, none⟩ = some (.int .u8 0) := hc1
      clear hc1
      go_wp2
      go_round
      case rel => exact ⟨k + 1, by omega, by go_num⟩
      case measure => simp [intOf]; omega
    · have hkj : k = j0 := by omega
      subst hkj
      rw [HZ0.out] at hc1
      go_wp2_with fail
      refine (fail_any g _ 2 _ _ hr3).mono ?_
      rintro x w4 ⟨rfl, hr4, ho4⟩
      go_wp2
      go_ret
      exact ⟨_, _, rfl, Sees.nil _, hr4, (ho1.trans ho3).trans ho4⟩
