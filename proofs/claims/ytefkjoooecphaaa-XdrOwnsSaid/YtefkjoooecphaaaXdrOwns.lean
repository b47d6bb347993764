/-
  The statement XdrOwns: its walk.
-/
import Derived.Test.YtefkjoooecphaaaXdrJ
import Derived.Test.YtefkjoooecphaaaRws
import Derived.Test.YtefkjoooecphaaaXdrC
namespace Go.Proofs.Ytefkjoooecphaaa
open Go Go.RowKit
set_option linter.unusedVariables false
set_option linter.unusedSimpArgs false

theorem Ext.trans' {a b c : World} {g : Nat} (h : Ext a b) (k : Onl g b c) (hg : a.heap.size ≤ g) : Ext a c := h.onl k hg
set_option maxHeartbeats 1000000 in
theorem owns_b (A : Option Addr) (n c : Nat) (l : List UInt8) (y : Int) (w : World) (hs : Sees w A n c (bs l)) (hy0 : 0 ≤ y) (hy1 : y ≤ 255) (hnn : 0 < n) :
    Calls Try.prog 7 #[.slice A n c, .int .u8 y] w fun e w' => e = .returned (.bool true) ∧ Ext w w' := by
  have hlen : (l.take 24).length = min n 24 := by
    have := hs.len
    rw [bs_length] at this
    rw [List.length_take]
    omega
  go_enter Try.func7, Try.ntmps7
  go_wp2_with fail
  refine (few_nat A n c _ 24 _ _ hs (bs_one _) (by omega) (by omega) rfl).mono ?_
  rintro e w1 ⟨v1, rfl, own1, e1⟩
  have hs1 := hs.ext e1
  rw [bs_take] at own1
  go_wp2_with fail
  refine (few_nat A n c _ 24 _ _ hs1 (bs_one _) (by omega) (by omega) rfl).mono ?_
  rintro e w2 ⟨v2, rfl, own2, e2⟩
  rw [bs_take] at own2
  have HLEN := Lib.hid hlen
  have hN24 : min n 24 ≤ 24 := by omega
  have own1b := own_ext own1 e2
  have e02 := e1.trans e2
  have h12 := e2.size
  generalize l.take 24 = s at *
  generalize hN : min n 24 = N at *
  clear hs hs1 hlen
  obtain ⟨A2, c2, rfl, see2⟩ := Sees.of_own own2
  clear see2
  obtain ⟨go, co, rfl, hbo, hgo⟩ := own1.form (by omega)
  clear own1
  obtain ⟨A1, c1, hA1, see1⟩ := Sees.of_own own1b
  injection hA1 with q1 q2 q3
  subst q1 q3
  go_wp2_with fail
  refine (read_any _ N _ s _ (see1.ext ((Ext.refl _).alloc _)) (by omega)).mono ?_
  rintro e w3 ⟨g, v3, rfl, hg, hbg, own3, e3⟩
  have own1c := own_ext own1b ((Ext.refl _).alloc _ |>.trans e3)
  have own2c := own_ext own2 ((Ext.refl _).alloc _ |>.trans e3)
  have hbh := e3.heap (heap_alloc_new w2 _)
  have e03 := e02.trans ((Ext.refl _).alloc _ |>.trans e3)
  have hg2 : w2.heap.size < g := by
    have h1 := hg
    simp at h1
    omega
  have hb3 : w2.heap.size < (w2.alloc (.cells #[.slice A2 N c2, .int .i64 0, .int .i64 0] 42)).heap.size := by simp
  have hzz : (w2.alloc (.cells #[.slice A2 N c2, .int .i64 0, .int .i64 0] 42)).heap.size = w2.heap.size + 1 := by simp
  generalize hz3 : (w2.alloc (.cells #[.slice A2 N c2, .int .i64 0, .int .i64 0] 42)).heap.size = z3 at *
  clear own1b own2 see1 e3 hz3 hb3

  have hh0 : w.heap.size ≤ w2.heap.size := e02.size
  generalize hh : w2.heap.size = h0 at *
  go_wp2_with fail
  go_loopw [8] (fun i wr => ∃ (k : Nat) (xs : List Value), k ≤ N ∧ i = .int .i64 k ∧ xs.length = N ∧ wr.ownsRow w.heap.size 5 1 (.slice (some ⟨go, 0, none⟩) N co) N xs ∧ (∀ j, k ≤ j → j < N → ∃ x : Int, xs[j]? = some (.int .u8 x)) ∧ Onl go w3 wr) (fun i _ => N - (intOf i).toNat)
  case atStart => exact ⟨0, bs s, by omega, rfl, by rw [bs_length, HLEN.out], own1c, fun j _ hj => by
      have h1 : j < s.length := by rw [HLEN.out]; exact hj
      exact ⟨(s[j].toNat : Int), by simp [bs, List.getElem?_eq_getElem h1]⟩, Onl.refl _ _⟩
  case round =>
    obtain ⟨k, xs, hk, rfl, hxl, own1w, hxs, hx⟩ := hrel
    by_cases hlt : k < N
    · obtain ⟨x, hxk⟩ := hxs k (Nat.le_refl _) hlt
      have hcell := own1w.cellAt k (by omega)
      rw [hxk] at hcell
      have hfr := own1w.frozenAt k
      have hst := fun u => own1w.stored k u
      have HST := Lib.hid hst
      have HXS := Lib.hid hxs
      clear hst hxs hxk own1w
      go_wp2
      go_roundw
      case rel => exact ⟨k + 1, _, by omega, by go_num, by rw [List.length_set]; exact hxl, (HST.out _).1, fun j hj1 hj2 => by
          obtain ⟨x, hx⟩ := HXS.out j (by omega) hj2
          exact ⟨x, by rw [List.getElem?_set_ne (by omega)]; exact hx⟩, hx.trans (HST.out _).2⟩
      case measure => simp [intOf]; omega
    · obtain rfl : k = N := by omega
      have own3w := own_onl own3 hx (by omega)
      have own2w := own_onl own2c hx (by omega)
      have hgw := hbo
      clear own3 own2c own1c hxs hxl
      have rg := Rdr.of_read (hx.heap hbg (by omega)) own3w
      have rh := Rfr.of_own (hx.heap hbh (by omega)) own2w
      have hbw : Ext w wr := e03.trans' hx hgw
      have hne : g ≠ h0 := by omega
      have hgw0 : w.heap.size ≤ g := by have := e03.size; omega
      clear hbg hbh own3w own2w hx e03 own1w
      generalize h0 = h at *
      go_wp2
      go_loopw [9] (fun i wr => ∃ (k : Nat) (e : Int) (l' : List UInt8), k ≤ 4 ∧ i = .int .i64 k ∧ Rdr wr g e l' ∧ Rfr wr h e l' ∧ Ext w wr) (fun i _ => 4 - (intOf i).toNat)
      case atStart => exact ⟨0, 0, s, by omega, rfl, rg, rh, hbw⟩
      case round =>
        clear rg rh hbw
        obtain ⟨k, e, l', hk, rfl, rg, rh, hbw⟩ := hrel
        by_cases hlt : k < 4
        · obtain ⟨x, e', l2, ⟨hJ1, hJ2⟩, hle⟩ := u64_j e l'
          have HJ1 := Lib.hid hJ1
          have HJ2 := Lib.hid hJ2
          clear hJ1 hJ2 hle
          have rgD := rg.ext (Ext.refl wr).drew
          have rhD := rh.ext (Ext.refl wr).drew
          have hbD := hbw.drew
          clear rg rh hbw
          go_wp2_with fail
          refine wp_region_ordR (fun _ _ => True) [0, 2, 1, 3, 4, 5, 6, 8, 7, 9, 10, 11, 12, 13, 15, 16, 17, 18, 14, 19, 20] [2, 3, 8, 9, 18] (by kernel_rfl) (by kernel_rfl) rfl (by kernel_rfl) ?_
          repeat (refine lexR_val pre_any (v := ?_) rfl rfl (fun w' hw' => ?_) ?_; rotate_left; (· go_simp; try with_reducible rfl); simp only [Act.put, List.setIfInBounds_toArray, List.set_cons_zero, List.set_cons_succ])
          refine lexR_call pre_any 29 #[.pointer (some ⟨g, 0, none⟩)] rfl rfl (by go_simp) ?_
          refine (HJ1.out g _ rgD).mono ?_
          rintro z w4 ⟨rfl, rg4, o4⟩
          refine ⟨_, rfl, trivial, ?_⟩
          have rh4 := rhD.onP rgD.plain o4 (by omega)
          have hb4 := hbD.onl o4 hgw0
          simp only [Act.put, List.setIfInBounds_toArray, List.set_cons_zero, List.set_cons_succ]
          refine lexR_call pre_any 30 #[.pointer (some ⟨h, 0, none⟩)] rfl rfl (by go_simp) ?_
          refine (HJ2.out h _ rh4).mono ?_
          rintro z w5 ⟨rfl, rh5, o5⟩
          refine ⟨_, rfl, trivial, ?_⟩
          have rg5 := rg4.onP rh4.plain o5 (by omega)
          have hb5 := hb4.onl o5 hh0
          clear rgD rhD hbD rg4 rh4 hb4 o4 o5 HJ1 HJ2
          simp only [Act.put, List.setIfInBounds_toArray, List.set_cons_zero, List.set_cons_succ]
          refine lexR_turn (T' := Ext) (fun _ _ => trivial) ?_
          have hE5 : ∀ w', Ext w5 w' → w'.cell? ⟨h, 2, none⟩ = some (.int .i64 e') := fun w' hw => (rh5.ext hw).err.1
          repeat (refine lexR_val pre_ext (v := ?_) rfl rfl (fun w' hw' => ?_) ?_; rotate_left; (· go_simp; try with_reducible rfl); simp only [Act.put, List.setIfInBounds_toArray, List.set_cons_zero, List.set_cons_succ])
          refine lexR_call pre_ext 36 #[.pointer (some ⟨g, 0, none⟩)] rfl rfl (by go_simp) ?_
          refine (left_any g e' l2 _ rg5).mono ?_
          rintro z w6 ⟨rfl, rfl⟩
          refine ⟨_, rfl, Ext.refl _, ?_⟩
          simp only [Act.put, List.setIfInBounds_toArray, List.set_cons_zero, List.set_cons_succ]
          refine lexR_call pre_ext 37 #[.pointer (some ⟨h, 0, none⟩)] rfl rfl (by go_simp) ?_
          refine (rleft_any h e' l2 _ rh5).mono ?_
          rintro z w7 ⟨rfl, e7⟩
          refine ⟨_, rfl, e7, ?_⟩
          have rg7 := rg5.ext e7
          have rh7 := rh5.ext e7
          have hb7 := hb5.trans e7
          replace hE5 := fun w' (hw : Ext w7 w') => hE5 w' (e7.trans hw)
          clear rg5 rh5 hb5 e7
          simp only [Act.put, List.setIfInBounds_toArray, List.set_cons_zero, List.set_cons_succ]
          repeat (refine lexR_val pre_ext (v := ?_) rfl rfl (fun w' hw' => ?_) ?_; rotate_left; (· go_simp; try with_reducible rfl); simp only [Act.put, List.setIfInBounds_toArray, List.set_cons_zero, List.set_cons_succ])
          refine lexR_call pre_ext 35 #[.pointer (some ⟨g, 0, none⟩)] rfl rfl (by go_simp) ?_
          refine (errno_any g e' l2 _ rg7).mono ?_
          rintro z w6 ⟨rfl, rfl⟩
          refine ⟨_, rfl, Ext.refl _, ?_⟩
          clear hE5
          simp only [Act.put, List.setIfInBounds_toArray, List.set_cons_zero, List.set_cons_succ]
          repeat (refine lexR_val pre_ext (v := ?_) rfl rfl (fun w' hw' => ?_) ?_; rotate_left; (· go_simp; try with_reducible rfl); simp only [Act.put, List.setIfInBounds_toArray, List.set_cons_zero, List.set_cons_succ])
          refine lexR_done ?_
          go_wp2
          go_roundw
          case rel => exact ⟨k + 1, e', l2, by omega, by go_num, rg7, rh7, hb7⟩
          case measure => simp [intOf]; omega
        · obtain rfl : k = 4 := by omega
          clear rg rh
          go_wp2_with fail
          refine (lives_any _).mono ?_
          rintro z w4 ⟨rfl, ext4⟩
          go_wp2
          go_ret
          exact ⟨rfl, hbw.trans ext4⟩

set_option maxHeartbeats 1000000 in
theorem owns_0 (A : Option Addr) (n c : Nat) (l : List UInt8) (y : Int) (w : World) (hs : Sees w A n c (bs l)) (hy0 : 0 ≤ y) (hy1 : y ≤ 255) (hnn : n < 1) :
    Calls Try.prog 7 #[.slice A n c, .int .u8 y] w fun e w' => e = .returned (.bool true) ∧ Ext w w' := by
  have hlen : (l.take 24).length = min n 24 := by
    have := hs.len
    rw [bs_length] at this
    rw [List.length_take]
    omega
  go_enter Try.func7, Try.ntmps7
  go_wp2_with fail
  refine (few_nat A n c _ 24 _ _ hs (bs_one _) (by omega) (by omega) rfl).mono ?_
  rintro e w1 ⟨v1, rfl, own1, e1⟩
  have hs1 := hs.ext e1
  rw [bs_take] at own1
  go_wp2_with fail
  refine (few_nat A n c _ 24 _ _ hs1 (bs_one _) (by omega) (by omega) rfl).mono ?_
  rintro e w2 ⟨v2, rfl, own2, e2⟩
  rw [bs_take] at own2
  have HLEN := Lib.hid hlen
  have hN24 : min n 24 ≤ 24 := by omega
  have own1b := own_ext own1 e2
  have e02 := e1.trans e2
  have h12 := e2.size
  generalize l.take 24 = s at *
  generalize hN : min n 24 = N at *
  clear hs hs1 hlen
  obtain ⟨A2, c2, rfl, see2⟩ := Sees.of_own own2
  clear see2
  obtain ⟨Ao, co, rfl, _⟩ := Sees.of_own own1
  clear own1
  obtain ⟨A1, c1, hA1, see1⟩ := Sees.of_own own1b
  injection hA1 with q1 q2 q3
  subst q1 q3
  go_wp2_with fail
  refine (read_any _ N _ s _ (see1.ext ((Ext.refl _).alloc _)) (by omega)).mono ?_
  rintro e w3 ⟨g, v3, rfl, hg, hbg, own3, e3⟩
  have own1c := own_ext own1b ((Ext.refl _).alloc _ |>.trans e3)
  have own2c := own_ext own2 ((Ext.refl _).alloc _ |>.trans e3)
  have hbh := e3.heap (heap_alloc_new w2 _)
  have e03 := e02.trans ((Ext.refl _).alloc _ |>.trans e3)
  have hg2 : w2.heap.size < g := by
    have h1 := hg
    simp at h1
    omega
  have hb3 : w2.heap.size < (w2.alloc (.cells #[.slice A2 N c2, .int .i64 0, .int .i64 0] 42)).heap.size := by simp
  have hzz : (w2.alloc (.cells #[.slice A2 N c2, .int .i64 0, .int .i64 0] 42)).heap.size = w2.heap.size + 1 := by simp
  generalize hz3 : (w2.alloc (.cells #[.slice A2 N c2, .int .i64 0, .int .i64 0] 42)).heap.size = z3 at *
  clear own1b own2 see1 e3 hz3 hb3

  have hh0 : w.heap.size ≤ w2.heap.size := e02.size
  generalize hh : w2.heap.size = h0 at *
  go_wp2_with fail
  go_loopw [8] (fun i wr => i = .int .i64 0 ∧ wr = w3) (fun i _ => 0)
  case atStart => exact ⟨rfl, rfl⟩
  case round =>
    obtain ⟨rfl, rfl⟩ := hrel
    have hN1 : ¬ (0 : Int) < (N : Int) := by omega
    clear hN hnn
    · have rg := Rdr.of_read hbg own3
      have rh := Rfr.of_own hbh own2c
      have hbw : Ext w wr := e03
      have hne : g ≠ h0 := by omega
      have hgw0 : w.heap.size ≤ g := by have := e03.size; omega
      clear hbg hbh own3 own2c e03 own1c
      generalize h0 = h at *
      go_wp2
      go_loopw [9] (fun i wr => ∃ (k : Nat) (e : Int) (l' : List UInt8), k ≤ 4 ∧ i = .int .i64 k ∧ Rdr wr g e l' ∧ Rfr wr h e l' ∧ Ext w wr) (fun i _ => 4 - (intOf i).toNat)
      case atStart => exact ⟨0, 0, s, by omega, rfl, rg, rh, hbw⟩
      case round =>
        clear rg rh hbw
        obtain ⟨k, e, l', hk, rfl, rg, rh, hbw⟩ := hrel
        by_cases hlt : k < 4
        · obtain ⟨x, e', l2, ⟨hJ1, hJ2⟩, hle⟩ := u64_j e l'
          have HJ1 := Lib.hid hJ1
          have HJ2 := Lib.hid hJ2
          clear hJ1 hJ2 hle
          have rgD := rg.ext (Ext.refl wr).drew
          have rhD := rh.ext (Ext.refl wr).drew
          have hbD := hbw.drew
          clear rg rh hbw
          go_wp2_with fail
          refine wp_region_ordR (fun _ _ => True) [0, 2, 1, 3, 4, 5, 6, 8, 7, 9, 10, 11, 12, 13, 15, 16, 17, 18, 14, 19, 20] [2, 3, 8, 9, 18] (by kernel_rfl) (by kernel_rfl) rfl (by kernel_rfl) ?_
          repeat (refine lexR_val pre_any (v := ?_) rfl rfl (fun w' hw' => ?_) ?_; rotate_left; (· go_simp; try with_reducible rfl); simp only [Act.put, List.setIfInBounds_toArray, List.set_cons_zero, List.set_cons_succ])
          refine lexR_call pre_any 29 #[.pointer (some ⟨g, 0, none⟩)] rfl rfl (by go_simp) ?_
          refine (HJ1.out g _ rgD).mono ?_
          rintro z w4 ⟨rfl, rg4, o4⟩
          refine ⟨_, rfl, trivial, ?_⟩
          have rh4 := rhD.onP rgD.plain o4 (by omega)
          have hb4 := hbD.onl o4 hgw0
          simp only [Act.put, List.setIfInBounds_toArray, List.set_cons_zero, List.set_cons_succ]
          refine lexR_call pre_any 30 #[.pointer (some ⟨h, 0, none⟩)] rfl rfl (by go_simp) ?_
          refine (HJ2.out h _ rh4).mono ?_
          rintro z w5 ⟨rfl, rh5, o5⟩
          refine ⟨_, rfl, trivial, ?_⟩
          have rg5 := rg4.onP rh4.plain o5 (by omega)
          have hb5 := hb4.onl o5 hh0
          clear rgD rhD hbD rg4 rh4 hb4 o4 o5 HJ1 HJ2
          simp only [Act.put, List.setIfInBounds_toArray, List.set_cons_zero, List.set_cons_succ]
          refine lexR_turn (T' := Ext) (fun _ _ => trivial) ?_
          have hE5 : ∀ w', Ext w5 w' → w'.cell? ⟨h, 2, none⟩ = some (.int .i64 e') := fun w' hw => (rh5.ext hw).err.1
          repeat (refine lexR_val pre_ext (v := ?_) rfl rfl (fun w' hw' => ?_) ?_; rotate_left; (· go_simp; try with_reducible rfl); simp only [Act.put, List.setIfInBounds_toArray, List.set_cons_zero, List.set_cons_succ])
          refine lexR_call pre_ext 36 #[.pointer (some ⟨g, 0, none⟩)] rfl rfl (by go_simp) ?_
          refine (left_any g e' l2 _ rg5).mono ?_
          rintro z w6 ⟨rfl, rfl⟩
          refine ⟨_, rfl, Ext.refl _, ?_⟩
          simp only [Act.put, List.setIfInBounds_toArray, List.set_cons_zero, List.set_cons_succ]
          refine lexR_call pre_ext 37 #[.pointer (some ⟨h, 0, none⟩)] rfl rfl (by go_simp) ?_
          refine (rleft_any h e' l2 _ rh5).mono ?_
          rintro z w7 ⟨rfl, e7⟩
          refine ⟨_, rfl, e7, ?_⟩
          have rg7 := rg5.ext e7
          have rh7 := rh5.ext e7
          have hb7 := hb5.trans e7
          replace hE5 := fun w' (hw : Ext w7 w') => hE5 w' (e7.trans hw)
          clear rg5 rh5 hb5 e7
          simp only [Act.put, List.setIfInBounds_toArray, List.set_cons_zero, List.set_cons_succ]
          repeat (refine lexR_val pre_ext (v := ?_) rfl rfl (fun w' hw' => ?_) ?_; rotate_left; (· go_simp; try with_reducible rfl); simp only [Act.put, List.setIfInBounds_toArray, List.set_cons_zero, List.set_cons_succ])
          refine lexR_call pre_ext 35 #[.pointer (some ⟨g, 0, none⟩)] rfl rfl (by go_simp) ?_
          refine (errno_any g e' l2 _ rg7).mono ?_
          rintro z w6 ⟨rfl, rfl⟩
          refine ⟨_, rfl, Ext.refl _, ?_⟩
          clear hE5
          simp only [Act.put, List.setIfInBounds_toArray, List.set_cons_zero, List.set_cons_succ]
          repeat (refine lexR_val pre_ext (v := ?_) rfl rfl (fun w' hw' => ?_) ?_; rotate_left; (· go_simp; try with_reducible rfl); simp only [Act.put, List.setIfInBounds_toArray, List.set_cons_zero, List.set_cons_succ])
          refine lexR_done ?_
          go_wp2
          go_roundw
          case rel => exact ⟨k + 1, e', l2, by omega, by go_num, rg7, rh7, hb7⟩
          case measure => simp [intOf]; omega
        · obtain rfl : k = 4 := by omega
          clear rg rh
          go_wp2_with fail
          refine (lives_any _).mono ?_
          rintro z w4 ⟨rfl, ext4⟩
          go_wp2
          go_ret
          exact ⟨rfl, hbw.trans ext4⟩

theorem owns_walk (A : Option Addr) (n c : Nat) (l : List UInt8) (y : Int) (w : World) (hs : Sees w A n c (bs l)) (hy0 : 0 ≤ y) (hy1 : y ≤ 255) :
    Calls Try.prog 7 #[.slice A n c, .int .u8 y] w fun e w' => e = .returned (.bool true) ∧ Ext w w' := by
  by_cases hn : n = 0
  · exact owns_0 A n c l y w hs hy0 hy1 (by omega)
  · exact owns_b A n c l y w hs hy0 hy1 (by omega)
end Go.Proofs.Ytefkjoooecphaaa
