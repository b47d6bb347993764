/-
  The statement XdrReads: its walk.
-/
import Derived.Test.YtefkjoooecphaaaXdrJ
import Derived.Test.YtefkjoooecphaaaXdrC
import Derived.Test.YtefkjoooecphaaaRws
import Derived.Test.YtefkjoooecphaaaPrs
namespace Go.Proofs.Ytefkjoooecphaaa
open Go Go.RowKit
set_option linter.unusedVariables false
set_option linter.unusedSimpArgs false

theorem bounds_i {z : Int} (h : (Lit.int .i64 z).wf = true) : -9223372036854775808 ≤ z ∧ z ≤ 9223372036854775807 := bounds_i64 h

set_option maxRecDepth 20000 in
set_option maxHeartbeats 8000000 in
theorem reads_walk (A A2 : Option Addr) (n c n2 c2 : Nat) (l : List UInt8) (zz : Nat → Int × Int) (w : World) (hs : Sees w A n c (bs l)) (hs2 : SeesPairs .i64 w A2 n2 c2 zz) :
    Calls Try.prog 4 #[.slice A n c, .slice A2 n2 c2] w fun e w' => e = .returned (.bool true) ∧ Ext w w' := by
  have hlen : (l.take 60).length = min n 60 := by
    have := hs.len
    rw [bs_length] at this
    rw [List.length_take]
    omega
  have hn2 := hs2.1
  have hm2 := hs2.2.1
  unfold maxLen at hm2
  have HS2 := Lib.hid hs2
  clear hs2
  go_enter Try.func4, Try.ntmps4
  go_wp2_with fail
  refine (few_nat A n c _ 60 _ _ hs (bs_one _) (by omega) (by omega) rfl).mono ?_
  rintro e w1 ⟨v1, rfl, own1, e1⟩
  rw [bs_take] at own1
  have hN60 : min n 60 ≤ 60 := by omega
  have hls : (l.take 60).length ≤ 60 := by omega
  clear hlen
  generalize l.take 60 = s at *
  generalize hN : min n 60 = N at *
  obtain ⟨A1, c1, rfl, see1⟩ := Sees.of_own own1
  clear own1 hs hN
  go_wp2_with fail
  refine (read_any A1 N c1 s _ see1 (by omega)).mono ?_
  rintro e w3 ⟨g, v3, rfl, hg, hbg, own3, e3⟩
  have rg0 := Rdr.of_read hbg own3
  have see3 := see1.ext e3
  have hgw0 : w.heap.size ≤ g := by have := e1.size; omega
  have hhw0 : w.heap.size ≤ w3.heap.size := by have := e1.size; have := e3.size; omega
  have hgh : g < w3.heap.size := rg0.lt
  have hbh := heap_alloc_new w3 (.cells #[.slice A1 N c1, .int .i64 0, .int .i64 0] 42)
  have ea : Ext w3 (w3.alloc (.cells #[.slice A1 N c1, .int .i64 0, .int .i64 0] 42)) := (Ext.refl _).alloc _
  have rg1 := rg0.ext ea
  have rh1 : Rfr (w3.alloc (.cells #[.slice A1 N c1, .int .i64 0, .int .i64 0] 42)) w3.heap.size 0 s := ⟨A1, N, c1, s, 0, hbh, see3.ext ea, Nat.zero_le _, fun _ => by simp, fun h => absurd rfl h⟩
  have hb1 := (e1.trans e3).trans ea
  clear rg0 hbh see3 see1 own3 hbg ea e3 e1 hg
  go_wp2_with fail
  generalize w3.alloc (.cells #[.slice A1 N c1, .int .i64 0, .int .i64 0] 42) = w4 at *
  generalize w3.heap.size = h at *
  go_loopw [8] (fun i wr => ∃ (k : Nat) (e : Int) (l' : List UInt8), k ≤ n2 ∧ k ≤ 10 ∧ i = .int .i64 k ∧ Rdr wr g e l' ∧ Rfr wr h e l' ∧ l'.length ≤ 60 ∧ Ext w wr) (fun i _ => 10 - (intOf i).toNat)
  case atStart => exact ⟨0, 0, s, by omega, by omega, rfl, rg1, rh1, by omega, hb1⟩
  case round =>
    clear rg1 rh1 hb1
    obtain ⟨k, e, l', hk, hk10, rfl, rg, rh, hl60, hb⟩ := hrel
    by_cases hlt : k < n2 ∧ k < 10
    · obtain ⟨hlt1, hlt2⟩ := hlt
      obtain ⟨b, off, hA, hbs, hc0, hc1, hw0, hw1⟩ := (HS2.out.ext hb).2.2.2 k hlt1
      subst hA
      have hqb := bounds_i hw0
      have hmb := bounds_i hw1
      generalize (zz k).1 = q at *
      generalize (zz k).2 = m at *
      clear hw0 hw1
      go_wp2_with fail
      refine (around_any q _ _ hqb.1 hqb.2 (by omega) (by omega)).mono ?_
      rintro z w4 ⟨rfl, rfl⟩
      have hr := aroundZ_bound q 5 (by omega)
      generalize aroundZ q 5 = r at *
      clear hc0 hc1 hqb
      have h5 : r = 0 ∨ r = 1 ∨ r = 2 ∨ r = 3 ∨ r = 4 := by omega
      clear hr
      rcases h5 with rfl | rfl | rfl | rfl | rfl
      · obtain ⟨x, e', l2, ⟨hJ1, hJ2⟩, hle⟩ := u32_j e l'
        have HJ1 := Lib.hid hJ1
        have HJ2 := Lib.hid hJ2
        clear hJ1 hJ2
        go_wp2_with fail
        refine (HJ1.out g _ rg).mono ?_
        rintro z w5 ⟨rfl, rg5, o5⟩
        have rh5 := rh.onP rg.plain o5 (by omega)
        have hb5 := hb.onl o5 hgw0
        clear rg rh hb o5
        go_wp2_with fail
        refine (HJ2.out h _ rh5).mono ?_
        rintro z w6 ⟨rfl, rh6, o6⟩
        have rg6 := rg5.onP rh5.plain o6 (by omega)
        have hb6 := hb5.onl o6 hhw0
        clear rg5 rh5 hb5 o6 HJ1 HJ2
        -- behind the switch: rg6 rh6 hb6 at w6, state e', l2
        have hE6 : ∀ w', Ext w6.drew w' → w'.cell? ⟨h, 2, none⟩ = some (.int .i64 e') := fun w' hw => (rh6.ext ((Ext.refl w6).drew.trans hw)).err.1
        have rgD := rg6.ext (Ext.refl w6).drew
        have rhD := rh6.ext (Ext.refl w6).drew
        have hbD := hb6.drew
        clear rg6 rh6 hb6
        go_wp2_with fail
        refine wp_region_ordR Ext [0, 2, 3, 4, 5, 1, 6, 7, 8, 10, 9, 11, 12, 13, 14, 15, 17, 16, 18, 19, 20] [5, 10, 11, 17, 18] (by kernel_rfl) (by kernel_rfl) rfl (by kernel_rfl) ?_
        repeat (refine lexR_val pre_ext (v := ?_) rfl rfl (fun w' hw' => ?_) ?_; rotate_left; (· go_simp; try with_reducible rfl); simp only [Act.put, List.setIfInBounds_toArray, List.set_cons_zero, List.set_cons_succ])
        refine lexR_call pre_ext 35 #[.pointer (some ⟨g, 0, none⟩)] rfl rfl (by go_simp) ?_
        refine (errno_any g e' l2 _ rgD).mono ?_
        rintro z w7 ⟨rfl, rfl⟩
        refine ⟨_, rfl, Ext.refl _, ?_⟩
        clear hE6
        simp only [Act.put, List.setIfInBounds_toArray, List.set_cons_zero, List.set_cons_succ]
        repeat (refine lexR_val pre_ext (v := ?_) rfl rfl (fun w' hw' => ?_) ?_; rotate_left; (· go_simp; try with_reducible rfl); simp only [Act.put, List.setIfInBounds_toArray, List.set_cons_zero, List.set_cons_succ])
        refine lexR_call pre_ext 36 #[.pointer (some ⟨g, 0, none⟩)] rfl rfl (by go_simp) ?_
        refine (left_any g e' l2 _ rgD).mono ?_
        rintro z w7 ⟨rfl, rfl⟩
        refine ⟨_, rfl, Ext.refl _, ?_⟩
        simp only [Act.put, List.setIfInBounds_toArray, List.set_cons_zero, List.set_cons_succ]
        refine lexR_call pre_ext 37 #[.pointer (some ⟨h, 0, none⟩)] rfl rfl (by go_simp) ?_
        refine (rleft_any h e' l2 _ rhD).mono ?_
        rintro z w7 ⟨rfl, e7⟩
        refine ⟨_, rfl, e7, ?_⟩
        have rg7 := rgD.ext e7
        have rh7 := rhD.ext e7
        have hb7 := hbD.trans e7
        clear rgD rhD hbD e7
        simp only [Act.put, List.setIfInBounds_toArray, List.set_cons_zero, List.set_cons_succ]
        repeat (refine lexR_val pre_ext (v := ?_) rfl rfl (fun w' hw' => ?_) ?_; rotate_left; (· go_simp; try with_reducible rfl); simp only [Act.put, List.setIfInBounds_toArray, List.set_cons_zero, List.set_cons_succ])
        refine lexR_call pre_ext 38 #[.pointer (some ⟨g, 0, none⟩)] rfl rfl (by go_simp) ?_
        refine (end_any g e' l2 _ rg7).mono ?_
        rintro z w8 ⟨rfl, rfl⟩
        refine ⟨_, rfl, Ext.refl _, ?_⟩
        simp only [Act.put, List.setIfInBounds_toArray, List.set_cons_zero, List.set_cons_succ]
        refine lexR_call pre_ext 39 #[.pointer (some ⟨h, 0, none⟩)] rfl rfl (by go_simp) ?_
        refine (rend_any h e' l2 _ rh7).mono ?_
        rintro z w8 ⟨rfl, e8⟩
        refine ⟨_, rfl, e8, ?_⟩
        have rg8 := rg7.ext e8
        have rh8 := rh7.ext e8
        have hb8 := hb7.trans e8
        clear rg7 rh7 hb7 e8
        simp only [Act.put, List.setIfInBounds_toArray, List.set_cons_zero, List.set_cons_succ]
        repeat (refine lexR_val pre_ext (v := ?_) rfl rfl (fun w' hw' => ?_) ?_; rotate_left; (· go_simp; try with_reducible rfl); simp only [Act.put, List.setIfInBounds_toArray, List.set_cons_zero, List.set_cons_succ])
        refine lexR_done ?_
        go_wp2
        go_roundw
        case rel => exact ⟨k + 1, e', l2, by omega, by omega, by go_num, rg8, rh8, by omega, hb8⟩
        case measure => simp [intOf]; omega
      · obtain ⟨x, e', l2, ⟨hJ1, hJ2⟩, hle⟩ := u64_j e l'
        have HJ1 := Lib.hid hJ1
        have HJ2 := Lib.hid hJ2
        clear hJ1 hJ2
        go_wp2_with fail
        refine (HJ1.out g _ rg).mono ?_
        rintro z w5 ⟨rfl, rg5, o5⟩
        have rh5 := rh.onP rg.plain o5 (by omega)
        have hb5 := hb.onl o5 hgw0
        clear rg rh hb o5
        go_wp2_with fail
        refine (HJ2.out h _ rh5).mono ?_
        rintro z w6 ⟨rfl, rh6, o6⟩
        have rg6 := rg5.onP rh5.plain o6 (by omega)
        have hb6 := hb5.onl o6 hhw0
        clear rg5 rh5 hb5 o6 HJ1 HJ2
        -- behind the switch: rg6 rh6 hb6 at w6, state e', l2
        have hE6 : ∀ w', Ext w6.drew w' → w'.cell? ⟨h, 2, none⟩ = some (.int .i64 e') := fun w' hw => (rh6.ext ((Ext.refl w6).drew.trans hw)).err.1
        have rgD := rg6.ext (Ext.refl w6).drew
        have rhD := rh6.ext (Ext.refl w6).drew
        have hbD := hb6.drew
        clear rg6 rh6 hb6
        go_wp2_with fail
        refine wp_region_ordR Ext [0, 2, 3, 4, 5, 1, 6, 7, 8, 10, 9, 11, 12, 13, 14, 15, 17, 16, 18, 19, 20] [5, 10, 11, 17, 18] (by kernel_rfl) (by kernel_rfl) rfl (by kernel_rfl) ?_
        repeat (refine lexR_val pre_ext (v := ?_) rfl rfl (fun w' hw' => ?_) ?_; rotate_left; (· go_simp; try with_reducible rfl); simp only [Act.put, List.setIfInBounds_toArray, List.set_cons_zero, List.set_cons_succ])
        refine lexR_call pre_ext 35 #[.pointer (some ⟨g, 0, none⟩)] rfl rfl (by go_simp) ?_
        refine (errno_any g e' l2 _ rgD).mono ?_
        rintro z w7 ⟨rfl, rfl⟩
        refine ⟨_, rfl, Ext.refl _, ?_⟩
        clear hE6
        simp only [Act.put, List.setIfInBounds_toArray, List.set_cons_zero, List.set_cons_succ]
        repeat (refine lexR_val pre_ext (v := ?_) rfl rfl (fun w' hw' => ?_) ?_; rotate_left; (· go_simp; try with_reducible rfl); simp only [Act.put, List.setIfInBounds_toArray, List.set_cons_zero, List.set_cons_succ])
        refine lexR_call pre_ext 36 #[.pointer (some ⟨g, 0, none⟩)] rfl rfl (by go_simp) ?_
        refine (left_any g e' l2 _ rgD).mono ?_
        rintro z w7 ⟨rfl, rfl⟩
        refine ⟨_, rfl, Ext.refl _, ?_⟩
        simp only [Act.put, List.setIfInBounds_toArray, List.set_cons_zero, List.set_cons_succ]
        refine lexR_call pre_ext 37 #[.pointer (some ⟨h, 0, none⟩)] rfl rfl (by go_simp) ?_
        refine (rleft_any h e' l2 _ rhD).mono ?_
        rintro z w7 ⟨rfl, e7⟩
        refine ⟨_, rfl, e7, ?_⟩
        have rg7 := rgD.ext e7
        have rh7 := rhD.ext e7
        have hb7 := hbD.trans e7
        clear rgD rhD hbD e7
        simp only [Act.put, List.setIfInBounds_toArray, List.set_cons_zero, List.set_cons_succ]
        repeat (refine lexR_val pre_ext (v := ?_) rfl rfl (fun w' hw' => ?_) ?_; rotate_left; (· go_simp; try with_reducible rfl); simp only [Act.put, List.setIfInBounds_toArray, List.set_cons_zero, List.set_cons_succ])
        refine lexR_call pre_ext 38 #[.pointer (some ⟨g, 0, none⟩)] rfl rfl (by go_simp) ?_
        refine (end_any g e' l2 _ rg7).mono ?_
        rintro z w8 ⟨rfl, rfl⟩
        refine ⟨_, rfl, Ext.refl _, ?_⟩
        simp only [Act.put, List.setIfInBounds_toArray, List.set_cons_zero, List.set_cons_succ]
        refine lexR_call pre_ext 39 #[.pointer (some ⟨h, 0, none⟩)] rfl rfl (by go_simp) ?_
        refine (rend_any h e' l2 _ rh7).mono ?_
        rintro z w8 ⟨rfl, e8⟩
        refine ⟨_, rfl, e8, ?_⟩
        have rg8 := rg7.ext e8
        have rh8 := rh7.ext e8
        have hb8 := hb7.trans e8
        clear rg7 rh7 hb7 e8
        simp only [Act.put, List.setIfInBounds_toArray, List.set_cons_zero, List.set_cons_succ]
        repeat (refine lexR_val pre_ext (v := ?_) rfl rfl (fun w' hw' => ?_) ?_; rotate_left; (· go_simp; try with_reducible rfl); simp only [Act.put, List.setIfInBounds_toArray, List.set_cons_zero, List.set_cons_succ])
        refine lexR_done ?_
        go_wp2
        go_roundw
        case rel => exact ⟨k + 1, e', l2, by omega, by omega, by go_num, rg8, rh8, by omega, hb8⟩
        case measure => simp [intOf]; omega
      · obtain ⟨x, e', l2, ⟨hJ1, hJ2⟩, hle⟩ := bool_j e l'
        have HJ1 := Lib.hid hJ1
        have HJ2 := Lib.hid hJ2
        clear hJ1 hJ2
        go_wp2_with fail
        refine (HJ1.out g _ rg).mono ?_
        rintro z w5 ⟨rfl, rg5, o5⟩
        have rh5 := rh.onP rg.plain o5 (by omega)
        have hb5 := hb.onl o5 hgw0
        clear rg rh hb o5
        go_wp2_with fail
        refine (HJ2.out h _ rh5).mono ?_
        rintro z w6 ⟨rfl, rh6, o6⟩
        have rg6 := rg5.onP rh5.plain o6 (by omega)
        have hb6 := hb5.onl o6 hhw0
        clear rg5 rh5 hb5 o6 HJ1 HJ2
        -- behind the switch: rg6 rh6 hb6 at w6, state e', l2
        have hE6 : ∀ w', Ext w6.drew w' → w'.cell? ⟨h, 2, none⟩ = some (.int .i64 e') := fun w' hw => (rh6.ext ((Ext.refl w6).drew.trans hw)).err.1
        have rgD := rg6.ext (Ext.refl w6).drew
        have rhD := rh6.ext (Ext.refl w6).drew
        have hbD := hb6.drew
        clear rg6 rh6 hb6
        go_wp2_with fail
        refine wp_region_ordR Ext [0, 2, 3, 4, 5, 1, 6, 7, 8, 10, 9, 11, 12, 13, 14, 15, 17, 16, 18, 19, 20] [5, 10, 11, 17, 18] (by kernel_rfl) (by kernel_rfl) rfl (by kernel_rfl) ?_
        repeat (refine lexR_val pre_ext (v := ?_) rfl rfl (fun w' hw' => ?_) ?_; rotate_left; (· go_simp; try with_reducible rfl); simp only [Act.put, List.setIfInBounds_toArray, List.set_cons_zero, List.set_cons_succ])
        refine lexR_call pre_ext 35 #[.pointer (some ⟨g, 0, none⟩)] rfl rfl (by go_simp) ?_
        refine (errno_any g e' l2 _ rgD).mono ?_
        rintro z w7 ⟨rfl, rfl⟩
        refine ⟨_, rfl, Ext.refl _, ?_⟩
        clear hE6
        simp only [Act.put, List.setIfInBounds_toArray, List.set_cons_zero, List.set_cons_succ]
        repeat (refine lexR_val pre_ext (v := ?_) rfl rfl (fun w' hw' => ?_) ?_; rotate_left; (· go_simp; try with_reducible rfl); simp only [Act.put, List.setIfInBounds_toArray, List.set_cons_zero, List.set_cons_succ])
        refine lexR_call pre_ext 36 #[.pointer (some ⟨g, 0, none⟩)] rfl rfl (by go_simp) ?_
        refine (left_any g e' l2 _ rgD).mono ?_
        rintro z w7 ⟨rfl, rfl⟩
        refine ⟨_, rfl, Ext.refl _, ?_⟩
        simp only [Act.put, List.setIfInBounds_toArray, List.set_cons_zero, List.set_cons_succ]
        refine lexR_call pre_ext 37 #[.pointer (some ⟨h, 0, none⟩)] rfl rfl (by go_simp) ?_
        refine (rleft_any h e' l2 _ rhD).mono ?_
        rintro z w7 ⟨rfl, e7⟩
        refine ⟨_, rfl, e7, ?_⟩
        have rg7 := rgD.ext e7
        have rh7 := rhD.ext e7
        have hb7 := hbD.trans e7
        clear rgD rhD hbD e7
        simp only [Act.put, List.setIfInBounds_toArray, List.set_cons_zero, List.set_cons_succ]
        repeat (refine lexR_val pre_ext (v := ?_) rfl rfl (fun w' hw' => ?_) ?_; rotate_left; (· go_simp; try with_reducible rfl); simp only [Act.put, List.setIfInBounds_toArray, List.set_cons_zero, List.set_cons_succ])
        refine lexR_call pre_ext 38 #[.pointer (some ⟨g, 0, none⟩)] rfl rfl (by go_simp) ?_
        refine (end_any g e' l2 _ rg7).mono ?_
        rintro z w8 ⟨rfl, rfl⟩
        refine ⟨_, rfl, Ext.refl _, ?_⟩
        simp only [Act.put, List.setIfInBounds_toArray, List.set_cons_zero, List.set_cons_succ]
        refine lexR_call pre_ext 39 #[.pointer (some ⟨h, 0, none⟩)] rfl rfl (by go_simp) ?_
        refine (rend_any h e' l2 _ rh7).mono ?_
        rintro z w8 ⟨rfl, e8⟩
        refine ⟨_, rfl, e8, ?_⟩
        have rg8 := rg7.ext e8
        have rh8 := rh7.ext e8
        have hb8 := hb7.trans e8
        clear rg7 rh7 hb7 e8
        simp only [Act.put, List.setIfInBounds_toArray, List.set_cons_zero, List.set_cons_succ]
        repeat (refine lexR_val pre_ext (v := ?_) rfl rfl (fun w' hw' => ?_) ?_; rotate_left; (· go_simp; try with_reducible rfl); simp only [Act.put, List.setIfInBounds_toArray, List.set_cons_zero, List.set_cons_succ])
        refine lexR_done ?_
        go_wp2
        go_roundw
        case rel => exact ⟨k + 1, e', l2, by omega, by omega, by go_num, rg8, rh8, by omega, hb8⟩
        case measure => simp [intOf]; omega
      · go_wp2_with fail
        refine (around_any m _ _ hmb.1 hmb.2 (by omega) (by omega)).mono ?_
        rintro z w4 ⟨rfl, rfl⟩
        obtain ⟨t, e', l2, ⟨hJ1, hJ2⟩, hle⟩ := text_j (aroundZ m 31) e l' (by omega)
        have HJ1 := Lib.hid hJ1
        have HJ2 := Lib.hid hJ2
        clear hJ1 hJ2
        have rgD := rg.ext (Ext.refl wr).drew
        have rhD := rh.ext (Ext.refl wr).drew
        have hbD := hb.drew
        clear rg rh hb
        go_wp2_with fail
        refine wp_region_ordR (fun _ _ => True) [0, 1, 4, 5, 2, 3, 6, 7, 8] [4, 6] (by kernel_rfl) (by kernel_rfl) rfl (by kernel_rfl) ?_
        repeat (refine lexR_val pre_any (v := ?_) rfl rfl (fun w' hw' => ?_) ?_; rotate_left; (· go_simp; try with_reducible rfl); simp only [Act.put, List.setIfInBounds_toArray, List.set_cons_zero, List.set_cons_succ])
        refine lexR_call pre_any 33 #[.pointer (some ⟨g, 0, none⟩), .int .i64 (aroundZ m 31)] rfl rfl (by go_simp) ?_
        refine (HJ1.out g _ rgD).mono ?_
        rintro z w5 ⟨A5, n5, c5, rfl, see5, rg5, o5⟩
        refine ⟨_, rfl, trivial, ?_⟩
        have rh5 := rhD.onP rgD.plain o5 (by omega)
        have hb5 := hbD.onl o5 hgw0
        clear rgD rhD hbD o5
        simp only [Act.put, List.setIfInBounds_toArray, List.set_cons_zero, List.set_cons_succ]
        refine lexR_turn (T' := Onl h) (fun _ _ => trivial) ?_
        have h5 : ∀ w', Onl h w5 w' → _ := fun w' hw => str_of (see5.onP rh5.plain hw)
        repeat (refine lexR_val (pre_onlJ h) (v := ?_) rfl rfl (fun w' hw' => ?_) ?_; rotate_left; (· go_simp; try with_reducible rfl); simp only [Act.put, List.setIfInBounds_toArray, List.set_cons_zero, List.set_cons_succ])
        refine lexR_call (pre_onlJ h) 34 #[.pointer (some ⟨h, 0, none⟩), .int .i64 (aroundZ m 31)] rfl rfl (by go_simp) ?_
        refine (HJ2.out h _ rh5).mono ?_
        rintro z w6 ⟨A6, n6, c6, rfl, see6, rh6, o6⟩
        refine ⟨_, rfl, o6, ?_⟩
        have rg6 := rg5.onP rh5.plain o6 (by omega)
        have hb6 := hb5.onl o6 hhw0
        have h6 : ∀ w', Onl h w6 w' → _ := fun w' hw => str_of (see6.onP rh6.plain hw)
        clear h5 rg5 rh5 hb5 o6 HJ1 HJ2 see5
        simp only [Act.put, List.setIfInBounds_toArray, List.set_cons_zero, List.set_cons_succ]
        repeat (refine lexR_val (pre_onlJ h) (v := ?_) rfl rfl (fun w' hw' => ?_) ?_; rotate_left; (· go_simp; try with_reducible rfl); simp only [Act.put, List.setIfInBounds_toArray, List.set_cons_zero, List.set_cons_succ])
        refine lexR_done ?_
        clear h6 see6
        -- behind the switch: rg6 rh6 hb6 at w6, state e', l2
        have hE6 : ∀ w', Ext w6.drew w' → w'.cell? ⟨h, 2, none⟩ = some (.int .i64 e') := fun w' hw => (rh6.ext ((Ext.refl w6).drew.trans hw)).err.1
        have rgD := rg6.ext (Ext.refl w6).drew
        have rhD := rh6.ext (Ext.refl w6).drew
        have hbD := hb6.drew
        clear rg6 rh6 hb6
        go_wp2_with fail
        refine wp_region_ordR Ext [0, 2, 3, 4, 5, 1, 6, 7, 8, 10, 9, 11, 12, 13, 14, 15, 17, 16, 18, 19, 20] [5, 10, 11, 17, 18] (by kernel_rfl) (by kernel_rfl) rfl (by kernel_rfl) ?_
        repeat (refine lexR_val pre_ext (v := ?_) rfl rfl (fun w' hw' => ?_) ?_; rotate_left; (· go_simp; try with_reducible rfl); simp only [Act.put, List.setIfInBounds_toArray, List.set_cons_zero, List.set_cons_succ])
        refine lexR_call pre_ext 35 #[.pointer (some ⟨g, 0, none⟩)] rfl rfl (by go_simp) ?_
        refine (errno_any g e' l2 _ rgD).mono ?_
        rintro z w7 ⟨rfl, rfl⟩
        refine ⟨_, rfl, Ext.refl _, ?_⟩
        clear hE6
        simp only [Act.put, List.setIfInBounds_toArray, List.set_cons_zero, List.set_cons_succ]
        repeat (refine lexR_val pre_ext (v := ?_) rfl rfl (fun w' hw' => ?_) ?_; rotate_left; (· go_simp; try with_reducible rfl); simp only [Act.put, List.setIfInBounds_toArray, List.set_cons_zero, List.set_cons_succ])
        refine lexR_call pre_ext 36 #[.pointer (some ⟨g, 0, none⟩)] rfl rfl (by go_simp) ?_
        refine (left_any g e' l2 _ rgD).mono ?_
        rintro z w7 ⟨rfl, rfl⟩
        refine ⟨_, rfl, Ext.refl _, ?_⟩
        simp only [Act.put, List.setIfInBounds_toArray, List.set_cons_zero, List.set_cons_succ]
        refine lexR_call pre_ext 37 #[.pointer (some ⟨h, 0, none⟩)] rfl rfl (by go_simp) ?_
        refine (rleft_any h e' l2 _ rhD).mono ?_
        rintro z w7 ⟨rfl, e7⟩
        refine ⟨_, rfl, e7, ?_⟩
        have rg7 := rgD.ext e7
        have rh7 := rhD.ext e7
        have hb7 := hbD.trans e7
        clear rgD rhD hbD e7
        simp only [Act.put, List.setIfInBounds_toArray, List.set_cons_zero, List.set_cons_succ]
        repeat (refine lexR_val pre_ext (v := ?_) rfl rfl (fun w' hw' => ?_) ?_; rotate_left; (· go_simp; try with_reducible rfl); simp only [Act.put, List.setIfInBounds_toArray, List.set_cons_zero, List.set_cons_succ])
        refine lexR_call pre_ext 38 #[.pointer (some ⟨g, 0, none⟩)] rfl rfl (by go_simp) ?_
        refine (end_any g e' l2 _ rg7).mono ?_
        rintro z w8 ⟨rfl, rfl⟩
        refine ⟨_, rfl, Ext.refl _, ?_⟩
        simp only [Act.put, List.setIfInBounds_toArray, List.set_cons_zero, List.set_cons_succ]
        refine lexR_call pre_ext 39 #[.pointer (some ⟨h, 0, none⟩)] rfl rfl (by go_simp) ?_
        refine (rend_any h e' l2 _ rh7).mono ?_
        rintro z w8 ⟨rfl, e8⟩
        refine ⟨_, rfl, e8, ?_⟩
        have rg8 := rg7.ext e8
        have rh8 := rh7.ext e8
        have hb8 := hb7.trans e8
        clear rg7 rh7 hb7 e8
        simp only [Act.put, List.setIfInBounds_toArray, List.set_cons_zero, List.set_cons_succ]
        repeat (refine lexR_val pre_ext (v := ?_) rfl rfl (fun w' hw' => ?_) ?_; rotate_left; (· go_simp; try with_reducible rfl); simp only [Act.put, List.setIfInBounds_toArray, List.set_cons_zero, List.set_cons_succ])
        refine lexR_done ?_
        go_wp2
        go_roundw
        case rel => exact ⟨k + 1, e', l2, by omega, by omega, by go_num, rg8, rh8, by omega, hb8⟩
        case measure => simp [intOf]; omega
      · obtain ⟨t, e', l2, ⟨hJ1, hJ2⟩, hle⟩ := text_j (m) e l' (by omega)
        have HJ1 := Lib.hid hJ1
        have HJ2 := Lib.hid hJ2
        clear hJ1 hJ2
        have rgD := rg.ext (Ext.refl wr).drew
        have rhD := rh.ext (Ext.refl wr).drew
        have hbD := hb.drew
        clear rg rh hb
        go_wp2_with fail
        refine wp_region_ordR (fun _ _ => True) [0, 1, 4, 5, 2, 3, 6, 7, 8] [4, 6] (by kernel_rfl) (by kernel_rfl) rfl (by kernel_rfl) ?_
        repeat (refine lexR_val pre_any (v := ?_) rfl rfl (fun w' hw' => ?_) ?_; rotate_left; (· go_simp; try with_reducible rfl); simp only [Act.put, List.setIfInBounds_toArray, List.set_cons_zero, List.set_cons_succ])
        refine lexR_call pre_any 33 #[.pointer (some ⟨g, 0, none⟩), .int .i64 (m)] rfl rfl (by go_simp) ?_
        refine (HJ1.out g _ rgD).mono ?_
        rintro z w5 ⟨A5, n5, c5, rfl, see5, rg5, o5⟩
        refine ⟨_, rfl, trivial, ?_⟩
        have rh5 := rhD.onP rgD.plain o5 (by omega)
        have hb5 := hbD.onl o5 hgw0
        clear rgD rhD hbD o5
        simp only [Act.put, List.setIfInBounds_toArray, List.set_cons_zero, List.set_cons_succ]
        refine lexR_turn (T' := Onl h) (fun _ _ => trivial) ?_
        have h5 : ∀ w', Onl h w5 w' → _ := fun w' hw => str_of (see5.onP rh5.plain hw)
        repeat (refine lexR_val (pre_onlJ h) (v := ?_) rfl rfl (fun w' hw' => ?_) ?_; rotate_left; (· go_simp; try with_reducible rfl); simp only [Act.put, List.setIfInBounds_toArray, List.set_cons_zero, List.set_cons_succ])
        refine lexR_call (pre_onlJ h) 34 #[.pointer (some ⟨h, 0, none⟩), .int .i64 (m)] rfl rfl (by go_simp) ?_
        refine (HJ2.out h _ rh5).mono ?_
        rintro z w6 ⟨A6, n6, c6, rfl, see6, rh6, o6⟩
        refine ⟨_, rfl, o6, ?_⟩
        have rg6 := rg5.onP rh5.plain o6 (by omega)
        have hb6 := hb5.onl o6 hhw0
        have h6 : ∀ w', Onl h w6 w' → _ := fun w' hw => str_of (see6.onP rh6.plain hw)
        clear h5 rg5 rh5 hb5 o6 HJ1 HJ2 see5
        simp only [Act.put, List.setIfInBounds_toArray, List.set_cons_zero, List.set_cons_succ]
        repeat (refine lexR_val (pre_onlJ h) (v := ?_) rfl rfl (fun w' hw' => ?_) ?_; rotate_left; (· go_simp; try with_reducible rfl); simp only [Act.put, List.setIfInBounds_toArray, List.set_cons_zero, List.set_cons_succ])
        refine lexR_done ?_
        clear h6 see6
        -- behind the switch: rg6 rh6 hb6 at w6, state e', l2
        have hE6 : ∀ w', Ext w6.drew w' → w'.cell? ⟨h, 2, none⟩ = some (.int .i64 e') := fun w' hw => (rh6.ext ((Ext.refl w6).drew.trans hw)).err.1
        have rgD := rg6.ext (Ext.refl w6).drew
        have rhD := rh6.ext (Ext.refl w6).drew
        have hbD := hb6.drew
        clear rg6 rh6 hb6
        go_wp2_with fail
        refine wp_region_ordR Ext [0, 2, 3, 4, 5, 1, 6, 7, 8, 10, 9, 11, 12, 13, 14, 15, 17, 16, 18, 19, 20] [5, 10, 11, 17, 18] (by kernel_rfl) (by kernel_rfl) rfl (by kernel_rfl) ?_
        repeat (refine lexR_val pre_ext (v := ?_) rfl rfl (fun w' hw' => ?_) ?_; rotate_left; (· go_simp; try with_reducible rfl); simp only [Act.put, List.setIfInBounds_toArray, List.set_cons_zero, List.set_cons_succ])
        refine lexR_call pre_ext 35 #[.pointer (some ⟨g, 0, none⟩)] rfl rfl (by go_simp) ?_
        refine (errno_any g e' l2 _ rgD).mono ?_
        rintro z w7 ⟨rfl, rfl⟩
        refine ⟨_, rfl, Ext.refl _, ?_⟩
        clear hE6
        simp only [Act.put, List.setIfInBounds_toArray, List.set_cons_zero, List.set_cons_succ]
        repeat (refine lexR_val pre_ext (v := ?_) rfl rfl (fun w' hw' => ?_) ?_; rotate_left; (· go_simp; try with_reducible rfl); simp only [Act.put, List.setIfInBounds_toArray, List.set_cons_zero, List.set_cons_succ])
        refine lexR_call pre_ext 36 #[.pointer (some ⟨g, 0, none⟩)] rfl rfl (by go_simp) ?_
        refine (left_any g e' l2 _ rgD).mono ?_
        rintro z w7 ⟨rfl, rfl⟩
        refine ⟨_, rfl, Ext.refl _, ?_⟩
        simp only [Act.put, List.setIfInBounds_toArray, List.set_cons_zero, List.set_cons_succ]
        refine lexR_call pre_ext 37 #[.pointer (some ⟨h, 0, none⟩)] rfl rfl (by go_simp) ?_
        refine (rleft_any h e' l2 _ rhD).mono ?_
        rintro z w7 ⟨rfl, e7⟩
        refine ⟨_, rfl, e7, ?_⟩
        have rg7 := rgD.ext e7
        have rh7 := rhD.ext e7
        have hb7 := hbD.trans e7
        clear rgD rhD hbD e7
        simp only [Act.put, List.setIfInBounds_toArray, List.set_cons_zero, List.set_cons_succ]
        repeat (refine lexR_val pre_ext (v := ?_) rfl rfl (fun w' hw' => ?_) ?_; rotate_left; (· go_simp; try with_reducible rfl); simp only [Act.put, List.setIfInBounds_toArray, List.set_cons_zero, List.set_cons_succ])
        refine lexR_call pre_ext 38 #[.pointer (some ⟨g, 0, none⟩)] rfl rfl (by go_simp) ?_
        refine (end_any g e' l2 _ rg7).mono ?_
        rintro z w8 ⟨rfl, rfl⟩
        refine ⟨_, rfl, Ext.refl _, ?_⟩
        simp only [Act.put, List.setIfInBounds_toArray, List.set_cons_zero, List.set_cons_succ]
        refine lexR_call pre_ext 39 #[.pointer (some ⟨h, 0, none⟩)] rfl rfl (by go_simp) ?_
        refine (rend_any h e' l2 _ rh7).mono ?_
        rintro z w8 ⟨rfl, e8⟩
        refine ⟨_, rfl, e8, ?_⟩
        have rg8 := rg7.ext e8
        have rh8 := rh7.ext e8
        have hb8 := hb7.trans e8
        clear rg7 rh7 hb7 e8
        simp only [Act.put, List.setIfInBounds_toArray, List.set_cons_zero, List.set_cons_succ]
        repeat (refine lexR_val pre_ext (v := ?_) rfl rfl (fun w' hw' => ?_) ?_; rotate_left; (· go_simp; try with_reducible rfl); simp only [Act.put, List.setIfInBounds_toArray, List.set_cons_zero, List.set_cons_succ])
        refine lexR_done ?_
        go_wp2
        go_roundw
        case rel => exact ⟨k + 1, e', l2, by omega, by omega, by go_num, rg8, rh8, by omega, hb8⟩
        case measure => simp [intOf]; omega
    · have hdec : k = n2 ∨ k = 10 := by omega
      clear rg rh
      clear hlt
      by_cases hkn2 : k < n2
      all_goals
        first | (have hd : k = 10 := by omega) | (have hd : k = n2 := by omega)
        subst hd
        go_wp2_with fail
        refine (lives_any _).mono ?_
        rintro e w4 ⟨rfl, ext4⟩
        go_wp2
        go_ret
        exact ⟨rfl, hb.trans ext4⟩
end Go.Proofs.Ytefkjoooecphaaa
