/-
  The statement LittleReads: its walk.
-/
import Derived.Test.YtlbokdoipajodaaLitN
import Derived.Test.YtlbokdoipajodaaPrs
import Derived.Test.YtlbokdoipajodaaRws
namespace Go.Proofs.Ytlbokdoipajodaa
open Go Go.RowKit
set_option linter.unusedVariables false
set_option linter.unusedSimpArgs false
theorem pre_onlJ (g : Nat) : Pre (Onl g) := ⟨Onl.refl g, fun _ _ _ h k => h.trans k⟩
theorem pre_any : Pre (fun _ _ => True) := ⟨fun _ => trivial, fun _ _ _ _ _ => trivial⟩
theorem pre_ext : Pre Ext := ⟨Ext.refl, fun _ _ _ h k => h.trans k⟩
theorem lexR_turn {P : Program} {ops : Array Oper} {Q : Exit → Act → World → Prop} {al : List Nat} {k : Nat} {l : List Oper} {a : Act} {w : World} {T T' : World → World → Prop} (hT : ∀ w', T' w w' → T w w')
    (h : wpLexR T' P ops Q al k l a w) : wpLexR T P ops Q al k l a w := wpLexT_weak hT _ _ _ _ h
theorem Ext.onl {a b c : World} {g : Nat} (h : Ext a b) (k : Onl g b c) (hg : a.heap.size ≤ g) : Ext a c :=
  Below.trans h (k.below h.size hg)
theorem Rfl.err2 {w : World} {h : Nat} {e : Int} {l : List UInt8} (hr : Rfl w h e l) : w.cell? ⟨h, 2, none⟩ = some (.int .i64 e) := hr.err.1

theorem bounds_i {z : Int} (h : (Lit.int .i64 z).wf = true) : -9223372036854775808 ≤ z ∧ z ≤ 9223372036854775807 := bounds_i64 h

set_option maxRecDepth 20000 in
set_option maxHeartbeats 8000000 in
theorem lreads_walk (A A2 : Option Addr) (n c n2 c2 : Nat) (l : List UInt8) (zz : Nat → Int × Int) (w : World) (hs : Sees w A n c (bs l)) (hs2 : SeesPairs .i64 w A2 n2 c2 zz) :
    Calls Try.prog 4 #[.slice A n c, .slice A2 n2 c2] w fun e w' => e = .returned (.bool true) ∧ Ext w w' := by
  have hlen : (l.take 60).length = min n 60 := by
    have := hs.len
    rw [bs_length] at this
    rw [List.length_take]
    omega
  have hn2 := hs2.1
  have hm2 := hs2.2.1
  unfold maxLen at hm2
  have HS2 := Lib.hid hs2
  clear hs2
  go_enter Try.func4, Try.ntmps4
  go_wp2_with fail
  refine (few_nat A n c _ 60 _ _ hs (bs_one _) (by omega) (by omega) rfl).mono ?_
  rintro e w1 ⟨v1, rfl, own1, e1⟩
  rw [bs_take] at own1
  have hN60 : min n 60 ≤ 60 := by omega
  have hls : (l.take 60).length ≤ 60 := by omega
  clear hlen
  generalize l.take 60 = s at *
  generalize hN : min n 60 = N at *
  obtain ⟨A1, c1, rfl, see1⟩ := Sees.of_own own1
  clear own1 hs hN
  go_wp2_with fail
  refine (lread_any A1 N c1 s _ see1 (by omega)).mono ?_
  rintro e w3 ⟨g, rfl, hg, rg0, e3⟩
  have see3 := see1.ext e3
  have hgw0 : w.heap.size ≤ g := by have := e1.size; omega
  have hhw0 : w.heap.size ≤ w3.heap.size := by have := e1.size; have := e3.size; omega
  have hgh : g < w3.heap.size := rg0.lt
  have hbh := heap_alloc_new w3 (.cells #[.slice A1 N c1, .int .i64 0, .int .i64 0] 46)
  have ea : Ext w3 (w3.alloc (.cells #[.slice A1 N c1, .int .i64 0, .int .i64 0] 46)) := (Ext.refl _).alloc _
  have rg1 := rg0.ext ea
  have rh1 : Rfl (w3.alloc (.cells #[.slice A1 N c1, .int .i64 0, .int .i64 0] 46)) w3.heap.size 0 s := ⟨A1, N, c1, s, 0, hbh, see3.ext ea, Nat.zero_le _, fun _ => by simp, fun h => absurd rfl h⟩
  have hb1 := (e1.trans e3).trans ea
  clear rg0 hbh see3 see1 ea e3 e1 hg
  go_wp2_with fail
  generalize w3.alloc (.cells #[.slice A1 N c1, .int .i64 0, .int .i64 0] 46) = w4 at *
  generalize w3.heap.size = h at *
  go_loopw [8] (fun i wr => ∃ (k : Nat) (e : Int) (l' : List UInt8), k ≤ n2 ∧ k ≤ 10 ∧ i = .int .i64 k ∧ Rdl wr g e l' ∧ Rfl wr h e l' ∧ l'.length ≤ 60 ∧ Ext w wr) (fun i _ => 10 - (intOf i).toNat)
  case atStart => exact ⟨0, 0, s, by omega, by omega, rfl, rg1, rh1, by omega, hb1⟩
  case round =>
    clear rg1 rh1 hb1
    obtain ⟨k, e, l', hk, hk10, rfl, rg, rh, hl60, hb⟩ := hrel
    by_cases hlt : k < n2 ∧ k < 10
    · obtain ⟨hlt1, hlt2⟩ := hlt
      obtain ⟨b, off, hA, hbs, hc0, hc1, hw0, hw1⟩ := (HS2.out.ext hb).2.2.2 k hlt1
      subst hA
      have hqb := bounds_i hw0
      have hmb := bounds_i hw1
      generalize (zz k).1 = q at *
      generalize (zz k).2 = m at *
      clear hw0 hw1
      go_wp2_with fail
      refine (around_any q _ _ hqb.1 hqb.2 (by omega) (by omega)).mono ?_
      rintro z w4 ⟨rfl, rfl⟩
      have hr := aroundZ_bound q 7 (by omega)
      generalize aroundZ q 7 = r at *
      clear hc0 hc1 hqb
      have h5 : r = 0 ∨ r = 1 ∨ r = 2 ∨ r = 3 ∨ r = 4 ∨ r = 5 ∨ r = 6 := by omega
      clear hr
      rcases h5 with rfl | rfl | rfl | rfl | rfl | rfl | rfl
      · have HJ1 := Lib.hid (fun w => lrd_u8 g e l' w)
        have HJ2 := Lib.hid (fun w h0 => rnum_any h 1 e l' w h0 (by omega))
        have hle := drB_le 1 l'
        have hxb := nvB_lt 1 l'
        have hbig : (256 : Nat) ^ 1 = 256 := by decide
        rw [hbig] at hxb
        clear hbig
        generalize nvB 1 l' = x at *
        generalize drB 1 l' = l2 at *
        generalize eeB e 1 l' = e' at *
        have HXB := Lib.hid hxb
        go_wp2_with fail
        refine (HJ1.out _ rg).mono ?_
        rintro z w5 ⟨rfl, rg5, o5⟩
        have rh5 := rh.onP rg.plain o5 (by omega)
        have hb5 := hb.onl o5 hgw0
        clear rg rh hb o5
        go_wp2_with fail
        refine (HJ2.out _ rh5).mono ?_
        rintro z w6 ⟨rfl, rh6, o6⟩
        have rg6 := rg5.onP rh5.plain o6 (by omega)
        have hb6 := hb5.onl o6 hhw0
        clear rg5 rh5 hb5 o6 HJ1 HJ2
        -- behind the switch: rg6 rh6 hb6 at w6, state e', l2
        have hE6 : ∀ w', Ext w6.drew w' → w'.cell? ⟨h, 2, none⟩ = some (.int .i64 e') := fun w' hw => (rh6.ext ((Ext.refl w6).drew.trans hw)).err.1
        have rgD := rg6.ext (Ext.refl w6).drew
        have rhD := rh6.ext (Ext.refl w6).drew
        have hbD := hb6.drew
        clear rg6 rh6 hb6
        go_wp2_with fail
        refine wp_region_ordR Ext [0, 2, 3, 4, 5, 1, 6, 7, 8, 10, 9, 11, 12, 13] [5, 10, 11] (by kernel_rfl) (by kernel_rfl) rfl (by kernel_rfl) ?_
        repeat (refine lexR_val pre_ext (v := ?_) rfl rfl (fun w' hw' => ?_) ?_; rotate_left; (· go_simp; try with_reducible rfl); simp only [Act.put, List.setIfInBounds_toArray, List.set_cons_zero, List.set_cons_succ])
        refine lexR_call pre_ext 39 #[.pointer (some ⟨g, 0, none⟩)] rfl rfl (by go_simp) ?_
        refine (lerrno_any g e' l2 _ rgD).mono ?_
        rintro z w7 ⟨rfl, rfl⟩
        refine ⟨_, rfl, Ext.refl _, ?_⟩
        clear hE6
        simp only [Act.put, List.setIfInBounds_toArray, List.set_cons_zero, List.set_cons_succ]
        repeat (refine lexR_val pre_ext (v := ?_) rfl rfl (fun w' hw' => ?_) ?_; rotate_left; (· go_simp; try with_reducible rfl); simp only [Act.put, List.setIfInBounds_toArray, List.set_cons_zero, List.set_cons_succ])
        refine lexR_call pre_ext 40 #[.pointer (some ⟨g, 0, none⟩)] rfl rfl (by go_simp) ?_
        refine (lendR_any g e' l2 _ rgD).mono ?_
        rintro z w8 ⟨rfl, rfl⟩
        refine ⟨_, rfl, Ext.refl _, ?_⟩
        simp only [Act.put, List.setIfInBounds_toArray, List.set_cons_zero, List.set_cons_succ]
        refine lexR_call pre_ext 41 #[.pointer (some ⟨h, 0, none⟩)] rfl rfl (by go_simp) ?_
        refine (rendR_any h e' l2 _ rhD).mono ?_
        rintro z w8 ⟨rfl, e8⟩
        refine ⟨_, rfl, e8, ?_⟩
        have rg8 := rgD.ext e8
        have rh8 := rhD.ext e8
        have hb8 := hbD.trans e8
        clear rgD rhD hbD e8
        simp only [Act.put, List.setIfInBounds_toArray, List.set_cons_zero, List.set_cons_succ]
        repeat (refine lexR_val pre_ext (v := ?_) rfl rfl (fun w' hw' => ?_) ?_; rotate_left; (· go_simp; try with_reducible rfl); simp only [Act.put, List.setIfInBounds_toArray, List.set_cons_zero, List.set_cons_succ])
        refine lexR_done ?_
        go_wp2
        go_roundw
        case rel => exact ⟨k + 1, e', l2, by omega, by omega, by go_num, rg8, rh8, by omega, hb8⟩
        case measure => simp [intOf]; omega
      · have HJ1 := Lib.hid (fun w => lrd_u16 g e l' w)
        have HJ2 := Lib.hid (fun w h0 => rnum_any h 2 e l' w h0 (by omega))
        have hle := drB_le 2 l'
        have hxb := nvB_lt 2 l'
        have hbig : (256 : Nat) ^ 2 = 65536 := by decide
        rw [hbig] at hxb
        clear hbig
        generalize nvB 2 l' = x at *
        generalize drB 2 l' = l2 at *
        generalize eeB e 2 l' = e' at *
        have HXB := Lib.hid hxb
        go_wp2_with fail
        refine (HJ1.out _ rg).mono ?_
        rintro z w5 ⟨rfl, rg5, o5⟩
        have rh5 := rh.onP rg.plain o5 (by omega)
        have hb5 := hb.onl o5 hgw0
        clear rg rh hb o5
        go_wp2_with fail
        refine (HJ2.out _ rh5).mono ?_
        rintro z w6 ⟨rfl, rh6, o6⟩
        have rg6 := rg5.onP rh5.plain o6 (by omega)
        have hb6 := hb5.onl o6 hhw0
        clear rg5 rh5 hb5 o6 HJ1 HJ2
        -- behind the switch: rg6 rh6 hb6 at w6, state e', l2
        have hE6 : ∀ w', Ext w6.drew w' → w'.cell? ⟨h, 2, none⟩ = some (.int .i64 e') := fun w' hw => (rh6.ext ((Ext.refl w6).drew.trans hw)).err.1
        have rgD := rg6.ext (Ext.refl w6).drew
        have rhD := rh6.ext (Ext.refl w6).drew
        have hbD := hb6.drew
        clear rg6 rh6 hb6
        go_wp2_with fail
        refine wp_region_ordR Ext [0, 2, 3, 4, 5, 1, 6, 7, 8, 10, 9, 11, 12, 13] [5, 10, 11] (by kernel_rfl) (by kernel_rfl) rfl (by kernel_rfl) ?_
        repeat (refine lexR_val pre_ext (v := ?_) rfl rfl (fun w' hw' => ?_) ?_; rotate_left; (· go_simp; try with_reducible rfl); simp only [Act.put, List.setIfInBounds_toArray, List.set_cons_zero, List.set_cons_succ])
        refine lexR_call pre_ext 39 #[.pointer (some ⟨g, 0, none⟩)] rfl rfl (by go_simp) ?_
        refine (lerrno_any g e' l2 _ rgD).mono ?_
        rintro z w7 ⟨rfl, rfl⟩
        refine ⟨_, rfl, Ext.refl _, ?_⟩
        clear hE6
        simp only [Act.put, List.setIfInBounds_toArray, List.set_cons_zero, List.set_cons_succ]
        repeat (refine lexR_val pre_ext (v := ?_) rfl rfl (fun w' hw' => ?_) ?_; rotate_left; (· go_simp; try with_reducible rfl); simp only [Act.put, List.setIfInBounds_toArray, List.set_cons_zero, List.set_cons_succ])
        refine lexR_call pre_ext 40 #[.pointer (some ⟨g, 0, none⟩)] rfl rfl (by go_simp) ?_
        refine (lendR_any g e' l2 _ rgD).mono ?_
        rintro z w8 ⟨rfl, rfl⟩
        refine ⟨_, rfl, Ext.refl _, ?_⟩
        simp only [Act.put, List.setIfInBounds_toArray, List.set_cons_zero, List.set_cons_succ]
        refine lexR_call pre_ext 41 #[.pointer (some ⟨h, 0, none⟩)] rfl rfl (by go_simp) ?_
        refine (rendR_any h e' l2 _ rhD).mono ?_
        rintro z w8 ⟨rfl, e8⟩
        refine ⟨_, rfl, e8, ?_⟩
        have rg8 := rgD.ext e8
        have rh8 := rhD.ext e8
        have hb8 := hbD.trans e8
        clear rgD rhD hbD e8
        simp only [Act.put, List.setIfInBounds_toArray, List.set_cons_zero, List.set_cons_succ]
        repeat (refine lexR_val pre_ext (v := ?_) rfl rfl (fun w' hw' => ?_) ?_; rotate_left; (· go_simp; try with_reducible rfl); simp only [Act.put, List.setIfInBounds_toArray, List.set_cons_zero, List.set_cons_succ])
        refine lexR_done ?_
        go_wp2
        go_roundw
        case rel => exact ⟨k + 1, e', l2, by omega, by omega, by go_num, rg8, rh8, by omega, hb8⟩
        case measure => simp [intOf]; omega
      · have HJ1 := Lib.hid (fun w => lrd_u32 g e l' w)
        have HJ2 := Lib.hid (fun w h0 => rnum_any h 4 e l' w h0 (by omega))
        have hle := drB_le 4 l'
        have hxb := nvB_lt 4 l'
        have hbig : (256 : Nat) ^ 4 = 4294967296 := by decide
        rw [hbig] at hxb
        clear hbig
        generalize nvB 4 l' = x at *
        generalize drB 4 l' = l2 at *
        generalize eeB e 4 l' = e' at *
        have HXB := Lib.hid hxb
        go_wp2_with fail
        refine (HJ1.out _ rg).mono ?_
        rintro z w5 ⟨rfl, rg5, o5⟩
        have rh5 := rh.onP rg.plain o5 (by omega)
        have hb5 := hb.onl o5 hgw0
        clear rg rh hb o5
        go_wp2_with fail
        refine (HJ2.out _ rh5).mono ?_
        rintro z w6 ⟨rfl, rh6, o6⟩
        have rg6 := rg5.onP rh5.plain o6 (by omega)
        have hb6 := hb5.onl o6 hhw0
        clear rg5 rh5 hb5 o6 HJ1 HJ2
        -- behind the switch: rg6 rh6 hb6 at w6, state e', l2
        have hE6 : ∀ w', Ext w6.drew w' → w'.cell? ⟨h, 2, none⟩ = some (.int .i64 e') := fun w' hw => (rh6.ext ((Ext.refl w6).drew.trans hw)).err.1
        have rgD := rg6.ext (Ext.refl w6).drew
        have rhD := rh6.ext (Ext.refl w6).drew
        have hbD := hb6.drew
        clear rg6 rh6 hb6
        go_wp2_with fail
        refine wp_region_ordR Ext [0, 2, 3, 4, 5, 1, 6, 7, 8, 10, 9, 11, 12, 13] [5, 10, 11] (by kernel_rfl) (by kernel_rfl) rfl (by kernel_rfl) ?_
        repeat (refine lexR_val pre_ext (v := ?_) rfl rfl (fun w' hw' => ?_) ?_; rotate_left; (· go_simp; try with_reducible rfl); simp only [Act.put, List.setIfInBounds_toArray, List.set_cons_zero, List.set_cons_succ])
        refine lexR_call pre_ext 39 #[.pointer (some ⟨g, 0, none⟩)] rfl rfl (by go_simp) ?_
        refine (lerrno_any g e' l2 _ rgD).mono ?_
        rintro z w7 ⟨rfl, rfl⟩
        refine ⟨_, rfl, Ext.refl _, ?_⟩
        clear hE6
        simp only [Act.put, List.setIfInBounds_toArray, List.set_cons_zero, List.set_cons_succ]
        repeat (refine lexR_val pre_ext (v := ?_) rfl rfl (fun w' hw' => ?_) ?_; rotate_left; (· go_simp; try with_reducible rfl); simp only [Act.put, List.setIfInBounds_toArray, List.set_cons_zero, List.set_cons_succ])
        refine lexR_call pre_ext 40 #[.pointer (some ⟨g, 0, none⟩)] rfl rfl (by go_simp) ?_
        refine (lendR_any g e' l2 _ rgD).mono ?_
        rintro z w8 ⟨rfl, rfl⟩
        refine ⟨_, rfl, Ext.refl _, ?_⟩
        simp only [Act.put, List.setIfInBounds_toArray, List.set_cons_zero, List.set_cons_succ]
        refine lexR_call pre_ext 41 #[.pointer (some ⟨h, 0, none⟩)] rfl rfl (by go_simp) ?_
        refine (rendR_any h e' l2 _ rhD).mono ?_
        rintro z w8 ⟨rfl, e8⟩
        refine ⟨_, rfl, e8, ?_⟩
        have rg8 := rgD.ext e8
        have rh8 := rhD.ext e8
        have hb8 := hbD.trans e8
        clear rgD rhD hbD e8
        simp only [Act.put, List.setIfInBounds_toArray, List.set_cons_zero, List.set_cons_succ]
        repeat (refine lexR_val pre_ext (v := ?_) rfl rfl (fun w' hw' => ?_) ?_; rotate_left; (· go_simp; try with_reducible rfl); simp only [Act.put, List.setIfInBounds_toArray, List.set_cons_zero, List.set_cons_succ])
        refine lexR_done ?_
        go_wp2
        go_roundw
        case rel => exact ⟨k + 1, e', l2, by omega, by omega, by go_num, rg8, rh8, by omega, hb8⟩
        case measure => simp [intOf]; omega
      · have HJ1 := Lib.hid (fun w => lrd_u64 g e l' w)
        have HJ2 := Lib.hid (fun w h0 => rnum_any h 8 e l' w h0 (by omega))
        have hle := drB_le 8 l'
        have hxb := nvB_lt 8 l'
        have hbig : (256 : Nat) ^ 8 = 18446744073709551616 := by decide
        rw [hbig] at hxb
        clear hbig
        generalize nvB 8 l' = x at *
        generalize drB 8 l' = l2 at *
        generalize eeB e 8 l' = e' at *
        have HXB := Lib.hid hxb
        go_wp2_with fail
        refine (HJ1.out _ rg).mono ?_
        rintro z w5 ⟨rfl, rg5, o5⟩
        have rh5 := rh.onP rg.plain o5 (by omega)
        have hb5 := hb.onl o5 hgw0
        clear rg rh hb o5
        go_wp2_with fail
        refine (HJ2.out _ rh5).mono ?_
        rintro z w6 ⟨rfl, rh6, o6⟩
        have rg6 := rg5.onP rh5.plain o6 (by omega)
        have hb6 := hb5.onl o6 hhw0
        clear rg5 rh5 hb5 o6 HJ1 HJ2
        -- behind the switch: rg6 rh6 hb6 at w6, state e', l2
        have hE6 : ∀ w', Ext w6.drew w' → w'.cell? ⟨h, 2, none⟩ = some (.int .i64 e') := fun w' hw => (rh6.ext ((Ext.refl w6).drew.trans hw)).err.1
        have rgD := rg6.ext (Ext.refl w6).drew
        have rhD := rh6.ext (Ext.refl w6).drew
        have hbD := hb6.drew
        clear rg6 rh6 hb6
        go_wp2_with fail
        refine wp_region_ordR Ext [0, 2, 3, 4, 5, 1, 6, 7, 8, 10, 9, 11, 12, 13] [5, 10, 11] (by kernel_rfl) (by kernel_rfl) rfl (by kernel_rfl) ?_
        repeat (refine lexR_val pre_ext (v := ?_) rfl rfl (fun w' hw' => ?_) ?_; rotate_left; (· go_simp; try with_reducible rfl); simp only [Act.put, List.setIfInBounds_toArray, List.set_cons_zero, List.set_cons_succ])
        refine lexR_call pre_ext 39 #[.pointer (some ⟨g, 0, none⟩)] rfl rfl (by go_simp) ?_
        refine (lerrno_any g e' l2 _ rgD).mono ?_
        rintro z w7 ⟨rfl, rfl⟩
        refine ⟨_, rfl, Ext.refl _, ?_⟩
        clear hE6
        simp only [Act.put, List.setIfInBounds_toArray, List.set_cons_zero, List.set_cons_succ]
        repeat (refine lexR_val pre_ext (v := ?_) rfl rfl (fun w' hw' => ?_) ?_; rotate_left; (· go_simp; try with_reducible rfl); simp only [Act.put, List.setIfInBounds_toArray, List.set_cons_zero, List.set_cons_succ])
        refine lexR_call pre_ext 40 #[.pointer (some ⟨g, 0, none⟩)] rfl rfl (by go_simp) ?_
        refine (lendR_any g e' l2 _ rgD).mono ?_
        rintro z w8 ⟨rfl, rfl⟩
        refine ⟨_, rfl, Ext.refl _, ?_⟩
        simp only [Act.put, List.setIfInBounds_toArray, List.set_cons_zero, List.set_cons_succ]
        refine lexR_call pre_ext 41 #[.pointer (some ⟨h, 0, none⟩)] rfl rfl (by go_simp) ?_
        refine (rendR_any h e' l2 _ rhD).mono ?_
        rintro z w8 ⟨rfl, e8⟩
        refine ⟨_, rfl, e8, ?_⟩
        have rg8 := rgD.ext e8
        have rh8 := rhD.ext e8
        have hb8 := hbD.trans e8
        clear rgD rhD hbD e8
        simp only [Act.put, List.setIfInBounds_toArray, List.set_cons_zero, List.set_cons_succ]
        repeat (refine lexR_val pre_ext (v := ?_) rfl rfl (fun w' hw' => ?_) ?_; rotate_left; (· go_simp; try with_reducible rfl); simp only [Act.put, List.setIfInBounds_toArray, List.set_cons_zero, List.set_cons_succ])
        refine lexR_done ?_
        go_wp2
        go_roundw
        case rel => exact ⟨k + 1, e', l2, by omega, by omega, by go_num, rg8, rh8, by omega, hb8⟩
        case measure => simp [intOf]; omega
      · have HJ1 := Lib.hid (fun w => ltextR_any g e l' w)
        have HJ2 := Lib.hid (fun w => rtextR_any h e l' w)
        have hle := txL_le l'
        generalize txT l' = t at *
        generalize txL l' = l2 at *
        generalize txE e l' = e' at *
        go_wp2_with fail
        refine (HJ1.out _ rg).mono ?_
        rintro z w5 ⟨rfl, rg5, o5⟩
        have rh5 := rh.onP rg.plain o5 (by omega)
        have hb5 := hb.onl o5 hgw0
        clear rg rh hb o5
        go_wp2_with fail
        refine (HJ2.out _ rh5).mono ?_
        rintro z w6 ⟨rfl, rh6, o6⟩
        have rg6 := rg5.onP rh5.plain o6 (by omega)
        have hb6 := hb5.onl o6 hhw0
        clear rg5 rh5 hb5 o6 HJ1 HJ2
        -- behind the switch: rg6 rh6 hb6 at w6, state e', l2
        have hE6 : ∀ w', Ext w6.drew w' → w'.cell? ⟨h, 2, none⟩ = some (.int .i64 e') := fun w' hw => (rh6.ext ((Ext.refl w6).drew.trans hw)).err.1
        have rgD := rg6.ext (Ext.refl w6).drew
        have rhD := rh6.ext (Ext.refl w6).drew
        have hbD := hb6.drew
        clear rg6 rh6 hb6
        go_wp2_with fail
        refine wp_region_ordR Ext [0, 2, 3, 4, 5, 1, 6, 7, 8, 10, 9, 11, 12, 13] [5, 10, 11] (by kernel_rfl) (by kernel_rfl) rfl (by kernel_rfl) ?_
        repeat (refine lexR_val pre_ext (v := ?_) rfl rfl (fun w' hw' => ?_) ?_; rotate_left; (· go_simp; try with_reducible rfl); simp only [Act.put, List.setIfInBounds_toArray, List.set_cons_zero, List.set_cons_succ])
        refine lexR_call pre_ext 39 #[.pointer (some ⟨g, 0, none⟩)] rfl rfl (by go_simp) ?_
        refine (lerrno_any g e' l2 _ rgD).mono ?_
        rintro z w7 ⟨rfl, rfl⟩
        refine ⟨_, rfl, Ext.refl _, ?_⟩
        clear hE6
        simp only [Act.put, List.setIfInBounds_toArray, List.set_cons_zero, List.set_cons_succ]
        repeat (refine lexR_val pre_ext (v := ?_) rfl rfl (fun w' hw' => ?_) ?_; rotate_left; (· go_simp; try with_reducible rfl); simp only [Act.put, List.setIfInBounds_toArray, List.set_cons_zero, List.set_cons_succ])
        refine lexR_call pre_ext 40 #[.pointer (some ⟨g, 0, none⟩)] rfl rfl (by go_simp) ?_
        refine (lendR_any g e' l2 _ rgD).mono ?_
        rintro z w8 ⟨rfl, rfl⟩
        refine ⟨_, rfl, Ext.refl _, ?_⟩
        simp only [Act.put, List.setIfInBounds_toArray, List.set_cons_zero, List.set_cons_succ]
        refine lexR_call pre_ext 41 #[.pointer (some ⟨h, 0, none⟩)] rfl rfl (by go_simp) ?_
        refine (rendR_any h e' l2 _ rhD).mono ?_
        rintro z w8 ⟨rfl, e8⟩
        refine ⟨_, rfl, e8, ?_⟩
        have rg8 := rgD.ext e8
        have rh8 := rhD.ext e8
        have hb8 := hbD.trans e8
        clear rgD rhD hbD e8
        simp only [Act.put, List.setIfInBounds_toArray, List.set_cons_zero, List.set_cons_succ]
        repeat (refine lexR_val pre_ext (v := ?_) rfl rfl (fun w' hw' => ?_) ?_; rotate_left; (· go_simp; try with_reducible rfl); simp only [Act.put, List.setIfInBounds_toArray, List.set_cons_zero, List.set_cons_succ])
        refine lexR_done ?_
        go_wp2
        go_roundw
        case rel => exact ⟨k + 1, e', l2, by omega, by omega, by go_num, rg8, rh8, by omega, hb8⟩
        case measure => simp [intOf]; omega
      · go_wp2_with fail
        refine (around_any m _ _ hmb.1 hmb.2 (by omega) (by omega)).mono ?_
        rintro z w4 ⟨rfl, rfl⟩
        have HJ1 := Lib.hid (fun w h0 => ldataR_any g e (aroundZ m 31) l' w h0 (by omega))
        have HJ2 := Lib.hid (fun w => rdataR_any h e (aroundZ m 31) l' w)
        have hle := daL_le (aroundZ m 31) l'
        generalize daT (aroundZ m 31) l' = t at *
        generalize daL (aroundZ m 31) l' = l2 at *
        generalize daE e (aroundZ m 31) l' = e' at *
        have rgD := rg.ext (Ext.refl wr).drew
        have rhD := rh.ext (Ext.refl wr).drew
        have hbD := hb.drew
        clear rg rh hb
        go_wp2_with fail
        refine wp_region_ordR (fun _ _ => True) [0, 1, 4, 5, 2, 3, 6, 7, 8] [4, 6] (by kernel_rfl) (by kernel_rfl) rfl (by kernel_rfl) ?_
        repeat (refine lexR_val pre_any (v := ?_) rfl rfl (fun w' hw' => ?_) ?_; rotate_left; (· go_simp; try with_reducible rfl); simp only [Act.put, List.setIfInBounds_toArray, List.set_cons_zero, List.set_cons_succ])
        refine lexR_call pre_any 37 #[.pointer (some ⟨g, 0, none⟩), .int .i64 (aroundZ m 31)] rfl rfl (by go_simp) ?_
        refine (HJ1.out _ rgD).mono ?_
        rintro z w5 ⟨A5, n5, c5, rfl, see5, rg5, o5⟩
        refine ⟨_, rfl, trivial, ?_⟩
        have rh5 := rhD.onP rgD.plain o5 (by omega)
        have hb5 := hbD.onl o5 hgw0
        clear rgD rhD hbD o5
        simp only [Act.put, List.setIfInBounds_toArray, List.set_cons_zero, List.set_cons_succ]
        refine lexR_turn (T' := Onl h) (fun _ _ => trivial) ?_
        have h5 : ∀ w', Onl h w5 w' → _ := fun w' hw => str_of (see5.onP rh5.plain hw)
        repeat (refine lexR_val (pre_onlJ h) (v := ?_) rfl rfl (fun w' hw' => ?_) ?_; rotate_left; (· go_simp; try with_reducible rfl); simp only [Act.put, List.setIfInBounds_toArray, List.set_cons_zero, List.set_cons_succ])
        refine lexR_call (pre_onlJ h) 38 #[.pointer (some ⟨h, 0, none⟩), .int .i64 (aroundZ m 31)] rfl rfl (by go_simp) ?_
        refine (HJ2.out _ rh5).mono ?_
        rintro z w6 ⟨A6, n6, c6, rfl, see6, rh6, o6⟩
        refine ⟨_, rfl, o6, ?_⟩
        have rg6 := rg5.onP rh5.plain o6 (by omega)
        have hb6 := hb5.onl o6 hhw0
        have h6 : ∀ w', Onl h w6 w' → _ := fun w' hw => str_of (see6.onP rh6.plain hw)
        clear h5 rg5 rh5 hb5 o6 HJ1 HJ2 see5
        simp only [Act.put, List.setIfInBounds_toArray, List.set_cons_zero, List.set_cons_succ]
        repeat (refine lexR_val (pre_onlJ h) (v := ?_) rfl rfl (fun w' hw' => ?_) ?_; rotate_left; (· go_simp; try with_reducible rfl); simp only [Act.put, List.setIfInBounds_toArray, List.set_cons_zero, List.set_cons_succ])
        refine lexR_done ?_
        clear h6 see6
        -- behind the switch: rg6 rh6 hb6 at w6, state e', l2
        have hE6 : ∀ w', Ext w6.drew w' → w'.cell? ⟨h, 2, none⟩ = some (.int .i64 e') := fun w' hw => (rh6.ext ((Ext.refl w6).drew.trans hw)).err.1
        have rgD := rg6.ext (Ext.refl w6).drew
        have rhD := rh6.ext (Ext.refl w6).drew
        have hbD := hb6.drew
        clear rg6 rh6 hb6
        go_wp2_with fail
        refine wp_region_ordR Ext [0, 2, 3, 4, 5, 1, 6, 7, 8, 10, 9, 11, 12, 13] [5, 10, 11] (by kernel_rfl) (by kernel_rfl) rfl (by kernel_rfl) ?_
        repeat (refine lexR_val pre_ext (v := ?_) rfl rfl (fun w' hw' => ?_) ?_; rotate_left; (· go_simp; try with_reducible rfl); simp only [Act.put, List.setIfInBounds_toArray, List.set_cons_zero, List.set_cons_succ])
        refine lexR_call pre_ext 39 #[.pointer (some ⟨g, 0, none⟩)] rfl rfl (by go_simp) ?_
        refine (lerrno_any g e' l2 _ rgD).mono ?_
        rintro z w7 ⟨rfl, rfl⟩
        refine ⟨_, rfl, Ext.refl _, ?_⟩
        clear hE6
        simp only [Act.put, List.setIfInBounds_toArray, List.set_cons_zero, List.set_cons_succ]
        repeat (refine lexR_val pre_ext (v := ?_) rfl rfl (fun w' hw' => ?_) ?_; rotate_left; (· go_simp; try with_reducible rfl); simp only [Act.put, List.setIfInBounds_toArray, List.set_cons_zero, List.set_cons_succ])
        refine lexR_call pre_ext 40 #[.pointer (some ⟨g, 0, none⟩)] rfl rfl (by go_simp) ?_
        refine (lendR_any g e' l2 _ rgD).mono ?_
        rintro z w8 ⟨rfl, rfl⟩
        refine ⟨_, rfl, Ext.refl _, ?_⟩
        simp only [Act.put, List.setIfInBounds_toArray, List.set_cons_zero, List.set_cons_succ]
        refine lexR_call pre_ext 41 #[.pointer (some ⟨h, 0, none⟩)] rfl rfl (by go_simp) ?_
        refine (rendR_any h e' l2 _ rhD).mono ?_
        rintro z w8 ⟨rfl, e8⟩
        refine ⟨_, rfl, e8, ?_⟩
        have rg8 := rgD.ext e8
        have rh8 := rhD.ext e8
        have hb8 := hbD.trans e8
        clear rgD rhD hbD e8
        simp only [Act.put, List.setIfInBounds_toArray, List.set_cons_zero, List.set_cons_succ]
        repeat (refine lexR_val pre_ext (v := ?_) rfl rfl (fun w' hw' => ?_) ?_; rotate_left; (· go_simp; try with_reducible rfl); simp only [Act.put, List.setIfInBounds_toArray, List.set_cons_zero, List.set_cons_succ])
        refine lexR_done ?_
        go_wp2
        go_roundw
        case rel => exact ⟨k + 1, e', l2, by omega, by omega, by go_num, rg8, rh8, by omega, hb8⟩
        case measure => simp [intOf]; omega
      · have HJ1 := Lib.hid (fun w h0 => ldataR_any g e (m) l' w h0 (by omega))
        have HJ2 := Lib.hid (fun w => rdataR_any h e (m) l' w)
        have hle := daL_le (m) l'
        generalize daT (m) l' = t at *
        generalize daL (m) l' = l2 at *
        generalize daE e (m) l' = e' at *
        have rgD := rg.ext (Ext.refl wr).drew
        have rhD := rh.ext (Ext.refl wr).drew
        have hbD := hb.drew
        clear rg rh hb
        go_wp2_with fail
        refine wp_region_ordR (fun _ _ => True) [0, 1, 4, 5, 2, 3, 6, 7, 8] [4, 6] (by kernel_rfl) (by kernel_rfl) rfl (by kernel_rfl) ?_
        repeat (refine lexR_val pre_any (v := ?_) rfl rfl (fun w' hw' => ?_) ?_; rotate_left; (· go_simp; try with_reducible rfl); simp only [Act.put, List.setIfInBounds_toArray, List.set_cons_zero, List.set_cons_succ])
        refine lexR_call pre_any 37 #[.pointer (some ⟨g, 0, none⟩), .int .i64 (m)] rfl rfl (by go_simp) ?_
        refine (HJ1.out _ rgD).mono ?_
        rintro z w5 ⟨A5, n5, c5, rfl, see5, rg5, o5⟩
        refine ⟨_, rfl, trivial, ?_⟩
        have rh5 := rhD.onP rgD.plain o5 (by omega)
        have hb5 := hbD.onl o5 hgw0
        clear rgD rhD hbD o5
        simp only [Act.put, List.setIfInBounds_toArray, List.set_cons_zero, List.set_cons_succ]
        refine lexR_turn (T' := Onl h) (fun _ _ => trivial) ?_
        have h5 : ∀ w', Onl h w5 w' → _ := fun w' hw => str_of (see5.onP rh5.plain hw)
        repeat (refine lexR_val (pre_onlJ h) (v := ?_) rfl rfl (fun w' hw' => ?_) ?_; rotate_left; (· go_simp; try with_reducible rfl); simp only [Act.put, List.setIfInBounds_toArray, List.set_cons_zero, List.set_cons_succ])
        refine lexR_call (pre_onlJ h) 38 #[.pointer (some ⟨h, 0, none⟩), .int .i64 (m)] rfl rfl (by go_simp) ?_
        refine (HJ2.out _ rh5).mono ?_
        rintro z w6 ⟨A6, n6, c6, rfl, see6, rh6, o6⟩
        refine ⟨_, rfl, o6, ?_⟩
        have rg6 := rg5.onP rh5.plain o6 (by omega)
        have hb6 := hb5.onl o6 hhw0
        have h6 : ∀ w', Onl h w6 w' → _ := fun w' hw => str_of (see6.onP rh6.plain hw)
        clear h5 rg5 rh5 hb5 o6 HJ1 HJ2 see5
        simp only [Act.put, List.setIfInBounds_toArray, List.set_cons_zero, List.set_cons_succ]
        repeat (refine lexR_val (pre_onlJ h) (v := ?_) rfl rfl (fun w' hw' => ?_) ?_; rotate_left; (· go_simp; try with_reducible rfl); simp only [Act.put, List.setIfInBounds_toArray, List.set_cons_zero, List.set_cons_succ])
        refine lexR_done ?_
        clear h6 see6
        -- behind the switch: rg6 rh6 hb6 at w6, state e', l2
        have hE6 : ∀ w', Ext w6.drew w' → w'.cell? ⟨h, 2, none⟩ = some (.int .i64 e') := fun w' hw => (rh6.ext ((Ext.refl w6).drew.trans hw)).err.1
        have rgD := rg6.ext (Ext.refl w6).drew
        have rhD := rh6.ext (Ext.refl w6).drew
        have hbD := hb6.drew
        clear rg6 rh6 hb6
        go_wp2_with fail
        refine wp_region_ordR Ext [0, 2, 3, 4, 5, 1, 6, 7, 8, 10, 9, 11, 12, 13] [5, 10, 11] (by kernel_rfl) (by kernel_rfl) rfl (by kernel_rfl) ?_
        repeat (refine lexR_val pre_ext (v := ?_) rfl rfl (fun w' hw' => ?_) ?_; rotate_left; (· go_simp; try with_reducible rfl); simp only [Act.put, List.setIfInBounds_toArray, List.set_cons_zero, List.set_cons_succ])
        refine lexR_call pre_ext 39 #[.pointer (some ⟨g, 0, none⟩)] rfl rfl (by go_simp) ?_
        refine (lerrno_any g e' l2 _ rgD).mono ?_
        rintro z w7 ⟨rfl, rfl⟩
        refine ⟨_, rfl, Ext.refl _, ?_⟩
        clear hE6
        simp only [Act.put, List.setIfInBounds_toArray, List.set_cons_zero, List.set_cons_succ]
        repeat (refine lexR_val pre_ext (v := ?_) rfl rfl (fun w' hw' => ?_) ?_; rotate_left; (· go_simp; try with_reducible rfl); simp only [Act.put, List.setIfInBounds_toArray, List.set_cons_zero, List.set_cons_succ])
        refine lexR_call pre_ext 40 #[.pointer (some ⟨g, 0, none⟩)] rfl rfl (by go_simp) ?_
        refine (lendR_any g e' l2 _ rgD).mono ?_
        rintro z w8 ⟨rfl, rfl⟩
        refine ⟨_, rfl, Ext.refl _, ?_⟩
        simp only [Act.put, List.setIfInBounds_toArray, List.set_cons_zero, List.set_cons_succ]
        refine lexR_call pre_ext 41 #[.pointer (some ⟨h, 0, none⟩)] rfl rfl (by go_simp) ?_
        refine (rendR_any h e' l2 _ rhD).mono ?_
        rintro z w8 ⟨rfl, e8⟩
        refine ⟨_, rfl, e8, ?_⟩
        have rg8 := rgD.ext e8
        have rh8 := rhD.ext e8
        have hb8 := hbD.trans e8
        clear rgD rhD hbD e8
        simp only [Act.put, List.setIfInBounds_toArray, List.set_cons_zero, List.set_cons_succ]
        repeat (refine lexR_val pre_ext (v := ?_) rfl rfl (fun w' hw' => ?_) ?_; rotate_left; (· go_simp; try with_reducible rfl); simp only [Act.put, List.setIfInBounds_toArray, List.set_cons_zero, List.set_cons_succ])
        refine lexR_done ?_
        go_wp2
        go_roundw
        case rel => exact ⟨k + 1, e', l2, by omega, by omega, by go_num, rg8, rh8, by omega, hb8⟩
        case measure => simp [intOf]; omega
    · have hdec : k = n2 ∨ k = 10 := by omega
      clear rg rh
      clear hlt
      by_cases hkn2 : k < n2
      all_goals
        first | (have hd : k = 10 := by omega) | (have hd : k = n2 := by omega)
        subst hd
        go_wp2_with fail
        refine (littleLives_any _).mono ?_
        rintro e w4 ⟨rfl, ext4⟩
        go_wp2
        go_ret
        exact ⟨rfl, hb.trans ext4⟩
end Go.Proofs.Ytlbokdoipajodaa
