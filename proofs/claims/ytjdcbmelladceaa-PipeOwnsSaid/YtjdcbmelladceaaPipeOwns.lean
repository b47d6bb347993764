/-
  The statement PipeOwns: its walk.
-/
import Derived.Test.YtjdcbmelladceaaPipI
import Derived.Test.YtjdcbmelladceaaRws
namespace Go.Proofs.Ytjdcbmelladceaa
open Go Go.RowKit
set_option linter.unusedVariables false
set_option linter.unusedSimpArgs false
theorem own_shape {w : World} {base : Nat} {v : Value} {n : Nat} {l : List UInt8} (h : w.ownsRow base 5 1 v n (bs l)) : ∃ A c, v = .slice A n c ∧ Sees w A n c (bs l) := Sees.of_own h
set_option maxRecDepth 20000 in
set_option maxHeartbeats 4000000 in
theorem powns_walk (A : Option Addr) (n c : Nat) (l : List UInt8) (by_ : Int) (w : World) (hs : Sees w A n c (bs l)) :
    Calls Try.prog 7 #[.slice A n c, .int .u8 by_] w fun e w' => e = .returned (.bool true) ∧ Ext w w' := by
  have hlen := hs.len
  rw [bs_length] at hlen
  have HLEN := Lib.hid hlen
  have HS := Lib.hid hs
  clear hlen hs
  go_enter Try.func7, Try.ntmps7
  have HN := Lib.hid (pnew_ok (some ⟨w.heap.size, 0, none⟩) 1 1 [((3 : Nat) : Int)] (w.alloc (.cells #[.int .i64 3] 3)) (by simpa using sees_new w 3 #[.int .i64 3] (by simp [maxLen])) (by simp) (by decide) (by decide) (by simp))
  go_wp2_with fail
  refine HN.out.mono ?_
  rintro e w1 ⟨tb, cb, rfl, hp, e1⟩
  have hsz0 := e1.size
  simp at hsz0
  have HT : Hid (w.heap.size ≤ tb ∧ w.heap.size ≤ cb) := Lib.hid (by have := hp.1.inF; simp at this; omega)
  have E1 := Lib.hid (((Ext.refl w).alloc _).trans e1)
  obtain ⟨F1, HP1⟩ : ∃ F : Nat → Prop, Hid (Pip w1 F tb cb [] [((3 : Nat) : Int)] 0 ∧ (∀ k, F k → w.heap.size ≤ k ∧ k < w1.heap.size)) := ⟨_, Lib.hid ⟨hp, fun k q => by simp at q; omega⟩⟩
  clear hp e1 hsz0 HN
  go_wp2_with fail
  refine (few_nat A n c 20 20 (bs l) w1 (HS.out.ext E1.out) (bs_one _) (by omega) (by omega) rfl).mono ?_
  rintro e w2 ⟨v2, rfl, hown2, e2⟩
  rw [bs_take] at hown2
  obtain ⟨m, hm⟩ : ∃ m, min n 20 = m := ⟨_, rfl⟩
  rw [hm] at hown2
  have hm20 : m ≤ 20 := by omega
  obtain ⟨A2, c2, rfl, hs2⟩ := own_shape hown2
  have HL20 : Hid ((l.take 20).length = m) := Lib.hid (by rw [List.length_take, HLEN.out]; omega)
  have HB2 : Hid (∀ a, A2 = some a → w1.heap.size ≤ a.block ∧ a.block < w2.heap.size) := Lib.hid (fun a ha => hown2.lt a.block (by rw [ha]; rfl))
  have HAR := Lib.hid (AnyRow.of_own hown2)
  have E2 := Lib.hid (E1.out.trans e2)
  have hs12 := e2.size
  have HSD := Lib.hid (psend_all F1 tb cb [] [((3 : Nat) : Int)] 0 A2 m c2 (l.take 20) w2 (HP1.out.1.keep (Kp.of_ext e2)) (fun j q => by have := HP1.out.2 j q; omega) hs2 (by simp) (by simp) (by rw [HL20.out]; omega))
  have hc2 := hs2.le
  have hm2 := hs2.max
  unfold maxLen at hm2
  clear hown2 hs2 e2 hm
  go_wp2_with fail
  refine HSD.out.mono ?_
  rintro e w3 ⟨F, rfl, hp3, hF3, hk3⟩
  have hsz3 := hk3.size
  rw [List.nil_append] at hp3
  have HF : Hid (∀ j, F j → w.heap.size ≤ j ∧ j < w3.heap.size ∧ (∀ a, A2 = some a → ¬ j = a.block)) := Lib.hid (fun j q => by
    have h1 := E1.out.size
    rcases hF3 j q with q | q
    · have h2 := HP1.out.2 j q
      exact ⟨h2.1, by omega, fun a ha e => by have := HB2.out a ha; omega⟩
    · exact ⟨by omega, q.2, fun a ha e => by have := HB2.out a ha; omega⟩)
  have HP3 := Lib.hid hp3
  have HAR3 : Hid (AnyRow w3 A2 m) := Lib.hid (HAR.out.keep fun a ha hm => hk3.block a.block (by
    have h1 := HB2.out a ha
    have h2 := HP1.out.1.1.lt
    exact ⟨by omega, by omega⟩) (HB2.out a ha).2)
  have E3 := Lib.hid (ext_two E2.out hk3 HT.out.1 HT.out.2)
  clear hp3 hF3 hk3 HSD HAR
  go_wp2_with fail
  go_loopw [9] (fun iv wr => ∃ i : Nat, i ≤ m ∧ iv = .int .i64 (i : Int) ∧ AnyRow wr A2 m ∧ Pip wr F tb cb (oneT (l.take 20)) [((3 : Nat) : Int)] 0 ∧ wr.heap.size = w3.heap.size ∧ Ext w wr) (fun iv _ => m - (intOf iv).toNat)
  case atStart => exact ⟨0, by omega, rfl, HAR3.out, HP3.out, rfl, E3.out⟩
  case round =>
    obtain ⟨i, him, rfl, har, hp, hsz, ext⟩ := hrel
    have HARr := Lib.hid har
    have HPr := Lib.hid hp
    have EXr := Lib.hid ext
    have HSZ := Lib.hid hsz
    clear har hp ext hsz
    by_cases hlt : i < m
    · obtain ⟨g, v, rfl, hc, hf, hgl, hset⟩ := HARr.out.at_ i hlt
      have HSET := Lib.hid hset
      clear hset
      go_wp2
      go_roundw
      case rel => exact ⟨i + 1, by omega, by go_num, HSET.out _, HPr.out.keep ((Kp.refl F wr).set g i _ (fun q => (HF.out g q).2.2 _ rfl rfl)), by simp [World.setCell, HSZ.out], EXr.out.setCell (p := ⟨g, i, none⟩) (by have := HB2.out _ rfl; have := E1.out.size; simp only at *; omega) _⟩
      case measure => simp [intOf]; omega
    · obtain rfl : i = m := by omega
      have hsr := HSZ.out
      go_wp2_with fail
      go_loopw [10, 11] (fun bv jv wq => ∃ (j : Nat) (T' : List (List UInt8)) (b : Nat), j ≤ 9 ∧ jv = .int .i64 (j : Int) ∧ Pip wq F tb cb T' [((3 : Nat) : Int)] 0 ∧ wq.ownsRow w.heap.size 5 1 bv b (bs ((l.take 20).take (3 * j))) ∧ (∀ k, bv.ownBlock = some k → w3.heap.size ≤ k) ∧ T'.flatten = (l.take 20).drop (3 * j) ∧ w3.heap.size ≤ wq.heap.size ∧ Ext w wq) (fun _ jv _ => 9 - (intOf jv).toNat)
      case atStart => exact ⟨0, _, 0, by omega, rfl, HPr.out, by simpa [bs] using World.ownsRow_nil _ _ _ _, (fun k hk => by cases hk), by rw [oneT_flat]; simp, by omega, EXr.out⟩
      case round =>
        obtain ⟨wq, hwq⟩ : ∃ wq, wq = wr := ⟨_, rfl⟩
        subst hwq
        obtain ⟨j, T', b, hj9, rfl, hp, hown, hbl, hfl, hszq, ext⟩ := hrel
        obtain ⟨Ab, cb', rfl, hsb⟩ := own_shape hown
        have HPq := Lib.hid hp
        have HOq := Lib.hid hown
        have HBq := Lib.hid hbl
        have HFq := Lib.hid hfl
        have EXq := Lib.hid ext
        have hb20 : b ≤ 20 := by
          have := hown.1
          rw [bs_length, List.length_take, List.length_take] at this
          omega
        have hbm := hsb.max
        unfold maxLen at hbm
        have HSB := Lib.hid hsb
        clear hp hown hbl hfl ext hsb HPr HARr EXr HAR3 HP3 E3
        by_cases hj : j < 9
        · go_wp2_with fail
          refine (pnext_one F tb cb T' 3 wq HPq.out (fun q hq => by have := HF.out q hq; omega) (by rw [HFq.out]; simp; omega)).mono ?_
          rintro e w5 ⟨Ap, m1, cp, bb, T2, rfl, hown5, hp5, hf5, hk5, hm1⟩
          obtain ⟨_, _, hsh, hs5⟩ := own_shape hown5
          injection hsh with q1 _ q2
          subst q1 q2
          have hsz5 := hk5.size
          obtain ⟨i0, hi, hz0', hz1', hz2'⟩ := info_parts infoB
          have hown5b := hk5.own HOq.out (fun k hk => by
            have h1 := HBq.out k hk
            have h2 := HPq.out.1.lt
            have h3 := HPq.out.1.inF
            have h4 := HF.out _ h3.1
            have h5 := HF.out _ h3.2
            exact ⟨by omega, by omega⟩)
          obtain ⟨v6, w6, hrun6, hown6, hg6, hat6⟩ := run_append_sees (P := Try.prog) (w := w5) w.heap.size 33 33 5 i0 _ 1 Try.underlying33 hi hz0' hz1' hz2' rfl (.slice Ab b cb') b _ hown5b
            Ap m1 cp _ hs5 (bs_one _) (by unfold maxLen; omega) (by omega) (by have := EXq.out.size; omega)
          obtain ⟨A6, c6, rfl, _⟩ := Sees.of_own hown6
          have hbl5 := HOq.out.lt
          have hap := fun a (ha : Ap = some a) => hown5.lt a.block (by rw [ha]; rfl)
          have hob6 : ∀ k, (Value.slice A6 (b + m1) c6).ownBlock = some k → w3.heap.size ≤ k ∧ (∀ a, Ap = some a → ¬ k = a.block) := fun k hk => by
            rcases hat6 with e | e
            · rw [e] at hk
              have h1 := HBq.out k hk
              have h2 := hbl5 k hk
              exact ⟨h1, fun a ha q => by have := hap a ha; omega⟩
            · rw [e] at hk
              injection hk with hk
              exact ⟨by omega, fun a ha q => by have := hap a ha; omega⟩
          have hsz6 := hg6.size
          have har6 : AnyRow w6 Ap m1 := (AnyRow.of_own hown5).keep fun a ha hm => hg6.block a.block (hap a ha).2 (fun e => by
            have h1 := hbl5 a.block e.symm
            have h2 := hap a ha
            omega)
          have hp6 : Pip w6 F tb cb T2 [((3 : Nat) : Int)] 0 := hp5.keep ((Kp.refl F w5).grown hg6 fun k hk q => by have := HBq.out k hk; have := HF.out k q; omega)
          have hex6 : Ext w w6 := (ext_two EXq.out hk5 HT.out.1 HT.out.2).grown hg6 fun k hk => by have := HBq.out k hk; have := E2.out.size; omega
          have hcat : bs ((l.take 20).take (3 * j)) ++ bs (T'.flatten.take 3) = bs ((l.take 20).take (3 * (j + 1))) := by
            rw [HFq.out, ← bs_append, ← List.take_add, Nat.mul_add]
          rw [hcat] at hown6
          have hf6 : T2.flatten = (l.take 20).drop (3 * (j + 1)) := by rw [hf5, HFq.out, List.drop_drop, Nat.mul_add]
          have HA6 := Lib.hid har6
          have HP6 := Lib.hid hp6
          have HO6 := Lib.hid hown6
          have E6 := Lib.hid hex6
          have HF6 := Lib.hid hf6
          have HB6 := Lib.hid hob6
          have HAP := Lib.hid hap
          have hcs := hs5.le
          have hcm := hs5.max
          unfold maxLen at hcm
          clear har6 hp6 hown6 hex6 hf6 hcat hob6 hap hown5 hp5 hf5 hk5 hs5 hown5b hg6 hat6 hbl5
          go_wp2_with (first | (at_builtin; refine wpList_append_run rfl (.tmp 55) (.tmp 56) _ rfl _ _ rfl rfl _ w6 hrun6 ?_) | fail)
          go_loopw [14] (fun kv wz => ∃ k : Nat, k ≤ m1 ∧ kv = .int .i64 (k : Int) ∧ AnyRow wz Ap m1 ∧ Pip wz F tb cb T2 [((3 : Nat) : Int)] 0 ∧ wz.ownsRow w.heap.size 5 1 (.slice A6 (b + m1) c6) (b + m1) (bs ((l.take 20).take (3 * (j + 1)))) ∧ wz.heap.size = w6.heap.size ∧ Ext w wz) (fun kv _ => m1 - (intOf kv).toNat)
          case atStart => exact ⟨0, by omega, rfl, HA6.out, HP6.out, HO6.out, rfl, E6.out⟩
          case round =>
            obtain ⟨wz, hwz⟩ : ∃ wz, wz = wr := ⟨_, rfl⟩
            subst hwz
            obtain ⟨k, hkm, rfl, har, hp, hown, hsz, ext⟩ := hrel
            have HARz := Lib.hid har
            have HPz := Lib.hid hp
            have HOz := Lib.hid hown
            have EXz := Lib.hid ext
            have HSZz := Lib.hid hsz
            clear har hp hown ext hsz
            by_cases hltk : k < m1
            · obtain ⟨g, v, rfl, hc, hf, hgl, hset⟩ := HARz.out.at_ k hltk
              have HSET := Lib.hid hset
              have hgb := HAP.out _ rfl
              have HGB := Lib.hid hgb
              clear hset hgb
              go_wp2
              go_roundw
              case rel => exact ⟨k + 1, by omega, by go_num, HSET.out _, HPz.out.keep ((Kp.refl F wz).set g k _ (fun q => by have h1 := HF.out g q; have h2 := HGB.out; simp only at h2; omega)), (Kp.set (X := fun q => ¬ q = g) (Kp.refl _ wz) g k _ (fun q => q rfl)).own HOz.out (fun q hq e => (HB6.out q hq).2 _ rfl e), by simp [World.setCell, HSZz.out], EXz.out.setCell (p := ⟨g, k, none⟩) (by have h2 := HGB.out; have := EXq.out.size; simp only at *; omega) _⟩
              case measure => simp [intOf]; omega
            · obtain rfl : k = m1 := by omega
              have hszz := HSZz.out
              go_wp2_with fail
              go_roundw
              case rel => exact ⟨j + 1, T2, b + k, by omega, by go_num, HPz.out, HOz.out, fun q hq => (HB6.out q hq).1, HF6.out, by omega, EXz.out⟩
              case measure => simp [intOf]; omega
        · obtain rfl : j = 9 := by omega
          have hall : (l.take 20).take (3 * 9) = l.take 20 := List.take_of_length_le (by rw [HL20.out]; omega)
          rw [hall] at HSB
          have HSBd : Hid (Sees wq.drew Ab b cb' (bs (l.take 20))) := Lib.hid (HSB.out.ext (Ext.refl wq).drew)
          clear hall
          go_wp2_with fail
          refine wp_region_pl (.free 0 (.free 1 (.free 2 (.free 3 (.free 4 (.free 5 (.one 6 (.free 7 (.free 8 (.free 9 (.free 10 (.one 11 (.free 12 (.free 13 .nil)))))))))))))) (by kernel_rfl) (by kernel_rfl) (by kernel_rfl) (by kernel_rfl) ?_
          iterate 4 (refine pl_val (v := ?_) rfl rfl (fun w' hw' => ?_) ?_; rotate_left; (· skip; go_simp; try with_reducible rfl); simp only [Act.put, List.setIfInBounds_toArray, List.set_cons_zero, List.set_cons_succ])
          refine pl_val (v := .string ⟨(l.take 20).toArray⟩) rfl rfl (fun w' hw' => by have ht := str_of (HSBd.out.ext hw'); go_simp) ?_
          simp only [Act.put, List.setIfInBounds_toArray, List.set_cons_zero, List.set_cons_succ]
          iterate 1 (refine pl_val (v := ?_) rfl rfl (fun w' hw' => ?_) ?_; rotate_left; (· skip; go_simp; try with_reducible rfl); simp only [Act.put, List.setIfInBounds_toArray, List.set_cons_zero, List.set_cons_succ])
          refine pl_call 12 #[.slice A n c, .int .i64 20] rfl rfl (by go_simp) ?_
          refine (few_nat A n c 20 20 (bs l) _ (HS.out.ext (EXq.out.trans (Ext.refl wq).drew)) (bs_one _) (by omega) (by omega) rfl).mono ?_
          rintro e w8 ⟨v8, rfl, hown8, e8⟩
          rw [bs_take] at hown8
          obtain ⟨A8, c8, rfl, hs8⟩ := own_shape hown8
          refine ⟨_, rfl, e8, ?_⟩
          simp only [Act.put, List.setIfInBounds_toArray, List.set_cons_zero, List.set_cons_succ]
          refine pl_val (v := .string ⟨(l.take 20).toArray⟩) rfl rfl (fun w' hw' => by have ht := str_of (hs8.ext hw'); go_simp) ?_
          simp only [Act.put, List.setIfInBounds_toArray, List.set_cons_zero, List.set_cons_succ]
          iterate 3 (refine pl_val (v := ?_) rfl rfl (fun w' hw' => ?_) ?_; rotate_left; (· skip; go_simp; try with_reducible rfl); simp only [Act.put, List.setIfInBounds_toArray, List.set_cons_zero, List.set_cons_succ])
          refine pl_call 20 #[] rfl rfl (by go_simp) ?_
          refine (lives5 w8).mono ?_
          rintro e w9 ⟨rfl, e9⟩
          refine ⟨_, rfl, e9, ?_⟩
          simp only [Act.put, List.setIfInBounds_toArray, List.set_cons_zero, List.set_cons_succ]
          iterate 2 (refine pl_val (v := ?_) rfl rfl (fun w' hw' => ?_) ?_; rotate_left; (· skip; go_simp; try with_reducible rfl); simp only [Act.put, List.setIfInBounds_toArray, List.set_cons_zero, List.set_cons_succ])
          refine pl_done ?_
          have E9 := Lib.hid (((EXq.out.trans (Ext.refl wq).drew).trans e8).trans e9)
          clear e8 e9 hs8 hown8
          go_wp2
          go_ret
          exact ⟨rfl, E9.out⟩
end Go.Proofs.Ytjdcbmelladceaa
