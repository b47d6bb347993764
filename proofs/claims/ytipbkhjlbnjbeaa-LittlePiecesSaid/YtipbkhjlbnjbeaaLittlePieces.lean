/-
  The statement LittlePieces: its walk.
-/
import Derived.Test.YtipbkhjlbnjbeaaLitO
import Derived.Test.YtipbkhjlbnjbeaaLitV
import Derived.Test.YtipbkhjlbnjbeaaSam
import Derived.Test.YtipbkhjlbnjbeaaRws
namespace Go.Proofs.Ytipbkhjlbnjbeaa
open Go Go.RowKit
set_option linter.unusedVariables false
set_option linter.unusedSimpArgs false
theorem lpk_le9 (k t : Nat) (l : List UInt8) : (lpk k t l).length = 7 + l.length := by
  unfold lpk
  simp only [List.length_append, le_length]
/-- What is there behind the first bytes. -/
def PcAt (ow : List UInt8) (at' : Nat) (d : List (List UInt8)) (r : List UInt8) : Prop := d = sL 64 (ow.take at') ∧ r = sR 64 (ow.take at') ∧ sE 64 (ow.take at') = 0
theorem PcAt.start (ow : List UInt8) : PcAt ow 0 [] [] := by
  have h := s_small (m := 64) (l := []) (by simp)
  exact ⟨by rw [List.take_zero, h.1], by rw [List.take_zero, h.2.1], by rw [List.take_zero, h.2.2]⟩
theorem PcAt.short {ow : List UInt8} {a : Nat} {d : List (List UInt8)} {r : List UInt8} (h : PcAt ow a d r) : r.length ≤ 67 := by
  have q := s_rest 64 _ (ow.take a) (Nat.le_refl _) h.2.2
  have e : sR ((64 : Nat) : Int) (ow.take a) = r := h.2.1.symm
  rw [e] at q
  omega
theorem spL_len (f : Nat) (m : Int) : ∀ l : List UInt8, (spL f m l).length ≤ f := by
  induction f with
  | zero => intro l; simp [spL]
  | succ f ih =>
    intro l
    have := ih (l.drop (leV (l.take 4)))
    unfold spL
    split
    · simp
    · split
      · simp
      · split
        · simp
        · split
          · simp
          · simp; omega
theorem sL_len (m : Int) (l : List UInt8) : (sL m l).length ≤ l.length := spL_len _ _ _
theorem take_next (ow : List UInt8) (a k : Nat) : ow.take (a + k) = ow.take a ++ (ow.drop a).take k := by
  rw [List.take_add]
theorem PcAt.next {ow : List UInt8} {a : Nat} {d : List (List UInt8)} {r : List UInt8} (h : PcAt ow a d r) (k : Nat) (he : sE 64 (r ++ (ow.drop a).take k) = 0) : PcAt ow (a + k) (d ++ sL 64 (r ++ (ow.drop a).take k)) (sR 64 (r ++ (ow.drop a).take k)) := by
  obtain ⟨h1, h2, h3⟩ := h
  obtain ⟨q1, q2, q3⟩ := s_app 64 ((ow.drop a).take k) _ (ow.take a) (Nat.le_refl _) h3
  rw [← h2] at q1 q2 q3
  rw [← h1] at q1
  exact ⟨by rw [take_next, q1], by rw [take_next, q2], by rw [take_next, q3]; exact he⟩
theorem PcAt.err {ow : List UInt8} {a : Nat} {d : List (List UInt8)} {r : List UInt8} (h : PcAt ow a d r) (k : Nat) (he : sE 64 (r ++ (ow.drop a).take k) ≠ 0) :
    sL 64 ow = d ++ sL 64 (r ++ (ow.drop a).take k) ∧ sE 64 ow = sE 64 (r ++ (ow.drop a).take k) ∧ sR 64 (r ++ (ow.drop a).take k) = [] := by
  obtain ⟨h1, h2, h3⟩ := h
  obtain ⟨q1, q2, q3⟩ := s_app 64 ((ow.drop a).take k) _ (ow.take a) (Nat.le_refl _) h3
  rw [← h2] at q1 q2 q3
  rw [← h1] at q1
  rw [← take_next] at q1 q2 q3
  obtain ⟨p1, p2, p3⟩ := s_err 64 (ow.drop (a + k)) _ (ow.take (a + k)) (Nat.le_refl _) (by rw [q3]; exact he)
  rw [List.take_append_drop] at p1 p2
  exact ⟨by rw [p1, q1], by rw [p2, q3], by rw [← q2]; exact p3⟩
theorem PcAt.all {ow : List UInt8} {d : List (List UInt8)} {r : List UInt8} (h : PcAt ow ow.length d r) : sL 64 ow = d ∧ sR 64 ow = r ∧ sE 64 ow = 0 := by
  obtain ⟨h1, h2, h3⟩ := h
  rw [List.take_length] at h1 h2 h3
  exact ⟨h1.symm, h2.symm, h3⟩
set_option maxHeartbeats 40000000 in
set_option maxRecDepth 20000 in
theorem lpieces_walk (A0 A1 A2 : Option Addr) (n0 c0 n1 c1 n2 c2 : Nat) (rows : List (List Int)) (l1 : List UInt8) (l2 : List Int) (w : World) (hs0 : SeesRows .u8 w A0 n0 c0 rows) (hs1 : Sees w A1 n1 c1 (bs l1)) (hs2 : Sees w A2 n2 c2 (l2.map (Value.int .i64))) (hq2 : ∀ n ∈ l2, (Lit.int .i64 n).wf = true) :
    Calls Try.prog 8 #[.slice A0 n0 c0, .slice A1 n1 c1, .slice A2 n2 c2] w fun e w' => e = .returned (.bool true) ∧ Ext w w' := by
  obtain ⟨i0, hi, hz0, hz1, hz2⟩ := info_parts infoB
  have hn0 := hs0.2.1
  have hmx0 := hs0.2.2.1
  unfold maxLen at hmx0
  have hn2 := hs2.le
  have hmx2 := hs2.max
  unfold maxLen at hmx2
  have HS0 := Lib.hid hs0
  have HS1 := Lib.hid hs1
  have HS2 := Lib.hid hs2
  have HQ2 := Lib.hid hq2
  clear hs0 hs1 hs2 hq2
  go_enter Try.func8, Try.ntmps8
  go_wp2_with fail
  go_loopw [7, 8] (fun v i wr => ∃ (k : Nat) (ol : List UInt8), k ≤ 5 ∧ i = .int .i64 k ∧ wr.ownsRow w.heap.size 5 1 v ol.length (bs ol) ∧ ol.length ≤ 20 * k ∧ Ext w wr) (fun _ i _ => 5 - (intOf i).toNat)
  case atStart => exact ⟨0, [], by omega, rfl, World.ownsRow_nil _ _ _ _, by simp, Ext.refl _⟩
  case round =>
    obtain ⟨k, ol, hk, rfl, own, hol, ext⟩ := hrel
    have Own := Lib.hid own
    have EX := Lib.hid ext
    clear own ext
    by_cases hlt : k < n0 ∧ k < 5
    · obtain ⟨hlt1, hlt2⟩ := hlt
      obtain ⟨b, off, A', c', r, hA, hr, hcell, seer, hqr⟩ := (HS0.out.ext EX.out).at_ k hlt1
      subst hA
      rw [ints_bytes hqr] at seer
      generalize (r.map fun n => UInt8.ofNat n.toNat) = rb at *
      have SeeR := Lib.hid seer
      clear seer hr hqr
      go_wp2_with fail
      refine (few_nat A' _ c' _ 12 _ _ SeeR.out (bs_one _) (by omega) (by omega) rfl).mono ?_
      rintro e w2 ⟨v2, rfl, own2, e2⟩
      rw [bs_take] at own2
      obtain ⟨A2', c2', rfl, see2⟩ := Sees.of_own own2
      have hlb : (rb.take 12).length ≤ 12 := by rw [List.length_take]; omega
      generalize rb.take 12 = tb at *
      generalize hM : min r.length 12 = M at *
      have hM12 : M ≤ 12 := by omega
      have HP := Lib.hid (rpack_any (100 + k) k A2' M c2' tb w2 see2 (by omega) (by omega) (by omega))
      rw [show (((100 + k : Nat)) : Int) = 100 + (k : Int) from by omega] at HP
      have O2 := Lib.hid (own_ext Own.out e2)
      have E2 := Lib.hid (EX.out.trans e2)
      clear own2 see2 e2 hM hcell
      go_wp2_with fail
      refine (HP.out).mono ?_
      rintro e w3 ⟨v3, rfl, own3, e3⟩
      have hpl := lpk_le9 (100 + k) k tb
      generalize lpk (100 + k) k tb = pk at *
      have hpl2 : pk.length ≤ 20 := by omega
      clear hpl hlb
      obtain ⟨A3, c3, rfl, see3⟩ := Sees.of_own own3
      have own4 := own_ext O2.out e3
      have ext4 := E2.out.trans e3
      obtain ⟨v5, w5, hrun, own5, hg5, _⟩ := run_append_sees (P := Try.prog) (w := w3) w.heap.size 22 22 5 i0 _ 1 Try.underlying22 hi hz0 hz1 hz2 rfl _ _ _ own4 _ _ _ _ see3 (bs_one _) (by unfold maxLen; omega) (by omega) ext4.size
      rw [← bs_append, ← List.length_append] at own5
      have O5 := Lib.hid own5
      have E5 := Lib.hid (ext4.grown hg5 fun k hk => (own4.lt k hk).1)
      clear own3 own4 own5 see3 hg5 e3 ext4
      go_wp2_with (first | (at_builtin; refine wpList_append_run rfl (.tmp 29) (.tmp 38) _ rfl _ _ rfl rfl v5 w5 hrun ?_) | fail)
      go_roundw
      case rel => exact ⟨k + 1, ol ++ pk, by omega, by go_num, O5.out, by rw [List.length_append]; omega, E5.out⟩
      case measure => simp [intOf]; omega
    · have HJ : Hid (¬ (k < n0 ∧ k < 5)) := Lib.hid hlt
      have hol8 : ol.length ≤ 100 := by omega
      have hcases : (¬ k < n0) ∨ (k < n0 ∧ ¬ k < 5) := by omega
      clear hlt
      rcases hcases with hlt | ⟨hlt, hlt2⟩
      all_goals
        go_wp2_with fail
        refine (few_nat A1 n1 c1 _ 9 _ _ (HS1.out.ext EX.out) (bs_one _) (by omega) (by omega) rfl).mono ?_
        rintro e w2 ⟨v2, rfl, own2, e2⟩
        rw [bs_take] at own2
        have hlt9 : (l1.take 9).length ≤ 9 := by rw [List.length_take]; omega
        generalize l1.take 9 = tl at *
        generalize hM : min n1 9 = M at *
        have hM9 : M ≤ 9 := by omega
        obtain ⟨A3, c3, rfl, see3⟩ := Sees.of_own own2
        have own4 := own_ext Own.out e2
        have ext4 := EX.out.trans e2
        obtain ⟨v5, w5, hrun, own5, hg5, _⟩ := run_append_sees (P := Try.prog) (w := w2) w.heap.size 22 22 5 i0 _ 1 Try.underlying22 hi hz0 hz1 hz2 rfl _ _ _ own4 _ _ _ _ see3 (bs_one _) (by unfold maxLen; omega) (by omega) ext4.size
        rw [← bs_append] at own5
        have e5 := ext4.grown hg5 fun k hk => (own4.lt k hk).1
        have htm : tl.length = M := by have := see3.len; rw [bs_length] at this; exact this
        obtain ⟨ow, how⟩ : ∃ ow, ow = ol ++ tl := ⟨_, rfl⟩
        have howl : ow.length = ol.length + M := by rw [how, List.length_append, htm]
        rw [← how, ← howl] at own5
        have how9 : ow.length ≤ 109 := by omega
        obtain ⟨AO, cO, rfl, seeO⟩ := Sees.of_own own5
        have SeeO := Lib.hid seeO
        have E5 := Lib.hid e5
        have hcO := seeO.le
        have hcm := seeO.max
        unfold maxLen at hcm
        have HW := Lib.hid (rsplit_any AO ow.length cO ow 64 w5 seeO (by omega) (by omega) (by omega))
        clear own2 own4 own5 see3 hg5 e2 ext4 how howl htm hM seeO e5
        go_wp2_with (first | (at_builtin; refine wpList_append_run rfl (.tmp 40) (.tmp 42) _ rfl _ _ rfl rfl _ w5 hrun ?_) | fail)
        refine (HW.out).mono ?_
        rintro e w6 ⟨vw, AW, nW, cW, rfl, ownW, seeW, e6⟩
        obtain ⟨AL, cL, rfl, -⟩ := ownW.sees
        clear hrun HW Own EX
        generalize hds : spL ow.length 64 ow = ds at *
        generalize hrr : spR ow.length 64 ow = rr at *
        generalize hee : spE ow.length 64 ow = ee at *
        have HDS := Lib.hid (show sL 64 ow = ds from hds)
        have HRR := Lib.hid (show sR 64 ow = rr from hrr)
        have HEE := Lib.hid (show sE 64 ow = ee from hee)
        have hg7 := heap_alloc_new w6 (.cells #[.slice AL ds.length cL, .slice AW nW cW, .int .i64 ee] 70)
        have e7 : Ext w6 (w6.alloc (.cells #[.slice AL ds.length cL, .slice AW nW cW, .int .i64 ee] 70)) := (Ext.refl w6).alloc _
        have OW := Lib.hid (ownW.ext e7)
        have SW := Lib.hid (seeW.ext e7)
        have SO := Lib.hid (SeeO.out.ext (e6.trans e7))
        have E7 := Lib.hid (E5.out.trans (e6.trans e7))
        clear hds hrr hee ownW seeW e6 e7 E5 SeeO
        go_wp2_with fail
        generalize w6.alloc (.cells #[.slice AL ds.length cL, .slice AW nW cW, .int .i64 ee] 70) = w7 at *
        generalize w6.heap.size = g7 at *
        have HB := Lib.hid (show ∀ w', Ext w7 w' → w'.cell? ⟨g7, 0, none⟩ = some (.slice AL ds.length cL) ∧ w'.cell? ⟨g7, 1, none⟩ = some (.slice AW nW cW) ∧ w'.cell? ⟨g7, 2, none⟩ = some (.int .i64 ee) from fun w' h => by
          have hk := h.heap hg7
          exact ⟨by rw [cell_of_row _ _ 0 _ _ _ hk]; rfl, by rw [cell_of_row _ _ 1 _ _ _ hk]; rfl, by rw [cell_of_row _ _ 2 _ _ _ hk]; rfl⟩)
        clear hg7
        go_loopw [10, 11, 12, 13] (fun v q a i wr => ∃ (at' j : Nat) (d : List (List UInt8)) (r : List UInt8) (Ar : Option Addr) (nr cr : Nat), a = .int .i64 at' ∧ i = .int .i64 j ∧ q = .slice Ar nr cr ∧ at' ≤ ow.length ∧ j / 9 ≤ at' ∧ PcAt ow at' d r ∧ OwnL wr w7.heap.size w7.heap.size v d ∧ Sees wr Ar nr cr (bs r) ∧ Ext w7 wr) (fun _ _ a i _ => 9 * (ow.length - (intOf a).toNat) + (8 - (intOf i).toNat % 9))
        case atStart => exact ⟨0, 0, [], [], none, 0, 0, rfl, rfl, rfl, by omega, by omega, PcAt.start ow, OwnL.nil _ _ _, Sees.nil _, Ext.refl _⟩
        case round =>
          obtain ⟨at', j, d, r, Ar, nr, cr, rfl, rfl, rfl, hat, hj9, pc, own, seer, ext⟩ := hrel
          have PC := Lib.hid pc
          have OWN := Lib.hid own
          have SR := Lib.hid seer
          have EX := Lib.hid ext
          have hrs := pc.short
          have hdl : d.length ≤ 109 := by
            have h1 := sL_len 64 (ow.take at')
            rw [← pc.1, List.length_take] at h1
            omega
          have hnr : r.length = nr := by have := seer.len; rw [bs_length] at this; exact this
          clear pc own seer ext
          by_cases hlt : at' < ow.length
          · by_cases h2 : 0 < n2
            · obtain ⟨b2, off2, u2, hA2, hu2, hc2, _⟩ := (HS2.out.ext (E7.out.trans EX.out)).at_ (show j % n2 < n2 from Nat.mod_lt _ h2)
              rw [List.getElem?_map] at hu2
              have hl2 : l2.length = n2 := by have := HS2.out.len; rw [List.length_map] at this; exact this
              obtain ⟨x, hx⟩ : ∃ x, l2[j % n2]? = some x := ⟨l2[j % n2]'(by rw [hl2]; exact Nat.mod_lt _ h2), List.getElem?_eq_getElem _⟩
              have hxw := HQ2.out x (List.mem_of_getElem? hx)
              rw [hx] at hu2
              simp at hu2
              subst hu2
              subst hA2
              have hxb := bounds_i64 hxw
              obtain ⟨jm, hjm⟩ : ∃ jm, jm = j % n2 := ⟨_, rfl⟩
              have hjm1 : (j : Int) % (n2 : Int) = (jm : Int) := by rw [hjm]; exact (Int.natCast_emod j n2).symm
              have hjm2 : jm < n2 := by rw [hjm]; exact Nat.mod_lt _ h2
              rw [← hjm] at hc2
              have HAr := Lib.hid (fun w => around_any x 13 w hxb.1 hxb.2 (by omega) (by omega))
              obtain ⟨z0, z1⟩ := aroundZ_bound x 13 (by omega)
              obtain ⟨N13, hN13⟩ := Int.eq_ofNat_of_zero_le z0
              rw [hN13] at HAr z0 z1
              clear hN13 hxb hxw hx hjm hl2
              go_wp2_with fail
              refine (HAr.out _).mono ?_
              rintro e wA ⟨rfl, rfl⟩
              clear hjm1 hc2 z0
              by_cases h8 : j % 9 = 8
              · have h8b : ((j : Int) % 9 == 8) = true := by rw [beq_iff_eq]; omega
                by_cases h13 : N13 = 0
                · subst h13
                  obtain ⟨kk, hkk⟩ : ∃ kk, kk = 1 := ⟨_, rfl⟩
                  have hkk1 : (at' : Int) + 1 = ((at' + kk : Nat) : Int) := by omega
                  have hkk2 : at' + kk ≤ ow.length := by omega
                  have hkk3 : kk = 0 → j % 9 ≠ 8 := by omega
                  obtain ⟨q, hq⟩ : ∃ q, q = (ow.drop at').take kk := ⟨_, rfl⟩
                  have hql : q.length = kk := by rw [hq, List.length_take, List.length_drop]; omega
                  have hsq := (SO.out.drop at' (by omega) (by omega)).take kk (by omega)
                  rw [bs_drop, bs_take, ← hq] at hsq
                  obtain ⟨bO, oO, uO, hAO, _, _, _⟩ := SO.out.at_ hlt
                  subst hAO
                  simp only [Option.map_some, addr_add] at hsq
                  have SQ := Lib.hid hsq
                  have HF := Lib.hid (fun (w : World) (hs : Sees w Ar nr cr (bs r)) => few_nat Ar nr cr 200 200 (bs r) w hs (bs_one _) (by decide) (by decide) rfl)
                  simp only [bs_take, List.take_of_length_le (show r.length ≤ 200 by omega), show min nr 200 = nr by omega] at HF
                  have HNX := Lib.hid (PC.out.next kk)
                  have HER := Lib.hid (PC.out.err kk)
                  rw [← hq] at HNX HER
                  have hrl : (r ++ q).length = nr + kk := by rw [List.length_append, hql, hnr]
                  have hp1 : spL (nr + kk) 64 (r ++ q) = sL 64 (r ++ q) := by rw [← hrl]; rfl
                  have hp2 : spR (nr + kk) 64 (r ++ q) = sR 64 (r ++ q) := by rw [← hrl]; rfl
                  have hp3 : spE (nr + kk) 64 (r ++ q) = sE 64 (r ++ q) := by rw [← hrl]; rfl
                  have hsl := sL_len 64 (r ++ q)
                  have HP := Lib.hid (And.intro hp1 (And.intro hp2 hp3))
                  have hnr67 : nr ≤ 67 := by omega
                  have hk13 : kk ≤ 13 := by omega
                  have HRL := Lib.hid hrl
                  have HK1 := Lib.hid hkk1
                  have hdsq : d.length + (sL 64 (r ++ q)).length ≤ 1000 := by rw [hrl] at hsl; omega
                  have HJ9 := Lib.hid (show (j + 1) / 9 ≤ at' + kk by omega)
                  have HMS := Lib.hid (show 9 * (ow.length - (at' + kk)) + (8 - (j + 1) % 9) < 9 * (ow.length - at') + (8 - j % 9) by omega)
                  clear hq hsq hp1 hp2 hp3 hrl hkk1 hql hnr hsl hrs
                  try clear hkk
                  go_wp2_with fail
                  try rw [HK1.out]
                  refine wp_region_plS (Ext wr.drew) (.free 0 (.free 2 (.free 3 (.free 4 (.free 5 (.one 1 (.one 6 (.one 7 (.free 8 (.free 9 (.free 10 (.free 11 (.free 12 (.free 13 (.free 14 .nil))))))))))))))) (by kernel_rfl) (by kernel_rfl) (by kernel_rfl) (by kernel_rfl) ?_
                  iterate 4 (refine plS_val (v := ?_) rfl rfl (by first | exact Ext.refl _ | assumption) (fun w' hw' => ?_) ?_; rotate_left; (· go_simp; try with_reducible rfl); simp only [Act.put, List.setIfInBounds_toArray, List.set_cons_zero, List.set_cons_succ])
                  refine plS_val (v := .slice (some ⟨bO, oO + at', none⟩) kk (cO - at')) rfl rfl (by first | exact Ext.refl _ | assumption) (fun w' hw' => ?_) ?_
                  · go_simp
                    rw [if_pos (show (0 : Int) ≤ (at' : Int) + (kk : Int) ∧ (at' : Int) + (kk : Int) ≤ (cO : Int) from ⟨by omega, by omega⟩), if_pos (show at' ≤ ((at' : Int) + (kk : Int)).toNat by omega), if_neg (show ¬ cO = at' by omega), show ((at' : Int) + (kk : Int)).toNat - at' = kk by omega]
                  simp only [Act.put, List.setIfInBounds_toArray, List.set_cons_zero, List.set_cons_succ]
                  refine plS_call 15 #[.slice Ar nr cr, .int .i64 200] rfl rfl (by go_simp) ?_
                  refine (HF.out _ SR.out.drew).mono ?_
                  rintro e w8 ⟨v8, rfl, own8, e8⟩
                  refine ⟨_, rfl, e8, ?_⟩
                  simp only [Act.put, List.setIfInBounds_toArray, List.set_cons_zero, List.set_cons_succ]
                  obtain ⟨v9, w9, hrun9, own9, hg9, _⟩ := run_append_sees (P := Try.prog) (w := w8) wr.drew.heap.size 22 22 5 i0 _ 1 Try.underlying22 hi hz0 hz1 hz2 rfl _ _ _ own8 _ _ _ _ (SQ.out.ext (EX.out.drew.trans e8)) (bs_one _) (by unfold maxLen; omega) (by omega) e8.size
                  have e9 : Ext wr.drew w9 := e8.grown hg9 fun k hk => (own8.lt k hk).1
                  rw [← bs_append] at own9
                  refine plS_run (w' := w9) _ rfl rfl (exec_append (.tmp 76) (.tmp 80) _ rfl _ _ rfl rfl _ _ hrun9) e9 ?_
                  simp only [Act.put, List.setIfInBounds_toArray, List.set_cons_zero, List.set_cons_succ]
                  obtain ⟨A9, c9, rfl, see9⟩ := Sees.of_own own9
                  have HLS := Lib.hid (lsplitL_any A9 (nr + kk) c9 (r ++ q) 64 w9 see9 (by omega) (by omega) (by omega))
                  rw [HP.out.1, HP.out.2.1, HP.out.2.2] at HLS
                  have B9 : wr.heap.size ≤ w9.heap.size := e9.size
                  clear own8 own9 hg9 hrun9 see9 e8
                  refine plS_call 57 #[.slice A9 (nr + kk) c9, .int .i64 64] rfl rfl (by go_simp) ?_
                  refine (HLS.out).mono ?_
                  rintro e w10 ⟨v1, v2, kR, rfl, ownS, ownR, e10'⟩
                  have e10 : Ext wr.drew w10 := e9.trans e10'
                  obtain ⟨vsS, ownS1, ownS2⟩ := ownS
                  obtain ⟨AS, cS, rfl, seeS⟩ := Sees.of_own ownS1
                  obtain ⟨AR, cR, rfl, seeR⟩ := Sees.of_own ownR
                  have hlowR := own_low (lo := w9.heap.size) ownR rfl (Nat.le_refl _)
                  refine ⟨_, rfl, e10, ?_⟩
                  simp only [Act.put, List.setIfInBounds_toArray, List.set_cons_zero, List.set_cons_succ]
                  iterate 7 (refine plS_val (v := ?_) rfl rfl (by first | exact Ext.refl _ | assumption) (fun w' hw' => ?_) ?_; rotate_left; (· go_simp; try with_reducible rfl); simp only [Act.put, List.setIfInBounds_toArray, List.set_cons_zero, List.set_cons_succ])
                  refine plS_done ?_
                  have ownv := OWN.out.lt
                  obtain ⟨v11, w11, hrun11, own11, hg11⟩ := ownL_app (OWN.out.ext ((Ext.refl wr).drew.trans e10)) (by have := EX.out.size; have := e10.size; simp at this; omega) hdsq seeS seeS.len (fun j' r' hr' => by
                    obtain ⟨u, h3, ⟨A', n', c', rfl, h5, _⟩, h7⟩ := ownS2 j' r' hr'
                    exact ⟨_, h3, ⟨A', n', c', rfl, h5, fun a hA hn heq => by
                      have g1 := (ownv _ heq).2
                      have g2 := h7 a n' c' (by rw [hA]) hn
                      omega⟩, fun a n c hu hn => by
                      have g2 := h7 a n c hu hn
                      have := EX.out.size
                      omega⟩)
                  have E11 := Lib.hid (show Ext w7 w11 from (EX.out.drew.trans e10).grown hg11 fun k hk => (ownv k hk).1)
                  have SR11 := Lib.hid (seeR.grown hg11 fun a hA hn heq => by
                    have g1 := (ownv _ heq).2
                    have g2 := hlowR a hA hn
                    omega)
                  have OWN11 := Lib.hid own11
                  have HRUN := Lib.hid hrun11
                  clear seeS ownS1 ownS2 ownR seeR hlowR hg11 hrun11 own11 e10 e10' e9 HLS HF HP ownv hdsq
                  obtain ⟨Aq, cq, rfl, -⟩ := OWN11.out.toB.sees
                  by_cases her : sE 64 (r ++ q) = 0
                  · have HX := Lib.hid (HNX.out her)
                    clear HNX HER
                    generalize sL 64 (r ++ q) = ls at *
                    generalize sR 64 (r ++ q) = rs at *
                    generalize sE 64 (r ++ q) = er at *
                    subst her
                    generalize d ++ ls = dd at *
                    try clear hkk3
                    try clear h8
                    try clear h8b
                    try clear hmn
                    try clear h13
                    go_wp2_with (first | (at_builtin; refine wpList_append_run rfl (.tmp 86) (.tmp 87) _ rfl _ _ rfl rfl _ w11 HRUN.out ?_) | fail)
                    go_roundw
                    case rel => exact ⟨at' + kk, j + 1, _, _, _, _, _, by go_num, by go_num, rfl, hkk2, HJ9.out, HX.out, OWN11.out, SR11.out, E11.out⟩
                    case measure =>
                      have := HMS.out
                      simp [intOf]
                      omega
                  · have HX := HER.out her
                    clear HNX HER
                    generalize sL 64 (r ++ q) = ls at *
                    generalize sR 64 (r ++ q) = rs at *
                    generalize sE 64 (r ++ q) = er at *
                    obtain ⟨x1, x2, x3⟩ := HX
                    rw [HDS.out] at x1
                    rw [HEE.out] at x2
                    rw [← x1] at OWN11 HRUN
                    clear x1
                    subst x2 x3
                    have hkR : kR = 0 := by have := SR11.out.len; simp [bs] at this; omega
                    subst hkR
                    have her2 : (ee == 0) = false := by rw [beq_eq_false_iff_ne]; exact her
                    clear her
                    obtain ⟨g0, g1, g2⟩ := HB.out _ E11.out
                    obtain ⟨Aq2, cq2, hvq2, seeq2⟩ := (OW.out.ext E11.out).sees
                    injection hvq2 with q4 q5 q6
                    subst q4 q6
                    obtain ⟨Aq3, cq3, hvq3, seeq⟩ := OWN11.out.toB.sees
                    injection hvq3 with q7 q8 q9
                    subst q7 q9
                    have HSame := Lib.hid (sameB_eq _ _ _ _ _ _ _ seeq seeq2)
                    clear seeq seeq2 q5 q8
                    go_wp2_with (first | (at_builtin; refine wpList_append_run rfl (.tmp 86) (.tmp 87) _ rfl _ _ rfl rfl _ w11 HRUN.out ?_) | fail)
                    refine (HSame.out).mono ?_
                    rintro e w12 ⟨rfl, e12⟩
                    have E12 := Lib.hid (E11.out.trans e12)
                    clear e12
                    go_wp2_with fail
                    refine (littleLives_any _).mono ?_
                    rintro e w13 ⟨rfl, e13⟩
                    go_wp2
                    go_ret
                    exact ⟨rfl, (E7.out.trans E12.out).trans e13⟩
                · have h13b : ¬ N13 < 1 := by omega
                  rcases Nat.lt_or_ge ow.length (at' + N13) with hmn | hmn
                  · have hmn2 := hmn
                    obtain ⟨kk, hkk⟩ : ∃ kk, kk = ow.length - at' := ⟨_, rfl⟩
                    have hkk1 : (ow.length : Int) = ((at' + kk : Nat) : Int) := by omega
                    have hkk2 : at' + kk ≤ ow.length := by omega
                    have hkk3 : kk = 0 → j % 9 ≠ 8 := by omega
                    obtain ⟨q, hq⟩ : ∃ q, q = (ow.drop at').take kk := ⟨_, rfl⟩
                    have hql : q.length = kk := by rw [hq, List.length_take, List.length_drop]; omega
                    have hsq := (SO.out.drop at' (by omega) (by omega)).take kk (by omega)
                    rw [bs_drop, bs_take, ← hq] at hsq
                    obtain ⟨bO, oO, uO, hAO, _, _, _⟩ := SO.out.at_ hlt
                    subst hAO
                    simp only [Option.map_some, addr_add] at hsq
                    have SQ := Lib.hid hsq
                    have HF := Lib.hid (fun (w : World) (hs : Sees w Ar nr cr (bs r)) => few_nat Ar nr cr 200 200 (bs r) w hs (bs_one _) (by decide) (by decide) rfl)
                    simp only [bs_take, List.take_of_length_le (show r.length ≤ 200 by omega), show min nr 200 = nr by omega] at HF
                    have HNX := Lib.hid (PC.out.next kk)
                    have HER := Lib.hid (PC.out.err kk)
                    rw [← hq] at HNX HER
                    have hrl : (r ++ q).length = nr + kk := by rw [List.length_append, hql, hnr]
                    have hp1 : spL (nr + kk) 64 (r ++ q) = sL 64 (r ++ q) := by rw [← hrl]; rfl
                    have hp2 : spR (nr + kk) 64 (r ++ q) = sR 64 (r ++ q) := by rw [← hrl]; rfl
                    have hp3 : spE (nr + kk) 64 (r ++ q) = sE 64 (r ++ q) := by rw [← hrl]; rfl
                    have hsl := sL_len 64 (r ++ q)
                    have HP := Lib.hid (And.intro hp1 (And.intro hp2 hp3))
                    have hnr67 : nr ≤ 67 := by omega
                    have hk13 : kk ≤ 13 := by omega
                    have HRL := Lib.hid hrl
                    have HK1 := Lib.hid hkk1
                    have hdsq : d.length + (sL 64 (r ++ q)).length ≤ 1000 := by rw [hrl] at hsl; omega
                    have HJ9 := Lib.hid (show (j + 1) / 9 ≤ at' + kk by omega)
                    have HMS := Lib.hid (show 9 * (ow.length - (at' + kk)) + (8 - (j + 1) % 9) < 9 * (ow.length - at') + (8 - j % 9) by omega)
                    clear hq hsq hp1 hp2 hp3 hrl hkk1 hql hnr hsl hrs
                    try clear hkk
                    go_wp2_with fail
                    try rw [HK1.out]
                    refine wp_region_plS (Ext wr.drew) (.free 0 (.free 2 (.free 3 (.free 4 (.free 5 (.one 1 (.one 6 (.one 7 (.free 8 (.free 9 (.free 10 (.free 11 (.free 12 (.free 13 (.free 14 .nil))))))))))))))) (by kernel_rfl) (by kernel_rfl) (by kernel_rfl) (by kernel_rfl) ?_
                    iterate 4 (refine plS_val (v := ?_) rfl rfl (by first | exact Ext.refl _ | assumption) (fun w' hw' => ?_) ?_; rotate_left; (· go_simp; try with_reducible rfl); simp only [Act.put, List.setIfInBounds_toArray, List.set_cons_zero, List.set_cons_succ])
                    refine plS_val (v := .slice (some ⟨bO, oO + at', none⟩) kk (cO - at')) rfl rfl (by first | exact Ext.refl _ | assumption) (fun w' hw' => ?_) ?_
                    · go_simp
                      rw [if_pos (show (0 : Int) ≤ (at' : Int) + (kk : Int) ∧ (at' : Int) + (kk : Int) ≤ (cO : Int) from ⟨by omega, by omega⟩), if_pos (show at' ≤ ((at' : Int) + (kk : Int)).toNat by omega), if_neg (show ¬ cO = at' by omega), show ((at' : Int) + (kk : Int)).toNat - at' = kk by omega]
                    simp only [Act.put, List.setIfInBounds_toArray, List.set_cons_zero, List.set_cons_succ]
                    refine plS_call 15 #[.slice Ar nr cr, .int .i64 200] rfl rfl (by go_simp) ?_
                    refine (HF.out _ SR.out.drew).mono ?_
                    rintro e w8 ⟨v8, rfl, own8, e8⟩
                    refine ⟨_, rfl, e8, ?_⟩
                    simp only [Act.put, List.setIfInBounds_toArray, List.set_cons_zero, List.set_cons_succ]
                    obtain ⟨v9, w9, hrun9, own9, hg9, _⟩ := run_append_sees (P := Try.prog) (w := w8) wr.drew.heap.size 22 22 5 i0 _ 1 Try.underlying22 hi hz0 hz1 hz2 rfl _ _ _ own8 _ _ _ _ (SQ.out.ext (EX.out.drew.trans e8)) (bs_one _) (by unfold maxLen; omega) (by omega) e8.size
                    have e9 : Ext wr.drew w9 := e8.grown hg9 fun k hk => (own8.lt k hk).1
                    rw [← bs_append] at own9
                    refine plS_run (w' := w9) _ rfl rfl (exec_append (.tmp 76) (.tmp 80) _ rfl _ _ rfl rfl _ _ hrun9) e9 ?_
                    simp only [Act.put, List.setIfInBounds_toArray, List.set_cons_zero, List.set_cons_succ]
                    obtain ⟨A9, c9, rfl, see9⟩ := Sees.of_own own9
                    have HLS := Lib.hid (lsplitL_any A9 (nr + kk) c9 (r ++ q) 64 w9 see9 (by omega) (by omega) (by omega))
                    rw [HP.out.1, HP.out.2.1, HP.out.2.2] at HLS
                    have B9 : wr.heap.size ≤ w9.heap.size := e9.size
                    clear own8 own9 hg9 hrun9 see9 e8
                    refine plS_call 57 #[.slice A9 (nr + kk) c9, .int .i64 64] rfl rfl (by go_simp) ?_
                    refine (HLS.out).mono ?_
                    rintro e w10 ⟨v1, v2, kR, rfl, ownS, ownR, e10'⟩
                    have e10 : Ext wr.drew w10 := e9.trans e10'
                    obtain ⟨vsS, ownS1, ownS2⟩ := ownS
                    obtain ⟨AS, cS, rfl, seeS⟩ := Sees.of_own ownS1
                    obtain ⟨AR, cR, rfl, seeR⟩ := Sees.of_own ownR
                    have hlowR := own_low (lo := w9.heap.size) ownR rfl (Nat.le_refl _)
                    refine ⟨_, rfl, e10, ?_⟩
                    simp only [Act.put, List.setIfInBounds_toArray, List.set_cons_zero, List.set_cons_succ]
                    iterate 7 (refine plS_val (v := ?_) rfl rfl (by first | exact Ext.refl _ | assumption) (fun w' hw' => ?_) ?_; rotate_left; (· go_simp; try with_reducible rfl); simp only [Act.put, List.setIfInBounds_toArray, List.set_cons_zero, List.set_cons_succ])
                    refine plS_done ?_
                    have ownv := OWN.out.lt
                    obtain ⟨v11, w11, hrun11, own11, hg11⟩ := ownL_app (OWN.out.ext ((Ext.refl wr).drew.trans e10)) (by have := EX.out.size; have := e10.size; simp at this; omega) hdsq seeS seeS.len (fun j' r' hr' => by
                      obtain ⟨u, h3, ⟨A', n', c', rfl, h5, _⟩, h7⟩ := ownS2 j' r' hr'
                      exact ⟨_, h3, ⟨A', n', c', rfl, h5, fun a hA hn heq => by
                        have g1 := (ownv _ heq).2
                        have g2 := h7 a n' c' (by rw [hA]) hn
                        omega⟩, fun a n c hu hn => by
                        have g2 := h7 a n c hu hn
                        have := EX.out.size
                        omega⟩)
                    have E11 := Lib.hid (show Ext w7 w11 from (EX.out.drew.trans e10).grown hg11 fun k hk => (ownv k hk).1)
                    have SR11 := Lib.hid (seeR.grown hg11 fun a hA hn heq => by
                      have g1 := (ownv _ heq).2
                      have g2 := hlowR a hA hn
                      omega)
                    have OWN11 := Lib.hid own11
                    have HRUN := Lib.hid hrun11
                    clear seeS ownS1 ownS2 ownR seeR hlowR hg11 hrun11 own11 e10 e10' e9 HLS HF HP ownv hdsq
                    obtain ⟨Aq, cq, rfl, -⟩ := OWN11.out.toB.sees
                    by_cases her : sE 64 (r ++ q) = 0
                    · have HX := Lib.hid (HNX.out her)
                      clear HNX HER
                      generalize sL 64 (r ++ q) = ls at *
                      generalize sR 64 (r ++ q) = rs at *
                      generalize sE 64 (r ++ q) = er at *
                      subst her
                      generalize d ++ ls = dd at *
                      try clear hkk3
                      try clear h8
                      try clear h8b
                      try clear hmn
                      try clear h13
                      go_wp2_with (first | (at_builtin; refine wpList_append_run rfl (.tmp 86) (.tmp 87) _ rfl _ _ rfl rfl _ w11 HRUN.out ?_) | fail)
                      go_roundw
                      case rel => exact ⟨at' + kk, j + 1, _, _, _, _, _, by go_num, by go_num, rfl, hkk2, HJ9.out, HX.out, OWN11.out, SR11.out, E11.out⟩
                      case measure =>
                        have := HMS.out
                        simp [intOf]
                        omega
                    · have HX := HER.out her
                      clear HNX HER
                      generalize sL 64 (r ++ q) = ls at *
                      generalize sR 64 (r ++ q) = rs at *
                      generalize sE 64 (r ++ q) = er at *
                      obtain ⟨x1, x2, x3⟩ := HX
                      rw [HDS.out] at x1
                      rw [HEE.out] at x2
                      rw [← x1] at OWN11 HRUN
                      clear x1
                      subst x2 x3
                      have hkR : kR = 0 := by have := SR11.out.len; simp [bs] at this; omega
                      subst hkR
                      have her2 : (ee == 0) = false := by rw [beq_eq_false_iff_ne]; exact her
                      clear her
                      obtain ⟨g0, g1, g2⟩ := HB.out _ E11.out
                      obtain ⟨Aq2, cq2, hvq2, seeq2⟩ := (OW.out.ext E11.out).sees
                      injection hvq2 with q4 q5 q6
                      subst q4 q6
                      obtain ⟨Aq3, cq3, hvq3, seeq⟩ := OWN11.out.toB.sees
                      injection hvq3 with q7 q8 q9
                      subst q7 q9
                      have HSame := Lib.hid (sameB_eq _ _ _ _ _ _ _ seeq seeq2)
                      clear seeq seeq2 q5 q8
                      go_wp2_with (first | (at_builtin; refine wpList_append_run rfl (.tmp 86) (.tmp 87) _ rfl _ _ rfl rfl _ w11 HRUN.out ?_) | fail)
                      refine (HSame.out).mono ?_
                      rintro e w12 ⟨rfl, e12⟩
                      have E12 := Lib.hid (E11.out.trans e12)
                      clear e12
                      go_wp2_with fail
                      refine (littleLives_any _).mono ?_
                      rintro e w13 ⟨rfl, e13⟩
                      go_wp2
                      go_ret
                      exact ⟨rfl, (E7.out.trans E12.out).trans e13⟩
                  · have hmn2 := hmn
                    obtain ⟨kk, hkk⟩ : ∃ kk, kk = N13 := ⟨_, rfl⟩
                    have hkk1 : (at' : Int) + (N13 : Int) = ((at' + kk : Nat) : Int) := by omega
                    have hkk2 : at' + kk ≤ ow.length := by omega
                    have hkk3 : kk = 0 → j % 9 ≠ 8 := by omega
                    obtain ⟨q, hq⟩ : ∃ q, q = (ow.drop at').take kk := ⟨_, rfl⟩
                    have hql : q.length = kk := by rw [hq, List.length_take, List.length_drop]; omega
                    have hsq := (SO.out.drop at' (by omega) (by omega)).take kk (by omega)
                    rw [bs_drop, bs_take, ← hq] at hsq
                    obtain ⟨bO, oO, uO, hAO, _, _, _⟩ := SO.out.at_ hlt
                    subst hAO
                    simp only [Option.map_some, addr_add] at hsq
                    have SQ := Lib.hid hsq
                    have HF := Lib.hid (fun (w : World) (hs : Sees w Ar nr cr (bs r)) => few_nat Ar nr cr 200 200 (bs r) w hs (bs_one _) (by decide) (by decide) rfl)
                    simp only [bs_take, List.take_of_length_le (show r.length ≤ 200 by omega), show min nr 200 = nr by omega] at HF
                    have HNX := Lib.hid (PC.out.next kk)
                    have HER := Lib.hid (PC.out.err kk)
                    rw [← hq] at HNX HER
                    have hrl : (r ++ q).length = nr + kk := by rw [List.length_append, hql, hnr]
                    have hp1 : spL (nr + kk) 64 (r ++ q) = sL 64 (r ++ q) := by rw [← hrl]; rfl
                    have hp2 : spR (nr + kk) 64 (r ++ q) = sR 64 (r ++ q) := by rw [← hrl]; rfl
                    have hp3 : spE (nr + kk) 64 (r ++ q) = sE 64 (r ++ q) := by rw [← hrl]; rfl
                    have hsl := sL_len 64 (r ++ q)
                    have HP := Lib.hid (And.intro hp1 (And.intro hp2 hp3))
                    have hnr67 : nr ≤ 67 := by omega
                    have hk13 : kk ≤ 13 := by omega
                    have HRL := Lib.hid hrl
                    have HK1 := Lib.hid hkk1
                    have hdsq : d.length + (sL 64 (r ++ q)).length ≤ 1000 := by rw [hrl] at hsl; omega
                    have HJ9 := Lib.hid (show (j + 1) / 9 ≤ at' + kk by omega)
                    have HMS := Lib.hid (show 9 * (ow.length - (at' + kk)) + (8 - (j + 1) % 9) < 9 * (ow.length - at') + (8 - j % 9) by omega)
                    clear hq hsq hp1 hp2 hp3 hrl hkk1 hql hnr hsl hrs
                    try clear hkk
                    go_wp2_with fail
                    try rw [HK1.out]
                    refine wp_region_plS (Ext wr.drew) (.free 0 (.free 2 (.free 3 (.free 4 (.free 5 (.one 1 (.one 6 (.one 7 (.free 8 (.free 9 (.free 10 (.free 11 (.free 12 (.free 13 (.free 14 .nil))))))))))))))) (by kernel_rfl) (by kernel_rfl) (by kernel_rfl) (by kernel_rfl) ?_
                    iterate 4 (refine plS_val (v := ?_) rfl rfl (by first | exact Ext.refl _ | assumption) (fun w' hw' => ?_) ?_; rotate_left; (· go_simp; try with_reducible rfl); simp only [Act.put, List.setIfInBounds_toArray, List.set_cons_zero, List.set_cons_succ])
                    refine plS_val (v := .slice (some ⟨bO, oO + at', none⟩) kk (cO - at')) rfl rfl (by first | exact Ext.refl _ | assumption) (fun w' hw' => ?_) ?_
                    · go_simp
                      rw [if_pos (show (0 : Int) ≤ (at' : Int) + (kk : Int) ∧ (at' : Int) + (kk : Int) ≤ (cO : Int) from ⟨by omega, by omega⟩), if_pos (show at' ≤ ((at' : Int) + (kk : Int)).toNat by omega), if_neg (show ¬ cO = at' by omega), show ((at' : Int) + (kk : Int)).toNat - at' = kk by omega]
                    simp only [Act.put, List.setIfInBounds_toArray, List.set_cons_zero, List.set_cons_succ]
                    refine plS_call 15 #[.slice Ar nr cr, .int .i64 200] rfl rfl (by go_simp) ?_
                    refine (HF.out _ SR.out.drew).mono ?_
                    rintro e w8 ⟨v8, rfl, own8, e8⟩
                    refine ⟨_, rfl, e8, ?_⟩
                    simp only [Act.put, List.setIfInBounds_toArray, List.set_cons_zero, List.set_cons_succ]
                    obtain ⟨v9, w9, hrun9, own9, hg9, _⟩ := run_append_sees (P := Try.prog) (w := w8) wr.drew.heap.size 22 22 5 i0 _ 1 Try.underlying22 hi hz0 hz1 hz2 rfl _ _ _ own8 _ _ _ _ (SQ.out.ext (EX.out.drew.trans e8)) (bs_one _) (by unfold maxLen; omega) (by omega) e8.size
                    have e9 : Ext wr.drew w9 := e8.grown hg9 fun k hk => (own8.lt k hk).1
                    rw [← bs_append] at own9
                    refine plS_run (w' := w9) _ rfl rfl (exec_append (.tmp 76) (.tmp 80) _ rfl _ _ rfl rfl _ _ hrun9) e9 ?_
                    simp only [Act.put, List.setIfInBounds_toArray, List.set_cons_zero, List.set_cons_succ]
                    obtain ⟨A9, c9, rfl, see9⟩ := Sees.of_own own9
                    have HLS := Lib.hid (lsplitL_any A9 (nr + kk) c9 (r ++ q) 64 w9 see9 (by omega) (by omega) (by omega))
                    rw [HP.out.1, HP.out.2.1, HP.out.2.2] at HLS
                    have B9 : wr.heap.size ≤ w9.heap.size := e9.size
                    clear own8 own9 hg9 hrun9 see9 e8
                    refine plS_call 57 #[.slice A9 (nr + kk) c9, .int .i64 64] rfl rfl (by go_simp) ?_
                    refine (HLS.out).mono ?_
                    rintro e w10 ⟨v1, v2, kR, rfl, ownS, ownR, e10'⟩
                    have e10 : Ext wr.drew w10 := e9.trans e10'
                    obtain ⟨vsS, ownS1, ownS2⟩ := ownS
                    obtain ⟨AS, cS, rfl, seeS⟩ := Sees.of_own ownS1
                    obtain ⟨AR, cR, rfl, seeR⟩ := Sees.of_own ownR
                    have hlowR := own_low (lo := w9.heap.size) ownR rfl (Nat.le_refl _)
                    refine ⟨_, rfl, e10, ?_⟩
                    simp only [Act.put, List.setIfInBounds_toArray, List.set_cons_zero, List.set_cons_succ]
                    iterate 7 (refine plS_val (v := ?_) rfl rfl (by first | exact Ext.refl _ | assumption) (fun w' hw' => ?_) ?_; rotate_left; (· go_simp; try with_reducible rfl); simp only [Act.put, List.setIfInBounds_toArray, List.set_cons_zero, List.set_cons_succ])
                    refine plS_done ?_
                    have ownv := OWN.out.lt
                    obtain ⟨v11, w11, hrun11, own11, hg11⟩ := ownL_app (OWN.out.ext ((Ext.refl wr).drew.trans e10)) (by have := EX.out.size; have := e10.size; simp at this; omega) hdsq seeS seeS.len (fun j' r' hr' => by
                      obtain ⟨u, h3, ⟨A', n', c', rfl, h5, _⟩, h7⟩ := ownS2 j' r' hr'
                      exact ⟨_, h3, ⟨A', n', c', rfl, h5, fun a hA hn heq => by
                        have g1 := (ownv _ heq).2
                        have g2 := h7 a n' c' (by rw [hA]) hn
                        omega⟩, fun a n c hu hn => by
                        have g2 := h7 a n c hu hn
                        have := EX.out.size
                        omega⟩)
                    have E11 := Lib.hid (show Ext w7 w11 from (EX.out.drew.trans e10).grown hg11 fun k hk => (ownv k hk).1)
                    have SR11 := Lib.hid (seeR.grown hg11 fun a hA hn heq => by
                      have g1 := (ownv _ heq).2
                      have g2 := hlowR a hA hn
                      omega)
                    have OWN11 := Lib.hid own11
                    have HRUN := Lib.hid hrun11
                    clear seeS ownS1 ownS2 ownR seeR hlowR hg11 hrun11 own11 e10 e10' e9 HLS HF HP ownv hdsq
                    obtain ⟨Aq, cq, rfl, -⟩ := OWN11.out.toB.sees
                    by_cases her : sE 64 (r ++ q) = 0
                    · have HX := Lib.hid (HNX.out her)
                      clear HNX HER
                      generalize sL 64 (r ++ q) = ls at *
                      generalize sR 64 (r ++ q) = rs at *
                      generalize sE 64 (r ++ q) = er at *
                      subst her
                      generalize d ++ ls = dd at *
                      try clear hkk3
                      try clear h8
                      try clear h8b
                      try clear hmn
                      try clear h13
                      go_wp2_with (first | (at_builtin; refine wpList_append_run rfl (.tmp 86) (.tmp 87) _ rfl _ _ rfl rfl _ w11 HRUN.out ?_) | fail)
                      go_roundw
                      case rel => exact ⟨at' + kk, j + 1, _, _, _, _, _, by go_num, by go_num, rfl, hkk2, HJ9.out, HX.out, OWN11.out, SR11.out, E11.out⟩
                      case measure =>
                        have := HMS.out
                        simp [intOf]
                        omega
                    · have HX := HER.out her
                      clear HNX HER
                      generalize sL 64 (r ++ q) = ls at *
                      generalize sR 64 (r ++ q) = rs at *
                      generalize sE 64 (r ++ q) = er at *
                      obtain ⟨x1, x2, x3⟩ := HX
                      rw [HDS.out] at x1
                      rw [HEE.out] at x2
                      rw [← x1] at OWN11 HRUN
                      clear x1
                      subst x2 x3
                      have hkR : kR = 0 := by have := SR11.out.len; simp [bs] at this; omega
                      subst hkR
                      have her2 : (ee == 0) = false := by rw [beq_eq_false_iff_ne]; exact her
                      clear her
                      obtain ⟨g0, g1, g2⟩ := HB.out _ E11.out
                      obtain ⟨Aq2, cq2, hvq2, seeq2⟩ := (OW.out.ext E11.out).sees
                      injection hvq2 with q4 q5 q6
                      subst q4 q6
                      obtain ⟨Aq3, cq3, hvq3, seeq⟩ := OWN11.out.toB.sees
                      injection hvq3 with q7 q8 q9
                      subst q7 q9
                      have HSame := Lib.hid (sameB_eq _ _ _ _ _ _ _ seeq seeq2)
                      clear seeq seeq2 q5 q8
                      go_wp2_with (first | (at_builtin; refine wpList_append_run rfl (.tmp 86) (.tmp 87) _ rfl _ _ rfl rfl _ w11 HRUN.out ?_) | fail)
                      refine (HSame.out).mono ?_
                      rintro e w12 ⟨rfl, e12⟩
                      have E12 := Lib.hid (E11.out.trans e12)
                      clear e12
                      go_wp2_with fail
                      refine (littleLives_any _).mono ?_
                      rintro e w13 ⟨rfl, e13⟩
                      go_wp2
                      go_ret
                      exact ⟨rfl, (E7.out.trans E12.out).trans e13⟩
              · have h8b : ((j : Int) % 9 == 8) = false := by rw [beq_eq_false_iff_ne]; omega
                rcases Nat.lt_or_ge ow.length (at' + N13) with hmn | hmn
                · have hmn2 := hmn
                  obtain ⟨kk, hkk⟩ : ∃ kk, kk = ow.length - at' := ⟨_, rfl⟩
                  have hkk1 : (ow.length : Int) = ((at' + kk : Nat) : Int) := by omega
                  have hkk2 : at' + kk ≤ ow.length := by omega
                  have hkk3 : kk = 0 → j % 9 ≠ 8 := by omega
                  obtain ⟨q, hq⟩ : ∃ q, q = (ow.drop at').take kk := ⟨_, rfl⟩
                  have hql : q.length = kk := by rw [hq, List.length_take, List.length_drop]; omega
                  have hsq := (SO.out.drop at' (by omega) (by omega)).take kk (by omega)
                  rw [bs_drop, bs_take, ← hq] at hsq
                  obtain ⟨bO, oO, uO, hAO, _, _, _⟩ := SO.out.at_ hlt
                  subst hAO
                  simp only [Option.map_some, addr_add] at hsq
                  have SQ := Lib.hid hsq
                  have HF := Lib.hid (fun (w : World) (hs : Sees w Ar nr cr (bs r)) => few_nat Ar nr cr 200 200 (bs r) w hs (bs_one _) (by decide) (by decide) rfl)
                  simp only [bs_take, List.take_of_length_le (show r.length ≤ 200 by omega), show min nr 200 = nr by omega] at HF
                  have HNX := Lib.hid (PC.out.next kk)
                  have HER := Lib.hid (PC.out.err kk)
                  rw [← hq] at HNX HER
                  have hrl : (r ++ q).length = nr + kk := by rw [List.length_append, hql, hnr]
                  have hp1 : spL (nr + kk) 64 (r ++ q) = sL 64 (r ++ q) := by rw [← hrl]; rfl
                  have hp2 : spR (nr + kk) 64 (r ++ q) = sR 64 (r ++ q) := by rw [← hrl]; rfl
                  have hp3 : spE (nr + kk) 64 (r ++ q) = sE 64 (r ++ q) := by rw [← hrl]; rfl
                  have hsl := sL_len 64 (r ++ q)
                  have HP := Lib.hid (And.intro hp1 (And.intro hp2 hp3))
                  have hnr67 : nr ≤ 67 := by omega
                  have hk13 : kk ≤ 13 := by omega
                  have HRL := Lib.hid hrl
                  have HK1 := Lib.hid hkk1
                  have hdsq : d.length + (sL 64 (r ++ q)).length ≤ 1000 := by rw [hrl] at hsl; omega
                  have HJ9 := Lib.hid (show (j + 1) / 9 ≤ at' + kk by omega)
                  have HMS := Lib.hid (show 9 * (ow.length - (at' + kk)) + (8 - (j + 1) % 9) < 9 * (ow.length - at') + (8 - j % 9) by omega)
                  clear hq hsq hp1 hp2 hp3 hrl hkk1 hql hnr hsl hrs
                  try clear hkk
                  go_wp2_with fail
                  try rw [HK1.out]
                  refine wp_region_plS (Ext wr.drew) (.free 0 (.free 2 (.free 3 (.free 4 (.free 5 (.one 1 (.one 6 (.one 7 (.free 8 (.free 9 (.free 10 (.free 11 (.free 12 (.free 13 (.free 14 .nil))))))))))))))) (by kernel_rfl) (by kernel_rfl) (by kernel_rfl) (by kernel_rfl) ?_
                  iterate 4 (refine plS_val (v := ?_) rfl rfl (by first | exact Ext.refl _ | assumption) (fun w' hw' => ?_) ?_; rotate_left; (· go_simp; try with_reducible rfl); simp only [Act.put, List.setIfInBounds_toArray, List.set_cons_zero, List.set_cons_succ])
                  refine plS_val (v := .slice (some ⟨bO, oO + at', none⟩) kk (cO - at')) rfl rfl (by first | exact Ext.refl _ | assumption) (fun w' hw' => ?_) ?_
                  · go_simp
                    rw [if_pos (show (0 : Int) ≤ (at' : Int) + (kk : Int) ∧ (at' : Int) + (kk : Int) ≤ (cO : Int) from ⟨by omega, by omega⟩), if_pos (show at' ≤ ((at' : Int) + (kk : Int)).toNat by omega), if_neg (show ¬ cO = at' by omega), show ((at' : Int) + (kk : Int)).toNat - at' = kk by omega]
                  simp only [Act.put, List.setIfInBounds_toArray, List.set_cons_zero, List.set_cons_succ]
                  refine plS_call 15 #[.slice Ar nr cr, .int .i64 200] rfl rfl (by go_simp) ?_
                  refine (HF.out _ SR.out.drew).mono ?_
                  rintro e w8 ⟨v8, rfl, own8, e8⟩
                  refine ⟨_, rfl, e8, ?_⟩
                  simp only [Act.put, List.setIfInBounds_toArray, List.set_cons_zero, List.set_cons_succ]
                  obtain ⟨v9, w9, hrun9, own9, hg9, _⟩ := run_append_sees (P := Try.prog) (w := w8) wr.drew.heap.size 22 22 5 i0 _ 1 Try.underlying22 hi hz0 hz1 hz2 rfl _ _ _ own8 _ _ _ _ (SQ.out.ext (EX.out.drew.trans e8)) (bs_one _) (by unfold maxLen; omega) (by omega) e8.size
                  have e9 : Ext wr.drew w9 := e8.grown hg9 fun k hk => (own8.lt k hk).1
                  rw [← bs_append] at own9
                  refine plS_run (w' := w9) _ rfl rfl (exec_append (.tmp 76) (.tmp 80) _ rfl _ _ rfl rfl _ _ hrun9) e9 ?_
                  simp only [Act.put, List.setIfInBounds_toArray, List.set_cons_zero, List.set_cons_succ]
                  obtain ⟨A9, c9, rfl, see9⟩ := Sees.of_own own9
                  have HLS := Lib.hid (lsplitL_any A9 (nr + kk) c9 (r ++ q) 64 w9 see9 (by omega) (by omega) (by omega))
                  rw [HP.out.1, HP.out.2.1, HP.out.2.2] at HLS
                  have B9 : wr.heap.size ≤ w9.heap.size := e9.size
                  clear own8 own9 hg9 hrun9 see9 e8
                  refine plS_call 57 #[.slice A9 (nr + kk) c9, .int .i64 64] rfl rfl (by go_simp) ?_
                  refine (HLS.out).mono ?_
                  rintro e w10 ⟨v1, v2, kR, rfl, ownS, ownR, e10'⟩
                  have e10 : Ext wr.drew w10 := e9.trans e10'
                  obtain ⟨vsS, ownS1, ownS2⟩ := ownS
                  obtain ⟨AS, cS, rfl, seeS⟩ := Sees.of_own ownS1
                  obtain ⟨AR, cR, rfl, seeR⟩ := Sees.of_own ownR
                  have hlowR := own_low (lo := w9.heap.size) ownR rfl (Nat.le_refl _)
                  refine ⟨_, rfl, e10, ?_⟩
                  simp only [Act.put, List.setIfInBounds_toArray, List.set_cons_zero, List.set_cons_succ]
                  iterate 7 (refine plS_val (v := ?_) rfl rfl (by first | exact Ext.refl _ | assumption) (fun w' hw' => ?_) ?_; rotate_left; (· go_simp; try with_reducible rfl); simp only [Act.put, List.setIfInBounds_toArray, List.set_cons_zero, List.set_cons_succ])
                  refine plS_done ?_
                  have ownv := OWN.out.lt
                  obtain ⟨v11, w11, hrun11, own11, hg11⟩ := ownL_app (OWN.out.ext ((Ext.refl wr).drew.trans e10)) (by have := EX.out.size; have := e10.size; simp at this; omega) hdsq seeS seeS.len (fun j' r' hr' => by
                    obtain ⟨u, h3, ⟨A', n', c', rfl, h5, _⟩, h7⟩ := ownS2 j' r' hr'
                    exact ⟨_, h3, ⟨A', n', c', rfl, h5, fun a hA hn heq => by
                      have g1 := (ownv _ heq).2
                      have g2 := h7 a n' c' (by rw [hA]) hn
                      omega⟩, fun a n c hu hn => by
                      have g2 := h7 a n c hu hn
                      have := EX.out.size
                      omega⟩)
                  have E11 := Lib.hid (show Ext w7 w11 from (EX.out.drew.trans e10).grown hg11 fun k hk => (ownv k hk).1)
                  have SR11 := Lib.hid (seeR.grown hg11 fun a hA hn heq => by
                    have g1 := (ownv _ heq).2
                    have g2 := hlowR a hA hn
                    omega)
                  have OWN11 := Lib.hid own11
                  have HRUN := Lib.hid hrun11
                  clear seeS ownS1 ownS2 ownR seeR hlowR hg11 hrun11 own11 e10 e10' e9 HLS HF HP ownv hdsq
                  obtain ⟨Aq, cq, rfl, -⟩ := OWN11.out.toB.sees
                  by_cases her : sE 64 (r ++ q) = 0
                  · have HX := Lib.hid (HNX.out her)
                    clear HNX HER
                    generalize sL 64 (r ++ q) = ls at *
                    generalize sR 64 (r ++ q) = rs at *
                    generalize sE 64 (r ++ q) = er at *
                    subst her
                    generalize d ++ ls = dd at *
                    try clear hkk3
                    try clear h8
                    try clear h8b
                    try clear hmn
                    try clear h13
                    go_wp2_with (first | (at_builtin; refine wpList_append_run rfl (.tmp 86) (.tmp 87) _ rfl _ _ rfl rfl _ w11 HRUN.out ?_) | fail)
                    go_roundw
                    case rel => exact ⟨at' + kk, j + 1, _, _, _, _, _, by go_num, by go_num, rfl, hkk2, HJ9.out, HX.out, OWN11.out, SR11.out, E11.out⟩
                    case measure =>
                      have := HMS.out
                      simp [intOf]
                      omega
                  · have HX := HER.out her
                    clear HNX HER
                    generalize sL 64 (r ++ q) = ls at *
                    generalize sR 64 (r ++ q) = rs at *
                    generalize sE 64 (r ++ q) = er at *
                    obtain ⟨x1, x2, x3⟩ := HX
                    rw [HDS.out] at x1
                    rw [HEE.out] at x2
                    rw [← x1] at OWN11 HRUN
                    clear x1
                    subst x2 x3
                    have hkR : kR = 0 := by have := SR11.out.len; simp [bs] at this; omega
                    subst hkR
                    have her2 : (ee == 0) = false := by rw [beq_eq_false_iff_ne]; exact her
                    clear her
                    obtain ⟨g0, g1, g2⟩ := HB.out _ E11.out
                    obtain ⟨Aq2, cq2, hvq2, seeq2⟩ := (OW.out.ext E11.out).sees
                    injection hvq2 with q4 q5 q6
                    subst q4 q6
                    obtain ⟨Aq3, cq3, hvq3, seeq⟩ := OWN11.out.toB.sees
                    injection hvq3 with q7 q8 q9
                    subst q7 q9
                    have HSame := Lib.hid (sameB_eq _ _ _ _ _ _ _ seeq seeq2)
                    clear seeq seeq2 q5 q8
                    go_wp2_with (first | (at_builtin; refine wpList_append_run rfl (.tmp 86) (.tmp 87) _ rfl _ _ rfl rfl _ w11 HRUN.out ?_) | fail)
                    refine (HSame.out).mono ?_
                    rintro e w12 ⟨rfl, e12⟩
                    have E12 := Lib.hid (E11.out.trans e12)
                    clear e12
                    go_wp2_with fail
                    refine (littleLives_any _).mono ?_
                    rintro e w13 ⟨rfl, e13⟩
                    go_wp2
                    go_ret
                    exact ⟨rfl, (E7.out.trans E12.out).trans e13⟩
                · have hmn2 := hmn
                  obtain ⟨kk, hkk⟩ : ∃ kk, kk = N13 := ⟨_, rfl⟩
                  have hkk1 : (at' : Int) + (N13 : Int) = ((at' + kk : Nat) : Int) := by omega
                  have hkk2 : at' + kk ≤ ow.length := by omega
                  have hkk3 : kk = 0 → j % 9 ≠ 8 := by omega
                  obtain ⟨q, hq⟩ : ∃ q, q = (ow.drop at').take kk := ⟨_, rfl⟩
                  have hql : q.length = kk := by rw [hq, List.length_take, List.length_drop]; omega
                  have hsq := (SO.out.drop at' (by omega) (by omega)).take kk (by omega)
                  rw [bs_drop, bs_take, ← hq] at hsq
                  obtain ⟨bO, oO, uO, hAO, _, _, _⟩ := SO.out.at_ hlt
                  subst hAO
                  simp only [Option.map_some, addr_add] at hsq
                  have SQ := Lib.hid hsq
                  have HF := Lib.hid (fun (w : World) (hs : Sees w Ar nr cr (bs r)) => few_nat Ar nr cr 200 200 (bs r) w hs (bs_one _) (by decide) (by decide) rfl)
                  simp only [bs_take, List.take_of_length_le (show r.length ≤ 200 by omega), show min nr 200 = nr by omega] at HF
                  have HNX := Lib.hid (PC.out.next kk)
                  have HER := Lib.hid (PC.out.err kk)
                  rw [← hq] at HNX HER
                  have hrl : (r ++ q).length = nr + kk := by rw [List.length_append, hql, hnr]
                  have hp1 : spL (nr + kk) 64 (r ++ q) = sL 64 (r ++ q) := by rw [← hrl]; rfl
                  have hp2 : spR (nr + kk) 64 (r ++ q) = sR 64 (r ++ q) := by rw [← hrl]; rfl
                  have hp3 : spE (nr + kk) 64 (r ++ q) = sE 64 (r ++ q) := by rw [← hrl]; rfl
                  have hsl := sL_len 64 (r ++ q)
                  have HP := Lib.hid (And.intro hp1 (And.intro hp2 hp3))
                  have hnr67 : nr ≤ 67 := by omega
                  have hk13 : kk ≤ 13 := by omega
                  have HRL := Lib.hid hrl
                  have HK1 := Lib.hid hkk1
                  have hdsq : d.length + (sL 64 (r ++ q)).length ≤ 1000 := by rw [hrl] at hsl; omega
                  have HJ9 := Lib.hid (show (j + 1) / 9 ≤ at' + kk by omega)
                  have HMS := Lib.hid (show 9 * (ow.length - (at' + kk)) + (8 - (j + 1) % 9) < 9 * (ow.length - at') + (8 - j % 9) by omega)
                  clear hq hsq hp1 hp2 hp3 hrl hkk1 hql hnr hsl hrs
                  try clear hkk
                  go_wp2_with fail
                  try rw [HK1.out]
                  refine wp_region_plS (Ext wr.drew) (.free 0 (.free 2 (.free 3 (.free 4 (.free 5 (.one 1 (.one 6 (.one 7 (.free 8 (.free 9 (.free 10 (.free 11 (.free 12 (.free 13 (.free 14 .nil))))))))))))))) (by kernel_rfl) (by kernel_rfl) (by kernel_rfl) (by kernel_rfl) ?_
                  iterate 4 (refine plS_val (v := ?_) rfl rfl (by first | exact Ext.refl _ | assumption) (fun w' hw' => ?_) ?_; rotate_left; (· go_simp; try with_reducible rfl); simp only [Act.put, List.setIfInBounds_toArray, List.set_cons_zero, List.set_cons_succ])
                  refine plS_val (v := .slice (some ⟨bO, oO + at', none⟩) kk (cO - at')) rfl rfl (by first | exact Ext.refl _ | assumption) (fun w' hw' => ?_) ?_
                  · go_simp
                    rw [if_pos (show (0 : Int) ≤ (at' : Int) + (kk : Int) ∧ (at' : Int) + (kk : Int) ≤ (cO : Int) from ⟨by omega, by omega⟩), if_pos (show at' ≤ ((at' : Int) + (kk : Int)).toNat by omega), if_neg (show ¬ cO = at' by omega), show ((at' : Int) + (kk : Int)).toNat - at' = kk by omega]
                  simp only [Act.put, List.setIfInBounds_toArray, List.set_cons_zero, List.set_cons_succ]
                  refine plS_call 15 #[.slice Ar nr cr, .int .i64 200] rfl rfl (by go_simp) ?_
                  refine (HF.out _ SR.out.drew).mono ?_
                  rintro e w8 ⟨v8, rfl, own8, e8⟩
                  refine ⟨_, rfl, e8, ?_⟩
                  simp only [Act.put, List.setIfInBounds_toArray, List.set_cons_zero, List.set_cons_succ]
                  obtain ⟨v9, w9, hrun9, own9, hg9, _⟩ := run_append_sees (P := Try.prog) (w := w8) wr.drew.heap.size 22 22 5 i0 _ 1 Try.underlying22 hi hz0 hz1 hz2 rfl _ _ _ own8 _ _ _ _ (SQ.out.ext (EX.out.drew.trans e8)) (bs_one _) (by unfold maxLen; omega) (by omega) e8.size
                  have e9 : Ext wr.drew w9 := e8.grown hg9 fun k hk => (own8.lt k hk).1
                  rw [← bs_append] at own9
                  refine plS_run (w' := w9) _ rfl rfl (exec_append (.tmp 76) (.tmp 80) _ rfl _ _ rfl rfl _ _ hrun9) e9 ?_
                  simp only [Act.put, List.setIfInBounds_toArray, List.set_cons_zero, List.set_cons_succ]
                  obtain ⟨A9, c9, rfl, see9⟩ := Sees.of_own own9
                  have HLS := Lib.hid (lsplitL_any A9 (nr + kk) c9 (r ++ q) 64 w9 see9 (by omega) (by omega) (by omega))
                  rw [HP.out.1, HP.out.2.1, HP.out.2.2] at HLS
                  have B9 : wr.heap.size ≤ w9.heap.size := e9.size
                  clear own8 own9 hg9 hrun9 see9 e8
                  refine plS_call 57 #[.slice A9 (nr + kk) c9, .int .i64 64] rfl rfl (by go_simp) ?_
                  refine (HLS.out).mono ?_
                  rintro e w10 ⟨v1, v2, kR, rfl, ownS, ownR, e10'⟩
                  have e10 : Ext wr.drew w10 := e9.trans e10'
                  obtain ⟨vsS, ownS1, ownS2⟩ := ownS
                  obtain ⟨AS, cS, rfl, seeS⟩ := Sees.of_own ownS1
                  obtain ⟨AR, cR, rfl, seeR⟩ := Sees.of_own ownR
                  have hlowR := own_low (lo := w9.heap.size) ownR rfl (Nat.le_refl _)
                  refine ⟨_, rfl, e10, ?_⟩
                  simp only [Act.put, List.setIfInBounds_toArray, List.set_cons_zero, List.set_cons_succ]
                  iterate 7 (refine plS_val (v := ?_) rfl rfl (by first | exact Ext.refl _ | assumption) (fun w' hw' => ?_) ?_; rotate_left; (· go_simp; try with_reducible rfl); simp only [Act.put, List.setIfInBounds_toArray, List.set_cons_zero, List.set_cons_succ])
                  refine plS_done ?_
                  have ownv := OWN.out.lt
                  obtain ⟨v11, w11, hrun11, own11, hg11⟩ := ownL_app (OWN.out.ext ((Ext.refl wr).drew.trans e10)) (by have := EX.out.size; have := e10.size; simp at this; omega) hdsq seeS seeS.len (fun j' r' hr' => by
                    obtain ⟨u, h3, ⟨A', n', c', rfl, h5, _⟩, h7⟩ := ownS2 j' r' hr'
                    exact ⟨_, h3, ⟨A', n', c', rfl, h5, fun a hA hn heq => by
                      have g1 := (ownv _ heq).2
                      have g2 := h7 a n' c' (by rw [hA]) hn
                      omega⟩, fun a n c hu hn => by
                      have g2 := h7 a n c hu hn
                      have := EX.out.size
                      omega⟩)
                  have E11 := Lib.hid (show Ext w7 w11 from (EX.out.drew.trans e10).grown hg11 fun k hk => (ownv k hk).1)
                  have SR11 := Lib.hid (seeR.grown hg11 fun a hA hn heq => by
                    have g1 := (ownv _ heq).2
                    have g2 := hlowR a hA hn
                    omega)
                  have OWN11 := Lib.hid own11
                  have HRUN := Lib.hid hrun11
                  clear seeS ownS1 ownS2 ownR seeR hlowR hg11 hrun11 own11 e10 e10' e9 HLS HF HP ownv hdsq
                  obtain ⟨Aq, cq, rfl, -⟩ := OWN11.out.toB.sees
                  by_cases her : sE 64 (r ++ q) = 0
                  · have HX := Lib.hid (HNX.out her)
                    clear HNX HER
                    generalize sL 64 (r ++ q) = ls at *
                    generalize sR 64 (r ++ q) = rs at *
                    generalize sE 64 (r ++ q) = er at *
                    subst her
                    generalize d ++ ls = dd at *
                    try clear hkk3
                    try clear h8
                    try clear h8b
                    try clear hmn
                    try clear h13
                    go_wp2_with (first | (at_builtin; refine wpList_append_run rfl (.tmp 86) (.tmp 87) _ rfl _ _ rfl rfl _ w11 HRUN.out ?_) | fail)
                    go_roundw
                    case rel => exact ⟨at' + kk, j + 1, _, _, _, _, _, by go_num, by go_num, rfl, hkk2, HJ9.out, HX.out, OWN11.out, SR11.out, E11.out⟩
                    case measure =>
                      have := HMS.out
                      simp [intOf]
                      omega
                  · have HX := HER.out her
                    clear HNX HER
                    generalize sL 64 (r ++ q) = ls at *
                    generalize sR 64 (r ++ q) = rs at *
                    generalize sE 64 (r ++ q) = er at *
                    obtain ⟨x1, x2, x3⟩ := HX
                    rw [HDS.out] at x1
                    rw [HEE.out] at x2
                    rw [← x1] at OWN11 HRUN
                    clear x1
                    subst x2 x3
                    have hkR : kR = 0 := by have := SR11.out.len; simp [bs] at this; omega
                    subst hkR
                    have her2 : (ee == 0) = false := by rw [beq_eq_false_iff_ne]; exact her
                    clear her
                    obtain ⟨g0, g1, g2⟩ := HB.out _ E11.out
                    obtain ⟨Aq2, cq2, hvq2, seeq2⟩ := (OW.out.ext E11.out).sees
                    injection hvq2 with q4 q5 q6
                    subst q4 q6
                    obtain ⟨Aq3, cq3, hvq3, seeq⟩ := OWN11.out.toB.sees
                    injection hvq3 with q7 q8 q9
                    subst q7 q9
                    have HSame := Lib.hid (sameB_eq _ _ _ _ _ _ _ seeq seeq2)
                    clear seeq seeq2 q5 q8
                    go_wp2_with (first | (at_builtin; refine wpList_append_run rfl (.tmp 86) (.tmp 87) _ rfl _ _ rfl rfl _ w11 HRUN.out ?_) | fail)
                    refine (HSame.out).mono ?_
                    rintro e w12 ⟨rfl, e12⟩
                    have E12 := Lib.hid (E11.out.trans e12)
                    clear e12
                    go_wp2_with fail
                    refine (littleLives_any _).mono ?_
                    rintro e w13 ⟨rfl, e13⟩
                    go_wp2
                    go_ret
                    exact ⟨rfl, (E7.out.trans E12.out).trans e13⟩
            · have h2b : ¬ (0 : Int) < (n2 : Int) := by omega
              by_cases h8 : j % 9 = 8
              · have h8b : ((j : Int) % 9 == 8) = true := by rw [beq_iff_eq]; omega
                rcases Nat.lt_or_ge ow.length (at' + 5) with hmn | hmn
                · have hmn2 := hmn
                  obtain ⟨kk, hkk⟩ : ∃ kk, kk = ow.length - at' := ⟨_, rfl⟩
                  have hkk1 : (ow.length : Int) = ((at' + kk : Nat) : Int) := by omega
                  have hkk2 : at' + kk ≤ ow.length := by omega
                  have hkk3 : kk = 0 → j % 9 ≠ 8 := by omega
                  obtain ⟨q, hq⟩ : ∃ q, q = (ow.drop at').take kk := ⟨_, rfl⟩
                  have hql : q.length = kk := by rw [hq, List.length_take, List.length_drop]; omega
                  have hsq := (SO.out.drop at' (by omega) (by omega)).take kk (by omega)
                  rw [bs_drop, bs_take, ← hq] at hsq
                  obtain ⟨bO, oO, uO, hAO, _, _, _⟩ := SO.out.at_ hlt
                  subst hAO
                  simp only [Option.map_some, addr_add] at hsq
                  have SQ := Lib.hid hsq
                  have HF := Lib.hid (fun (w : World) (hs : Sees w Ar nr cr (bs r)) => few_nat Ar nr cr 200 200 (bs r) w hs (bs_one _) (by decide) (by decide) rfl)
                  simp only [bs_take, List.take_of_length_le (show r.length ≤ 200 by omega), show min nr 200 = nr by omega] at HF
                  have HNX := Lib.hid (PC.out.next kk)
                  have HER := Lib.hid (PC.out.err kk)
                  rw [← hq] at HNX HER
                  have hrl : (r ++ q).length = nr + kk := by rw [List.length_append, hql, hnr]
                  have hp1 : spL (nr + kk) 64 (r ++ q) = sL 64 (r ++ q) := by rw [← hrl]; rfl
                  have hp2 : spR (nr + kk) 64 (r ++ q) = sR 64 (r ++ q) := by rw [← hrl]; rfl
                  have hp3 : spE (nr + kk) 64 (r ++ q) = sE 64 (r ++ q) := by rw [← hrl]; rfl
                  have hsl := sL_len 64 (r ++ q)
                  have HP := Lib.hid (And.intro hp1 (And.intro hp2 hp3))
                  have hnr67 : nr ≤ 67 := by omega
                  have hk13 : kk ≤ 13 := by omega
                  have HRL := Lib.hid hrl
                  have HK1 := Lib.hid hkk1
                  have hdsq : d.length + (sL 64 (r ++ q)).length ≤ 1000 := by rw [hrl] at hsl; omega
                  have HJ9 := Lib.hid (show (j + 1) / 9 ≤ at' + kk by omega)
                  have HMS := Lib.hid (show 9 * (ow.length - (at' + kk)) + (8 - (j + 1) % 9) < 9 * (ow.length - at') + (8 - j % 9) by omega)
                  clear hq hsq hp1 hp2 hp3 hrl hkk1 hql hnr hsl hrs
                  try clear hkk
                  go_wp2_with fail
                  try rw [HK1.out]
                  refine wp_region_plS (Ext wr.drew) (.free 0 (.free 2 (.free 3 (.free 4 (.free 5 (.one 1 (.one 6 (.one 7 (.free 8 (.free 9 (.free 10 (.free 11 (.free 12 (.free 13 (.free 14 .nil))))))))))))))) (by kernel_rfl) (by kernel_rfl) (by kernel_rfl) (by kernel_rfl) ?_
                  iterate 4 (refine plS_val (v := ?_) rfl rfl (by first | exact Ext.refl _ | assumption) (fun w' hw' => ?_) ?_; rotate_left; (· go_simp; try with_reducible rfl); simp only [Act.put, List.setIfInBounds_toArray, List.set_cons_zero, List.set_cons_succ])
                  refine plS_val (v := .slice (some ⟨bO, oO + at', none⟩) kk (cO - at')) rfl rfl (by first | exact Ext.refl _ | assumption) (fun w' hw' => ?_) ?_
                  · go_simp
                    rw [if_pos (show (0 : Int) ≤ (at' : Int) + (kk : Int) ∧ (at' : Int) + (kk : Int) ≤ (cO : Int) from ⟨by omega, by omega⟩), if_pos (show at' ≤ ((at' : Int) + (kk : Int)).toNat by omega), if_neg (show ¬ cO = at' by omega), show ((at' : Int) + (kk : Int)).toNat - at' = kk by omega]
                  simp only [Act.put, List.setIfInBounds_toArray, List.set_cons_zero, List.set_cons_succ]
                  refine plS_call 15 #[.slice Ar nr cr, .int .i64 200] rfl rfl (by go_simp) ?_
                  refine (HF.out _ SR.out.drew).mono ?_
                  rintro e w8 ⟨v8, rfl, own8, e8⟩
                  refine ⟨_, rfl, e8, ?_⟩
                  simp only [Act.put, List.setIfInBounds_toArray, List.set_cons_zero, List.set_cons_succ]
                  obtain ⟨v9, w9, hrun9, own9, hg9, _⟩ := run_append_sees (P := Try.prog) (w := w8) wr.drew.heap.size 22 22 5 i0 _ 1 Try.underlying22 hi hz0 hz1 hz2 rfl _ _ _ own8 _ _ _ _ (SQ.out.ext (EX.out.drew.trans e8)) (bs_one _) (by unfold maxLen; omega) (by omega) e8.size
                  have e9 : Ext wr.drew w9 := e8.grown hg9 fun k hk => (own8.lt k hk).1
                  rw [← bs_append] at own9
                  refine plS_run (w' := w9) _ rfl rfl (exec_append (.tmp 76) (.tmp 80) _ rfl _ _ rfl rfl _ _ hrun9) e9 ?_
                  simp only [Act.put, List.setIfInBounds_toArray, List.set_cons_zero, List.set_cons_succ]
                  obtain ⟨A9, c9, rfl, see9⟩ := Sees.of_own own9
                  have HLS := Lib.hid (lsplitL_any A9 (nr + kk) c9 (r ++ q) 64 w9 see9 (by omega) (by omega) (by omega))
                  rw [HP.out.1, HP.out.2.1, HP.out.2.2] at HLS
                  have B9 : wr.heap.size ≤ w9.heap.size := e9.size
                  clear own8 own9 hg9 hrun9 see9 e8
                  refine plS_call 57 #[.slice A9 (nr + kk) c9, .int .i64 64] rfl rfl (by go_simp) ?_
                  refine (HLS.out).mono ?_
                  rintro e w10 ⟨v1, v2, kR, rfl, ownS, ownR, e10'⟩
                  have e10 : Ext wr.drew w10 := e9.trans e10'
                  obtain ⟨vsS, ownS1, ownS2⟩ := ownS
                  obtain ⟨AS, cS, rfl, seeS⟩ := Sees.of_own ownS1
                  obtain ⟨AR, cR, rfl, seeR⟩ := Sees.of_own ownR
                  have hlowR := own_low (lo := w9.heap.size) ownR rfl (Nat.le_refl _)
                  refine ⟨_, rfl, e10, ?_⟩
                  simp only [Act.put, List.setIfInBounds_toArray, List.set_cons_zero, List.set_cons_succ]
                  iterate 7 (refine plS_val (v := ?_) rfl rfl (by first | exact Ext.refl _ | assumption) (fun w' hw' => ?_) ?_; rotate_left; (· go_simp; try with_reducible rfl); simp only [Act.put, List.setIfInBounds_toArray, List.set_cons_zero, List.set_cons_succ])
                  refine plS_done ?_
                  have ownv := OWN.out.lt
                  obtain ⟨v11, w11, hrun11, own11, hg11⟩ := ownL_app (OWN.out.ext ((Ext.refl wr).drew.trans e10)) (by have := EX.out.size; have := e10.size; simp at this; omega) hdsq seeS seeS.len (fun j' r' hr' => by
                    obtain ⟨u, h3, ⟨A', n', c', rfl, h5, _⟩, h7⟩ := ownS2 j' r' hr'
                    exact ⟨_, h3, ⟨A', n', c', rfl, h5, fun a hA hn heq => by
                      have g1 := (ownv _ heq).2
                      have g2 := h7 a n' c' (by rw [hA]) hn
                      omega⟩, fun a n c hu hn => by
                      have g2 := h7 a n c hu hn
                      have := EX.out.size
                      omega⟩)
                  have E11 := Lib.hid (show Ext w7 w11 from (EX.out.drew.trans e10).grown hg11 fun k hk => (ownv k hk).1)
                  have SR11 := Lib.hid (seeR.grown hg11 fun a hA hn heq => by
                    have g1 := (ownv _ heq).2
                    have g2 := hlowR a hA hn
                    omega)
                  have OWN11 := Lib.hid own11
                  have HRUN := Lib.hid hrun11
                  clear seeS ownS1 ownS2 ownR seeR hlowR hg11 hrun11 own11 e10 e10' e9 HLS HF HP ownv hdsq
                  obtain ⟨Aq, cq, rfl, -⟩ := OWN11.out.toB.sees
                  by_cases her : sE 64 (r ++ q) = 0
                  · have HX := Lib.hid (HNX.out her)
                    clear HNX HER
                    generalize sL 64 (r ++ q) = ls at *
                    generalize sR 64 (r ++ q) = rs at *
                    generalize sE 64 (r ++ q) = er at *
                    subst her
                    generalize d ++ ls = dd at *
                    try clear hkk3
                    try clear h8
                    try clear h8b
                    try clear hmn
                    try clear h13
                    go_wp2_with (first | (at_builtin; refine wpList_append_run rfl (.tmp 86) (.tmp 87) _ rfl _ _ rfl rfl _ w11 HRUN.out ?_) | fail)
                    go_roundw
                    case rel => exact ⟨at' + kk, j + 1, _, _, _, _, _, by go_num, by go_num, rfl, hkk2, HJ9.out, HX.out, OWN11.out, SR11.out, E11.out⟩
                    case measure =>
                      have := HMS.out
                      simp [intOf]
                      omega
                  · have HX := HER.out her
                    clear HNX HER
                    generalize sL 64 (r ++ q) = ls at *
                    generalize sR 64 (r ++ q) = rs at *
                    generalize sE 64 (r ++ q) = er at *
                    obtain ⟨x1, x2, x3⟩ := HX
                    rw [HDS.out] at x1
                    rw [HEE.out] at x2
                    rw [← x1] at OWN11 HRUN
                    clear x1
                    subst x2 x3
                    have hkR : kR = 0 := by have := SR11.out.len; simp [bs] at this; omega
                    subst hkR
                    have her2 : (ee == 0) = false := by rw [beq_eq_false_iff_ne]; exact her
                    clear her
                    obtain ⟨g0, g1, g2⟩ := HB.out _ E11.out
                    obtain ⟨Aq2, cq2, hvq2, seeq2⟩ := (OW.out.ext E11.out).sees
                    injection hvq2 with q4 q5 q6
                    subst q4 q6
                    obtain ⟨Aq3, cq3, hvq3, seeq⟩ := OWN11.out.toB.sees
                    injection hvq3 with q7 q8 q9
                    subst q7 q9
                    have HSame := Lib.hid (sameB_eq _ _ _ _ _ _ _ seeq seeq2)
                    clear seeq seeq2 q5 q8
                    go_wp2_with (first | (at_builtin; refine wpList_append_run rfl (.tmp 86) (.tmp 87) _ rfl _ _ rfl rfl _ w11 HRUN.out ?_) | fail)
                    refine (HSame.out).mono ?_
                    rintro e w12 ⟨rfl, e12⟩
                    have E12 := Lib.hid (E11.out.trans e12)
                    clear e12
                    go_wp2_with fail
                    refine (littleLives_any _).mono ?_
                    rintro e w13 ⟨rfl, e13⟩
                    go_wp2
                    go_ret
                    exact ⟨rfl, (E7.out.trans E12.out).trans e13⟩
                · have hmn2 := hmn
                  obtain ⟨kk, hkk⟩ : ∃ kk, kk = 5 := ⟨_, rfl⟩
                  have hkk1 : (at' : Int) + 5 = ((at' + kk : Nat) : Int) := by omega
                  have hkk2 : at' + kk ≤ ow.length := by omega
                  have hkk3 : kk = 0 → j % 9 ≠ 8 := by omega
                  obtain ⟨q, hq⟩ : ∃ q, q = (ow.drop at').take kk := ⟨_, rfl⟩
                  have hql : q.length = kk := by rw [hq, List.length_take, List.length_drop]; omega
                  have hsq := (SO.out.drop at' (by omega) (by omega)).take kk (by omega)
                  rw [bs_drop, bs_take, ← hq] at hsq
                  obtain ⟨bO, oO, uO, hAO, _, _, _⟩ := SO.out.at_ hlt
                  subst hAO
                  simp only [Option.map_some, addr_add] at hsq
                  have SQ := Lib.hid hsq
                  have HF := Lib.hid (fun (w : World) (hs : Sees w Ar nr cr (bs r)) => few_nat Ar nr cr 200 200 (bs r) w hs (bs_one _) (by decide) (by decide) rfl)
                  simp only [bs_take, List.take_of_length_le (show r.length ≤ 200 by omega), show min nr 200 = nr by omega] at HF
                  have HNX := Lib.hid (PC.out.next kk)
                  have HER := Lib.hid (PC.out.err kk)
                  rw [← hq] at HNX HER
                  have hrl : (r ++ q).length = nr + kk := by rw [List.length_append, hql, hnr]
                  have hp1 : spL (nr + kk) 64 (r ++ q) = sL 64 (r ++ q) := by rw [← hrl]; rfl
                  have hp2 : spR (nr + kk) 64 (r ++ q) = sR 64 (r ++ q) := by rw [← hrl]; rfl
                  have hp3 : spE (nr + kk) 64 (r ++ q) = sE 64 (r ++ q) := by rw [← hrl]; rfl
                  have hsl := sL_len 64 (r ++ q)
                  have HP := Lib.hid (And.intro hp1 (And.intro hp2 hp3))
                  have hnr67 : nr ≤ 67 := by omega
                  have hk13 : kk ≤ 13 := by omega
                  have HRL := Lib.hid hrl
                  have HK1 := Lib.hid hkk1
                  have hdsq : d.length + (sL 64 (r ++ q)).length ≤ 1000 := by rw [hrl] at hsl; omega
                  have HJ9 := Lib.hid (show (j + 1) / 9 ≤ at' + kk by omega)
                  have HMS := Lib.hid (show 9 * (ow.length - (at' + kk)) + (8 - (j + 1) % 9) < 9 * (ow.length - at') + (8 - j % 9) by omega)
                  clear hq hsq hp1 hp2 hp3 hrl hkk1 hql hnr hsl hrs
                  try clear hkk
                  go_wp2_with fail
                  try rw [HK1.out]
                  refine wp_region_plS (Ext wr.drew) (.free 0 (.free 2 (.free 3 (.free 4 (.free 5 (.one 1 (.one 6 (.one 7 (.free 8 (.free 9 (.free 10 (.free 11 (.free 12 (.free 13 (.free 14 .nil))))))))))))))) (by kernel_rfl) (by kernel_rfl) (by kernel_rfl) (by kernel_rfl) ?_
                  iterate 4 (refine plS_val (v := ?_) rfl rfl (by first | exact Ext.refl _ | assumption) (fun w' hw' => ?_) ?_; rotate_left; (· go_simp; try with_reducible rfl); simp only [Act.put, List.setIfInBounds_toArray, List.set_cons_zero, List.set_cons_succ])
                  refine plS_val (v := .slice (some ⟨bO, oO + at', none⟩) kk (cO - at')) rfl rfl (by first | exact Ext.refl _ | assumption) (fun w' hw' => ?_) ?_
                  · go_simp
                    rw [if_pos (show (0 : Int) ≤ (at' : Int) + (kk : Int) ∧ (at' : Int) + (kk : Int) ≤ (cO : Int) from ⟨by omega, by omega⟩), if_pos (show at' ≤ ((at' : Int) + (kk : Int)).toNat by omega), if_neg (show ¬ cO = at' by omega), show ((at' : Int) + (kk : Int)).toNat - at' = kk by omega]
                  simp only [Act.put, List.setIfInBounds_toArray, List.set_cons_zero, List.set_cons_succ]
                  refine plS_call 15 #[.slice Ar nr cr, .int .i64 200] rfl rfl (by go_simp) ?_
                  refine (HF.out _ SR.out.drew).mono ?_
                  rintro e w8 ⟨v8, rfl, own8, e8⟩
                  refine ⟨_, rfl, e8, ?_⟩
                  simp only [Act.put, List.setIfInBounds_toArray, List.set_cons_zero, List.set_cons_succ]
                  obtain ⟨v9, w9, hrun9, own9, hg9, _⟩ := run_append_sees (P := Try.prog) (w := w8) wr.drew.heap.size 22 22 5 i0 _ 1 Try.underlying22 hi hz0 hz1 hz2 rfl _ _ _ own8 _ _ _ _ (SQ.out.ext (EX.out.drew.trans e8)) (bs_one _) (by unfold maxLen; omega) (by omega) e8.size
                  have e9 : Ext wr.drew w9 := e8.grown hg9 fun k hk => (own8.lt k hk).1
                  rw [← bs_append] at own9
                  refine plS_run (w' := w9) _ rfl rfl (exec_append (.tmp 76) (.tmp 80) _ rfl _ _ rfl rfl _ _ hrun9) e9 ?_
                  simp only [Act.put, List.setIfInBounds_toArray, List.set_cons_zero, List.set_cons_succ]
                  obtain ⟨A9, c9, rfl, see9⟩ := Sees.of_own own9
                  have HLS := Lib.hid (lsplitL_any A9 (nr + kk) c9 (r ++ q) 64 w9 see9 (by omega) (by omega) (by omega))
                  rw [HP.out.1, HP.out.2.1, HP.out.2.2] at HLS
                  have B9 : wr.heap.size ≤ w9.heap.size := e9.size
                  clear own8 own9 hg9 hrun9 see9 e8
                  refine plS_call 57 #[.slice A9 (nr + kk) c9, .int .i64 64] rfl rfl (by go_simp) ?_
                  refine (HLS.out).mono ?_
                  rintro e w10 ⟨v1, v2, kR, rfl, ownS, ownR, e10'⟩
                  have e10 : Ext wr.drew w10 := e9.trans e10'
                  obtain ⟨vsS, ownS1, ownS2⟩ := ownS
                  obtain ⟨AS, cS, rfl, seeS⟩ := Sees.of_own ownS1
                  obtain ⟨AR, cR, rfl, seeR⟩ := Sees.of_own ownR
                  have hlowR := own_low (lo := w9.heap.size) ownR rfl (Nat.le_refl _)
                  refine ⟨_, rfl, e10, ?_⟩
                  simp only [Act.put, List.setIfInBounds_toArray, List.set_cons_zero, List.set_cons_succ]
                  iterate 7 (refine plS_val (v := ?_) rfl rfl (by first | exact Ext.refl _ | assumption) (fun w' hw' => ?_) ?_; rotate_left; (· go_simp; try with_reducible rfl); simp only [Act.put, List.setIfInBounds_toArray, List.set_cons_zero, List.set_cons_succ])
                  refine plS_done ?_
                  have ownv := OWN.out.lt
                  obtain ⟨v11, w11, hrun11, own11, hg11⟩ := ownL_app (OWN.out.ext ((Ext.refl wr).drew.trans e10)) (by have := EX.out.size; have := e10.size; simp at this; omega) hdsq seeS seeS.len (fun j' r' hr' => by
                    obtain ⟨u, h3, ⟨A', n', c', rfl, h5, _⟩, h7⟩ := ownS2 j' r' hr'
                    exact ⟨_, h3, ⟨A', n', c', rfl, h5, fun a hA hn heq => by
                      have g1 := (ownv _ heq).2
                      have g2 := h7 a n' c' (by rw [hA]) hn
                      omega⟩, fun a n c hu hn => by
                      have g2 := h7 a n c hu hn
                      have := EX.out.size
                      omega⟩)
                  have E11 := Lib.hid (show Ext w7 w11 from (EX.out.drew.trans e10).grown hg11 fun k hk => (ownv k hk).1)
                  have SR11 := Lib.hid (seeR.grown hg11 fun a hA hn heq => by
                    have g1 := (ownv _ heq).2
                    have g2 := hlowR a hA hn
                    omega)
                  have OWN11 := Lib.hid own11
                  have HRUN := Lib.hid hrun11
                  clear seeS ownS1 ownS2 ownR seeR hlowR hg11 hrun11 own11 e10 e10' e9 HLS HF HP ownv hdsq
                  obtain ⟨Aq, cq, rfl, -⟩ := OWN11.out.toB.sees
                  by_cases her : sE 64 (r ++ q) = 0
                  · have HX := Lib.hid (HNX.out her)
                    clear HNX HER
                    generalize sL 64 (r ++ q) = ls at *
                    generalize sR 64 (r ++ q) = rs at *
                    generalize sE 64 (r ++ q) = er at *
                    subst her
                    generalize d ++ ls = dd at *
                    try clear hkk3
                    try clear h8
                    try clear h8b
                    try clear hmn
                    try clear h13
                    go_wp2_with (first | (at_builtin; refine wpList_append_run rfl (.tmp 86) (.tmp 87) _ rfl _ _ rfl rfl _ w11 HRUN.out ?_) | fail)
                    go_roundw
                    case rel => exact ⟨at' + kk, j + 1, _, _, _, _, _, by go_num, by go_num, rfl, hkk2, HJ9.out, HX.out, OWN11.out, SR11.out, E11.out⟩
                    case measure =>
                      have := HMS.out
                      simp [intOf]
                      omega
                  · have HX := HER.out her
                    clear HNX HER
                    generalize sL 64 (r ++ q) = ls at *
                    generalize sR 64 (r ++ q) = rs at *
                    generalize sE 64 (r ++ q) = er at *
                    obtain ⟨x1, x2, x3⟩ := HX
                    rw [HDS.out] at x1
                    rw [HEE.out] at x2
                    rw [← x1] at OWN11 HRUN
                    clear x1
                    subst x2 x3
                    have hkR : kR = 0 := by have := SR11.out.len; simp [bs] at this; omega
                    subst hkR
                    have her2 : (ee == 0) = false := by rw [beq_eq_false_iff_ne]; exact her
                    clear her
                    obtain ⟨g0, g1, g2⟩ := HB.out _ E11.out
                    obtain ⟨Aq2, cq2, hvq2, seeq2⟩ := (OW.out.ext E11.out).sees
                    injection hvq2 with q4 q5 q6
                    subst q4 q6
                    obtain ⟨Aq3, cq3, hvq3, seeq⟩ := OWN11.out.toB.sees
                    injection hvq3 with q7 q8 q9
                    subst q7 q9
                    have HSame := Lib.hid (sameB_eq _ _ _ _ _ _ _ seeq seeq2)
                    clear seeq seeq2 q5 q8
                    go_wp2_with (first | (at_builtin; refine wpList_append_run rfl (.tmp 86) (.tmp 87) _ rfl _ _ rfl rfl _ w11 HRUN.out ?_) | fail)
                    refine (HSame.out).mono ?_
                    rintro e w12 ⟨rfl, e12⟩
                    have E12 := Lib.hid (E11.out.trans e12)
                    clear e12
                    go_wp2_with fail
                    refine (littleLives_any _).mono ?_
                    rintro e w13 ⟨rfl, e13⟩
                    go_wp2
                    go_ret
                    exact ⟨rfl, (E7.out.trans E12.out).trans e13⟩
              · have h8b : ((j : Int) % 9 == 8) = false := by rw [beq_eq_false_iff_ne]; omega
                rcases Nat.lt_or_ge ow.length (at' + 5) with hmn | hmn
                · have hmn2 := hmn
                  obtain ⟨kk, hkk⟩ : ∃ kk, kk = ow.length - at' := ⟨_, rfl⟩
                  have hkk1 : (ow.length : Int) = ((at' + kk : Nat) : Int) := by omega
                  have hkk2 : at' + kk ≤ ow.length := by omega
                  have hkk3 : kk = 0 → j % 9 ≠ 8 := by omega
                  obtain ⟨q, hq⟩ : ∃ q, q = (ow.drop at').take kk := ⟨_, rfl⟩
                  have hql : q.length = kk := by rw [hq, List.length_take, List.length_drop]; omega
                  have hsq := (SO.out.drop at' (by omega) (by omega)).take kk (by omega)
                  rw [bs_drop, bs_take, ← hq] at hsq
                  obtain ⟨bO, oO, uO, hAO, _, _, _⟩ := SO.out.at_ hlt
                  subst hAO
                  simp only [Option.map_some, addr_add] at hsq
                  have SQ := Lib.hid hsq
                  have HF := Lib.hid (fun (w : World) (hs : Sees w Ar nr cr (bs r)) => few_nat Ar nr cr 200 200 (bs r) w hs (bs_one _) (by decide) (by decide) rfl)
                  simp only [bs_take, List.take_of_length_le (show r.length ≤ 200 by omega), show min nr 200 = nr by omega] at HF
                  have HNX := Lib.hid (PC.out.next kk)
                  have HER := Lib.hid (PC.out.err kk)
                  rw [← hq] at HNX HER
                  have hrl : (r ++ q).length = nr + kk := by rw [List.length_append, hql, hnr]
                  have hp1 : spL (nr + kk) 64 (r ++ q) = sL 64 (r ++ q) := by rw [← hrl]; rfl
                  have hp2 : spR (nr + kk) 64 (r ++ q) = sR 64 (r ++ q) := by rw [← hrl]; rfl
                  have hp3 : spE (nr + kk) 64 (r ++ q) = sE 64 (r ++ q) := by rw [← hrl]; rfl
                  have hsl := sL_len 64 (r ++ q)
                  have HP := Lib.hid (And.intro hp1 (And.intro hp2 hp3))
                  have hnr67 : nr ≤ 67 := by omega
                  have hk13 : kk ≤ 13 := by omega
                  have HRL := Lib.hid hrl
                  have HK1 := Lib.hid hkk1
                  have hdsq : d.length + (sL 64 (r ++ q)).length ≤ 1000 := by rw [hrl] at hsl; omega
                  have HJ9 := Lib.hid (show (j + 1) / 9 ≤ at' + kk by omega)
                  have HMS := Lib.hid (show 9 * (ow.length - (at' + kk)) + (8 - (j + 1) % 9) < 9 * (ow.length - at') + (8 - j % 9) by omega)
                  clear hq hsq hp1 hp2 hp3 hrl hkk1 hql hnr hsl hrs
                  try clear hkk
                  go_wp2_with fail
                  try rw [HK1.out]
                  refine wp_region_plS (Ext wr.drew) (.free 0 (.free 2 (.free 3 (.free 4 (.free 5 (.one 1 (.one 6 (.one 7 (.free 8 (.free 9 (.free 10 (.free 11 (.free 12 (.free 13 (.free 14 .nil))))))))))))))) (by kernel_rfl) (by kernel_rfl) (by kernel_rfl) (by kernel_rfl) ?_
                  iterate 4 (refine plS_val (v := ?_) rfl rfl (by first | exact Ext.refl _ | assumption) (fun w' hw' => ?_) ?_; rotate_left; (· go_simp; try with_reducible rfl); simp only [Act.put, List.setIfInBounds_toArray, List.set_cons_zero, List.set_cons_succ])
                  refine plS_val (v := .slice (some ⟨bO, oO + at', none⟩) kk (cO - at')) rfl rfl (by first | exact Ext.refl _ | assumption) (fun w' hw' => ?_) ?_
                  · go_simp
                    rw [if_pos (show (0 : Int) ≤ (at' : Int) + (kk : Int) ∧ (at' : Int) + (kk : Int) ≤ (cO : Int) from ⟨by omega, by omega⟩), if_pos (show at' ≤ ((at' : Int) + (kk : Int)).toNat by omega), if_neg (show ¬ cO = at' by omega), show ((at' : Int) + (kk : Int)).toNat - at' = kk by omega]
                  simp only [Act.put, List.setIfInBounds_toArray, List.set_cons_zero, List.set_cons_succ]
                  refine plS_call 15 #[.slice Ar nr cr, .int .i64 200] rfl rfl (by go_simp) ?_
                  refine (HF.out _ SR.out.drew).mono ?_
                  rintro e w8 ⟨v8, rfl, own8, e8⟩
                  refine ⟨_, rfl, e8, ?_⟩
                  simp only [Act.put, List.setIfInBounds_toArray, List.set_cons_zero, List.set_cons_succ]
                  obtain ⟨v9, w9, hrun9, own9, hg9, _⟩ := run_append_sees (P := Try.prog) (w := w8) wr.drew.heap.size 22 22 5 i0 _ 1 Try.underlying22 hi hz0 hz1 hz2 rfl _ _ _ own8 _ _ _ _ (SQ.out.ext (EX.out.drew.trans e8)) (bs_one _) (by unfold maxLen; omega) (by omega) e8.size
                  have e9 : Ext wr.drew w9 := e8.grown hg9 fun k hk => (own8.lt k hk).1
                  rw [← bs_append] at own9
                  refine plS_run (w' := w9) _ rfl rfl (exec_append (.tmp 76) (.tmp 80) _ rfl _ _ rfl rfl _ _ hrun9) e9 ?_
                  simp only [Act.put, List.setIfInBounds_toArray, List.set_cons_zero, List.set_cons_succ]
                  obtain ⟨A9, c9, rfl, see9⟩ := Sees.of_own own9
                  have HLS := Lib.hid (lsplitL_any A9 (nr + kk) c9 (r ++ q) 64 w9 see9 (by omega) (by omega) (by omega))
                  rw [HP.out.1, HP.out.2.1, HP.out.2.2] at HLS
                  have B9 : wr.heap.size ≤ w9.heap.size := e9.size
                  clear own8 own9 hg9 hrun9 see9 e8
                  refine plS_call 57 #[.slice A9 (nr + kk) c9, .int .i64 64] rfl rfl (by go_simp) ?_
                  refine (HLS.out).mono ?_
                  rintro e w10 ⟨v1, v2, kR, rfl, ownS, ownR, e10'⟩
                  have e10 : Ext wr.drew w10 := e9.trans e10'
                  obtain ⟨vsS, ownS1, ownS2⟩ := ownS
                  obtain ⟨AS, cS, rfl, seeS⟩ := Sees.of_own ownS1
                  obtain ⟨AR, cR, rfl, seeR⟩ := Sees.of_own ownR
                  have hlowR := own_low (lo := w9.heap.size) ownR rfl (Nat.le_refl _)
                  refine ⟨_, rfl, e10, ?_⟩
                  simp only [Act.put, List.setIfInBounds_toArray, List.set_cons_zero, List.set_cons_succ]
                  iterate 7 (refine plS_val (v := ?_) rfl rfl (by first | exact Ext.refl _ | assumption) (fun w' hw' => ?_) ?_; rotate_left; (· go_simp; try with_reducible rfl); simp only [Act.put, List.setIfInBounds_toArray, List.set_cons_zero, List.set_cons_succ])
                  refine plS_done ?_
                  have ownv := OWN.out.lt
                  obtain ⟨v11, w11, hrun11, own11, hg11⟩ := ownL_app (OWN.out.ext ((Ext.refl wr).drew.trans e10)) (by have := EX.out.size; have := e10.size; simp at this; omega) hdsq seeS seeS.len (fun j' r' hr' => by
                    obtain ⟨u, h3, ⟨A', n', c', rfl, h5, _⟩, h7⟩ := ownS2 j' r' hr'
                    exact ⟨_, h3, ⟨A', n', c', rfl, h5, fun a hA hn heq => by
                      have g1 := (ownv _ heq).2
                      have g2 := h7 a n' c' (by rw [hA]) hn
                      omega⟩, fun a n c hu hn => by
                      have g2 := h7 a n c hu hn
                      have := EX.out.size
                      omega⟩)
                  have E11 := Lib.hid (show Ext w7 w11 from (EX.out.drew.trans e10).grown hg11 fun k hk => (ownv k hk).1)
                  have SR11 := Lib.hid (seeR.grown hg11 fun a hA hn heq => by
                    have g1 := (ownv _ heq).2
                    have g2 := hlowR a hA hn
                    omega)
                  have OWN11 := Lib.hid own11
                  have HRUN := Lib.hid hrun11
                  clear seeS ownS1 ownS2 ownR seeR hlowR hg11 hrun11 own11 e10 e10' e9 HLS HF HP ownv hdsq
                  obtain ⟨Aq, cq, rfl, -⟩ := OWN11.out.toB.sees
                  by_cases her : sE 64 (r ++ q) = 0
                  · have HX := Lib.hid (HNX.out her)
                    clear HNX HER
                    generalize sL 64 (r ++ q) = ls at *
                    generalize sR 64 (r ++ q) = rs at *
                    generalize sE 64 (r ++ q) = er at *
                    subst her
                    generalize d ++ ls = dd at *
                    try clear hkk3
                    try clear h8
                    try clear h8b
                    try clear hmn
                    try clear h13
                    go_wp2_with (first | (at_builtin; refine wpList_append_run rfl (.tmp 86) (.tmp 87) _ rfl _ _ rfl rfl _ w11 HRUN.out ?_) | fail)
                    go_roundw
                    case rel => exact ⟨at' + kk, j + 1, _, _, _, _, _, by go_num, by go_num, rfl, hkk2, HJ9.out, HX.out, OWN11.out, SR11.out, E11.out⟩
                    case measure =>
                      have := HMS.out
                      simp [intOf]
                      omega
                  · have HX := HER.out her
                    clear HNX HER
                    generalize sL 64 (r ++ q) = ls at *
                    generalize sR 64 (r ++ q) = rs at *
                    generalize sE 64 (r ++ q) = er at *
                    obtain ⟨x1, x2, x3⟩ := HX
                    rw [HDS.out] at x1
                    rw [HEE.out] at x2
                    rw [← x1] at OWN11 HRUN
                    clear x1
                    subst x2 x3
                    have hkR : kR = 0 := by have := SR11.out.len; simp [bs] at this; omega
                    subst hkR
                    have her2 : (ee == 0) = false := by rw [beq_eq_false_iff_ne]; exact her
                    clear her
                    obtain ⟨g0, g1, g2⟩ := HB.out _ E11.out
                    obtain ⟨Aq2, cq2, hvq2, seeq2⟩ := (OW.out.ext E11.out).sees
                    injection hvq2 with q4 q5 q6
                    subst q4 q6
                    obtain ⟨Aq3, cq3, hvq3, seeq⟩ := OWN11.out.toB.sees
                    injection hvq3 with q7 q8 q9
                    subst q7 q9
                    have HSame := Lib.hid (sameB_eq _ _ _ _ _ _ _ seeq seeq2)
                    clear seeq seeq2 q5 q8
                    go_wp2_with (first | (at_builtin; refine wpList_append_run rfl (.tmp 86) (.tmp 87) _ rfl _ _ rfl rfl _ w11 HRUN.out ?_) | fail)
                    refine (HSame.out).mono ?_
                    rintro e w12 ⟨rfl, e12⟩
                    have E12 := Lib.hid (E11.out.trans e12)
                    clear e12
                    go_wp2_with fail
                    refine (littleLives_any _).mono ?_
                    rintro e w13 ⟨rfl, e13⟩
                    go_wp2
                    go_ret
                    exact ⟨rfl, (E7.out.trans E12.out).trans e13⟩
                · have hmn2 := hmn
                  obtain ⟨kk, hkk⟩ : ∃ kk, kk = 5 := ⟨_, rfl⟩
                  have hkk1 : (at' : Int) + 5 = ((at' + kk : Nat) : Int) := by omega
                  have hkk2 : at' + kk ≤ ow.length := by omega
                  have hkk3 : kk = 0 → j % 9 ≠ 8 := by omega
                  obtain ⟨q, hq⟩ : ∃ q, q = (ow.drop at').take kk := ⟨_, rfl⟩
                  have hql : q.length = kk := by rw [hq, List.length_take, List.length_drop]; omega
                  have hsq := (SO.out.drop at' (by omega) (by omega)).take kk (by omega)
                  rw [bs_drop, bs_take, ← hq] at hsq
                  obtain ⟨bO, oO, uO, hAO, _, _, _⟩ := SO.out.at_ hlt
                  subst hAO
                  simp only [Option.map_some, addr_add] at hsq
                  have SQ := Lib.hid hsq
                  have HF := Lib.hid (fun (w : World) (hs : Sees w Ar nr cr (bs r)) => few_nat Ar nr cr 200 200 (bs r) w hs (bs_one _) (by decide) (by decide) rfl)
                  simp only [bs_take, List.take_of_length_le (show r.length ≤ 200 by omega), show min nr 200 = nr by omega] at HF
                  have HNX := Lib.hid (PC.out.next kk)
                  have HER := Lib.hid (PC.out.err kk)
                  rw [← hq] at HNX HER
                  have hrl : (r ++ q).length = nr + kk := by rw [List.length_append, hql, hnr]
                  have hp1 : spL (nr + kk) 64 (r ++ q) = sL 64 (r ++ q) := by rw [← hrl]; rfl
                  have hp2 : spR (nr + kk) 64 (r ++ q) = sR 64 (r ++ q) := by rw [← hrl]; rfl
                  have hp3 : spE (nr + kk) 64 (r ++ q) = sE 64 (r ++ q) := by rw [← hrl]; rfl
                  have hsl := sL_len 64 (r ++ q)
                  have HP := Lib.hid (And.intro hp1 (And.intro hp2 hp3))
                  have hnr67 : nr ≤ 67 := by omega
                  have hk13 : kk ≤ 13 := by omega
                  have HRL := Lib.hid hrl
                  have HK1 := Lib.hid hkk1
                  have hdsq : d.length + (sL 64 (r ++ q)).length ≤ 1000 := by rw [hrl] at hsl; omega
                  have HJ9 := Lib.hid (show (j + 1) / 9 ≤ at' + kk by omega)
                  have HMS := Lib.hid (show 9 * (ow.length - (at' + kk)) + (8 - (j + 1) % 9) < 9 * (ow.length - at') + (8 - j % 9) by omega)
                  clear hq hsq hp1 hp2 hp3 hrl hkk1 hql hnr hsl hrs
                  try clear hkk
                  go_wp2_with fail
                  try rw [HK1.out]
                  refine wp_region_plS (Ext wr.drew) (.free 0 (.free 2 (.free 3 (.free 4 (.free 5 (.one 1 (.one 6 (.one 7 (.free 8 (.free 9 (.free 10 (.free 11 (.free 12 (.free 13 (.free 14 .nil))))))))))))))) (by kernel_rfl) (by kernel_rfl) (by kernel_rfl) (by kernel_rfl) ?_
                  iterate 4 (refine plS_val (v := ?_) rfl rfl (by first | exact Ext.refl _ | assumption) (fun w' hw' => ?_) ?_; rotate_left; (· go_simp; try with_reducible rfl); simp only [Act.put, List.setIfInBounds_toArray, List.set_cons_zero, List.set_cons_succ])
                  refine plS_val (v := .slice (some ⟨bO, oO + at', none⟩) kk (cO - at')) rfl rfl (by first | exact Ext.refl _ | assumption) (fun w' hw' => ?_) ?_
                  · go_simp
                    rw [if_pos (show (0 : Int) ≤ (at' : Int) + (kk : Int) ∧ (at' : Int) + (kk : Int) ≤ (cO : Int) from ⟨by omega, by omega⟩), if_pos (show at' ≤ ((at' : Int) + (kk : Int)).toNat by omega), if_neg (show ¬ cO = at' by omega), show ((at' : Int) + (kk : Int)).toNat - at' = kk by omega]
                  simp only [Act.put, List.setIfInBounds_toArray, List.set_cons_zero, List.set_cons_succ]
                  refine plS_call 15 #[.slice Ar nr cr, .int .i64 200] rfl rfl (by go_simp) ?_
                  refine (HF.out _ SR.out.drew).mono ?_
                  rintro e w8 ⟨v8, rfl, own8, e8⟩
                  refine ⟨_, rfl, e8, ?_⟩
                  simp only [Act.put, List.setIfInBounds_toArray, List.set_cons_zero, List.set_cons_succ]
                  obtain ⟨v9, w9, hrun9, own9, hg9, _⟩ := run_append_sees (P := Try.prog) (w := w8) wr.drew.heap.size 22 22 5 i0 _ 1 Try.underlying22 hi hz0 hz1 hz2 rfl _ _ _ own8 _ _ _ _ (SQ.out.ext (EX.out.drew.trans e8)) (bs_one _) (by unfold maxLen; omega) (by omega) e8.size
                  have e9 : Ext wr.drew w9 := e8.grown hg9 fun k hk => (own8.lt k hk).1
                  rw [← bs_append] at own9
                  refine plS_run (w' := w9) _ rfl rfl (exec_append (.tmp 76) (.tmp 80) _ rfl _ _ rfl rfl _ _ hrun9) e9 ?_
                  simp only [Act.put, List.setIfInBounds_toArray, List.set_cons_zero, List.set_cons_succ]
                  obtain ⟨A9, c9, rfl, see9⟩ := Sees.of_own own9
                  have HLS := Lib.hid (lsplitL_any A9 (nr + kk) c9 (r ++ q) 64 w9 see9 (by omega) (by omega) (by omega))
                  rw [HP.out.1, HP.out.2.1, HP.out.2.2] at HLS
                  have B9 : wr.heap.size ≤ w9.heap.size := e9.size
                  clear own8 own9 hg9 hrun9 see9 e8
                  refine plS_call 57 #[.slice A9 (nr + kk) c9, .int .i64 64] rfl rfl (by go_simp) ?_
                  refine (HLS.out).mono ?_
                  rintro e w10 ⟨v1, v2, kR, rfl, ownS, ownR, e10'⟩
                  have e10 : Ext wr.drew w10 := e9.trans e10'
                  obtain ⟨vsS, ownS1, ownS2⟩ := ownS
                  obtain ⟨AS, cS, rfl, seeS⟩ := Sees.of_own ownS1
                  obtain ⟨AR, cR, rfl, seeR⟩ := Sees.of_own ownR
                  have hlowR := own_low (lo := w9.heap.size) ownR rfl (Nat.le_refl _)
                  refine ⟨_, rfl, e10, ?_⟩
                  simp only [Act.put, List.setIfInBounds_toArray, List.set_cons_zero, List.set_cons_succ]
                  iterate 7 (refine plS_val (v := ?_) rfl rfl (by first | exact Ext.refl _ | assumption) (fun w' hw' => ?_) ?_; rotate_left; (· go_simp; try with_reducible rfl); simp only [Act.put, List.setIfInBounds_toArray, List.set_cons_zero, List.set_cons_succ])
                  refine plS_done ?_
                  have ownv := OWN.out.lt
                  obtain ⟨v11, w11, hrun11, own11, hg11⟩ := ownL_app (OWN.out.ext ((Ext.refl wr).drew.trans e10)) (by have := EX.out.size; have := e10.size; simp at this; omega) hdsq seeS seeS.len (fun j' r' hr' => by
                    obtain ⟨u, h3, ⟨A', n', c', rfl, h5, _⟩, h7⟩ := ownS2 j' r' hr'
                    exact ⟨_, h3, ⟨A', n', c', rfl, h5, fun a hA hn heq => by
                      have g1 := (ownv _ heq).2
                      have g2 := h7 a n' c' (by rw [hA]) hn
                      omega⟩, fun a n c hu hn => by
                      have g2 := h7 a n c hu hn
                      have := EX.out.size
                      omega⟩)
                  have E11 := Lib.hid (show Ext w7 w11 from (EX.out.drew.trans e10).grown hg11 fun k hk => (ownv k hk).1)
                  have SR11 := Lib.hid (seeR.grown hg11 fun a hA hn heq => by
                    have g1 := (ownv _ heq).2
                    have g2 := hlowR a hA hn
                    omega)
                  have OWN11 := Lib.hid own11
                  have HRUN := Lib.hid hrun11
                  clear seeS ownS1 ownS2 ownR seeR hlowR hg11 hrun11 own11 e10 e10' e9 HLS HF HP ownv hdsq
                  obtain ⟨Aq, cq, rfl, -⟩ := OWN11.out.toB.sees
                  by_cases her : sE 64 (r ++ q) = 0
                  · have HX := Lib.hid (HNX.out her)
                    clear HNX HER
                    generalize sL 64 (r ++ q) = ls at *
                    generalize sR 64 (r ++ q) = rs at *
                    generalize sE 64 (r ++ q) = er at *
                    subst her
                    generalize d ++ ls = dd at *
                    try clear hkk3
                    try clear h8
                    try clear h8b
                    try clear hmn
                    try clear h13
                    go_wp2_with (first | (at_builtin; refine wpList_append_run rfl (.tmp 86) (.tmp 87) _ rfl _ _ rfl rfl _ w11 HRUN.out ?_) | fail)
                    go_roundw
                    case rel => exact ⟨at' + kk, j + 1, _, _, _, _, _, by go_num, by go_num, rfl, hkk2, HJ9.out, HX.out, OWN11.out, SR11.out, E11.out⟩
                    case measure =>
                      have := HMS.out
                      simp [intOf]
                      omega
                  · have HX := HER.out her
                    clear HNX HER
                    generalize sL 64 (r ++ q) = ls at *
                    generalize sR 64 (r ++ q) = rs at *
                    generalize sE 64 (r ++ q) = er at *
                    obtain ⟨x1, x2, x3⟩ := HX
                    rw [HDS.out] at x1
                    rw [HEE.out] at x2
                    rw [← x1] at OWN11 HRUN
                    clear x1
                    subst x2 x3
                    have hkR : kR = 0 := by have := SR11.out.len; simp [bs] at this; omega
                    subst hkR
                    have her2 : (ee == 0) = false := by rw [beq_eq_false_iff_ne]; exact her
                    clear her
                    obtain ⟨g0, g1, g2⟩ := HB.out _ E11.out
                    obtain ⟨Aq2, cq2, hvq2, seeq2⟩ := (OW.out.ext E11.out).sees
                    injection hvq2 with q4 q5 q6
                    subst q4 q6
                    obtain ⟨Aq3, cq3, hvq3, seeq⟩ := OWN11.out.toB.sees
                    injection hvq3 with q7 q8 q9
                    subst q7 q9
                    have HSame := Lib.hid (sameB_eq _ _ _ _ _ _ _ seeq seeq2)
                    clear seeq seeq2 q5 q8
                    go_wp2_with (first | (at_builtin; refine wpList_append_run rfl (.tmp 86) (.tmp 87) _ rfl _ _ rfl rfl _ w11 HRUN.out ?_) | fail)
                    refine (HSame.out).mono ?_
                    rintro e w12 ⟨rfl, e12⟩
                    have E12 := Lib.hid (E11.out.trans e12)
                    clear e12
                    go_wp2_with fail
                    refine (littleLives_any _).mono ?_
                    rintro e w13 ⟨rfl, e13⟩
                    go_wp2
                    go_ret
                    exact ⟨rfl, (E7.out.trans E12.out).trans e13⟩
          · obtain rfl : at' = ow.length := by omega
            obtain ⟨t1, t2, t3⟩ := PC.out.all
            rw [HDS.out] at t1
            rw [HRR.out] at t2
            rw [HEE.out] at t3
            subst t1 t2 t3
            obtain ⟨g0, g1, g2⟩ := HB.out _ EX.out
            obtain ⟨Aq, cq, rfl, seeq⟩ := OWN.out.toB.sees
            obtain ⟨Aq2, cq2, hvq2, seeq2⟩ := (OW.out.ext EX.out).sees
            injection hvq2 with q4 q5 q6
            subst q4 q6
            have HSame := Lib.hid (sameB_eq _ _ _ _ _ ds _ seeq seeq2)
            clear seeq seeq2 q5
            go_wp2_with fail
            refine (HSame.out).mono ?_
            rintro e w8 ⟨rfl, e8⟩
            have hY1 := str_of (SR.out.ext e8)
            have hY2 := str_of ((SW.out.ext EX.out).ext e8)
            obtain ⟨g0, g1, g2⟩ := HB.out _ (EX.out.trans e8)
            have E8 := Lib.hid (EX.out.trans e8)
            clear e8
            go_wp2_with fail
            refine (littleLives_any _).mono ?_
            rintro e w9 ⟨rfl, e9⟩
            go_wp2
            go_ret
            exact ⟨rfl, (E7.out.trans E8.out).trans e9⟩
end Go.Proofs.Ytipbkhjlbnjbeaa
