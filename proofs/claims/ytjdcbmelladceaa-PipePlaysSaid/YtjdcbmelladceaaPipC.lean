/-
  Layer 5: the next piece of a pipe.
-/
import Derived.Test.YtjdcbmelladceaaPipB
import Derived.Test.YtjdcbmelladceaaPln
namespace Go.Proofs.Ytjdcbmelladceaa
open Go Go.RowKit
set_option linter.unusedVariables false
set_option linter.unusedSimpArgs false
theorem PipR.at_to {w : World} {F : Nat → Prop} {tb cb left : Nat} {H : List UInt8} {R : List (List UInt8)} {z : List Int} {at_ : Nat} (h : PipR w F tb cb left H R z at_) (b : Nat) :
    PipR (w.setCell ⟨tb, 4, none⟩ (.int .i64 (b : Int))) F tb cb left H R z b := by
  have hne := h.lt.2.2
  obtain ⟨A, n, c, buf, s, r, As, cs, h1, h2, h3, h4, ⟨h5, h6⟩, ⟨h7, h8⟩, h9⟩ := h
  have hk := kp_cell w tb cb 4 (.int .i64 (b : Int))
  exact ⟨A, n, c, buf, s, r, As, cs, by simpa using heap_setCell_same w tb 4 _ _ (.int .i64 (b : Int)) h1, (heap_setCell_other _ _ _ _ (fun e => hne e.symm)).trans h2, h3, h4, ⟨hk.sees h5 fun a ha hn => (h6 a ha hn).2, h6⟩,
    ⟨hk.sees h7 fun a ha hn => (h8 a ha hn).2, h8⟩, h9.keep (hk.mono fun k q => q.2)⟩
theorem PipR.left_to {w : World} {F : Nat → Prop} {tb cb left : Nat} {H : List UInt8} {R : List (List UInt8)} {z : List Int} {at_ : Nat} (h : PipR w F tb cb left H R z at_) (b : Nat) :
    PipR (w.setCell ⟨tb, 2, none⟩ (.int .i64 (b : Int))) F tb cb b H R z at_ := by
  have hne := h.lt.2.2
  obtain ⟨A, n, c, buf, s, r, As, cs, h1, h2, h3, h4, ⟨h5, h6⟩, ⟨h7, h8⟩, h9⟩ := h
  have hk := kp_cell w tb cb 2 (.int .i64 (b : Int))
  exact ⟨A, n, c, buf, s, r, As, cs, by simpa using heap_setCell_same w tb 2 _ _ (.int .i64 (b : Int)) h1, (heap_setCell_other _ _ _ _ (fun e => hne e.symm)).trans h2, h3, h4, ⟨hk.sees h5 fun a ha hn => (h6 a ha hn).2, h6⟩,
    ⟨hk.sees h7 fun a ha hn => (h8 a ha hn).2, h8⟩, h9.keep (hk.mono fun k q => q.2)⟩
/-- The first text's bytes are others. -/
theorem PipR.first_to {w : World} {F : Nat → Prop} {tb cb left : Nat} {H H' : List UInt8} {R : List (List UInt8)} {z : List Int} {at_ : Nat} (h : PipR w F tb cb left H R z at_) (A : Option Addr) (n c : Nat) (hs : Sees w A n c (bs H')) (hf : InF F tb cb A n) :
    PipR (w.setCell ⟨tb, 0, none⟩ (.slice A n c)) F tb cb left H' R z at_ := by
  have hne := h.lt.2.2
  obtain ⟨A0, n0, c0, buf, s, r, As, cs, h1, h2, h3, h4, ⟨h5, h6⟩, ⟨h7, h8⟩, h9⟩ := h
  have hk := kp_cell w tb cb 0 (.slice A n c)
  exact ⟨A, n, c, buf, s, r, As, cs, by simpa using heap_setCell_same w tb 0 _ _ (.slice A n c) h1, (heap_setCell_other _ _ _ _ (fun e => hne e.symm)).trans h2, h3, h4, ⟨hk.sees hs fun a ha hn => (hf a ha hn).2, hf⟩,
    ⟨hk.sees h7 fun a ha hn => (h8 a ha hn).2, h8⟩, h9.keep (hk.mono fun k q => q.2)⟩
theorem pnext_none (F : Nat → Prop) (tb cb : Nat) (z : List Int) (at_ : Nat) (w : World) (h : Pip w F tb cb [] z at_) :
    Calls Try.prog 14 #[.pointer (some ⟨tb, 0, none⟩)] w fun e w' => e = .returned (.tuple #[.slice none 0 0, .bool false]) ∧ w = w' := by
  obtain ⟨⟨A, n, c, buf, s, r, As, cs, h1, _⟩, _⟩ := h
  have c2 := cell_of_row w tb 2 _ _ _ h1
  simp at c2
  clear h1
  go_enter Try.func14, Try.ntmps14
  go_wp2
  go_ret2
  exact ⟨rfl, rfl⟩
def PNext (w : World) (F : Nat → Prop) (tb cb : Nat) (T : List (List UInt8)) (z : List Int) (at_ k : Nat) (e : Ending) (w' : World) : Prop :=
  ∃ A c, e = .returned (.tuple #[.slice A k c, .bool true]) ∧ w'.ownsRow w.heap.size 5 1 (.slice A k c) k (bs (T.flatten.take k)) ∧ Pip w' F tb cb (cutT k T) z ((at_ + 1) % z.length) ∧ Kp (Two tb cb) w w'
theorem Kp.grown_new {X : Nat → Prop} {a b c : World} {row : Option Nat} (h : Kp X a b) (hg : b.grownBy c row) (hr : ∀ k, row = some k → a.heap.size ≤ k) : Kp X a c :=
  ⟨hg.os.trans h.os, hg.tape.trans h.tape, hg.output.trans h.output, Nat.le_trans h.size hg.size, fun k hk hlt => (hg.block k (Nat.lt_of_lt_of_le hlt h.size) (fun e => by have := hr k e.symm; omega)).trans (h.block k hk hlt)⟩
/-- What the loop of a piece keeps. -/
def PLoop (w : World) (F : Nat → Prop) (tb cb : Nat) (T : List (List UInt8)) (z : List Int) (at_ K : Nat) (pv : Value) (wr : World) : Prop :=
  ∃ (T' : List (List UInt8)) (k : Nat), k ≤ K ∧ wr.ownsRow w.heap.size 5 1 pv k (bs (T.flatten.take k)) ∧ PipR wr F tb cb T.flatten.length (T'.headD []) T'.tail z at_ ∧ AllNe T' ∧ T'.flatten = T.flatten.drop k ∧ cutT (K - k) T' = cutT K T ∧ T'.length ≤ 64 ∧ Kp (Two tb cb) w wr
set_option maxRecDepth 100000 in
set_option maxHeartbeats 2000000 in
theorem pnext_some (F : Nat → Prop) (tb cb : Nat) (T : List (List UInt8)) (z : List Int) (at_ k : Nat) (w : World) (h : Pip w F tb cb T z at_) (hF : ∀ j, F j → j < w.heap.size) (hT : 0 < T.flatten.length) (hl : T.flatten.length ≤ 100000) (hk : k = min (szF z at_) T.flatten.length) :
    Calls Try.prog 14 #[.pointer (some ⟨tb, 0, none⟩)] w (PNext w F tb cb T z at_ k) := by
  obtain ⟨hr, hne, h64, hat, hzb, hzl⟩ := h
  have HNE := Lib.hid hne
  obtain ⟨L, hL⟩ : ∃ L, T.flatten.length = L := ⟨_, rfl⟩
  rw [hL] at hr hT hl hk
  have HR := Lib.hid hr
  obtain ⟨A, n, c, buf, s, r, As, cs, h1, h2, h3, h4, ⟨h5, h6⟩, ⟨h7, h8⟩, h9⟩ := hr
  obtain ⟨bz, oz, u, hAs, hu, hcz, hbz⟩ := h7.at_ hat
  subst hAs
  have hcs := h7.le
  obtain ⟨zl, hzl'⟩ : ∃ zl, z.length = zl := ⟨_, rfl⟩
  obtain ⟨zat, hza⟩ : ∃ zat, z.getD at_ 0 = zat := ⟨_, rfl⟩
  have hzin : z[at_]? = some zat := by
    rw [← hza, List.getD_eq_getElem?_getD, List.getElem?_eq_getElem hat]
    rfl
  have hu2 : u = .int .i64 zat := by
    rw [List.getElem?_map, hzin] at hu
    injection hu with hu
    exact hu.symm
  subst hu2
  obtain ⟨hz0, hz1⟩ := hzb zat (List.mem_of_getElem? hzin)
  have hk2 : (k : Int) = min zat (L : Int) := by
    rw [hk]
    unfold szF
    rw [hza]
    omega
  have c0 := cell_of_row w tb 0 _ _ _ h1
  have c2 := cell_of_row w tb 2 _ _ _ h1
  have c3 := cell_of_row w tb 3 _ _ _ h1
  have c4 := cell_of_row w tb 4 _ _ _ h1
  have f4 := Lib.frozen_of_heap h1 4
  simp at c0 c2 c3 c4
  rw [hzl'] at c3 hat hzl
  have g1 : ((L : Int) == 0) = false := by simpa using (show ¬ L = 0 by omega)
  have g2 : IntKind.i64.wrap ((at_ : Int) + 1) = (at_ : Int) + 1 := by rw [IntKind.wrap_i64]; omega
  have g3 : (at_ : Int) < (zl : Int) := by omega
  have g4 : (0 : Int) ≤ (at_ : Int) := by omega
  have HL := Lib.hid hL
  have HZL := Lib.hid hzl'
  have HK := Lib.hid hk
  have HK2 := Lib.hid hk2
  have HZB := Lib.hid hzb
  clear h1 h2 h3 h4 h5 h6 h7 h8 h9 hu hzb hza hzin hL hzl' hne hk hk2 hbz
  go_enter Try.func14, Try.ntmps14
  go_wp2_with fail
  refine wp_region_pl (.free 0 (.free 1 (.free 2 (.free 3 (.free 4 (.free 5 (.free 6 (.free 7 (.free 8 (.free 9 (.free 10 (.free 11 (.free 12 (.free 13 (.free 14 (.free 15 .nil)))))))))))))))) (by kernel_rfl) (by kernel_rfl) (by kernel_rfl) (by kernel_rfl) ?_
  iterate 14 (refine pl_val (v := ?_) rfl rfl (fun w' hw' => ?_) ?_; rotate_left; (· have y2 := hw'.cell c2; have y3 := hw'.cell c3; have y4 := hw'.cell c4; have yz := hw'.cell hcz; go_simp; try with_reducible rfl); simp only [Act.put, List.setIfInBounds_toArray, List.set_cons_zero, List.set_cons_succ])
  refine pl_val (.int .i64 (k : Int)) rfl rfl (fun w' hw' => by
    have e := HK2.out
    go_simp
    split <;> (try simp) <;> omega) ?_
  simp only [Act.put, List.setIfInBounds_toArray, List.set_cons_zero, List.set_cons_succ]
  iterate 1 (refine pl_val (v := ?_) rfl rfl (fun w' hw' => ?_) ?_; rotate_left; (· skip; go_simp; try with_reducible rfl); simp only [Act.put, List.setIfInBounds_toArray, List.set_cons_zero, List.set_cons_succ])
  refine pl_done ?_
  go_wp2_with fail
  obtain ⟨w1, hw1⟩ : ∃ w1, w.drew = w1 := ⟨_, rfl⟩
  have e1 : Ext w w1 := by rw [← hw1]; exact (Ext.refl w).drew
  have d0 := e1.cell c0
  have d2 := e1.cell c2
  have d3 := e1.cell c3
  have d4 := e1.cell c4
  rw [hw1]
  clear hw1 c0 c2 c3 c4 hcz
  have g5 : (0 : Int) < (zl : Int) := by omega
  have g6 : ((zl : Int) == 0) = false := by simpa using (show ¬ zl = 0 by omega)
  have g8 : ¬ zl = 0 := by omega
  obtain ⟨b1, hb1⟩ : ∃ b1, (at_ + 1) % zl = b1 := ⟨_, rfl⟩
  have g7 : ((at_ : Int) + 1).tmod (zl : Int) = (b1 : Int) := by
    rw [← hb1, Int.tmod_eq_emod_of_nonneg (by omega), Int.natCast_emod, Int.natCast_add]
    rfl
  have hb1l : b1 < zl := by rw [← hb1]; exact Nat.mod_lt _ (by omega)
  have HB1 := Lib.hid hb1
  clear hb1
  go_still_tail 14, (by kernel_rfl)
  change wpList _ _ _ _ _ w1.drew
  obtain ⟨w2, hw2⟩ : ∃ w2, w1.drew = w2 := ⟨_, rfl⟩
  have e2 : Ext w1 w2 := by rw [← hw2]; exact (Ext.refl w1).drew
  have x4 := e2.cell d4
  have y4 : w2.frozen? ⟨tb, 4, none⟩ = false := by
    unfold World.frozen? at f4 ⊢
    rw [(e1.trans e2).block tb HR.out.lt.1]
    exact f4
  rw [hw2]
  have HR2 := Lib.hid ((HR.out.keep (Kp.of_ext (e1.trans e2))).at_to b1)
  have HK2' := Lib.hid ((Kp.of_ext (X := Two tb cb) (e1.trans e2)).trans (kp_cell w2 tb cb 4 (.int .i64 (b1 : Int))))
  clear hw2 d0 d2 d3 d4 e1 e2 g5 g6 g7 g8
  go_wp2_with fail
  obtain ⟨w3, hw3⟩ : ∃ w3, w2.setCell ⟨tb, 4, none⟩ (.int .i64 (b1 : Int)) = w3 := ⟨_, rfl⟩
  rw [hw3] at HR2 HK2' ⊢
  clear hw3 x4 y4 f4
  go_loopw [5] (fun pv wr => PLoop w F tb cb T z b1 k pv wr) (fun pv _ => k - lenV pv)
  case atStart => exact ⟨T, 0, by omega, World.ownsRow_nil _ _ _ _, by rw [HL.out]; exact HR2.out, HNE.out, by simp, by simp, h64, HK2'.out⟩
  case round =>
    obtain ⟨T', q, hqk, hown, hr, hne', hfl, hct, h64', hkp⟩ := hrel
    obtain ⟨Ap, cp, rfl, hsp⟩ := Sees.of_own hown
    have HLE : k ≤ L := by rw [HK.out]; omega
    rw [HL.out] at hr
    have HR3 := Lib.hid hr
    have HOWN := Lib.hid hown
    have HNE3 := Lib.hid hne'
    have HFL := Lib.hid hfl
    have HCT := Lib.hid hct
    have HKP := Lib.hid hkp
    have HSP := Lib.hid hsp
    have hspl := hsp.le
    have hspm := hsp.max
    unfold maxLen at hspm
    clear hown hr hne' hfl hct hkp hsp
    by_cases hlt : q < k
    · cases T' with
      | nil =>
        exfalso
        have := congrArg List.length HFL.out
        rw [List.length_drop, HL.out] at this
        simp at this
        omega
      | cons hh tt =>
        have hhp := HNE3.out.head
        obtain ⟨A', n', c', buf', s', r', As', cs', h1', h2', h3', h4', ⟨h5', h6'⟩, _⟩ := HR3.out
        have d0 := cell_of_row wr tb 0 _ _ _ h1'
        have e0 := Lib.frozen_of_heap h1' 0
        simp only [List.headD_cons] at h5'
        have hn' : n' = hh.length := by have := h5'.len; rw [bs_length] at this; exact this.symm
        subst hn'
        simp at d0
        have H5 := Lib.hid h5'
        have H6 := Lib.hid h6'
        have H5L := h5'.le
        have H5M := h5'.max
        unfold maxLen at H5M
        obtain ⟨bh, oh, u0, hA', _, _, hbl⟩ := h5'.at_ hhp
        subst hA'
        clear h1' h2' h3' h4' h5' h6'
        by_cases hm : k - q < hh.length
        · obtain ⟨m, hmq⟩ : ∃ m, k - q = m := ⟨_, rfl⟩
          have g11 : (k : Int) - (q : Int) = (m : Int) := by omega
          have g12 : (m : Int) < (hh.length : Int) := by omega
          have g13 : IntKind.i64.wrap (m : Int) = (m : Int) := by rw [IntKind.wrap_i64]; omega
          obtain ⟨i0, hi, hz0', hz1', hz2'⟩ := info_parts infoB
          have hHT := H5.out.take m (by omega)
          rw [bs_take] at hHT
          obtain ⟨v', w4, hrun, hown4, hg4, hat4⟩ := run_append_sees (P := Try.prog) (w := wr) w.heap.size 33 33 5 i0 _ 1 Try.underlying33 hi hz0' hz1' hz2' rfl (.slice Ap q cp) q _ HOWN.out
            _ m c' (bs (hh.take m)) hHT (bs_one _) (by unfold maxLen; omega) (by omega) (Nat.le_trans (Nat.le_refl _) HKP.out.size)
          obtain ⟨A4, c4, rfl, _⟩ := Sees.of_own hown4
          have hkF : Kp F wr w4 := (Kp.refl F wr).grown hg4 (fun j hj q => by have := (HOWN.out.lt j hj).1; have := hF j q; omega)
          have hr4 := HR3.out.keep hkF
          have hs4 := (hkF.sees H5.out fun a ha hn => (H6.out a ha hn).1).drop m (by omega) (by omega)
          rw [bs_drop] at hs4
          have hf4 : InF F tb cb (some ⟨bh, oh + m, none⟩) (hh.length - m) := fun a ha hn => by
            injection ha with ha
            subst ha
            exact H6.out ⟨bh, oh, none⟩ rfl hhp
          simp only [Option.map_some, addr_add] at hs4
          have hr5 := hr4.first_to _ _ _ hs4 hf4
          have x0 := hkF.cell (p := ⟨tb, 0, none⟩) d0 HR.out.inF.1
          have y0 : w4.frozen? ⟨tb, 0, none⟩ = false := by
            unfold World.frozen? at e0 ⊢
            rw [hkF.block tb HR.out.inF.1 HR3.out.lt.1]
            exact e0
          have g14 : ((hh.length - m : Nat) : Int) = (hh.length : Int) - (m : Int) := by omega
          have g15 : ¬ hh.length - m = 0 := by omega
          have g16 : ¬ hh.length ≤ m := by omega
          have HFIN : Hid (PLoop w F tb cb T z b1 k (.slice A4 (q + m) c4) (w4.setCell ⟨tb, 0, none⟩ (.slice (some ⟨bh, oh + m, none⟩) (hh.length - m) (c' - m)))) := Lib.hid ⟨hh.drop m :: tt, q + m, by omega, by
              rw [← bs_append] at hown4
              have e : T.flatten.take (q + m) = T.flatten.take q ++ hh.take m := by
                have h1 := HFL.out
                rw [List.take_add, ← h1]
                simp [List.take_append, show m - hh.length = 0 by omega]
              rw [e]
              exact (kp_cell w4 tb cb 0 _).own hown4 (fun j hj => by
                rcases hat4 with h | h
                · rw [h] at hj
                  have := (HOWN.out.lt j hj).1
                  have := HR.out.lt
                  exact ⟨by omega, by omega⟩
                · rw [h] at hj
                  injection hj with hj
                  have := HR3.out.lt
                  exact ⟨by omega, by omega⟩),
            by rw [HL.out]; exact hr5, fun x hx => by
              simp at hx
              rcases hx with rfl | hx
              · intro e
                have := congrArg List.length e
                simp at this
                omega
              · exact HNE3.out.tail x hx,
            by
              have h1 := HFL.out
              rw [← List.drop_drop, ← h1]
              simp [List.drop_append, show m - hh.length = 0 by omega],
            by
              have h1 := HCT.out
              rw [← h1]
              conv => rhs; unfold cutT
              rw [if_pos (by omega), show k - (q + m) = 0 by omega, hmq]
              unfold cutT
              rw [if_pos (by simp; omega)]
              simp,
            by simpa using h64', (HKP.out.grown_new hg4 fun j hj => (HOWN.out.lt j hj).1).trans (kp_cell w4 tb cb 0 _)⟩
          clear hkF hr4 hs4 hf4 hr5 hown4 hg4 hat4 hHT
          go_wp2_with (first | (at_builtin; refine wpList_append_run rfl (.tmp 55) (.tmp 61) _ rfl _ _ rfl rfl _ w4 hrun ?_) | fail)
          go_roundw
          case rel => exact HFIN.out
          case measure => simp [lenV]; omega
        · have hmn : ¬ (k : Int) - (q : Int) < (hh.length : Int) := by omega
          obtain ⟨m, hmq⟩ : ∃ m, hh.length = m := ⟨_, rfl⟩
          rw [hmq] at d0 hm hhp H5 H5L H6 hmn
          have g11 : (m : Int) ≤ (k : Int) - (q : Int) := by omega
          have gmin : (if (m : Int) < (k : Int) - (q : Int) then (m : Int) else (k : Int) - (q : Int)) = (m : Int) := by split <;> omega
          have g13 : IntKind.i64.wrap (m : Int) = (m : Int) := by rw [IntKind.wrap_i64]; omega
          obtain ⟨i0, hi, hz0', hz1', hz2'⟩ := info_parts infoB
          obtain ⟨v', w4, hrun, hown4, hg4, hat4⟩ := run_append_sees (P := Try.prog) (w := wr) w.heap.size 33 33 5 i0 _ 1 Try.underlying33 hi hz0' hz1' hz2' rfl (.slice Ap q cp) q _ HOWN.out
            _ m c' (bs hh) H5.out (bs_one _) (by unfold maxLen; omega) (by omega) (Nat.le_trans (Nat.le_refl _) HKP.out.size)
          obtain ⟨A4, c4, rfl, _⟩ := Sees.of_own hown4
          have hkF : Kp F wr w4 := (Kp.refl F wr).grown hg4 (fun j hj q => by have := (HOWN.out.lt j hj).1; have := hF j q; omega)
          have hr4 := HR3.out.keep hkF
          have x0 := hkF.cell (p := ⟨tb, 0, none⟩) d0 HR.out.inF.1
          have y0 : w4.frozen? ⟨tb, 0, none⟩ = false := by
            unfold World.frozen? at e0 ⊢
            rw [hkF.block tb HR.out.inF.1 HR3.out.lt.1]
            exact e0
          have HMQ := Lib.hid hmq
          have HPRE : Hid (w4.ownsRow w.heap.size 5 1 (.slice A4 (q + m) c4) (q + m) (bs (T.flatten.take (q + m))) ∧ (∀ j, (Value.slice A4 (q + m) c4).ownBlock = some j → ¬ j = tb ∧ ¬ j = cb) ∧ tt.flatten = T.flatten.drop (q + m) ∧ cutT (k - (q + m)) tt = cutT k T ∧ Kp (Two tb cb) w w4) := Lib.hid ⟨by
              rw [← bs_append] at hown4
              have e : T.flatten.take (q + m) = T.flatten.take q ++ hh := by
                have h1 := HFL.out
                rw [List.take_add, ← h1, ← hmq]
                simp
              rw [e]
              exact hown4, (fun j hj => by
                rcases hat4 with h | h
                · rw [h] at hj
                  have := (HOWN.out.lt j hj).1
                  have := HR.out.lt
                  exact ⟨by omega, by omega⟩
                · rw [h] at hj
                  injection hj with hj
                  have := HR3.out.lt
                  exact ⟨by omega, by omega⟩), by
              have h1 := HFL.out
              rw [← List.drop_drop, ← h1, ← hmq]
              simp, by
              have h1 := HCT.out
              rw [← h1]
              conv => rhs; unfold cutT
              rw [if_neg (by omega), hmq, show k - q - m = k - (q + m) by omega], HKP.out.grown_new hg4 fun j hj => (HOWN.out.lt j hj).1⟩
          by_cases hcm : c' = m
          · subst hcm
            have hs4 := (hkF.sees H5.out fun a ha hn => (H6.out a ha hn).1).drop_all c' (by omega) rfl
            rw [bs_drop, List.drop_of_length_le (by omega), Nat.sub_self] at hs4
            have HR5 := Lib.hid (hr4.first_to _ _ _ hs4 (InF.none _ _ _ _))
            clear hkF hr4 hs4 hown4 hg4 hat4 hmq
            go_wp2_with (first | (at_builtin; refine wpList_append_run rfl (.tmp 55) (.tmp 61) _ rfl _ _ rfl rfl _ w4 hrun ?_) | fail)
            refine (pshift_any F tb cb L tt z b1 _ HR5.out).mono ?_
            rintro e w6 ⟨rfl, hr6, hk6⟩
            have HR6 := Lib.hid hr6
            have HK6 := Lib.hid hk6
            clear hr6 hk6
            go_wp2_with fail
            go_roundw
            case rel => exact ⟨tt, q + c', by omega, HK6.out.own ((kp_cell w4 tb cb 0 _).own HPRE.out.1 HPRE.out.2.1) HPRE.out.2.1, by rw [HL.out]; exact HR6.out, HNE3.out.tail, HPRE.out.2.2.1, HPRE.out.2.2.2.1, by simp at h64'; omega, (HPRE.out.2.2.2.2.trans (kp_cell w4 tb cb 0 _)).trans HK6.out⟩
            case measure => simp [lenV]; omega
          · have hs4 := (hkF.sees H5.out fun a ha hn => (H6.out a ha hn).1).drop m (by omega) hcm
            rw [bs_drop, List.drop_of_length_le (by omega), Nat.sub_self] at hs4
            simp only [Option.map_some, addr_add] at hs4
            have HR5 := Lib.hid (hr4.first_to _ _ _ hs4 (InF.none _ _ _ _))
            have g16 : ¬ c' ≤ m := by omega
            clear hkF hr4 hs4 hown4 hg4 hat4 hmq
            go_wp2_with (first | (at_builtin; refine wpList_append_run rfl (.tmp 55) (.tmp 61) _ rfl _ _ rfl rfl _ w4 hrun ?_) | fail)
            refine (pshift_any F tb cb L tt z b1 _ HR5.out).mono ?_
            rintro e w6 ⟨rfl, hr6, hk6⟩
            have HR6 := Lib.hid hr6
            have HK6 := Lib.hid hk6
            clear hr6 hk6
            go_wp2_with fail
            go_roundw
            case rel => exact ⟨tt, q + m, by omega, HK6.out.own ((kp_cell w4 tb cb 0 _).own HPRE.out.1 HPRE.out.2.1) HPRE.out.2.1, by rw [HL.out]; exact HR6.out, HNE3.out.tail, HPRE.out.2.2.1, HPRE.out.2.2.2.1, by simp at h64'; omega, (HPRE.out.2.2.2.2.trans (kp_cell w4 tb cb 0 _)).trans HK6.out⟩
            case measure => simp [lenV]; omega
    · obtain rfl : q = k := by omega
      have hqq : T' = cutT q T := by
        rw [← HCT.out, Nat.sub_self, cutT_zero _ HNE3.out]
      have HQQ := Lib.hid hqq
      obtain ⟨A', n', c', buf', s', r', As', cs', h1', _⟩ := HR3.out
      have d2 := cell_of_row wr tb 2 _ _ _ h1'
      have e2 := Lib.frozen_of_heap h1' 2
      simp at d2
      obtain ⟨b2, hb2⟩ : ∃ b2, L - q = b2 := ⟨_, rfl⟩
      have g9 : (L : Int) - (q : Int) = (b2 : Int) := by omega
      have g10 : IntKind.i64.wrap (b2 : Int) = (b2 : Int) := by rw [IntKind.wrap_i64]; omega
      have HB2 := Lib.hid hb2
      clear h1' hb2 hqq
      go_wp2_with fail
      go_ret2
      refine ⟨Ap, cp, rfl, (kp_cell wr tb cb 2 (.int .i64 (b2 : Int))).own HOWN.out (fun j hj => by
        have := (HOWN.out.lt j hj).1
        have := HR.out.lt
        exact ⟨by omega, by omega⟩), ⟨?_, cutT_ne _ _ HNE.out, ?_, ?_, HZB.out, ?_⟩, HKP.out.trans (kp_cell wr tb cb 2 (.int .i64 (b2 : Int)))⟩
      · rw [← HQQ.out, HFL.out, List.length_drop, HL.out, HB2.out]
        rw [HZL.out, HB1.out]
        exact HR3.out.left_to b2
      · have := cutT_len T q
        omega
      · rw [HZL.out, HB1.out]
        exact hb1l
      · rw [HZL.out]; exact hzl
end Go.Proofs.Ytjdcbmelladceaa
