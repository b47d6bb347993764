/-
  Layer 2: messages are split, on the document's side.
-/
import Derived.Test.YtipbkhjlbnjbeaaLitP
import Derived.Test.YtipbkhjlbnjbeaaLitQ
namespace Go.Proofs.Ytipbkhjlbnjbeaa
open Go Go.RowKit
set_option linter.unusedVariables false
set_option linter.unusedSimpArgs false
theorem OwnB.mono {w : World} {base base' : Nat} {v : Value} {rs : List (List UInt8)} (h : OwnB w base v rs) (hb : base' ≤ base) : OwnB w base' v rs := by
  obtain ⟨vs, h1, h2⟩ := h
  exact ⟨vs, own_mono h1 hb, h2⟩
theorem OwnB.onP {w w' : World} {base g : Nat} {v : Value} {rs : List (List UInt8)} (h : OwnB w base v rs) (hp : Plain w g) (ho : Onl g w w') (hg : v.ownBlock ≠ some g) : OwnB w' base v rs := by
  obtain ⟨vs, h1, h2⟩ := h
  refine ⟨vs, ?_, fun j r hr => ?_⟩
  · obtain ⟨q1, q2⟩ := h1
    refine ⟨q1, ?_⟩
    rcases q2 with q2 | ⟨g0, cap, cur, hv, hb, hh, r⟩
    · exact .inl q2
    · refine .inr ⟨g0, cap, cur, hv, hb, ho.heap hh (fun e => hg (by rw [hv, e]; rfl)), r⟩
  · obtain ⟨u, h3, A', n', c', h4, h5, h6⟩ := h2 j r hr
    exact ⟨u, h3, A', n', c', h4, h5.onP hp ho, h6⟩
theorem plain_S {w : World} {g : Nat} {v u : Value} {e : Int} {t : TypeId} (hb : w.heap[g]? = some (.cells #[v, u, .int .i64 e] t (0, 0))) (hv : ∀ x : Int, v ≠ .int .u8 x) (hu : ∀ x : Int, u ≠ .int .u8 x) : Plain w g :=
  ⟨_, _, _, hb, fun i x h => by
    match i, h with
    | 0, h => simp at h; exact hv x h
    | 1, h => simp at h; exact hu x h
    | 2, h => simp at h
    | i + 3, h => simp at h⟩
theorem OwnB.notInt {w : World} {base : Nat} {v : Value} {rs : List (List UInt8)} (h : OwnB w base v rs) (x : Int) : v ≠ .int .u8 x := by
  obtain ⟨A, c, hv, _⟩ := h.sees
  rw [hv]
  nofun
theorem lev4 (b0 b1 b2 b3 : UInt8) : ((leV [b0, b1, b2, b3] : Nat) : Int) = (b0.toNat : Int) + 256 * (b1.toNat : Int) + 65536 * (b2.toNat : Int) + 16777216 * (b3.toNat : Int) := by
  simp only [leV]
  omega
theorem ext_setRow {a w : World} {g : Nat} {cs : Array Value} (h : Ext a w) (hg : a.heap.size ≤ g) : Ext a (w.setRow g cs) :=
  Below.trans h ⟨rfl, rfl, rfl, by simp [World.setRow], fun k hk => setRow_other w g k _ (by omega)⟩
theorem onl_setRow (g : Nat) (w : World) (cs : Array Value) : Onl g w (w.setRow g cs) :=
  ⟨rfl, rfl, rfl, by simp [World.setRow], fun k hk hne => setRow_other w g k _ (fun e => hne (by rw [e]))⟩
theorem OwnB.ne {w : World} {base : Nat} {v : Value} {rs : List (List UInt8)} (h : OwnB w base v rs) {g : Nat} (hg : g < base) : v.ownBlock ≠ some g := fun e => by
  have := (h.lt g e).1
  omega
theorem set3 {w : World} {g : Nat} {x y z a b c : Value} {t : TypeId} (h : w.heap[g]? = some (.cells #[x, y, z] t (0, 0))) :
    (((w.setCell ⟨g, 0, none⟩ a).setCell ⟨g, 1, none⟩ b).setCell ⟨g, 2, none⟩ c).heap[g]? = some (.cells #[a, b, c] t (0, 0)) := by
  have h1 := set_blk h 0 a
  have h2 := set_blk h1 1 b
  have h3 := set_blk h2 2 c
  simpa using h3
theorem onl3 (g : Nat) (w : World) (a b c : Value) : Onl g w (((w.setCell ⟨g, 0, none⟩ a).setCell ⟨g, 1, none⟩ b).setCell ⟨g, 2, none⟩ c) := ((Onl.set w 0 a).trans (Onl.set _ 1 b)).trans (Onl.set _ 2 c)
theorem ext3 {a w : World} {g : Nat} (h : Ext a w) (hg : a.heap.size ≤ g) (x y z : Value) : Ext a (((w.setCell ⟨g, 0, none⟩ x).setCell ⟨g, 1, none⟩ y).setCell ⟨g, 2, none⟩ z) := ((h.setCell (p := ⟨g, 0, none⟩) hg x).setCell (p := ⟨g, 1, none⟩) hg y).setCell (p := ⟨g, 2, none⟩) hg z
theorem exec_append {P : Program} {w : World} {o : Oper} {a : Act} (s x : Operand) (t : TypeId)
    (ho : o.op = .call { callee := .builtin .append, args := #[s, x], argTypes := #[t, t] }) (v u : Value) (hs : a.eval s = v) (hx : a.eval x = u) (v' : Value) (w' : World)
    (hrun : (Builtin.append_ #[t, t] o.type #[v, u]).run P w = .ok v' w') : (execOp a.eval o).run P w = .ok (.value v') w' := by
  unfold execOp
  simp only [ho, resolve, invoke, builtin, Sem.run_bind, Sem.run_pure, Result.andThen_ok, List.map_toArray, List.map_cons, List.map_nil, hs, hx, hrun]
theorem infoS3 : (Try.prog.info? 70).map (·.size) = some 3 := by kernel_rfl
set_option maxRecDepth 20000 in
set_option maxHeartbeats 2000000 in
theorem rsplit_any (A : Option Addr) (n c : Nat) (l : List UInt8) (m : Int) (w : World) (hs : Sees w A n c (bs l)) (hn : n ≤ 900) (hm0 : -9223372036854775808 ≤ m) (hm1 : m ≤ 9223372036854775807) :
    Calls Try.prog 58 #[.slice A n c, .int .i64 m] w fun e w' => ∃ v1 A2 n2 c2, e = .returned (.agg #[v1, .slice A2 n2 c2, .int .i64 (spE n m l)]) ∧ OwnB w' w.heap.size v1 (spL n m l) ∧ Sees w' A2 n2 c2 (bs (spR n m l)) ∧ Ext w w' := by
  have hln := hs.len
  rw [bs_length] at hln
  have HS := Lib.hid hs
  have HL := Lib.hid hln
  have HZ := Lib.hid (infoS3)
  clear hs hln
  go_enter Try.func58, Try.ntmps58
  go_wp2_with fail
  go_loopw [0] (fun b wr => ∃ (A' : Option Addr) (n' c' : Nat) (l' : List UInt8) (d : List (List UInt8)) (f : Nat) (v : Value), b = .slice A' n' c' ∧ Sees w A' n' c' (bs l') ∧ OwnB wr (w.heap.size + 2) v d ∧ SpAt n m l d f l' ∧ Ext w wr ∧
    wr.heap[w.heap.size]? = some (.cells #[.slice none 0 0, .slice none 0 0, .int .i64 0] 70 (0, 0)) ∧ wr.heap[w.heap.size + 1]? = some (.cells #[v, .slice none 0 0, .int .i64 0] 70 (0, 0))) (fun b _ => lenV b)
  case atStart =>
    have hb := heap_alloc2_new w (.cells #[.slice none 0 0, .slice none 0 0, .int .i64 0] 70) (.cells #[.slice none 0 0, .slice none 0 0, .int .i64 0] 70)
    exact ⟨A, n, c, l, [], n, .slice none 0 0, rfl, HS.out, OwnB.nil _ _, SpAt.start n m l (by have := HL.out; omega), ((Ext.refl _).alloc _).alloc _, ((Ext.refl _).alloc _).heap (heap_alloc_new w _), hb⟩
  case round =>
    obtain ⟨A', n', c', l', d, f, v, rfl, hs', own, hsp, ext, h4, h5⟩ := hrel
    obtain ⟨Av, cv, rfl, -⟩ := own.sees
    have hc := hs'.le
    have hmx := hs'.max
    unfold maxLen at hmx
    have hl' := hs'.len
    rw [bs_length] at hl'
    have hdl := hsp.2.2.2.2
    have hfl := hsp.2.2.2.1
    have hn9 : n' ≤ 900 := by omega
    have hd9 : d.length ≤ 900 := by omega
    have Own := Lib.hid own
    have EX := Lib.hid ext
    have HS' := Lib.hid hs'
    have HSP := Lib.hid hsp
    have HL' := Lib.hid hl'
    have H4x := Lib.hid h4
    have H5x := Lib.hid h5
    have c5 := cell_of_row wr (w.heap.size + 1) 0 _ _ _ h5
    simp at c5
    have hzz : w.heap.size + 2 ≤ wr.heap.size := by
      have := (Array.getElem?_eq_some_iff.1 h5).1
      omega
    clear h4 h5
    by_cases hn4 : n' < 4
    · have hst := hsp.stop (.inl (by omega))
      have HST := Lib.hid hst
      clear own ext hs' hsp hl' hst
      have z0 := cell_of_row wr w.heap.size 0 _ _ _ H4x.out
      have z1 := cell_of_row wr w.heap.size 1 _ _ _ H4x.out
      have z2 := cell_of_row wr w.heap.size 2 _ _ _ H4x.out
      simp at z0 z1 z2
      have f0 := blk_free H4x.out 0
      have f1 := blk_free H4x.out 1
      have f2 := blk_free H4x.out 2
      go_wp2
      refine bodyPost_ret (results_cell_row rfl _ _ w.heap.size _ _ (0, 0) _ rfl (set3 H4x.out) Try.underlying70 rfl HZ.out) rfl ?_
      exact ⟨.slice Av d.length cv, _, _, _, by rw [HST.out.2.2], by rw [HST.out.1]; exact (Own.out.onP (plain_S H4x.out (fun _ => nofun) (fun _ => nofun)) (onl3 _ _ _ _ _) (Own.out.ne (by omega))).mono (by omega), by rw [HST.out.2.1]; exact (HS'.out.ext EX.out).onP (plain_S H4x.out (fun _ => nofun) (fun _ => nofun)) (onl3 _ _ _ _ _), ext3 EX.out (Nat.le_refl _) _ _ _⟩
    · have h4 : 4 ≤ n' := by omega
      obtain ⟨b, off, hA, hcl⟩ := hs'.2.2.2.2 (by omega)
      subst hA
      obtain ⟨b0, b1, b2, b3, l4, hl4⟩ : ∃ b0 b1 b2 b3 l4, l' = b0 :: b1 :: b2 :: b3 :: l4 := by
        match l', hl' with
        | b0 :: b1 :: b2 :: b3 :: l4, _ => exact ⟨b0, b1, b2, b3, l4, rfl⟩
        | [], h => simp at h; omega
        | [_], h => simp at h; omega
        | [_, _], h => simp at h; omega
        | [_, _, _], h => simp at h; omega
      have g0 := EX.out.cell (hcl 0 (.int .u8 (b0.toNat : Int)) (by rw [hl4]; rfl))
      have g1 := EX.out.cell (hcl 1 (.int .u8 (b1.toNat : Int)) (by rw [hl4]; rfl))
      have g2 := EX.out.cell (hcl 2 (.int .u8 (b2.toNat : Int)) (by rw [hl4]; rfl))
      have g3 := EX.out.cell (hcl 3 (.int .u8 (b3.toNat : Int)) (by rw [hl4]; rfl))
      rw [Nat.add_zero] at g0
      have t4 : l'.take 4 = [b0, b1, b2, b3] := by rw [hl4]; rfl
      have hK4 := lev4 b0 b1 b2 b3
      rw [← t4] at hK4
      have hform := hsp.form (by omega)
      have hrange := hsp.range (by omega)
      have hnext := hsp.next (by omega)
      have hstop := hsp.stop
      have hlt := leV4_lt l'
      generalize hK : leV (l'.take 4) = K at *
      have HK4 := Lib.hid hK4
      have u0 := b0.toNat_lt
      have u1 := b1.toNat_lt
      have u2 := b2.toNat_lt
      have u3 := b3.toNat_lt
      generalize (b0.toNat) = x0 at *
      generalize (b1.toNat) = x1 at *
      generalize (b2.toNat) = x2 at *
      generalize (b3.toNat) = x3 at *
      have HF := Lib.hid hform
      have HR := Lib.hid hrange
      have HN := Lib.hid hnext
      have HSt := Lib.hid hstop
      have HT : Hid (((x0 : Int) + 256 * (x1 : Int) + 65536 * (x2 : Int) + 16777216 * (x3 : Int)) = (K : Int)) := Lib.hid hK4.symm
      clear hform hrange hnext hstop own ext hs' hsp hl' hK hK4 hcl hl4 t4 HK4
      go_wp2
      go_quiet (fail)
      rw [HT.out]
      generalize hq : World.drewN wr _ = wq
      have EQ := Lib.hid (show Ext wr wq by rw [← hq]; exact (Ext.refl wr).drewN _)
      clear hq g0 g1 g2 g3 c5 u0 u1 u2 u3
      have H4q := Lib.hid (EQ.out.heap H4x.out)
      have H5q := Lib.hid (EQ.out.heap H5x.out)
      have c5 := cell_of_row wq (w.heap.size + 1) 0 _ _ _ H5q.out
      simp at c5
      have OwnQ := Lib.hid (Own.out.ext EQ.out)
      have EXQ := Lib.hid (EX.out.trans EQ.out)
      have hzq : w.heap.size + 2 ≤ wq.heap.size := by have := EQ.out.size; omega
      clear HT hzz
      by_cases k7 : K < 7
      · have HST := Lib.hid (HF.out k7)
        have z0 := cell_of_row wq w.heap.size 0 _ _ _ H4q.out
        have z1 := cell_of_row wq w.heap.size 1 _ _ _ H4q.out
        have z2 := cell_of_row wq w.heap.size 2 _ _ _ H4q.out
        simp at z0 z1 z2
        have f0 := blk_free H4q.out 0
        have f1 := blk_free H4q.out 1
        have f2 := blk_free H4q.out 2
        go_wp2
        refine bodyPost_ret (results_cell_row rfl _ _ w.heap.size _ _ (0, 0) _ rfl (set3 H4q.out) Try.underlying70 rfl HZ.out) rfl ?_
        exact ⟨.slice Av d.length cv, _, _, _, by rw [HST.out.2.2], by rw [HST.out.1]; exact (OwnQ.out.onP (plain_S H4q.out (fun _ => nofun) (fun _ => nofun)) (onl3 _ _ _ _ _) (OwnQ.out.ne (by omega))).mono (by omega), by rw [HST.out.2.1]; exact Sees.nil _, ext3 EXQ.out (Nat.le_refl _) _ _ _⟩
      · by_cases km : m < (K : Int)
        · have HST := Lib.hid (HR.out (by omega) km)
          have z0 := cell_of_row wq w.heap.size 0 _ _ _ H4q.out
          have z1 := cell_of_row wq w.heap.size 1 _ _ _ H4q.out
          have z2 := cell_of_row wq w.heap.size 2 _ _ _ H4q.out
          simp at z0 z1 z2
          have f0 := blk_free H4q.out 0
          have f1 := blk_free H4q.out 1
          have f2 := blk_free H4q.out 2
          go_wp2
          refine bodyPost_ret (results_cell_row rfl _ _ w.heap.size _ _ (0, 0) _ rfl (set3 H4q.out) Try.underlying70 rfl HZ.out) rfl ?_
          exact ⟨.slice Av d.length cv, _, _, _, by rw [HST.out.2.2], by rw [HST.out.1]; exact (OwnQ.out.onP (plain_S H4q.out (fun _ => nofun) (fun _ => nofun)) (onl3 _ _ _ _ _) (OwnQ.out.ne (by omega))).mono (by omega), by rw [HST.out.2.1]; exact Sees.nil _, ext3 EXQ.out (Nat.le_refl _) _ _ _⟩
        · by_cases kl : n' < K
          · have HST := Lib.hid (HSt.out (.inr ⟨by omega, by omega, by have := HL'.out; omega⟩))
            have z0 := cell_of_row wq w.heap.size 0 _ _ _ H4q.out
            have z1 := cell_of_row wq w.heap.size 1 _ _ _ H4q.out
            have z2 := cell_of_row wq w.heap.size 2 _ _ _ H4q.out
            simp at z0 z1 z2
            have f0 := blk_free H4q.out 0
            have f1 := blk_free H4q.out 1
            have f2 := blk_free H4q.out 2
            go_wp2
            refine bodyPost_ret (results_cell_row rfl _ _ w.heap.size _ _ (0, 0) _ rfl (set3 H4q.out) Try.underlying70 rfl HZ.out) rfl ?_
            exact ⟨.slice Av d.length cv, _, _, _, by rw [HST.out.2.2], by rw [HST.out.1]; exact (OwnQ.out.onP (plain_S H4q.out (fun _ => nofun) (fun _ => nofun)) (onl3 _ _ _ _ _) (OwnQ.out.ne (by omega))).mono (by omega), by rw [HST.out.2.1]; exact (HS'.out.ext EXQ.out).onP (plain_S H4q.out (fun _ => nofun) (fun _ => nofun)) (onl3 _ _ _ _ _), ext3 EXQ.out (Nat.le_refl _) _ _ _⟩
          · obtain ⟨f', hsp'⟩ := HN.out (by omega) (by omega) (by have := HL'.out; omega)
            have HSP' := Lib.hid hsp'
            have hkc : K ≤ c' := by omega
            have hsk := HS'.out.take K (by omega)
            rw [bs_take] at hsk
            have HSK := Lib.hid hsk
            obtain ⟨A2, hd2, hA2⟩ := bdrop HS'.out K (by omega)
            have HD2 := Lib.hid hd2
            have hbw : b < w.heap.size := by
              obtain ⟨b', o', u', hb', _, _, hlt'⟩ := HS'.out.at_ (show 0 < n' by omega)
              injection hb' with hb'
              injection hb' with hb' _ _
              omega
            have hne : ∀ a, (some ⟨b, off, none⟩ : Option Addr) = some a → 0 < K → (Value.slice Av d.length cv).ownBlock ≠ some a.block := fun a ha _ heq => by
              injection ha with ha
              subst ha
              have := (OwnQ.out.lt _ heq).1
              simp at this
              omega
            obtain ⟨v4, w4, hrun, hown, hg⟩ := own_push (w := wq.drew) (OwnQ.out.ext (Ext.refl wq).drew) (by simpa using hzq) (by omega) (HSK.out.ext (EXQ.out.trans (Ext.refl wq).drew)) hne
            have hg5 : w4.heap[w.heap.size + 1]? = some (.cells #[.slice Av d.length cv, .slice none 0 0, .int .i64 0] 70 (0, 0)) := by
              rw [hg.block _ (by simp; omega) (fun e => OwnQ.out.ne (show w.heap.size + 1 < w.heap.size + 2 by omega) e.symm)]
              exact ((Ext.refl wq).drew.alloc _).heap H5q.out
            have hg4 : w4.heap[w.heap.size]? = some (.cells #[.slice none 0 0, .slice none 0 0, .int .i64 0] 70 (0, 0)) := by
              rw [hg.block _ (by simp; omega) (fun e => OwnQ.out.ne (show w.heap.size < w.heap.size + 2 by omega) e.symm)]
              exact ((Ext.refl wq).drew.alloc _).heap H4q.out
            have e4 : Ext w w4 := (EXQ.out.drew.alloc _).grown hg fun k hk => by have := (OwnQ.out.lt k hk).1; omega
            obtain ⟨A5, c5', rfl, -⟩ := hown.sees
            generalize hnd : (d ++ [l'.take K]).length = nd at *
            clear hnd
            have c54 := cell_of_row w4 (w.heap.size + 1) 0 _ _ _ hg5
            simp at c54
            have f54 := blk_free hg5 0
            have h5s := fun v => by simpa using set_blk hg5 0 v
            have O5 := Lib.hid (hown.onP (plain_S hg5 (fun _ => nofun) (fun _ => nofun)) (Onl.set w4 0 (.slice A5 nd c5')) (hown.ne (show w.heap.size + 1 < w.heap.size + 2 by omega)))
            have E5 := Lib.hid (e4.setCell (p := ⟨w.heap.size + 1, 0, none⟩) (by simp) (.slice A5 nd c5'))
            have H45 : Hid ((w4.setCell ⟨w.heap.size + 1, 0, none⟩ (.slice A5 nd c5')).heap[w.heap.size]? = some (.cells #[.slice none 0 0, .slice none 0 0, .int .i64 0] 70 (0, 0))) := Lib.hid (by
              rw [heap_setCell_other w4 _ w.heap.size _ (by simp)]
              exact hg4)
            have H55 := Lib.hid (h5s (.slice A5 nd c5'))
            have c5d : wq.drew.cell? ⟨w.heap.size + 1, 0, none⟩ = some (.slice Av d.length cv) := by simpa using c5
            have c5e : (wq.alloc (.cells #[.slice (some ⟨b, off, none⟩) K c'] 22)).cell? ⟨w.heap.size + 1, 0, none⟩ = some (.slice Av d.length cv) := ((Ext.refl wq).alloc _).cell c5
            clear hsp' hsk hd2 hne hown hg hg5 hg4 e4 h5s
            by_cases hcK : c' = K
            all_goals
              first
              | (rw [if_pos hcK] at hA2
                 subst hA2
                 subst hcK
                 have hcK : True := trivial)
              | (rw [if_neg hcK] at hA2
                 subst hA2)
              go_wp2
              refine wp_region_plU (.free 0 (.free 2 (.free 3 (.free 4 (.fork 1 5 (.one 5 (.one 6 (.free 7 (.one 8 .nil)))) (.one 1 (.one 6 (.free 7 (.one 8 .nil))))))))) (by kernel_rfl) (by kernel_rfl) (by kernel_rfl) (by kernel_rfl) ?_
              iterate 4 (refine plU_val (v := ?_) rfl rfl (fun w' => ?_) ?_; rotate_left; (· go_simp; try with_reducible rfl); simp only [Act.put, List.setIfInBounds_toArray, List.set_cons_zero, List.set_cons_succ])
              refine plU_fork ?_ ?_
              · refine plU_run (w' := wq.drew) (.slice Av d.length cv) rfl rfl (by go_simp) ?_
                simp only [Act.put, List.setIfInBounds_toArray, List.set_cons_zero, List.set_cons_succ]
                refine plU_run (w' := wq.drew.alloc _) (.slice (some ⟨wq.heap.size, 0, none⟩) 1 1) rfl rfl (by go_simp; first | rfl | exact ⟨rfl, rfl⟩) ?_
                simp only [Act.put, List.setIfInBounds_toArray, List.set_cons_zero, List.set_cons_succ]
                refine plU_run (w' := w4) _ rfl rfl (exec_append (.tmp 52) (.tmp 56) _ rfl _ _ rfl rfl _ _ hrun) ?_
                simp only [Act.put, List.setIfInBounds_toArray, List.set_cons_zero, List.set_cons_succ]
                iterate 1 (refine plU_val (v := ?_) rfl rfl (fun w' => ?_) ?_; rotate_left; (· go_simp; try with_reducible rfl); simp only [Act.put, List.setIfInBounds_toArray, List.set_cons_zero, List.set_cons_succ])
                refine plU_void (w' := w4.setCell ⟨w.heap.size + 1, 0, none⟩ (.slice A5 nd c5')) rfl rfl (by go_simp) ?_
                simp only [Act.put, List.setIfInBounds_toArray, List.set_cons_zero, List.set_cons_succ]
                refine plU_done ?_
                go_wp2
                go_roundw
                case rel => exact ⟨_, _, _, _, _, f', _, rfl, by first | (have h := HD2.out; rw [show n' - c' = 0 from by omega, Nat.sub_self] at h; exact h) | simpa [addr_add] using HD2.out, O5.out, HSP'.out, E5.out, H45.out, H55.out⟩
                case measure => simp [lenV]; omega
              · refine plU_run (w' := wq.drew.alloc _) (.slice (some ⟨wq.heap.size, 0, none⟩) 1 1) rfl rfl (by go_simp; first | rfl | exact ⟨rfl, rfl⟩) ?_
                simp only [Act.put, List.setIfInBounds_toArray, List.set_cons_zero, List.set_cons_succ]
                refine plU_run (w' := wq.drew.alloc _) (.slice Av d.length cv) rfl rfl (by go_simp; try rfl) ?_
                simp only [Act.put, List.setIfInBounds_toArray, List.set_cons_zero, List.set_cons_succ]
                refine plU_run (w' := w4) _ rfl rfl (exec_append (.tmp 52) (.tmp 56) _ rfl _ _ rfl rfl _ _ hrun) ?_
                simp only [Act.put, List.setIfInBounds_toArray, List.set_cons_zero, List.set_cons_succ]
                iterate 1 (refine plU_val (v := ?_) rfl rfl (fun w' => ?_) ?_; rotate_left; (· go_simp; try with_reducible rfl); simp only [Act.put, List.setIfInBounds_toArray, List.set_cons_zero, List.set_cons_succ])
                refine plU_void (w' := w4.setCell ⟨w.heap.size + 1, 0, none⟩ (.slice A5 nd c5')) rfl rfl (by go_simp) ?_
                simp only [Act.put, List.setIfInBounds_toArray, List.set_cons_zero, List.set_cons_succ]
                refine plU_done ?_
                go_wp2
                go_roundw
                case rel => exact ⟨_, _, _, _, _, f', _, rfl, by first | (have h := HD2.out; rw [show n' - c' = 0 from by omega, Nat.sub_self] at h; exact h) | simpa [addr_add] using HD2.out, O5.out, HSP'.out, E5.out, H45.out, H55.out⟩
                case measure => simp [lenV]; omega
end Go.Proofs.Ytipbkhjlbnjbeaa
