/-
  Layer 4: a deframer in memory: a byte of a fragment's first four.
-/
import Derived.Test.YtjajkagpfbemiaaDmD
namespace Go.Proofs.Ytjajkagpfbemiaa
open Go Go.RowKit
set_option linter.unusedVariables false
set_option linter.unusedSimpArgs false
section
variable {X : Nat → Prop} {tb m f : Nat}
set_option maxRecDepth 20000 in
set_option maxHeartbeats 4000000 in
theorem dhead_few (s : DS) (c : UInt8) (w : World) (h : Dfm w X tb m f s) (hX : ∀ k, X k → k < w.heap.size) (hT : s.T.length ≤ 99999) (hok : DOk m f s) (hm0 : s.md = 0) (hm : m ≤ 100000) (hf : f ≤ 100000) (h4 : s.H.length + 1 < 4) :
    Calls Try.prog 23 #[.pointer (some ⟨tb, 0, none⟩), .int .u8 (c.toNat : Int)] w fun x w' => x = .returned (.tuple #[]) ∧ Dfm w' X tb m f (stepH m f s c) ∧ Kp X w w' := by
  have hlt := h.lt
  have hh4 := hok.h
  have hbg := (hok.hd hm0).1
  have hrl := hok.rl
  obtain ⟨hv, rv, tv, hb, ho⟩ := h
  have hx := ho.1
  obtain ⟨Ah, ch, rfl, _⟩ := Sees.of_own ho.2.1
  obtain ⟨A, n, cp, w4, hrun, hn, o4, k4⟩ := ho.byteH hX hlt c (by omega)
  obtain ⟨Ar, cr, rfl, _⟩ := Sees.of_own o4.2.2.2.1
  have c4 := cell_of_row w tb 4 _ _ _ hb
  simp at c4
  have hb4 := k4.heap hb (.inr rfl)
  have g4 := blk_free hb4 4
  have d4 := cell_of_row w4 tb 4 _ _ _ hb4
  simp at d4
  have hb5 := set_blk hb4 4 (.slice A n cp)
  have o5 := o4.keep ((Kp.refl _ w4).set tb 4 (.slice A n cp) (fun q => q (.inr rfl)))
  have k5 : Kp X w (w4.setCell ⟨tb, 4, none⟩ (.slice A n cp)) := (k4.mono fun k hk => .inl hk).set tb 4 _ hx
  have HB5 := Lib.hid hb5
  have O5 := Lib.hid o5
  have K5 := Lib.hid k5
  have HN := Lib.hid hn
  have hst : stepH m f s c = { s with H := s.H ++ [c] } := by unfold stepH; rw [if_pos h4]
  have HST := Lib.hid hst
  have t1 : (n : Int) < 4 := by omega
  clear hb ho hn o4 k4 hb4 hb5 o5 k5 hst hbg hrl hh4 h4
  go_enter Try.func23, Try.ntmps23
  go_wp2_with (first | (at_builtin; refine wpList_append_run rfl (.tmp 9) (.tmp 11) _ rfl _ _ rfl rfl (.slice A n cp) w4 hrun ?_) | fail)
  refine bodyPost_ret (results_none rfl _ _ _) rfl ?_
  refine ⟨rfl, ?_, K5.out⟩
  rw [HST.out]
  exact ⟨.slice A n cp, _, tv, by simpa [DRow] using HB5.out, O5.out⟩
set_option maxRecDepth 20000 in
set_option maxHeartbeats 4000000 in
theorem dhead_full (s : DS) (c : UInt8) (w : World) (h : Dfm w X tb m f s) (hX : ∀ k, X k → k < w.heap.size) (hT : s.T.length ≤ 99999) (hok : DOk m f s) (hm0 : s.md = 0) (hm : m ≤ 100000) (hf : f ≤ 100000) (h4 : ¬ s.H.length + 1 < 4) (kf : f < s.bg + 1) :
    Calls Try.prog 23 #[.pointer (some ⟨tb, 0, none⟩), .int .u8 (c.toNat : Int)] w fun x w' => x = .returned (.tuple #[]) ∧ Dfm w' X tb m f (stepH m f s c) ∧ Kp X w w' := by
  have hlt := h.lt
  have hh4 := hok.h
  have hbg := (hok.hd hm0).1
  have hrl := hok.rl
  obtain ⟨hv, rv, tv, hb, ho⟩ := h
  have hx := ho.1
  obtain ⟨Ah, ch, rfl, _⟩ := Sees.of_own ho.2.1
  obtain ⟨A, n, cp, w4, hrun, hn, o4, k4⟩ := ho.byteH hX hlt c (by omega)
  obtain ⟨Ar, cr, rfl, _⟩ := Sees.of_own o4.2.2.2.1
  have c4 := cell_of_row w tb 4 _ _ _ hb
  simp at c4
  have hb4 := k4.heap hb (.inr rfl)
  have g4 := blk_free hb4 4
  have d4 := cell_of_row w4 tb 4 _ _ _ hb4
  simp at d4
  have hb5 := set_blk hb4 4 (.slice A n cp)
  have o5 := o4.keep ((Kp.refl _ w4).set tb 4 (.slice A n cp) (fun q => q (.inr rfl)))
  have k5 : Kp X w (w4.setCell ⟨tb, 4, none⟩ (.slice A n cp)) := (k4.mono fun k hk => .inl hk).set tb 4 _ hx
  have HB5 := Lib.hid hb5
  have O5 := Lib.hid o5
  have K5 := Lib.hid k5
  have HN := Lib.hid hn
  have hn4 : n = 4 := by omega
  subst hn4
  have hst : stepH m f s c = (s.put (s.H ++ [c])).go m f := by unfold stepH; rw [if_neg h4]
  have hl4 : (s.H ++ [c]).length = 4 := by simp; omega
  have HL4 := Lib.hid hl4
  have hown := o5.2.1
  rw [hl4] at hown
  obtain ⟨A', cp', e', hs5⟩ := Sees.of_own hown
  injection e' with q1 q2 q3
  subst q1 q3
  have HR := Lib.hid (fun w hs => read_any A 4 cp (s.H ++ [c]) w hs (by omega))
  have HS5 := Lib.hid hs5
  have hK := nb_lt (s.H ++ [c])
  have t39 := andnot_last (nb (s.H ++ [c])) hK
  obtain ⟨B, t45, t46, t46'⟩ := and_last (nb (s.H ++ [c])) hK
  have HN4 := Lib.hid (num4_nb (s.H ++ [c]))
  have hlf : nb (s.H ++ [c]) % 2147483648 < 2147483648 := Nat.mod_lt _ (by omega)
  have HGO := Lib.hid (dput_go (X := X) (tb := tb) (m := m) (f := f) (s := s) (hs := s.H ++ [c]) hx O5.out)
  have HBX := Lib.hid (fun (w7 : World) (e : Ext (w4.setCell ⟨tb, 4, none⟩ (.slice A 4 cp)) w7) => e.heap hb5)
  clear hb ho hn o4 k4 hb4 hb5 o5 k5 hh4 hl4 hown hs5
  rw [show (s.put (s.H ++ [c])).go m f = (s.put (s.H ++ [c])).bad 5 from go_full kf] at hst
  have HST := Lib.hid hst
  clear hst
  obtain ⟨K, hKK⟩ : ∃ K, nb (s.H ++ [c]) = K := ⟨_, rfl⟩
  obtain ⟨p, hPP⟩ : ∃ p, K % 2147483648 = p := ⟨_, rfl⟩
  have HKP := Lib.hid (show nb (s.H ++ [c]) % 2147483648 = p by rw [hKK, hPP])
  rw [hKK] at hK t39 t45 hlf HGO HN4 t46 t46'
  rw [hPP] at t39 hlf HGO
  clear hPP hKK h4
  go_enter Try.func23, Try.ntmps23
  go_wp2_with (first | (at_builtin; refine wpList_append_run rfl (.tmp 9) (.tmp 11) _ rfl _ _ rfl rfl (.slice A 4 cp) w4 hrun ?_) | fail)
  refine (HR.out _ HS5.out).mono ?_
  rintro x w6 ⟨g, v6, rfl, hg6, hb6, hown6, e6⟩
  have R6 := Lib.hid (Rdr.of_read hb6 hown6)
  have E6 := Lib.hid e6
  have G6 := Lib.hid hg6
  clear hb6 hown6 e6 hg6
  go_wp2_with fail
  refine (u32_ok g 0 (s.H ++ [c]) w6 R6.out (by have := HL4.out; omega)).mono ?_
  rintro x w7 ⟨rfl, hr7, ho7⟩
  have E7 := Lib.hid (Ext.onl E6.out ho7 G6.out)
  rw [HN4.out]
  have hb7 := HBX.out w7 E7.out
  have r0 := cell_of_row w7 tb 0 _ _ _ hb7
  have r1 := cell_of_row w7 tb 1 _ _ _ hb7
  have r3 := cell_of_row w7 tb 3 _ _ _ hb7
  have r4 := cell_of_row w7 tb 4 _ _ _ hb7
  have r5 := cell_of_row w7 tb 5 _ _ _ hb7
  have r6 := cell_of_row w7 tb 6 _ _ _ hb7
  have r7 := cell_of_row w7 tb 7 _ _ _ hb7
  have r8 := cell_of_row w7 tb 8 _ _ _ hb7
  simp at r0 r1 r3 r4 r5 r6 r7 r8
  have s3 := blk_free hb7 3
  have s4 := blk_free hb7 4
  have s5 := blk_free hb7 5
  have s6 := blk_free hb7 6
  have s7 := blk_free hb7 7
  have HG := Lib.hid (HGO.out w7 E7.out (by simpa using hb7))
  clear hb7 hr7 ho7
  go_wp2_with fail
  generalize hq : World.setCell _ _ _ = wq
  have hD7 : Dfm wq X tb m f (s.put (s.H ++ [c])) := by rw [← hq]; exact HG.out.1
  have K7 := Lib.hid (show Kp X w wq by rw [← hq]; exact K5.out.trans HG.out.2)
  clear hq HG r0 r1 r3 r4 r5 r6 r7 r8 s3 s4 s5 s6 s7
  have HD7 := Lib.hid hD7
  obtain ⟨hv7, rv7, tv7, hb7, ho7⟩ := hD7
  obtain ⟨Ar7, cr7, rfl, _⟩ := Sees.of_own ho7.2.2.2.1
  rw [show (s.put (s.H ++ [c])).R.length = s.R.length from rfl] at hb7
  have HB7 := Lib.hid (show wq.heap[tb]? = _ from hb7)
  clear ho7 hb7
  have r5 := cell_of_row wq tb 5 _ _ _ HB7.out
  have r1 := cell_of_row wq tb 1 _ _ _ HB7.out
  simp [DS.put] at r5 r1
  go_quiet (fail)
  go_wp2_with fail
  generalize hq : World.drewN _ _ = wz
  have hD8 : Dfm wz X tb m f (s.put (s.H ++ [c])) := by rw [← hq]; exact HD7.out.keep (by first | exact (Kp.refl _ _).drewN _ | exact ((Kp.refl _ _).drewN _).drewN _)
  have K8 := Lib.hid (show Kp X w wz by rw [← hq]; first | exact K7.out.drewN _ | exact (K7.out.drewN _).drewN _)
  clear hq
  refine (dfail_any 5 (s.put (s.H ++ [c])) wz hD8).mono ?_
  rintro x w9 ⟨rfl, hD9, k9⟩
  have D9 := Lib.hid hD9
  have K9 := Lib.hid (K8.out.trans k9)
  clear hD9 k9 hD8
  go_wp2
  go_end0
  exact ⟨rfl, by rw [HST.out]; exact D9.out, K9.out⟩
set_option maxRecDepth 20000 in
set_option maxHeartbeats 4000000 in
theorem dhead_range (s : DS) (c : UInt8) (w : World) (h : Dfm w X tb m f s) (hX : ∀ k, X k → k < w.heap.size) (hT : s.T.length ≤ 99999) (hok : DOk m f s) (hm0 : s.md = 0) (hm : m ≤ 100000) (hf : f ≤ 100000) (h4 : ¬ s.H.length + 1 < 4) (kf : ¬ f < s.bg + 1) (km : m < nb (s.H ++ [c]) % 2147483648 + s.R.length) :
    Calls Try.prog 23 #[.pointer (some ⟨tb, 0, none⟩), .int .u8 (c.toNat : Int)] w fun x w' => x = .returned (.tuple #[]) ∧ Dfm w' X tb m f (stepH m f s c) ∧ Kp X w w' := by
  have hlt := h.lt
  have hh4 := hok.h
  have hbg := (hok.hd hm0).1
  have hrl := hok.rl
  obtain ⟨hv, rv, tv, hb, ho⟩ := h
  have hx := ho.1
  obtain ⟨Ah, ch, rfl, _⟩ := Sees.of_own ho.2.1
  obtain ⟨A, n, cp, w4, hrun, hn, o4, k4⟩ := ho.byteH hX hlt c (by omega)
  obtain ⟨Ar, cr, rfl, _⟩ := Sees.of_own o4.2.2.2.1
  have c4 := cell_of_row w tb 4 _ _ _ hb
  simp at c4
  have hb4 := k4.heap hb (.inr rfl)
  have g4 := blk_free hb4 4
  have d4 := cell_of_row w4 tb 4 _ _ _ hb4
  simp at d4
  have hb5 := set_blk hb4 4 (.slice A n cp)
  have o5 := o4.keep ((Kp.refl _ w4).set tb 4 (.slice A n cp) (fun q => q (.inr rfl)))
  have k5 : Kp X w (w4.setCell ⟨tb, 4, none⟩ (.slice A n cp)) := (k4.mono fun k hk => .inl hk).set tb 4 _ hx
  have HB5 := Lib.hid hb5
  have O5 := Lib.hid o5
  have K5 := Lib.hid k5
  have HN := Lib.hid hn
  have hn4 : n = 4 := by omega
  subst hn4
  have hst : stepH m f s c = (s.put (s.H ++ [c])).go m f := by unfold stepH; rw [if_neg h4]
  have hl4 : (s.H ++ [c]).length = 4 := by simp; omega
  have HL4 := Lib.hid hl4
  have hown := o5.2.1
  rw [hl4] at hown
  obtain ⟨A', cp', e', hs5⟩ := Sees.of_own hown
  injection e' with q1 q2 q3
  subst q1 q3
  have HR := Lib.hid (fun w hs => read_any A 4 cp (s.H ++ [c]) w hs (by omega))
  have HS5 := Lib.hid hs5
  have hK := nb_lt (s.H ++ [c])
  have t39 := andnot_last (nb (s.H ++ [c])) hK
  obtain ⟨B, t45, t46, t46'⟩ := and_last (nb (s.H ++ [c])) hK
  have HN4 := Lib.hid (num4_nb (s.H ++ [c]))
  have hlf : nb (s.H ++ [c]) % 2147483648 < 2147483648 := Nat.mod_lt _ (by omega)
  have HGO := Lib.hid (dput_go (X := X) (tb := tb) (m := m) (f := f) (s := s) (hs := s.H ++ [c]) hx O5.out)
  have HBX := Lib.hid (fun (w7 : World) (e : Ext (w4.setCell ⟨tb, 4, none⟩ (.slice A 4 cp)) w7) => e.heap hb5)
  clear hb ho hn o4 k4 hb4 hb5 o5 k5 hh4 hl4 hown hs5
  rw [show (s.put (s.H ++ [c])).go m f = (s.put (s.H ++ [c])).bad 4 from go_range kf km] at hst
  have HST := Lib.hid hst
  clear hst
  obtain ⟨K, hKK⟩ : ∃ K, nb (s.H ++ [c]) = K := ⟨_, rfl⟩
  obtain ⟨p, hPP⟩ : ∃ p, K % 2147483648 = p := ⟨_, rfl⟩
  have HKP := Lib.hid (show nb (s.H ++ [c]) % 2147483648 = p by rw [hKK, hPP])
  rw [hKK] at hK t39 t45 hlf HGO HN4 t46 t46'
  rw [hPP] at t39 hlf HGO
  rw [hKK, hPP] at km
  clear hPP hKK h4
  go_enter Try.func23, Try.ntmps23
  go_wp2_with (first | (at_builtin; refine wpList_append_run rfl (.tmp 9) (.tmp 11) _ rfl _ _ rfl rfl (.slice A 4 cp) w4 hrun ?_) | fail)
  refine (HR.out _ HS5.out).mono ?_
  rintro x w6 ⟨g, v6, rfl, hg6, hb6, hown6, e6⟩
  have R6 := Lib.hid (Rdr.of_read hb6 hown6)
  have E6 := Lib.hid e6
  have G6 := Lib.hid hg6
  clear hb6 hown6 e6 hg6
  go_wp2_with fail
  refine (u32_ok g 0 (s.H ++ [c]) w6 R6.out (by have := HL4.out; omega)).mono ?_
  rintro x w7 ⟨rfl, hr7, ho7⟩
  have E7 := Lib.hid (Ext.onl E6.out ho7 G6.out)
  rw [HN4.out]
  have hb7 := HBX.out w7 E7.out
  have r0 := cell_of_row w7 tb 0 _ _ _ hb7
  have r1 := cell_of_row w7 tb 1 _ _ _ hb7
  have r3 := cell_of_row w7 tb 3 _ _ _ hb7
  have r4 := cell_of_row w7 tb 4 _ _ _ hb7
  have r5 := cell_of_row w7 tb 5 _ _ _ hb7
  have r6 := cell_of_row w7 tb 6 _ _ _ hb7
  have r7 := cell_of_row w7 tb 7 _ _ _ hb7
  have r8 := cell_of_row w7 tb 8 _ _ _ hb7
  simp at r0 r1 r3 r4 r5 r6 r7 r8
  have s3 := blk_free hb7 3
  have s4 := blk_free hb7 4
  have s5 := blk_free hb7 5
  have s6 := blk_free hb7 6
  have s7 := blk_free hb7 7
  have HG := Lib.hid (HGO.out w7 E7.out (by simpa using hb7))
  clear hb7 hr7 ho7
  go_wp2_with fail
  generalize hq : World.setCell _ _ _ = wq
  have hD7 : Dfm wq X tb m f (s.put (s.H ++ [c])) := by rw [← hq]; exact HG.out.1
  have K7 := Lib.hid (show Kp X w wq by rw [← hq]; exact K5.out.trans HG.out.2)
  clear hq HG r0 r1 r3 r4 r5 r6 r7 r8 s3 s4 s5 s6 s7
  have HD7 := Lib.hid hD7
  obtain ⟨hv7, rv7, tv7, hb7, ho7⟩ := hD7
  obtain ⟨Ar7, cr7, rfl, _⟩ := Sees.of_own ho7.2.2.2.1
  rw [show (s.put (s.H ++ [c])).R.length = s.R.length from rfl] at hb7
  have HB7 := Lib.hid (show wq.heap[tb]? = _ from hb7)
  clear ho7 hb7
  have r5 := cell_of_row wq tb 5 _ _ _ HB7.out
  have r1 := cell_of_row wq tb 1 _ _ _ HB7.out
  have r0 := cell_of_row wq tb 0 _ _ _ HB7.out
  have r8 := cell_of_row wq tb 8 _ _ _ HB7.out
  simp [DS.put] at r5 r1 r0 r8
  have r6 := cell_of_row wq tb 6 _ _ _ HB7.out
  rw [show (s.put (s.H ++ [c])).lf = p from HKP.out] at r6
  simp at r6
  go_quiet (fail)
  go_wp2_with fail
  go_quiet (fail)
  go_wp2_with fail
  generalize hq : World.drewN _ _ = wz
  have hD8 : Dfm wz X tb m f (s.put (s.H ++ [c])) := by rw [← hq]; exact HD7.out.keep (by first | exact (Kp.refl _ _).drewN _ | exact ((Kp.refl _ _).drewN _).drewN _)
  have K8 := Lib.hid (show Kp X w wz by rw [← hq]; first | exact K7.out.drewN _ | exact (K7.out.drewN _).drewN _)
  clear hq
  refine (dfail_any 4 (s.put (s.H ++ [c])) wz hD8).mono ?_
  rintro x w9 ⟨rfl, hD9, k9⟩
  have D9 := Lib.hid hD9
  have K9 := Lib.hid (K8.out.trans k9)
  clear hD9 k9 hD8
  go_wp2
  go_end0
  exact ⟨rfl, by rw [HST.out]; exact D9.out, K9.out⟩
set_option maxRecDepth 20000 in
set_option maxHeartbeats 4000000 in
theorem dhead_zero (s : DS) (c : UInt8) (w : World) (h : Dfm w X tb m f s) (hX : ∀ k, X k → k < w.heap.size) (hT : s.T.length ≤ 99999) (hok : DOk m f s) (hm0 : s.md = 0) (hm : m ≤ 100000) (hf : f ≤ 100000) (h4 : ¬ s.H.length + 1 < 4) (kf : ¬ f < s.bg + 1) (km : ¬ m < nb (s.H ++ [c]) % 2147483648 + s.R.length) (kz : nb (s.H ++ [c]) % 2147483648 = 0) :
    Calls Try.prog 23 #[.pointer (some ⟨tb, 0, none⟩), .int .u8 (c.toNat : Int)] w fun x w' => x = .returned (.tuple #[]) ∧ Dfm w' X tb m f (stepH m f s c) ∧ Kp X w w' := by
  have hlt := h.lt
  have hh4 := hok.h
  have hbg := (hok.hd hm0).1
  have hrl := hok.rl
  obtain ⟨hv, rv, tv, hb, ho⟩ := h
  have hx := ho.1
  obtain ⟨Ah, ch, rfl, _⟩ := Sees.of_own ho.2.1
  obtain ⟨A, n, cp, w4, hrun, hn, o4, k4⟩ := ho.byteH hX hlt c (by omega)
  obtain ⟨Ar, cr, rfl, _⟩ := Sees.of_own o4.2.2.2.1
  have c4 := cell_of_row w tb 4 _ _ _ hb
  simp at c4
  have hb4 := k4.heap hb (.inr rfl)
  have g4 := blk_free hb4 4
  have d4 := cell_of_row w4 tb 4 _ _ _ hb4
  simp at d4
  have hb5 := set_blk hb4 4 (.slice A n cp)
  have o5 := o4.keep ((Kp.refl _ w4).set tb 4 (.slice A n cp) (fun q => q (.inr rfl)))
  have k5 : Kp X w (w4.setCell ⟨tb, 4, none⟩ (.slice A n cp)) := (k4.mono fun k hk => .inl hk).set tb 4 _ hx
  have HB5 := Lib.hid hb5
  have O5 := Lib.hid o5
  have K5 := Lib.hid k5
  have HN := Lib.hid hn
  have hn4 : n = 4 := by omega
  subst hn4
  have hst : stepH m f s c = (s.put (s.H ++ [c])).go m f := by unfold stepH; rw [if_neg h4]
  have hl4 : (s.H ++ [c]).length = 4 := by simp; omega
  have HL4 := Lib.hid hl4
  have hown := o5.2.1
  rw [hl4] at hown
  obtain ⟨A', cp', e', hs5⟩ := Sees.of_own hown
  injection e' with q1 q2 q3
  subst q1 q3
  have HR := Lib.hid (fun w hs => read_any A 4 cp (s.H ++ [c]) w hs (by omega))
  have HS5 := Lib.hid hs5
  have hK := nb_lt (s.H ++ [c])
  have t39 := andnot_last (nb (s.H ++ [c])) hK
  obtain ⟨B, t45, t46, t46'⟩ := and_last (nb (s.H ++ [c])) hK
  have HN4 := Lib.hid (num4_nb (s.H ++ [c]))
  have hlf : nb (s.H ++ [c]) % 2147483648 < 2147483648 := Nat.mod_lt _ (by omega)
  have HGO := Lib.hid (dput_go (X := X) (tb := tb) (m := m) (f := f) (s := s) (hs := s.H ++ [c]) hx O5.out)
  have HBX := Lib.hid (fun (w7 : World) (e : Ext (w4.setCell ⟨tb, 4, none⟩ (.slice A 4 cp)) w7) => e.heap hb5)
  clear hb ho hn o4 k4 hb4 hb5 o5 k5 hh4 hl4 hown hs5
  rw [show (s.put (s.H ++ [c])).go m f = (s.put (s.H ++ [c])).fin from go_zero kf km kz] at hst
  have HST := Lib.hid hst
  clear hst
  obtain ⟨K, hKK⟩ : ∃ K, nb (s.H ++ [c]) = K := ⟨_, rfl⟩
  obtain ⟨p, hPP⟩ : ∃ p, K % 2147483648 = p := ⟨_, rfl⟩
  have HKP := Lib.hid (show nb (s.H ++ [c]) % 2147483648 = p by rw [hKK, hPP])
  rw [hKK] at hK t39 t45 hlf HGO HN4 t46 t46'
  rw [hPP] at t39 hlf HGO
  rw [hKK, hPP] at km
  rw [hKK, hPP] at kz
  clear hPP hKK h4
  subst kz
  clear hlf
  go_enter Try.func23, Try.ntmps23
  go_wp2_with (first | (at_builtin; refine wpList_append_run rfl (.tmp 9) (.tmp 11) _ rfl _ _ rfl rfl (.slice A 4 cp) w4 hrun ?_) | fail)
  refine (HR.out _ HS5.out).mono ?_
  rintro x w6 ⟨g, v6, rfl, hg6, hb6, hown6, e6⟩
  have R6 := Lib.hid (Rdr.of_read hb6 hown6)
  have E6 := Lib.hid e6
  have G6 := Lib.hid hg6
  clear hb6 hown6 e6 hg6
  go_wp2_with fail
  refine (u32_ok g 0 (s.H ++ [c]) w6 R6.out (by have := HL4.out; omega)).mono ?_
  rintro x w7 ⟨rfl, hr7, ho7⟩
  have E7 := Lib.hid (Ext.onl E6.out ho7 G6.out)
  rw [HN4.out]
  have hb7 := HBX.out w7 E7.out
  have r0 := cell_of_row w7 tb 0 _ _ _ hb7
  have r1 := cell_of_row w7 tb 1 _ _ _ hb7
  have r3 := cell_of_row w7 tb 3 _ _ _ hb7
  have r4 := cell_of_row w7 tb 4 _ _ _ hb7
  have r5 := cell_of_row w7 tb 5 _ _ _ hb7
  have r6 := cell_of_row w7 tb 6 _ _ _ hb7
  have r7 := cell_of_row w7 tb 7 _ _ _ hb7
  have r8 := cell_of_row w7 tb 8 _ _ _ hb7
  simp at r0 r1 r3 r4 r5 r6 r7 r8
  have s3 := blk_free hb7 3
  have s4 := blk_free hb7 4
  have s5 := blk_free hb7 5
  have s6 := blk_free hb7 6
  have s7 := blk_free hb7 7
  have HG := Lib.hid (HGO.out w7 E7.out (by simpa using hb7))
  clear hb7 hr7 ho7
  go_wp2_with fail
  generalize hq : World.setCell _ _ _ = wq
  have hD7 : Dfm wq X tb m f (s.put (s.H ++ [c])) := by rw [← hq]; exact HG.out.1
  have K7 := Lib.hid (show Kp X w wq by rw [← hq]; exact K5.out.trans HG.out.2)
  clear hq HG r0 r1 r3 r4 r5 r6 r7 r8 s3 s4 s5 s6 s7
  have HD7 := Lib.hid hD7
  obtain ⟨hv7, rv7, tv7, hb7, ho7⟩ := hD7
  obtain ⟨Ar7, cr7, rfl, _⟩ := Sees.of_own ho7.2.2.2.1
  rw [show (s.put (s.H ++ [c])).R.length = s.R.length from rfl] at hb7
  have HB7 := Lib.hid (show wq.heap[tb]? = _ from hb7)
  clear ho7 hb7
  have r5 := cell_of_row wq tb 5 _ _ _ HB7.out
  have r1 := cell_of_row wq tb 1 _ _ _ HB7.out
  have r0 := cell_of_row wq tb 0 _ _ _ HB7.out
  have r8 := cell_of_row wq tb 8 _ _ _ HB7.out
  simp [DS.put] at r5 r1 r0 r8
  have r6 := cell_of_row wq tb 6 _ _ _ HB7.out
  rw [show (s.put (s.H ++ [c])).lf = 0 from HKP.out] at r6
  simp at r6
  go_quiet (fail)
  go_wp2_with fail
  go_quiet (fail)
  go_wp2_with fail
  generalize hq : World.drewN _ _ = wz
  have hD8 : Dfm wz X tb m f (s.put (s.H ++ [c])) := by rw [← hq]; exact HD7.out.keep (by first | exact (Kp.refl _ _).drewN _ | exact ((Kp.refl _ _).drewN _).drewN _)
  have K8 := Lib.hid (show Kp X w wz by rw [← hq]; first | exact K7.out.drewN _ | exact (K7.out.drewN _).drewN _)
  clear hq
  refine (dend_any (s.put (s.H ++ [c])) wz hD8 (fun k hk => Nat.lt_of_lt_of_le (hX k hk) K8.out.size) hT).mono ?_
  rintro x w9 ⟨rfl, hD9, k9⟩
  have D9 := Lib.hid hD9
  have K9 := Lib.hid (K8.out.trans k9)
  clear hD9 k9 hD8
  go_wp2
  go_end0
  exact ⟨rfl, by rw [HST.out]; exact D9.out, K9.out⟩
set_option maxRecDepth 20000 in
set_option maxHeartbeats 4000000 in
theorem dhead_body (s : DS) (c : UInt8) (w : World) (h : Dfm w X tb m f s) (hX : ∀ k, X k → k < w.heap.size) (hT : s.T.length ≤ 99999) (hok : DOk m f s) (hm0 : s.md = 0) (hm : m ≤ 100000) (hf : f ≤ 100000) (h4 : ¬ s.H.length + 1 < 4) (kf : ¬ f < s.bg + 1) (km : ¬ m < nb (s.H ++ [c]) % 2147483648 + s.R.length) (kz : ¬ nb (s.H ++ [c]) % 2147483648 = 0) :
    Calls Try.prog 23 #[.pointer (some ⟨tb, 0, none⟩), .int .u8 (c.toNat : Int)] w fun x w' => x = .returned (.tuple #[]) ∧ Dfm w' X tb m f (stepH m f s c) ∧ Kp X w w' := by
  have hlt := h.lt
  have hh4 := hok.h
  have hbg := (hok.hd hm0).1
  have hrl := hok.rl
  obtain ⟨hv, rv, tv, hb, ho⟩ := h
  have hx := ho.1
  obtain ⟨Ah, ch, rfl, _⟩ := Sees.of_own ho.2.1
  obtain ⟨A, n, cp, w4, hrun, hn, o4, k4⟩ := ho.byteH hX hlt c (by omega)
  obtain ⟨Ar, cr, rfl, _⟩ := Sees.of_own o4.2.2.2.1
  have c4 := cell_of_row w tb 4 _ _ _ hb
  simp at c4
  have hb4 := k4.heap hb (.inr rfl)
  have g4 := blk_free hb4 4
  have d4 := cell_of_row w4 tb 4 _ _ _ hb4
  simp at d4
  have hb5 := set_blk hb4 4 (.slice A n cp)
  have o5 := o4.keep ((Kp.refl _ w4).set tb 4 (.slice A n cp) (fun q => q (.inr rfl)))
  have k5 : Kp X w (w4.setCell ⟨tb, 4, none⟩ (.slice A n cp)) := (k4.mono fun k hk => .inl hk).set tb 4 _ hx
  have HB5 := Lib.hid hb5
  have O5 := Lib.hid o5
  have K5 := Lib.hid k5
  have HN := Lib.hid hn
  have hn4 : n = 4 := by omega
  subst hn4
  have hst : stepH m f s c = (s.put (s.H ++ [c])).go m f := by unfold stepH; rw [if_neg h4]
  have hl4 : (s.H ++ [c]).length = 4 := by simp; omega
  have HL4 := Lib.hid hl4
  have hown := o5.2.1
  rw [hl4] at hown
  obtain ⟨A', cp', e', hs5⟩ := Sees.of_own hown
  injection e' with q1 q2 q3
  subst q1 q3
  have HR := Lib.hid (fun w hs => read_any A 4 cp (s.H ++ [c]) w hs (by omega))
  have HS5 := Lib.hid hs5
  have hK := nb_lt (s.H ++ [c])
  have t39 := andnot_last (nb (s.H ++ [c])) hK
  obtain ⟨B, t45, t46, t46'⟩ := and_last (nb (s.H ++ [c])) hK
  have HN4 := Lib.hid (num4_nb (s.H ++ [c]))
  have hlf : nb (s.H ++ [c]) % 2147483648 < 2147483648 := Nat.mod_lt _ (by omega)
  have HGO := Lib.hid (dput_go (X := X) (tb := tb) (m := m) (f := f) (s := s) (hs := s.H ++ [c]) hx O5.out)
  have HBX := Lib.hid (fun (w7 : World) (e : Ext (w4.setCell ⟨tb, 4, none⟩ (.slice A 4 cp)) w7) => e.heap hb5)
  clear hb ho hn o4 k4 hb4 hb5 o5 k5 hh4 hl4 hown hs5
  rw [show (s.put (s.H ++ [c])).go m f = { s.put (s.H ++ [c]) with md := 1 } from go_body kf km kz] at hst
  have HST := Lib.hid hst
  clear hst
  obtain ⟨K, hKK⟩ : ∃ K, nb (s.H ++ [c]) = K := ⟨_, rfl⟩
  obtain ⟨p, hPP⟩ : ∃ p, K % 2147483648 = p := ⟨_, rfl⟩
  have HKP := Lib.hid (show nb (s.H ++ [c]) % 2147483648 = p by rw [hKK, hPP])
  rw [hKK] at hK t39 t45 hlf HGO HN4 t46 t46'
  rw [hPP] at t39 hlf HGO
  rw [hKK, hPP] at km
  rw [hKK, hPP] at kz
  clear hPP hKK h4
  have z1 : ((p : Int) == 0) = false := by simp; omega
  have z2 : ¬ (p : Int) = 0 := by omega
  have z3 : (p == 0) = false := by simp; omega
  go_enter Try.func23, Try.ntmps23
  go_wp2_with (first | (at_builtin; refine wpList_append_run rfl (.tmp 9) (.tmp 11) _ rfl _ _ rfl rfl (.slice A 4 cp) w4 hrun ?_) | fail)
  refine (HR.out _ HS5.out).mono ?_
  rintro x w6 ⟨g, v6, rfl, hg6, hb6, hown6, e6⟩
  have R6 := Lib.hid (Rdr.of_read hb6 hown6)
  have E6 := Lib.hid e6
  have G6 := Lib.hid hg6
  clear hb6 hown6 e6 hg6
  go_wp2_with fail
  refine (u32_ok g 0 (s.H ++ [c]) w6 R6.out (by have := HL4.out; omega)).mono ?_
  rintro x w7 ⟨rfl, hr7, ho7⟩
  have E7 := Lib.hid (Ext.onl E6.out ho7 G6.out)
  rw [HN4.out]
  have hb7 := HBX.out w7 E7.out
  have r0 := cell_of_row w7 tb 0 _ _ _ hb7
  have r1 := cell_of_row w7 tb 1 _ _ _ hb7
  have r3 := cell_of_row w7 tb 3 _ _ _ hb7
  have r4 := cell_of_row w7 tb 4 _ _ _ hb7
  have r5 := cell_of_row w7 tb 5 _ _ _ hb7
  have r6 := cell_of_row w7 tb 6 _ _ _ hb7
  have r7 := cell_of_row w7 tb 7 _ _ _ hb7
  have r8 := cell_of_row w7 tb 8 _ _ _ hb7
  simp at r0 r1 r3 r4 r5 r6 r7 r8
  have s3 := blk_free hb7 3
  have s4 := blk_free hb7 4
  have s5 := blk_free hb7 5
  have s6 := blk_free hb7 6
  have s7 := blk_free hb7 7
  have HG := Lib.hid (HGO.out w7 E7.out (by simpa using hb7))
  clear hb7 hr7 ho7
  go_wp2_with fail
  generalize hq : World.setCell _ _ _ = wq
  have hD7 : Dfm wq X tb m f (s.put (s.H ++ [c])) := by rw [← hq]; exact HG.out.1
  have K7 := Lib.hid (show Kp X w wq by rw [← hq]; exact K5.out.trans HG.out.2)
  clear hq HG r0 r1 r3 r4 r5 r6 r7 r8 s3 s4 s5 s6 s7
  have HD7 := Lib.hid hD7
  obtain ⟨hv7, rv7, tv7, hb7, ho7⟩ := hD7
  obtain ⟨Ar7, cr7, rfl, _⟩ := Sees.of_own ho7.2.2.2.1
  rw [show (s.put (s.H ++ [c])).R.length = s.R.length from rfl] at hb7
  have HB7 := Lib.hid (show wq.heap[tb]? = _ from hb7)
  clear ho7 hb7
  have r5 := cell_of_row wq tb 5 _ _ _ HB7.out
  have r1 := cell_of_row wq tb 1 _ _ _ HB7.out
  have r0 := cell_of_row wq tb 0 _ _ _ HB7.out
  have r8 := cell_of_row wq tb 8 _ _ _ HB7.out
  have r3 := cell_of_row wq tb 3 _ _ _ HB7.out
  simp [DS.put] at r5 r1 r0 r8 r3
  have r6 := cell_of_row wq tb 6 _ _ _ HB7.out
  rw [show (s.put (s.H ++ [c])).lf = p from HKP.out] at r6
  simp at r6
  have s3 := blk_free HB7.out 3
  go_quiet (fail)
  go_wp2_with fail
  go_quiet (fail)
  go_wp2_with fail
  go_end0
  generalize hq : World.drewN _ _ = wz
  have hD8 : Dfm wz X tb m f (s.put (s.H ++ [c])) := by rw [← hq]; exact HD7.out.keep (by first | exact (Kp.refl _ _).drewN _ | exact ((Kp.refl _ _).drewN _).drewN _)
  have K8 : Kp X w wz := by rw [← hq]; first | exact K7.out.drewN _ | exact (K7.out.drewN _).drewN _
  refine ⟨rfl, ?_, K8.set tb 3 _ hx⟩
  rw [HST.out]
  obtain ⟨hv9, rv9, tv9, hb9, ho9⟩ := hD8
  exact ⟨hv9, rv9, tv9, by simpa [DRow, stp] using set_blk hb9 3 (stp 1 tb), ho9.keep ((Kp.refl _ wz).set tb 3 _ (fun q => q (.inr rfl)))⟩
theorem dhead_any (s : DS) (c : UInt8) (w : World) (h : Dfm w X tb m f s) (hX : ∀ k, X k → k < w.heap.size) (hT : s.T.length ≤ 99999) (hok : DOk m f s) (hm0 : s.md = 0) (hm : m ≤ 100000) (hf : f ≤ 100000) :
    Calls Try.prog 23 #[.pointer (some ⟨tb, 0, none⟩), .int .u8 (c.toNat : Int)] w fun x w' => x = .returned (.tuple #[]) ∧ Dfm w' X tb m f (stepH m f s c) ∧ Kp X w w' := by
  by_cases h4 : s.H.length + 1 < 4
  · exact dhead_few s c w h hX hT hok hm0 hm hf h4
  · by_cases kf : f < s.bg + 1
    · exact dhead_full s c w h hX hT hok hm0 hm hf h4 kf
    · by_cases km : m < nb (s.H ++ [c]) % 2147483648 + s.R.length
      · exact dhead_range s c w h hX hT hok hm0 hm hf h4 kf km
      · by_cases kz : nb (s.H ++ [c]) % 2147483648 = 0
        · exact dhead_zero s c w h hX hT hok hm0 hm hf h4 kf km kz
        · exact dhead_body s c w h hX hT hok hm0 hm hf h4 kf km kz
end
end Go.Proofs.Ytjajkagpfbemiaa
