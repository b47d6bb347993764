/-
  Layer 4: a deframer in memory: bytes, one behind the other; what is asked of it; a new one.
-/
import Derived.Test.YtjajkagpfbemiaaDmE
namespace Go.Proofs.Ytjajkagpfbemiaa
open Go Go.RowKit
set_option linter.unusedVariables false
set_option linter.unusedSimpArgs false
theorem stp_2 {md : Nat} (h : 2 ≤ md) (tb : Nat) : stp md tb = .func (.func 32) #[.pointer (some ⟨tb, 0, none⟩)] #[] := by
  match md, h with
  | k + 2, _ => rfl
theorem dstep2 {m f : Nat} {s : DS} (h : 2 ≤ s.md) (c : UInt8) : dstep m f s c = s := by
  have := drun_dead (m := m) (f := f) h [c]
  exact this
theorem Kp.lt {Z : Nat → Prop} {a b : World} (h : Kp (fun k => Z k ∧ k < a.heap.size) a b) : Kp Z a b := ⟨h.os, h.tape, h.output, h.size, fun k hk hl => h.block k ⟨hk, hl⟩ hl⟩
theorem Kp.below {B : Nat} {a b : World} (h : Kp (fun k => k < B) a b) (hB : B ≤ a.heap.size) : Below B a b := ⟨h.os, h.tape, h.output, h.size, fun k hk => h.block k hk (Nat.lt_of_lt_of_le hk hB)⟩
theorem bs_at {w : World} {A : Option Addr} {n c : Nat} {l : List UInt8} (h : Sees w A n c (bs l)) (k : Nat) (hk : k < n) :
    ∃ b off, ∃ hl : k < l.length, A = some ⟨b, off, none⟩ ∧ w.cell? ⟨b, off + k, none⟩ = some (.int .u8 ((l[k]).toNat : Int)) := by
  obtain ⟨b, off, u, hA, hu, hc, _⟩ := h.at_ hk
  obtain ⟨hj, rfl⟩ := bs_get l k u hu
  exact ⟨b, off, hj, hA, hc⟩
theorem drun_snoc (m f : Nat) (s : DS) (l : List UInt8) (k : Nat) (hk : k < l.length) : drun m f s (l.take (k + 1)) = dstep m f (drun m f s (l.take k)) l[k] := by
  rw [List.take_succ_eq_append_getElem hk, drun_app]
  rfl
section
variable {X : Nat → Prop} {tb m f : Nat}
/-- What is told, and what is left. -/
theorem feed_fin {s : DS} {wr : World} {hv rv tv : Value} (hb : DRow wr tb m f s.E (stp s.md tb) hv s.bg s.lf s.en rv tv) (ho : DOwn wr X tb hv rv tv s.H s.R s.T) :
    ∃ Z : Nat → Prop, Dfm (wr.setCell ⟨tb, 9, none⟩ (.slice none 0 0)) Z tb m f s.told ∧ (∀ k, X k → Z k) ∧ (∀ k, ¬ Z k → k < (wr.setCell ⟨tb, 9, none⟩ (.slice none 0 0)).heap.size) ∧ OwnX (wr.setCell ⟨tb, 9, none⟩ (.slice none 0 0)) (fun k => X k ∨ ¬ Z k) tv s.T := by
  obtain ⟨h0, h1, h2, h3, h4, h5⟩ := ho
  have l1 := own_lt h1
  have l2 := own_lt h3
  have l0 : tb < wr.heap.size := (Array.getElem?_eq_some_iff.1 hb).1
  have ks : Kp (fun k => ¬ k = tb) wr (wr.setCell ⟨tb, 9, none⟩ (.slice none 0 0)) := (Kp.refl _ wr).set tb 9 _ (fun q => q rfl)
  have hsz : (wr.setCell ⟨tb, 9, none⟩ (.slice none 0 0)).heap.size = wr.heap.size := by simp [World.setCell]
  have hq : ∀ k, ¬ (¬ k = tb ∧ ¬ hv.ownBlock = some k ∧ ¬ rv.ownBlock = some k) → k = tb ∨ hv.ownBlock = some k ∨ rv.ownBlock = some k := fun k hk => by
    by_cases a : k = tb
    · exact .inl a
    · by_cases b : hv.ownBlock = some k
      · exact .inr (.inl b)
      · by_cases c : rv.ownBlock = some k
        · exact .inr (.inr c)
        · exact absurd ⟨a, b, c⟩ hk
  refine ⟨fun k => ¬ k = tb ∧ ¬ hv.ownBlock = some k ∧ ¬ rv.ownBlock = some k, ⟨hv, rv, .slice none 0 0, ?_, ?_, ks.own h1 (fun k e q => h2 k e (.inr q)), ?_, ks.own h3 (fun k e q => h4 k e (.inl (.inr q))), ?_, ?_⟩, ?_, ?_, ?_⟩
  · have := set_blk hb 9 (.slice none 0 0)
    simpa [DRow, DS.told] using this
  · exact fun q => q.1 rfl
  · intro k e q
    rcases q with q | q
    · exact q.2.1 e
    · exact h2 k e (.inr q)
  · intro k e q
    rcases q with (q | q) | q
    · exact q.2.2 e
    · exact h4 k e (.inl (.inr q))
    · exact h4 k e (.inr q)
  · exact OwnX.nil _ _
  · intro k hk
    exact ⟨fun e => h0 (e ▸ hk), fun e => h2 k e (.inl hk), fun e => h4 k e (.inl (.inl hk))⟩
  · intro k hk
    rw [hsz]
    rcases hq k hk with e | e | e
    · omega
    · exact l1 k e
    · exact l2 k e
  · refine (h5.kept (ks.mono fun k hn q => hn (.inl (.inl (.inr q))))).mono fun k q => ?_
    rcases q with q | q
    · exact .inl (.inl (.inl q))
    · rcases hq k q with e | e | e
      · exact .inl (.inl (.inr e))
      · exact .inl (.inr e)
      · exact .inr e
set_option maxRecDepth 20000 in
set_option maxHeartbeats 2000000 in
theorem feed_any (A : Option Addr) (n c : Nat) (l : List UInt8) (s : DS) (w : World) (h : Dfm w X tb m f s) (hX : ∀ k, X k → k < w.heap.size) (hok : DOk m f s) (hm : m ≤ 10000) (hf : f ≤ 1000) (hT : s.T = [])
    (hs : Sees w A n c (bs l)) (hn : n ≤ 10000) (hA : ∀ a, A = some a → 0 < n → X a.block) :
    Calls Try.prog 14 #[.pointer (some ⟨tb, 0, none⟩), .slice A n c] w fun x w' => ∃ v Z, x = .returned v ∧ Dfm w' Z tb m f (drun m f s l).told ∧ (∀ k, X k → Z k) ∧ (∀ k, ¬ Z k → k < w'.heap.size) ∧ OwnX w' (fun k => X k ∨ ¬ Z k) v (drun m f s l).T ∧ Kp X w w' := by
  have hln := hs.len
  rw [bs_length] at hln
  have hcn := hs.le
  have HS := Lib.hid hs
  have HL := Lib.hid hln
  have HD := Lib.hid h
  have HT := Lib.hid hT
  have HOK := Lib.hid hok
  have HX := Lib.hid hX
  have HA := Lib.hid hA
  clear hs hln h hT hok hX hA hcn
  go_enter Try.func14, Try.ntmps14
  go_wp2_with fail
  go_loopw [10] (fun i wr => ∃ k : Nat, k ≤ n ∧ i = .int .i64 (k : Int) ∧ Dfm wr X tb m f (drun m f s (l.take k)) ∧ Kp X w wr) (fun i _ => n - (intOf i).toNat)
  case atStart => exact ⟨0, Nat.zero_le _, rfl, HD.out, Kp.refl _ _⟩
  case round =>
    obtain ⟨k, hk, rfl, hd, kp⟩ := hrel
    have KP := Lib.hid kp
    have hx := hd.choose_spec.choose_spec.choose_spec.2.1
    have D0 := Lib.hid hd
    have OK0 := Lib.hid (HOK.out.run (l.take k))
    have hT0 := drun_T m f (l.take k) s
    rw [HT.out] at hT0
    have hT1 : (drun m f s (l.take k)).T.length ≤ 99999 := by
      have := HL.out
      simp at hT0
      omega
    clear hT0
    by_cases hlt : k < n
    · obtain ⟨b, off, hkl, hAe, hcell⟩ := bs_at (kp.sees HS.out HA.out) k hlt
      have HN := Lib.hid (drun_snoc m f s l k hkl)
      obtain ⟨hv, rv, tv, hb, _⟩ := hd
      have c3 := cell_of_row wr tb 3 _ _ _ hb
      simp at c3
      have hXr := Lib.hid (fun k hk => Nat.lt_of_lt_of_le (HX.out k hk) kp.size)
      subst hAe
      generalize hc : l[k] = c0 at *
      clear hb kp hx hc
      rcases (show (drun m f s (l.take k)).md = 0 ∨ (drun m f s (l.take k)).md = 1 ∨ 2 ≤ (drun m f s (l.take k)).md by omega) with hmd | hmd | hmd
      · rw [hmd] at c3
        unfold stp at c3
        have HM := Lib.hid hmd
        clear hmd
        go_wp2_with fail
        refine (dhead_any _ c0 wr D0.out hXr.out hT1 OK0.out HM.out (by omega) (by omega)).mono ?_
        rintro x w1 ⟨rfl, hd1, k1⟩
        rw [← dstep0 HM.out, ← HN.out] at hd1
        have D1 := Lib.hid hd1
        have K1 := Lib.hid (KP.out.trans k1)
        clear hd1 k1
        go_wp2
        go_roundw
        case rel => exact ⟨k + 1, by omega, by go_num, D1.out, K1.out⟩
        case measure => simp [intOf]; omega
      · rw [hmd] at c3
        unfold stp at c3
        have HM := Lib.hid hmd
        have hbd := OK0.out.bd hmd
        have HBD := Lib.hid hbd
        clear hmd hbd
        go_wp2_with fail
        refine (dbody_any _ c0 wr D0.out hXr.out hT1 HBD.out.2.1 (by have := OK0.out.lf; omega) (by have := OK0.out.rl; omega)).mono ?_
        rintro x w1 ⟨rfl, hd1, k1⟩
        rw [← dstep1 (m := m) (f := f) HM.out, ← HN.out] at hd1
        have D1 := Lib.hid hd1
        have K1 := Lib.hid (KP.out.trans k1)
        clear hd1 k1
        go_wp2
        go_roundw
        case rel => exact ⟨k + 1, by omega, by go_num, D1.out, K1.out⟩
        case measure => simp [intOf]; omega
      · rw [stp_2 hmd] at c3
        have HM := Lib.hid hmd
        clear hmd
        go_wp2_with fail
        refine (dforget_any c0 wr).mono ?_
        rintro x w1 ⟨rfl, rfl⟩
        have D1 := Lib.hid (show Dfm wr X tb m f (drun m f s (l.take (k + 1))) by rw [HN.out, dstep2 HM.out]; exact D0.out)
        go_wp2
        go_roundw
        case rel => exact ⟨k + 1, by omega, by go_num, D1.out, KP.out⟩
        case measure => simp [intOf]; omega
    · obtain rfl : k = n := by omega
      have htk : l.take k = l := List.take_of_length_le (by rw [HL.out]; exact Nat.le_refl _)
      rw [htk] at D0
      obtain ⟨hv, rv, tv, hb, ho⟩ := D0.out
      have c9 := cell_of_row wr tb 9 _ _ _ hb
      have f9 := blk_free hb 9
      simp at c9
      obtain ⟨At, ct, vs, rfl, _⟩ := ho.2.2.2.2.2.elem
      have HF := Lib.hid (feed_fin (s := drun m f s l) hb ho)
      clear hb ho hx hd htk kp
      go_wp2
      go_ret
      obtain ⟨Z, z1, z2, z3, z4⟩ := HF.out
      exact ⟨_, Z, rfl, z1, z2, z3, z4, KP.out.set tb 9 _ (fun q => by
        obtain ⟨_, _, _, _, ho⟩ := D0.out
        exact ho.1 q)⟩
end
end Go.Proofs.Ytjajkagpfbemiaa
