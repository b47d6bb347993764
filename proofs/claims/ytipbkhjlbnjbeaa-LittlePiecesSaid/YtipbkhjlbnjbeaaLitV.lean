/-
  Layer 2: messages that are split lie in new blocks; rows of messages joined.
-/
import Derived.Test.YtipbkhjlbnjbeaaLitU
namespace Go.Proofs.Ytipbkhjlbnjbeaa
open Go Go.RowKit
set_option linter.unusedVariables false
set_option linter.unusedSimpArgs false
def LoV (lo : Nat) (u : Value) : Prop := ∀ a n c, u = .slice (some a) n c → 0 < n → lo ≤ a.block
/-- A row of rows of bytes that the call has made; the bytes lie from block lo on. -/
def OwnL (w : World) (base lo : Nat) (v : Value) (rs : List (List UInt8)) : Prop :=
  ∃ vs : List Value, w.ownsRow base 22 1 v rs.length vs ∧ ∀ (j : Nat) (r : List UInt8), rs[j]? = some r → ∃ u, vs[j]? = some u ∧ ElB w v.ownBlock u r ∧ LoV lo u
theorem OwnL.nil (w : World) (base lo : Nat) : OwnL w base lo (.slice none 0 0) [] := ⟨[], World.ownsRow_nil _ _ _ _, fun j r h => by simp at h⟩
theorem OwnL.toB {w : World} {base lo : Nat} {v : Value} {rs : List (List UInt8)} (h : OwnL w base lo v rs) : OwnB w base v rs := by
  obtain ⟨vs, h1, h2⟩ := h
  exact ⟨vs, h1, fun j r hr => by obtain ⟨u, a, b, _⟩ := h2 j r hr; exact ⟨u, a, b⟩⟩
theorem OwnL.ext {w w' : World} {base lo : Nat} {v : Value} {rs : List (List UInt8)} (h : OwnL w base lo v rs) (he : Ext w w') : OwnL w' base lo v rs := by
  obtain ⟨vs, h1, h2⟩ := h
  refine ⟨vs, own_ext h1 he, fun j r hr => ?_⟩
  obtain ⟨u, h3, ⟨A', n', c', h4, h5, h6⟩, h7⟩ := h2 j r hr
  exact ⟨u, h3, ⟨A', n', c', h4, h5.ext he, h6⟩, h7⟩
theorem OwnL.lt {w : World} {base lo : Nat} {v : Value} {rs : List (List UInt8)} (h : OwnL w base lo v rs) : ∀ k, v.ownBlock = some k → base ≤ k ∧ k < w.heap.size := h.toB.lt
theorem OwnL.lower {w : World} {base lo lo' : Nat} {v : Value} {rs : List (List UInt8)} (h : OwnL w base lo v rs) (hl : lo' ≤ lo) : OwnL w base lo' v rs := by
  obtain ⟨vs, h1, h2⟩ := h
  refine ⟨vs, h1, fun j r hr => ?_⟩
  obtain ⟨u, h3, h4, h5⟩ := h2 j r hr
  exact ⟨u, h3, h4, fun a n c hu hn => Nat.le_trans hl (h5 a n c hu hn)⟩
theorem ownL_app {w : World} {base lo : Nat} {v : Value} {ds ls : List (List UInt8)} {A : Option Addr} {m c : Nat} {vs2 : List Value} (h : OwnL w base lo v ds) (hb : base ≤ w.heap.size) (hl : ds.length + ls.length ≤ 1000) (hs : Sees w A m c vs2) (hlen : vs2.length = ls.length)
    (hel : ∀ (j : Nat) (r : List UInt8), ls[j]? = some r → ∃ u, vs2[j]? = some u ∧ ElB w v.ownBlock u r ∧ LoV lo u) :
    ∃ v' w', (Builtin.append_ #[64, 64] 64 #[v, .slice A m c]).run Try.prog w = .ok v' w' ∧ OwnL w' base lo v' (ds ++ ls) ∧ w.grownBy w' v.ownBlock := by
  obtain ⟨i0, hi, hz0, hz1, hz2⟩ := info_partsS infoS
  obtain ⟨vs, h1, h2⟩ := h
  have hlm := hs.len
  obtain ⟨v', w', hrun, hown', hg, hat⟩ := run_append_sees (P := Try.prog) (w := w) base 64 64 22 i0 _ 24 Try.underlying64 hi hz0 hz1 hz2 rfl v _ _ h1
    A m c vs2 hs (fun u hu => by
      obtain ⟨j, hj, rfl⟩ := List.mem_iff_getElem.1 hu
      obtain ⟨u2, a, ⟨A', n', c', b, _⟩, _⟩ := hel j (ls[j]'(by omega)) (List.getElem?_eq_getElem (by omega))
      rw [List.getElem?_eq_getElem hj] at a
      have a2 := Option.some.inj a
      rw [a2, b]
      simp [Value.oneCell']) (by unfold maxLen; omega) (by omega) hb
  have hlv : vs.length = ds.length := by have := h1.1; simpa using this
  have key : ∀ u r0, ElB w v.ownBlock u r0 → ElB w' v'.ownBlock u r0 := fun u r0 hE => by
    obtain ⟨A0, n0, c0, rfl, hs0, hne0⟩ := hE
    refine ⟨A0, n0, c0, rfl, hs0.grown hg hne0, fun a hA hn => ?_⟩
    rcases hat with h | h
    · rw [h]
      exact hne0 a hA hn
    · rw [h]
      obtain ⟨b1, off1, u, hA1, _, _, hlt⟩ := hs0.at_ (show 0 < n0 from hn)
      rw [hA] at hA1
      injection hA1 with hA1
      subst hA1
      intro e
      injection e with e
      simp at e
      omega
  refine ⟨v', w', hrun, ⟨vs ++ vs2, by rw [List.length_append, ← hlen, hlm]; exact hown', fun j r0 hr => ?_⟩, hg⟩
  by_cases hj : j < ds.length
  · rw [List.getElem?_append_left hj] at hr
    obtain ⟨u, h3, h4, h5⟩ := h2 j r0 hr
    exact ⟨u, by rw [List.getElem?_append_left (by omega)]; exact h3, key _ _ h4, h5⟩
  · rw [List.getElem?_append_right (by omega)] at hr
    obtain ⟨u, h3, h4, h5⟩ := hel _ r0 hr
    exact ⟨u, by rw [List.getElem?_append_right (by omega), hlv]; exact h3, key _ _ h4, h5⟩
theorem ownL_push {w : World} {base lo : Nat} {v : Value} {rs : List (List UInt8)} {A' : Option Addr} {n' c' : Nat} {r : List UInt8} (h : OwnL w base lo v rs) (hb : base ≤ w.heap.size) (hl : rs.length ≤ 999) (hs : Sees w A' n' c' (bs r))
    (hne : ∀ a, A' = some a → 0 < n' → v.ownBlock ≠ some a.block) (hlo : ∀ a, A' = some a → 0 < n' → lo ≤ a.block) :
    ∃ v' w', (Builtin.append_ #[64, 64] 64 #[v, .slice (some ⟨w.heap.size, 0, none⟩) 1 1]).run Try.prog (w.alloc (.cells #[.slice A' n' c'] 22)) = .ok v' w' ∧ OwnL w' base lo v' (rs ++ [r]) ∧ (w.alloc (.cells #[.slice A' n' c'] 22)).grownBy w' v.ownBlock := by
  have he : Ext w (w.alloc (.cells #[.slice A' n' c'] 22)) := (Ext.refl _).alloc _
  exact ownL_app (ls := [r]) (vs2 := [.slice A' n' c']) (h.ext he) (Nat.le_trans hb he.size) (by simp; omega) (sees_new w 22 #[.slice A' n' c'] (by simp [maxLen])) rfl (fun j r0 hr => by
    match j, hr with
    | 0, hr =>
      simp at hr
      subst hr
      exact ⟨_, rfl, ⟨A', n', c', rfl, hs.ext he, hne⟩, fun a n c hu hn => by
        injection hu with q1 q2 q3
        exact hlo a q1 (by omega)⟩
    | j + 1, hr => simp at hr)
theorem own_low {w1 w2 : World} {A : Option Addr} {n c : Nat} {x : List Value} {e : TypeId} {lo m : Nat} (ho : w2.ownsRow w1.heap.size e 1 (.slice A n c) m x) (hm : n = m) (hlo : lo ≤ w1.heap.size) : ∀ a, A = some a → 0 < n → lo ≤ a.block := fun a hA hn => by
  subst hm
  obtain ⟨g, cap, hv, hg, hlt⟩ := ho.form hn
  injection hv with q1 q2 q3
  rw [hA] at q1
  injection q1 with q1
  subst q1
  simp
  omega
set_option maxRecDepth 20000 in
set_option maxHeartbeats 2000000 in
theorem lsplitL_any (A : Option Addr) (n c : Nat) (l : List UInt8) (m : Int) (w : World) (hs : Sees w A n c (bs l)) (hn : n ≤ 900) (hm0 : -9223372036854775808 ≤ m) (hm1 : m ≤ 9223372036854775807) :
    Calls Try.prog 57 #[.slice A n c, .int .i64 m] w fun e w' => ∃ v1 v2 k, e = .returned (.tuple #[v1, v2, .int .i64 (spE n m l)]) ∧ OwnL w' w.heap.size w.heap.size v1 (spL n m l) ∧ w'.ownsRow w.heap.size 5 1 v2 k (bs (spR n m l)) ∧ Ext w w' := by
  have hln := hs.len
  rw [bs_length] at hln
  have HS := Lib.hid hs
  have HL := Lib.hid hln
  clear hs hln
  go_enter Try.func57, Try.ntmps57
  go_wp2_with fail
  go_loopw [0, 7] (fun b v wr => ∃ (A' : Option Addr) (n' c' : Nat) (l' : List UInt8) (d : List (List UInt8)) (f : Nat), b = .slice A' n' c' ∧ Sees w A' n' c' (bs l') ∧ OwnL wr w.heap.size w.heap.size v d ∧ SpAt n m l d f l' ∧ Ext w wr) (fun b _ _ => lenV b)
  case atStart => exact ⟨A, n, c, l, [], n, rfl, HS.out, OwnL.nil _ _ _, SpAt.start n m l (by have := HL.out; omega), Ext.refl _⟩
  case round =>
    obtain ⟨A', n', c', l', d, f, rfl, hs', own, hsp, ext⟩ := hrel
    have hc := hs'.le
    have hmx := hs'.max
    unfold maxLen at hmx
    have hl' := hs'.len
    rw [bs_length] at hl'
    have hdl := hsp.2.2.2.2
    have hfl := hsp.2.2.2.1
    have hn9 : n' ≤ 900 := by omega
    have hd9 : d.length ≤ 900 := by omega
    have Own := Lib.hid own
    have EX := Lib.hid ext
    have HS' := Lib.hid hs'
    have HSP := Lib.hid hsp
    have HL' := Lib.hid hl'
    by_cases h4 : n' < 4
    · have hst := hsp.stop (.inl (by omega))
      have HST := Lib.hid hst
      have HC := Lib.hid (fun w hs => clone_any A' n' c' l' w hs (by omega))
      clear own ext hs' hsp hl' hst
      go_wp2_with fail
      refine (HC.out _ (HS'.out.ext EX.out)).mono ?_
      rintro e w1 ⟨v1, rfl, own1, e1⟩
      have O1 := Lib.hid (own_mono own1 EX.out.size)
      have O2 := Lib.hid (Own.out.ext e1)
      have E1 := Lib.hid (EX.out.trans e1)
      clear own1 e1
      go_wp2
      go_ret3
      exact ⟨_, _, _, by rw [HST.out.2.2]; rfl, by rw [HST.out.1]; exact O2.out, by rw [HST.out.2.1]; exact O1.out, E1.out⟩
    · have hs4 := hs'.take 4 (by omega)
      rw [bs_take] at hs4
      have HS4 := Lib.hid hs4
      have HJ := Lib.hid (fun w hs => join_u32 A' 4 c' (l'.take 4) w hs (by omega))
      have hlt := leV4_lt l'
      have hform := hsp.form (by omega)
      have hrange := hsp.range (by omega)
      have hnext := hsp.next (by omega)
      have hstop := hsp.stop
      generalize hK : leV (l'.take 4) = K at *
      have HF := Lib.hid hform
      have HR := Lib.hid hrange
      have HN := Lib.hid hnext
      have HSt := Lib.hid hstop
      clear hform hrange hnext hstop own ext hs' hsp hl' hs4 hK
      by_cases k7 : K < 7
      · have HST := Lib.hid (HF.out k7)
        go_wp2_with fail
        refine (HJ.out _ (HS4.out.ext EX.out)).mono ?_
        rintro e w1 ⟨rfl, e1⟩
        have O2 := Lib.hid (Own.out.ext e1)
        have E1 := Lib.hid (EX.out.trans e1)
        clear e1
        go_wp2
        go_ret3
        exact ⟨_, _, 0, by rw [HST.out.2.2]; rfl, by rw [HST.out.1]; exact O2.out, by rw [HST.out.2.1]; exact World.ownsRow_nil _ _ _ _, E1.out⟩
      · by_cases km : m < (K : Int)
        · have HST := Lib.hid (HR.out (by omega) km)
          go_wp2_with fail
          refine (HJ.out _ (HS4.out.ext EX.out)).mono ?_
          rintro e w1 ⟨rfl, e1⟩
          have O2 := Lib.hid (Own.out.ext e1)
          have E1 := Lib.hid (EX.out.trans e1)
          clear e1
          go_wp2
          go_ret3
          exact ⟨_, _, 0, by rw [HST.out.2.2]; rfl, by rw [HST.out.1]; exact O2.out, by rw [HST.out.2.1]; exact World.ownsRow_nil _ _ _ _, E1.out⟩
        · by_cases kl : n' < K
          · have HST := Lib.hid (HSt.out (.inr ⟨by omega, by omega, by have := HL'.out; omega⟩))
            have HC := Lib.hid (fun w hs => clone_any A' n' c' l' w hs (by omega))
            go_wp2_with fail
            refine (HJ.out _ (HS4.out.ext EX.out)).mono ?_
            rintro e w1 ⟨rfl, e1⟩
            have E1 := Lib.hid (EX.out.trans e1)
            have O2 := Lib.hid (Own.out.ext e1)
            clear e1
            go_wp2_with fail
            refine (HC.out _ (HS'.out.ext E1.out)).mono ?_
            rintro e w2 ⟨v1, rfl, own1, e2⟩
            have O1 := Lib.hid (own_mono own1 E1.out.size)
            have O3 := Lib.hid (O2.out.ext e2)
            have E2 := Lib.hid (E1.out.trans e2)
            clear own1 e2
            go_wp2
            go_ret3
            exact ⟨_, _, _, by rw [HST.out.2.2]; rfl, by rw [HST.out.1]; exact O3.out, by rw [HST.out.2.1]; exact O1.out, E2.out⟩
          · obtain ⟨f', hsp'⟩ := HN.out (by omega) (by omega) (by have := HL'.out; omega)
            have HSP' := Lib.hid hsp'
            have hsk := HS'.out.take K (by omega)
            rw [bs_take] at hsk
            have HSK := Lib.hid hsk
            have HC := Lib.hid (fun w hs => clone_any A' K c' (l'.take K) w hs (by omega))
            obtain ⟨A2, hd2, hA2⟩ := bdrop HS'.out K (by omega)
            have HD2 := Lib.hid hd2
            clear hsp' hsk hd2
            by_cases hcK : c' = K
            all_goals
              first
              | (rw [if_pos hcK] at hA2
                 subst hA2
                 subst hcK
                 have hcK : True := trivial)
              | (rw [if_neg hcK] at hA2
                 subst hA2)
              go_wp2_with fail
              refine (HJ.out _ (HS4.out.ext EX.out)).mono ?_
              rintro e w1 ⟨rfl, e1⟩
              have E1 := Lib.hid (EX.out.trans e1)
              have O2 := Lib.hid (Own.out.ext e1)
              clear e1
              go_wp2_with fail
              refine (HC.out _ (HSK.out.ext E1.out)).mono ?_
              rintro e w2 ⟨v1, rfl, own1, e2⟩
              obtain ⟨A3, c3, rfl, see3⟩ := Sees.of_own own1
              have hne := own_apart O2.out.toB (Nat.le_refl _) own1
              have hlo := own_low (lo := w.heap.size) own1 rfl E1.out.size
              have O3 := O2.out.ext e2
              have E2 := E1.out.trans e2
              obtain ⟨v4, w4, hrun, hown, hg⟩ := ownL_push O3 E2.size (by omega) see3 hne hlo
              have O4 := Lib.hid hown
              have E4 := Lib.hid ((E2.alloc _).grown hg fun k hk => (O3.lt k hk).1)
              clear own1 see3 hne hlo O3 E2 hown hg e2
              go_wp2_with (first | (at_builtin; refine wpList_append_run rfl (.tmp 27) (.tmp 32) _ rfl _ _ rfl rfl v4 w4 hrun ?_) | fail)
              go_roundw
              case rel => exact ⟨_, _, _, _, _, f', rfl, by first | (have h := HD2.out; rw [show n' - c' = 0 from by omega, Nat.sub_self] at h; exact h) | simpa using HD2.out, O4.out, HSP'.out, E4.out⟩
              case measure => simp [lenV]; omega
end Go.Proofs.Ytipbkhjlbnjbeaa
