/-
  Layer 2: messages are split, on the code's side.
-/
import Derived.Test.YtipbkhjlbnjbeaaLitK
import Derived.Test.YtipbkhjlbnjbeaaRwb
import Derived.Test.YtipbkhjlbnjbeaaPln
namespace Go.Proofs.Ytipbkhjlbnjbeaa
open Go Go.RowKit
set_option linter.unusedVariables false
set_option linter.unusedSimpArgs false
/-- The messages, what is left, the error. -/
def spL : Nat → Int → List UInt8 → List (List UInt8)
  | 0, _, _ => []
  | f + 1, m, l => if l.length < 4 then [] else if leV (l.take 4) < 7 then [] else if m < (leV (l.take 4) : Int) then [] else if l.length < leV (l.take 4) then [] else l.take (leV (l.take 4)) :: spL f m (l.drop (leV (l.take 4)))
def spR : Nat → Int → List UInt8 → List UInt8
  | 0, _, l => l
  | f + 1, m, l => if l.length < 4 then l else if leV (l.take 4) < 7 then [] else if m < (leV (l.take 4) : Int) then [] else if l.length < leV (l.take 4) then l else spR f m (l.drop (leV (l.take 4)))
def spE : Nat → Int → List UInt8 → Int
  | 0, _, _ => 0
  | f + 1, m, l => if l.length < 4 then 0 else if leV (l.take 4) < 7 then 2 else if m < (leV (l.take 4) : Int) then 4 else if l.length < leV (l.take 4) then 0 else spE f m (l.drop (leV (l.take 4)))
/-- What is done already, and what is yet. -/
def SpAt (n : Nat) (m : Int) (l0 : List UInt8) (d : List (List UInt8)) (f : Nat) (l : List UInt8) : Prop :=
  d ++ spL f m l = spL n m l0 ∧ spR f m l = spR n m l0 ∧ spE f m l = spE n m l0 ∧ l.length ≤ f ∧ d.length + f ≤ n
theorem SpAt.start (n : Nat) (m : Int) (l : List UInt8) (h : l.length ≤ n) : SpAt n m l [] n l := ⟨rfl, rfl, rfl, h, by simp⟩
theorem SpAt.stop {n : Nat} {m : Int} {l0 : List UInt8} {d : List (List UInt8)} {f : Nat} {l : List UInt8} (h : SpAt n m l0 d f l) (hl : l.length < 4 ∨ (7 ≤ leV (l.take 4) ∧ (leV (l.take 4) : Int) ≤ m ∧ l.length < leV (l.take 4))) : spL n m l0 = d ∧ spR n m l0 = l ∧ spE n m l0 = 0 := by
  obtain ⟨h1, h2, h3, h4, h5⟩ := h
  rw [← h1, ← h2, ← h3]
  cases f with
  | zero => simp [spL, spR, spE]
  | succ f =>
    by_cases h6 : l.length < 4
    · simp [spL, spR, spE, h6]
    · obtain ⟨g1, g2, g3⟩ := hl.resolve_left h6
      have g4 : ¬ leV (l.take 4) < 7 := by omega
      have g5 : ¬ m < (leV (l.take 4) : Int) := by omega
      simp only [spL, spR, spE, if_neg h6, if_neg g4, if_neg g5, if_pos g3, List.append_nil, and_self]
theorem SpAt.form {n : Nat} {m : Int} {l0 : List UInt8} {d : List (List UInt8)} {f : Nat} {l : List UInt8} (h : SpAt n m l0 d f l) (hl : 4 ≤ l.length) (g1 : leV (l.take 4) < 7) : spL n m l0 = d ∧ spR n m l0 = [] ∧ spE n m l0 = 2 := by
  obtain ⟨h1, h2, h3, h4, h5⟩ := h
  rw [← h1, ← h2, ← h3]
  cases f with
  | zero => omega
  | succ f =>
    have h6 : ¬ l.length < 4 := by omega
    simp only [spL, spR, spE, if_neg h6, if_pos g1, List.append_nil, and_self]
theorem SpAt.range {n : Nat} {m : Int} {l0 : List UInt8} {d : List (List UInt8)} {f : Nat} {l : List UInt8} (h : SpAt n m l0 d f l) (hl : 4 ≤ l.length) (g1 : 7 ≤ leV (l.take 4)) (g2 : m < (leV (l.take 4) : Int)) : spL n m l0 = d ∧ spR n m l0 = [] ∧ spE n m l0 = 4 := by
  obtain ⟨h1, h2, h3, h4, h5⟩ := h
  rw [← h1, ← h2, ← h3]
  cases f with
  | zero => omega
  | succ f =>
    have h6 : ¬ l.length < 4 := by omega
    have g3 : ¬ leV (l.take 4) < 7 := by omega
    simp only [spL, spR, spE, if_neg h6, if_neg g3, if_pos g2, List.append_nil, and_self]
theorem SpAt.next {n : Nat} {m : Int} {l0 : List UInt8} {d : List (List UInt8)} {f : Nat} {l : List UInt8} (h : SpAt n m l0 d f l) (hl : 4 ≤ l.length) (g1 : 7 ≤ leV (l.take 4)) (g2 : (leV (l.take 4) : Int) ≤ m) (g3 : leV (l.take 4) ≤ l.length) :
    ∃ f', SpAt n m l0 (d ++ [l.take (leV (l.take 4))]) f' (l.drop (leV (l.take 4))) := by
  obtain ⟨h1, h2, h3, h4, h5⟩ := h
  cases f with
  | zero => omega
  | succ f =>
    have h6 : ¬ l.length < 4 := by omega
    have g4 : ¬ leV (l.take 4) < 7 := by omega
    have g5 : ¬ m < (leV (l.take 4) : Int) := by omega
    have g6 : ¬ l.length < leV (l.take 4) := by omega
    simp only [spL, spR, spE, if_neg h6, if_neg g4, if_neg g5, if_neg g6] at h1 h2 h3
    exact ⟨f, by rw [List.append_assoc]; exact h1, h2, h3, by rw [List.length_drop]; omega, by simp; omega⟩
theorem leV4_lt (l : List UInt8) : leV (l.take 4) < 4294967296 := by
  have h := leV_lt (l.take 4)
  have h2 : (256 : Nat) ^ (l.take 4).length ≤ 256 ^ 4 := Nat.pow_le_pow_right (by omega) (by rw [List.length_take]; omega)
  have h3 : (256 : Nat) ^ 4 = 4294967296 := by decide
  omega
theorem own_apart {w w1 : World} {base : Nat} {v : Value} {ds : List (List UInt8)} (h : OwnB w base v ds) (he : w.heap.size ≤ w1.heap.size) {A : Option Addr} {n c : Nat} {x : List UInt8} {e : TypeId} {w2 : World} (ho : w2.ownsRow w1.heap.size e 1 (.slice A n c) n (bs x)) :
    ∀ a, A = some a → 0 < n → v.ownBlock ≠ some a.block := fun a hA hn heq => by
  have h1 := (h.lt _ heq).2
  obtain ⟨g, cap, hv, hg, hlt⟩ := ho.form hn
  injection hv with q1 q2 q3
  rw [hA] at q1
  injection q1 with q1
  subst q1
  simp at h1
  omega
theorem bdrop {w : World} {A : Option Addr} {n c : Nat} {l : List UInt8} (h : Sees w A n c (bs l)) (k : Nat) (hk : k ≤ n) : ∃ A' , Sees w A' (n - k) (c - k) (bs (l.drop k)) ∧ A' = (if c = k then A else Option.map (fun x => x.add k) A) := by
  by_cases hc : c = k
  · have := h.drop_all k hk hc
    rw [bs_drop] at this
    exact ⟨A, by rw [show c - k = 0 from by omega]; exact this, by rw [if_pos hc]⟩
  · have := h.drop k hk hc
    rw [bs_drop] at this
    exact ⟨_, this, by rw [if_neg hc]⟩
set_option maxRecDepth 20000 in
set_option maxHeartbeats 2000000 in
theorem lsplit_any (A : Option Addr) (n c : Nat) (l : List UInt8) (m : Int) (w : World) (hs : Sees w A n c (bs l)) (hn : n ≤ 900) (hm0 : -9223372036854775808 ≤ m) (hm1 : m ≤ 9223372036854775807) :
    Calls Try.prog 57 #[.slice A n c, .int .i64 m] w fun e w' => ∃ v1 v2 k, e = .returned (.tuple #[v1, v2, .int .i64 (spE n m l)]) ∧ OwnB w' w.heap.size v1 (spL n m l) ∧ w'.ownsRow w.heap.size 5 1 v2 k (bs (spR n m l)) ∧ Ext w w' := by
  have hln := hs.len
  rw [bs_length] at hln
  have HS := Lib.hid hs
  have HL := Lib.hid hln
  clear hs hln
  go_enter Try.func57, Try.ntmps57
  go_wp2_with fail
  go_loopw [0, 7] (fun b v wr => ∃ (A' : Option Addr) (n' c' : Nat) (l' : List UInt8) (d : List (List UInt8)) (f : Nat), b = .slice A' n' c' ∧ Sees w A' n' c' (bs l') ∧ OwnB wr w.heap.size v d ∧ SpAt n m l d f l' ∧ Ext w wr) (fun b _ _ => lenV b)
  case atStart => exact ⟨A, n, c, l, [], n, rfl, HS.out, OwnB.nil _ _, SpAt.start n m l (by have := HL.out; omega), Ext.refl _⟩
  case round =>
    obtain ⟨A', n', c', l', d, f, rfl, hs', own, hsp, ext⟩ := hrel
    have hc := hs'.le
    have hmx := hs'.max
    unfold maxLen at hmx
    have hl' := hs'.len
    rw [bs_length] at hl'
    have hdl := hsp.2.2.2.2
    have hfl := hsp.2.2.2.1
    have hn9 : n' ≤ 900 := by omega
    have hd9 : d.length ≤ 900 := by omega
    have Own := Lib.hid own
    have EX := Lib.hid ext
    have HS' := Lib.hid hs'
    have HSP := Lib.hid hsp
    have HL' := Lib.hid hl'
    by_cases h4 : n' < 4
    · have hst := hsp.stop (.inl (by omega))
      have HST := Lib.hid hst
      have HC := Lib.hid (fun w hs => clone_any A' n' c' l' w hs (by omega))
      clear own ext hs' hsp hl' hst
      go_wp2_with fail
      refine (HC.out _ (HS'.out.ext EX.out)).mono ?_
      rintro e w1 ⟨v1, rfl, own1, e1⟩
      have O1 := Lib.hid (own_mono own1 EX.out.size)
      have O2 := Lib.hid (Own.out.ext e1)
      have E1 := Lib.hid (EX.out.trans e1)
      clear own1 e1
      go_wp2
      go_ret3
      exact ⟨_, _, _, by rw [HST.out.2.2]; rfl, by rw [HST.out.1]; exact O2.out, by rw [HST.out.2.1]; exact O1.out, E1.out⟩
    · have hs4 := hs'.take 4 (by omega)
      rw [bs_take] at hs4
      have HS4 := Lib.hid hs4
      have HJ := Lib.hid (fun w hs => join_u32 A' 4 c' (l'.take 4) w hs (by omega))
      have hlt := leV4_lt l'
      have hform := hsp.form (by omega)
      have hrange := hsp.range (by omega)
      have hnext := hsp.next (by omega)
      have hstop := hsp.stop
      generalize hK : leV (l'.take 4) = K at *
      have HF := Lib.hid hform
      have HR := Lib.hid hrange
      have HN := Lib.hid hnext
      have HSt := Lib.hid hstop
      clear hform hrange hnext hstop own ext hs' hsp hl' hs4 hK
      by_cases k7 : K < 7
      · have HST := Lib.hid (HF.out k7)
        go_wp2_with fail
        refine (HJ.out _ (HS4.out.ext EX.out)).mono ?_
        rintro e w1 ⟨rfl, e1⟩
        have O2 := Lib.hid (Own.out.ext e1)
        have E1 := Lib.hid (EX.out.trans e1)
        clear e1
        go_wp2
        go_ret3
        exact ⟨_, _, 0, by rw [HST.out.2.2]; rfl, by rw [HST.out.1]; exact O2.out, by rw [HST.out.2.1]; exact World.ownsRow_nil _ _ _ _, E1.out⟩
      · by_cases km : m < (K : Int)
        · have HST := Lib.hid (HR.out (by omega) km)
          go_wp2_with fail
          refine (HJ.out _ (HS4.out.ext EX.out)).mono ?_
          rintro e w1 ⟨rfl, e1⟩
          have O2 := Lib.hid (Own.out.ext e1)
          have E1 := Lib.hid (EX.out.trans e1)
          clear e1
          go_wp2
          go_ret3
          exact ⟨_, _, 0, by rw [HST.out.2.2]; rfl, by rw [HST.out.1]; exact O2.out, by rw [HST.out.2.1]; exact World.ownsRow_nil _ _ _ _, E1.out⟩
        · by_cases kl : n' < K
          · have HST := Lib.hid (HSt.out (.inr ⟨by omega, by omega, by have := HL'.out; omega⟩))
            have HC := Lib.hid (fun w hs => clone_any A' n' c' l' w hs (by omega))
            go_wp2_with fail
            refine (HJ.out _ (HS4.out.ext EX.out)).mono ?_
            rintro e w1 ⟨rfl, e1⟩
            have E1 := Lib.hid (EX.out.trans e1)
            have O2 := Lib.hid (Own.out.ext e1)
            clear e1
            go_wp2_with fail
            refine (HC.out _ (HS'.out.ext E1.out)).mono ?_
            rintro e w2 ⟨v1, rfl, own1, e2⟩
            have O1 := Lib.hid (own_mono own1 E1.out.size)
            have O3 := Lib.hid (O2.out.ext e2)
            have E2 := Lib.hid (E1.out.trans e2)
            clear own1 e2
            go_wp2
            go_ret3
            exact ⟨_, _, _, by rw [HST.out.2.2]; rfl, by rw [HST.out.1]; exact O3.out, by rw [HST.out.2.1]; exact O1.out, E2.out⟩
          · obtain ⟨f', hsp'⟩ := HN.out (by omega) (by omega) (by have := HL'.out; omega)
            have HSP' := Lib.hid hsp'
            have hsk := HS'.out.take K (by omega)
            rw [bs_take] at hsk
            have HSK := Lib.hid hsk
            have HC := Lib.hid (fun w hs => clone_any A' K c' (l'.take K) w hs (by omega))
            obtain ⟨A2, hd2, hA2⟩ := bdrop HS'.out K (by omega)
            have HD2 := Lib.hid hd2
            clear hsp' hsk hd2
            by_cases hcK : c' = K
            all_goals
              first
              | (rw [if_pos hcK] at hA2
                 subst hA2
                 subst hcK
                 have hcK : True := trivial)
              | (rw [if_neg hcK] at hA2
                 subst hA2)
              go_wp2_with fail
              refine (HJ.out _ (HS4.out.ext EX.out)).mono ?_
              rintro e w1 ⟨rfl, e1⟩
              have E1 := Lib.hid (EX.out.trans e1)
              have O2 := Lib.hid (Own.out.ext e1)
              clear e1
              go_wp2_with fail
              refine (HC.out _ (HSK.out.ext E1.out)).mono ?_
              rintro e w2 ⟨v1, rfl, own1, e2⟩
              obtain ⟨A3, c3, rfl, see3⟩ := Sees.of_own own1
              have hne := own_apart O2.out (Nat.le_refl _) own1
              have O3 := O2.out.ext e2
              have E2 := E1.out.trans e2
              obtain ⟨v4, w4, hrun, hown, hg⟩ := own_push O3 E2.size (by omega) see3 hne
              have O4 := Lib.hid hown
              have E4 := Lib.hid ((E2.alloc _).grown hg fun k hk => (O3.lt k hk).1)
              clear own1 see3 hne O3 E2 hown hg e2
              go_wp2_with (first | (at_builtin; refine wpList_append_run rfl (.tmp 27) (.tmp 32) _ rfl _ _ rfl rfl v4 w4 hrun ?_) | fail)
              go_roundw
              case rel => exact ⟨_, _, _, _, _, f', rfl, by first | (have h := HD2.out; rw [show n' - c' = 0 from by omega, Nat.sub_self] at h; exact h) | simpa using HD2.out, O4.out, HSP'.out, E4.out⟩
              case measure => simp [lenV]; omega
end Go.Proofs.Ytipbkhjlbnjbeaa
