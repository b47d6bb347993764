/-
  What the functions of layer 1 that lay texts return: plain contracts.
-/
import Derived.Test.YtpjigdfllbhknaaXdrA
import Derived.LoopTactic
namespace Go.Proofs.Ytpjigdfllbhknaa
open Go Go.RowKit
set_option linter.unusedVariables false
set_option linter.unusedSimpArgs false

/-- How many bytes 0 stand behind a text of n bytes. -/
def pad (n : Nat) : Nat := (4 - n % 4) % 4
/-- A text's bytes. -/
def txt (s : List UInt8) : List UInt8 := be4 s.length ++ s ++ zeros (pad s.length)

theorem txt_le (s : List UInt8) : (txt s).length ≤ s.length + 7 := by
  unfold txt pad
  simp only [List.length_append, be4_length, zeros_length]
  omega

theorem padding_any (n : Nat) (w : World) (hn : n ≤ 1000000) :
    Calls Try.prog 82 #[.int .i64 n] w fun e w' => e = .returned (.int .i64 (pad n : Nat)) ∧ w = w' := by
  go_enter Try.func82, Try.ntmps82
  go_wp2
  go_ret
  refine ⟨?_, rfl⟩
  have : ((4 : Int) - (n : Int) % 4) % 4 = (pad n : Nat) := by unfold pad; omega
  simp [this]

theorem text_any (A : Option Addr) (n c : Nat) (A2 : Option Addr) (n2 c2 : Nat) (l s : List UInt8) (w : World) (hs : Sees w A n c (bs l)) (hs2 : Sees w A2 n2 c2 (bs s)) (hn : n ≤ 900000) (hn2 : n2 ≤ 10000) :
    Calls Try.prog 79 #[.slice A n c, .slice A2 n2 c2] w fun e w' => ∃ v, e = .returned v ∧ w'.ownsRow w.heap.size 5 1 v (n + (txt s).length) (bs (l ++ txt s)) ∧ Ext w w' := by
  obtain ⟨i0, hi, hz0, hz1, hz2⟩ := info_parts infoB
  have hc2 := hs2.le
  have hm2 := hs2.max
  have HL : Hid (n = l.length) := Lib.hid (by rw [← hs.1, bs_length])
  have HL2 : Hid (n2 = s.length) := Lib.hid (by rw [← hs2.1, bs_length])
  have hp : pad n2 ≤ 3 := by unfold pad; omega
  go_enter Try.func79, Try.ntmps79
  go_wp2_with fail
  refine (xdr_u32 A n c _ l _ hs (by omega) (by omega) (by omega)).mono ?_
  rintro e w1 ⟨v1, rfl, own1, ext1⟩
  obtain ⟨v2, w2, hrun, own2, hg, hat⟩ := run_append_sees (P := Try.prog) w.heap.size 24 24 5 i0 _ 1 Try.underlying24 hi hz0 hz1 hz2 rfl v1 _ _ own1
    A2 n2 c2 _ (hs2.ext ext1) (bs_one _) (by unfold maxLen; omega) (by omega) ext1.size
  have ext2 : Ext w w2 := ext1.grown hg fun k hk => (own1.lt k hk).1
  go_wp2_with (first | (at_builtin; refine wpList_append_run rfl (.tmp 9) (.tmp 10) _ rfl _ _ rfl rfl v2 w2 hrun ?_) | fail)
  refine (padding_any n2 _ (by omega)).mono ?_
  rintro e w3 ⟨rfl, rfl⟩
  go_wp2_with fail
  clear own1 hrun hg hat hs hs2
  go_loopw [0, 15] (fun v i wr => ∃ k : Nat, k ≤ pad n2 ∧ i = .int .i64 k ∧ wr.ownsRow w.heap.size 5 1 v (n + 4 + n2 + k) (bs (l ++ (be4 n2 ++ s ++ zeros k))) ∧ Ext w wr) (fun _ i _ => pad n2 - (intOf i).toNat)
  case atStart =>
    refine ⟨0, by omega, rfl, ?_, ext2⟩
    simpa [zeros, bs_append] using own2
  case round =>
    obtain ⟨k, hk, rfl, ownk, extk⟩ := hrel
    by_cases hlt : k < pad n2
    · have hz : w.heap.size ≤ wr.heap.size := extk.size
      obtain ⟨v', w', hrun, own', hg, hat⟩ := run_append_sees (P := Try.prog) (w := wr.alloc (.cells #[.int .u8 0] 5)) w.heap.size 24 24 5 i0 _ 1 Try.underlying24 hi hz0 hz1 hz2 rfl _ _ _ (ownk.alloc _)
        _ 1 1 _ (sees_new wr 5 #[.int .u8 0] (by simp [maxLen])) (by simp [Value.oneCell']) (by unfold maxLen; omega) (by omega) (by simp; omega)
      have ext' : Ext w w' := (extk.alloc _).grown hg fun k hk => (ownk.lt k hk).1
      have own'' : w'.ownsRow w.heap.size 5 1 v' (n + 4 + n2 + (k + 1)) (bs (l ++ (be4 n2 ++ s ++ zeros (k + 1)))) := by
        have e1 : bs (l ++ (be4 n2 ++ s ++ zeros (k + 1))) = bs (l ++ (be4 n2 ++ s ++ zeros k)) ++ [.int .u8 0] := by
          rw [zeros_succ]
          simp only [bs_append, List.append_assoc]
          rfl
        rw [e1]
        exact own'
      clear own' hg hat
      go_wp2_with (first | (at_builtin; refine wpList_append_run rfl (.tmp 17) (.tmp 18) _ rfl _ _ rfl rfl v' w' hrun ?_) | fail)
      go_roundw
      case rel => exact ⟨k + 1, by omega, by go_num, own'', ext'⟩
      case measure => simp [intOf]; omega
    · go_wp2
      go_ret
      have hk' : k = pad n2 := by omega
      subst hk'
      refine ⟨_, rfl, ?_, extk⟩
      have e2 : txt s = be4 n2 ++ s ++ zeros (pad n2) := by rw [HL2.out]; rfl
      have e3 : n + (txt s).length = n + 4 + n2 + pad n2 := by rw [e2]; simp only [List.length_append, be4_length, zeros_length]; rw [← HL2.out]; omega
      rw [e3, e2]
      exact ownk

theorem ref_text (A2 : Option Addr) (n2 c2 : Nat) (s : List UInt8) (w : World) (hs2 : Sees w A2 n2 c2 (bs s)) (hn2 : n2 ≤ 10000) :
    Calls Try.prog 54 #[.slice A2 n2 c2] w fun e w' => ∃ v, e = .returned v ∧ w'.ownsRow w.heap.size 5 1 v (txt s).length (bs (txt s)) ∧ Ext w w' := by
  obtain ⟨i0, hi, hz0, hz1, hz2⟩ := info_parts infoB
  have hc2 := hs2.le
  have hm2 := hs2.max
  have HL2 : Hid (n2 = s.length) := Lib.hid (by rw [← hs2.1, bs_length])
  have hp : pad n2 ≤ 3 := by unfold pad; omega
  have hpk : ∀ k : Nat, k ≤ pad n2 → ((4 + n2 + k) % 4 = 0 ↔ k = pad n2) := fun k hk => by unfold pad at *; omega
  have HP := Lib.hid hpk
  clear hpk
  go_enter Try.func54, Try.ntmps54
  go_wp2_with fail
  refine (ref_u32 _ _ (by omega) (by omega)).mono ?_
  rintro e w1 ⟨v1, rfl, own1, ext1⟩
  obtain ⟨v2, w2, hrun, own2, hg, hat⟩ := run_append_sees (P := Try.prog) w.heap.size 24 24 5 i0 _ 1 Try.underlying24 hi hz0 hz1 hz2 rfl v1 _ _ own1
    A2 n2 c2 _ (hs2.ext ext1) (bs_one _) (by unfold maxLen; omega) (by omega) ext1.size
  have ext2 : Ext w w2 := ext1.grown hg fun k hk => (own1.lt k hk).1
  go_wp2_with (first | (at_builtin; refine wpList_append_run rfl (.tmp 7) (.tmp 8) _ rfl _ _ rfl rfl v2 w2 hrun ?_) | fail)
  clear own1 hrun hg hat hs2
  go_loopw [3] (fun v wr => ∃ k : Nat, k ≤ pad n2 ∧ wr.ownsRow w.heap.size 5 1 v (4 + n2 + k) (bs (be4 n2 ++ s ++ zeros k)) ∧ Ext w wr) (fun v _ => 4 + n2 + pad n2 - lenV v)
  case atStart =>
    refine ⟨0, by omega, ?_, ext2⟩
    simpa [zeros, bs_append] using own2
  case round =>
    obtain ⟨k, hk, ownk, extk⟩ := hrel
    obtain ⟨Ak, ck, rfl, seek⟩ := Sees.of_own ownk
    have hck := seek.le
    clear seek
    by_cases hlt : k < pad n2
    · have hz : w.heap.size ≤ wr.heap.size := extk.size
      obtain ⟨v', w', hrun, own', hg, hat⟩ := run_append_sees (P := Try.prog) (w := wr.alloc (.cells #[.int .u8 0] 5)) w.heap.size 24 24 5 i0 _ 1 Try.underlying24 hi hz0 hz1 hz2 rfl _ _ _ (ownk.alloc _)
        _ 1 1 _ (sees_new wr 5 #[.int .u8 0] (by simp [maxLen])) (by simp [Value.oneCell']) (by unfold maxLen; omega) (by omega) (by simp; omega)
      have ext' : Ext w w' := (extk.alloc _).grown hg fun k hk => (ownk.lt k hk).1
      have own'' : w'.ownsRow w.heap.size 5 1 v' (4 + n2 + (k + 1)) (bs (be4 n2 ++ s ++ zeros (k + 1))) := by
        have e1 : bs (be4 n2 ++ s ++ zeros (k + 1)) = bs (be4 n2 ++ s ++ zeros k) ++ [.int .u8 0] := by
          rw [zeros_succ]
          simp only [bs_append, List.append_assoc]
          rfl
        rw [e1]
        exact own'
      obtain ⟨A', c', rfl, _⟩ := Sees.of_own own''
      have hne : (((4 + (n2 : Int) + (k : Int)) % 4) != 0) = true := by
        have := HP.out k hk
        have h4 : ¬ (4 + n2 + k) % 4 = 0 := fun h => by omega
        simp
        omega
      clear own' hg hat
      go_wp2_with (first | (at_builtin; refine wpList_append_run rfl (.tmp 14) (.tmp 15) _ rfl _ _ rfl rfl _ w' hrun ?_) | fail)
      go_roundw
      case rel => exact ⟨k + 1, by omega, own'', ext'⟩
      case measure => simp [lenV]; omega
    · have hk' : k = pad n2 := by omega
      have hne : (((4 + (n2 : Int) + (k : Int)) % 4) != 0) = false := by
        have := (HP.out k hk).2 hk'
        simp
        omega
      subst hk'
      go_wp2
      go_ret
      refine ⟨_, rfl, ?_, extk⟩
      have e2 : txt s = be4 n2 ++ s ++ zeros (pad n2) := by rw [HL2.out]; rfl
      have e3 : (txt s).length = 4 + n2 + pad n2 := by rw [e2]; simp only [List.length_append, be4_length, zeros_length]; rw [← HL2.out]
      rw [e3, e2]
      exact ownk
