/-
  What the functions of layer 12 on bytes return: plain contracts.
-/
import Derived.Test.YtiiagecacegmbaaBlobA
namespace Go.Proofs.Ytiiagecacegmbaa
open Go Go.RowKit
set_option linter.unusedVariables false
set_option linter.unusedSimpArgs false

/-- The first k bytes, with bytes 0 behind them, if there are fewer. -/
def sizeL (l : List UInt8) (k : Nat) : List UInt8 := l.take k ++ zeros (k - l.length)
theorem sizeL_length (l : List UInt8) (k : Nat) : (sizeL l k).length = k := by
  unfold sizeL
  simp only [List.length_append, List.length_take, zeros_length]
  omega

theorem sized_more (A : Option Addr) (n c : Nat) (l : List UInt8) (kz : Int) (D : Nat) (w : World) (hs : Sees w A n c (bs l)) (hz : kz = (n : Int) + (D : Int)) (hD : 0 < D) (hk : n + D ≤ 1000000) :
    Calls Try.prog 62 #[.slice A n c, .int .i64 kz] w fun e w' => ∃ v, e = .returned v ∧ w'.ownsRow w.heap.size 5 1 v (n + D) (bs (sizeL l (n + D))) ∧ Ext w w' := by
  obtain ⟨i0, hi, hz0, hz1, hz2⟩ := info_parts infoB
  have hlen := hs.len
  rw [bs_length] at hlen
  have HL := Lib.hid hlen
  clear hlen
  have hc := hs.le
  have hm := hs.max
  unfold maxLen at hm
  have hmk := fun w => make_bytes n (n + D) (by omega) (by omega) w
  have hzz : ((n + D : Nat) : Int) = kz := by omega
  rw [hzz] at hmk
  have own1 := own_made w w.heap.size n (n + D) (Nat.le_refl _) (by omega) (by omega)
  have ext1 : Ext w (w.alloc (.cells (madeCells #[.int .u8 0] (n + D)) 5)) := (Ext.refl w).alloc _
  obtain ⟨w2, hrun, own2, hg2⟩ := run_copy_at (P := Try.prog) w.heap.size 22 3 5 Try.underlying22 infoSz w.heap.size n (n + D) _ own1 0 (Nat.zero_le _) (some ⟨w.heap.size, 0, none⟩) (n + D) (fun _ => rfl) A n c _ (hs.ext ext1) (bs_one _)
  rw [Nat.sub_zero] at hrun own2
  have e2 : (bs (zeros n)).take 0 ++ (bs l).take n ++ (bs (zeros n)).drop (0 + n) = bs (l ++ zeros 0) := by
    rw [List.take_zero, List.nil_append, List.drop_eq_nil_of_le (by rw [bs_length, zeros_length]; omega), List.append_nil, List.take_of_length_le (by rw [bs_length, HL.out]; exact Nat.le_refl _)]
    simp [zeros]
  rw [e2] at own2
  have ext2 : Ext w w2 := ext1.grown hg2 (by simp)
  have hmin : Nat.min n n = n := Nat.min_self n
  rw [hmin] at hrun
  have hsub : kz - (n : Int) = (D : Int) := by omega
  have hlt2 : (n : Int) < kz := by omega
  have HZ := Lib.hid hz
  clear hz hzz
  clear e2 own1 ext1 hg2 hs hmin
  go_enter Try.func62, Try.ntmps62
  go_wp2_with ((with_reducible refine wpList_copy_run (o := ⟨some 14, _, _, _, _, _⟩) rfl (.tmp 12) (.tmp 13) 22 rfl (.slice (some ⟨w.heap.size, 0, none⟩) n (n + D)) (.slice A n c) ?_ ?_ _ w2 ?_ ?_); rfl; rfl; exact hrun)
  clear hmk hrun
  go_loopw [5, 19] (fun v i wr => ∃ j : Nat, j ≤ D ∧ i = .int .i64 j ∧ wr.ownsRow w.heap.size 5 1 v (n + j) (bs (l ++ zeros j)) ∧ Ext w wr) (fun _ i _ => D - (intOf i).toNat)
  case atStart => exact ⟨0, by omega, rfl, own2, ext2⟩
  case round =>
    obtain ⟨j, hj, rfl, ownj, extj⟩ := hrel
    by_cases hlt : j < D
    · have hz : w.heap.size ≤ wr.heap.size := extj.size
      obtain ⟨v', w', hrun, own', hg, hat⟩ := run_append_sees (P := Try.prog) (w := wr.alloc (.cells #[.int .u8 0] 5)) w.heap.size 22 22 5 i0 _ 1 Try.underlying22 hi hz0 hz1 hz2 rfl _ _ _ (ownj.alloc _)
        _ 1 1 _ (sees_new wr 5 #[.int .u8 0] (by simp [maxLen])) (by simp [Value.oneCell']) (by unfold maxLen; omega) (by omega) (by simp; omega)
      have ext' : Ext w w' := (extj.alloc _).grown hg fun k hk => (ownj.lt k hk).1
      have own'' : w'.ownsRow w.heap.size 5 1 v' (n + (j + 1)) (bs (l ++ zeros (j + 1))) := by
        have e1 : bs (l ++ zeros (j + 1)) = bs (l ++ zeros j) ++ [.int .u8 0] := by
          rw [zeros_succ]
          simp only [bs_append, List.append_assoc]
          rfl
        rw [e1]
        exact own'
      clear own' hg hat
      go_wp2_with (first | (at_builtin; refine wpList_append_run rfl (.tmp 21) (.tmp 22) _ rfl _ _ rfl rfl v' w' hrun ?_) | fail)
      go_roundw
      case rel => exact ⟨j + 1, by omega, by go_num, own'', ext'⟩
      case measure => simp [intOf]; omega
    · go_wp2
      go_ret
      have hj' : j = D := by omega
      subst hj'
      refine ⟨_, rfl, ?_, extj⟩
      have e2 : sizeL l (n + j) = l ++ zeros j := by
        have t1 : l.take (n + j) = l := List.take_of_length_le (by rw [HL.out]; omega)
        have t2 : n + j - l.length = j := by rw [HL.out]; omega
        unfold sizeL
        rw [t1, t2]
      rw [e2]
      exact ownj

theorem sized_any (A : Option Addr) (n c : Nat) (l : List UInt8) (k : Nat) (w : World) (hs : Sees w A n c (bs l)) (hk : k ≤ 1000000) (hn : n ≤ 1000000) :
    Calls Try.prog 62 #[.slice A n c, .int .i64 (k : Int)] w fun e w' => ∃ v, e = .returned v ∧ w'.ownsRow w.heap.size 5 1 v k (bs (sizeL l k)) ∧ Ext w w' := by
  obtain ⟨i0, hi, hz0, hz1, hz2⟩ := info_parts infoB
  have hlen := hs.len
  rw [bs_length] at hlen
  have HL := Lib.hid hlen
  clear hlen
  have hc := hs.le
  have hm := hs.max
  unfold maxLen at hm
  by_cases hkn : k ≤ n
  · have hmk := fun w => make_bytes k k (Nat.le_refl _) (by omega) w
    have own1 := own_made w w.heap.size k k (Nat.le_refl _) (Nat.le_refl _) (by omega)
    have ext1 : Ext w (w.alloc (.cells (madeCells #[.int .u8 0] k) 5)) := (Ext.refl w).alloc _
    obtain ⟨w2, hrun, own2, hg2⟩ := run_copy_at (P := Try.prog) w.heap.size 22 3 5 Try.underlying22 infoSz w.heap.size k k _ own1 0 (Nat.zero_le _) (some ⟨w.heap.size, 0, none⟩) k (fun _ => rfl) A n c _ (hs.ext ext1) (bs_one _)
    rw [Nat.sub_zero] at hrun own2
    have e2 : (bs (zeros k)).take 0 ++ (bs l).take k ++ (bs (zeros k)).drop (0 + n) = bs (sizeL l k) := by
      rw [List.take_zero, List.nil_append, List.drop_eq_nil_of_le (by rw [bs_length, zeros_length]; omega), List.append_nil, bs_take]
      unfold sizeL
      rw [show k - l.length = 0 from by rw [HL.out]; omega]
      simp [zeros]
    rw [e2] at own2
    have ext2 : Ext w w2 := ext1.grown hg2 (by simp)
    have hmin : Nat.min n k = k := Nat.min_eq_right hkn
    rw [hmin] at hrun
    clear e2 own1 ext1 hg2 hs hmin
    go_enter Try.func62, Try.ntmps62
    go_wp2_with ((with_reducible refine wpList_copy_run (o := ⟨some 14, _, _, _, _, _⟩) rfl (.tmp 12) (.tmp 13) 22 rfl (.slice (some ⟨w.heap.size, 0, none⟩) k k) (.slice A n c) ?_ ?_ _ w2 ?_ ?_); rfl; rfl; exact hrun)
    go_loop [5, 19] (fun v i => v = .slice (some ⟨w.heap.size, 0, none⟩) k k ∧ i = .int .i64 0) (fun _ _ => 0)
    case atStart => exact ⟨rfl, rfl⟩
    case round =>
      obtain ⟨rfl, rfl⟩ := hrel
      go_wp2
      go_ret
      exact ⟨_, rfl, own2, ext2⟩
  · have h := sized_more A n c l (k : Int) (k - n) w hs (by omega) (by omega) (by omega)
    rw [show n + (k - n) = k from by omega] at h
    exact h

theorem sized_nat (A : Option Addr) (n c : Nat) (l : List UInt8) (kz : Int) (k : Nat) (w : World) (hs : Sees w A n c (bs l)) (hz : kz = (k : Int)) (hk : k ≤ 1000000) (hn : n ≤ 1000000) :
    Calls Try.prog 62 #[.slice A n c, .int .i64 kz] w fun e w' => ∃ v, e = .returned v ∧ w'.ownsRow w.heap.size 5 1 v k (bs (sizeL l k)) ∧ Ext w w' := by
  subst hz
  exact sized_any A n c l k w hs hk hn

/-- b with d from off on. -/
def writeL (b : List UInt8) (off : Nat) (d : List UInt8) : List UInt8 :=
  if d = [] then b else (sizeL b (max b.length (off + d.length))).take off ++ d ++ (sizeL b (max b.length (off + d.length))).drop (off + d.length)

theorem sizeL_self (l : List UInt8) : sizeL l l.length = l := by simp [sizeL, zeros]

theorem write_no (A : Option Addr) (n c : Nat) (l : List UInt8) (off : Nat) (w : World) (hs : Sees w A n c (bs l)) (hn : n ≤ 900000) (A2 : Option Addr) (c2 : Nat) (hoff : (off : Int) ≤ 9223372036854775807) :
    Calls Try.prog 42 #[.slice A n c, .int .i64 (off : Int), .slice A2 0 c2] w fun e w' => ∃ v, e = .returned (.tuple #[v, .int .i64 0]) ∧ w'.ownsRow w.heap.size 5 1 v n (bs l) ∧ Ext w w' := by
  have hlen := hs.len
  rw [bs_length] at hlen
  have HL := Lib.hid hlen
  clear hlen
  go_enter Try.func42, Try.ntmps42
  go_wp2_with fail
  refine (tooBig_no _ _ _ (by omega) hoff (by omega) (by omega) (.inl rfl)).mono ?_
  rintro e w1 ⟨rfl, rfl⟩
  go_wp2_with fail
  refine (sized_any A n c l n _ hs (by omega) (by omega)).mono ?_
  rintro e w2 ⟨v, rfl, own, ext⟩
  go_wp2
  go_ret2
  refine ⟨v, rfl, ?_, ext⟩
  have e1 : sizeL l n = l := by rw [← HL.out]; exact sizeL_self l
  rw [e1] at own
  exact own
theorem write_big (A : Option Addr) (n c : Nat) (off : Nat) (A2 : Option Addr) (n2 c2 : Nat) (w : World) (hoff : (off : Int) ≤ 9223372036854775807) (hn2 : 0 < n2) (hn3 : n2 ≤ 1000000) (hb : 2048 < off + n2) :
    Calls Try.prog 42 #[.slice A n c, .int .i64 (off : Int), .slice A2 n2 c2] w fun e w' => e = .returned (.tuple #[.slice none 0 0, .int .i64 15]) ∧ w = w' := by
  go_enter Try.func42, Try.ntmps42
  go_wp2_with fail
  refine (tooBig_yes _ _ _ (by omega) hoff (by omega) (by omega) (by omega)).mono ?_
  rintro e w1 ⟨rfl, rfl⟩
  go_wp2
  go_ret2
  exact ⟨rfl, rfl⟩
theorem write_ok (A : Option Addr) (n c : Nat) (l : List UInt8) (off : Nat) (w : World) (hs : Sees w A n c (bs l)) (hn : n ≤ 900000) (A2 : Option Addr) (n2 c2 : Nat) (d : List UInt8) (hs2 : Sees w A2 n2 c2 (bs d)) (hn2 : 0 < n2) (hb : off + n2 ≤ 2048) :
    Calls Try.prog 42 #[.slice A n c, .int .i64 (off : Int), .slice A2 n2 c2] w fun e w' => ∃ v, e = .returned (.tuple #[v, .int .i64 0]) ∧ w'.ownsRow w.heap.size 5 1 v (max n (off + n2)) (bs (writeL l off d)) ∧ Ext w w' := by
  have hlen := hs.len
  rw [bs_length] at hlen
  have hlen2 := hs2.len
  rw [bs_length] at hlen2
  have HL := Lib.hid hlen
  have HL2 := Lib.hid hlen2
  have hne : ((n2 : Int) == 0) = false := by simp; omega
  have hw : ∀ M, M = max n (off + n2) → (sizeL l M).take off ++ d ++ (sizeL l M).drop (off + n2) = writeL l off d := fun M hM => by
    unfold writeL
    have hd : d ≠ [] := fun h => by rw [h] at hlen2; simp at hlen2; omega
    rw [if_neg hd, hlen, hlen2, hM]
  clear hlen hlen2
  by_cases hmx : n < off + n2
  all_goals
    obtain ⟨M, hM1, hM2, hM3⟩ : ∃ M, M = max n (off + n2) ∧ off + n2 ≤ M ∧ M ≤ 900000 := ⟨_, rfl, by omega, by omega⟩
    first | (have hM4 : M = off + n2 := by omega) | (have hM4 : M = n := by omega)
    have HM := Lib.hid hM1
    have HM4 := Lib.hid hM4
    have HW := Lib.hid (hw M hM1)
    rw [← hM1]
    clear hM1 hM4 hw
    go_enter Try.func42, Try.ntmps42
    go_wp2_with fail
    refine (tooBig_no _ _ _ (by omega) (by omega) (by omega) (by omega) (.inr (by omega))).mono ?_
    rintro e w1 ⟨rfl, rfl⟩
    go_wp2_with fail
    refine (sized_nat A n c l _ M _ hs (by have := HM4.out; omega) (by omega) (by omega)).mono ?_
    rintro e w2 ⟨v, rfl, own, ext⟩
    obtain ⟨g, cap, rfl, hbg, hlt⟩ := own.form (by omega)
    have hsz := Sees.of_own own
    have hcap : M ≤ cap := by
      obtain ⟨A', c', h1, h2⟩ := hsz
      injection h1 with q1 q2 q3
      have := h2.le
      omega
    have hmax : cap ≤ 9223372036854775807 := by
      obtain ⟨A', c', h1, h2⟩ := hsz
      injection h1 with q1 q2 q3
      have := h2.max
      unfold maxLen at this
      omega
    have hne2 : ¬ cap = off := by omega
    obtain ⟨w3, hrun, own3, hg3⟩ := run_copy_at (P := Try.prog) w.heap.size 22 3 5 Try.underlying22 infoSz g M cap _ own off (by omega) (some ⟨g, off, none⟩) (cap - off) (fun _ => rfl) A2 n2 c2 _ (hs2.ext ext) (bs_one _)
    have e3 : (bs (sizeL l M)).take off ++ (bs d).take (M - off) ++ (bs (sizeL l M)).drop (off + n2) = bs (writeL l off d) := by
      have t1 : (bs d).take (M - off) = bs d := List.take_of_length_le (by rw [bs_length, HL2.out]; omega)
      rw [t1, bs_take, bs_drop, ← bs_append, ← bs_append, HW.out]
    rw [e3] at own3
    have ext3 : Ext w w3 := ext.grown hg3 fun k hk => by injection hk with hk; omega
    clear hsz own hg3 e3 ext hlt
    go_wp2_with ((with_reducible refine wpList_copy_run (o := ⟨some 35, _, _, _, _, _⟩) rfl (.tmp 33) (.tmp 34) 22 rfl (.slice (some ⟨g, off, none⟩) (M - off) (cap - off)) (.slice A2 n2 c2) ?_ ?_ _ w3 ?_ ?_); rfl; rfl; exact hrun)
    go_ret2
    exact ⟨_, rfl, own3, ext3⟩
