/-
  Plain facts on bytes that are written; the example of layer 12 is met.
-/
import Derived.Test.YtiiagecacegmbaaBlobB
namespace Go.Proofs.Ytiiagecacegmbaa
open Go Go.RowKit
set_option linter.unusedVariables false
set_option linter.unusedSimpArgs false

theorem sizeL_get (l : List UInt8) (K i : Nat) (hK : l.length ≤ K) : (sizeL l K)[i]? = if i < K then some (l.getD i 0) else none := by
  unfold sizeL
  rw [List.take_of_length_le hK]
  by_cases h : i < l.length
  · rw [List.getElem?_append_left h, if_pos (by omega), List.getD_eq_getElem?_getD, List.getElem?_eq_getElem h]
    rfl
  · rw [List.getElem?_append_right (by omega), zeros, List.getElem?_replicate]
    have hd : l.getD i 0 = 0 := by
      rw [List.getD_eq_getElem?_getD, List.getElem?_eq_none (by omega)]
      rfl
    rw [hd]
    by_cases h2 : i < K
    · rw [if_pos (by omega), if_pos h2]
    · rw [if_neg (by omega), if_neg h2]
theorem writeL_nil (l : List UInt8) (o : Nat) : writeL l o [] = l := by simp [writeL]
theorem writeL_length (l : List UInt8) (o : Nat) (d : List UInt8) (hd : d ≠ []) : (writeL l o d).length = max l.length (o + d.length) := by
  unfold writeL
  rw [if_neg hd]
  simp only [List.length_append, List.length_take, List.length_drop, sizeL_length]
  omega
theorem writeL_get (l : List UInt8) (o : Nat) (d : List UInt8) (hd : d ≠ []) (i : Nat) :
    (writeL l o d)[i]? = if i < o then some (l.getD i 0) else if i < o + d.length then d[i - o]? else l[i]? := by
  unfold writeL
  rw [if_neg hd]
  have hK : l.length ≤ max l.length (o + d.length) := Nat.le_max_left _ _
  have hs := fun i => sizeL_get l (max l.length (o + d.length)) i hK
  have hl := sizeL_length l (max l.length (o + d.length))
  have ht : ((sizeL l (max l.length (o + d.length))).take o).length = o := by rw [List.length_take, hl]; omega
  by_cases h1 : i < o
  · rw [if_pos h1, List.append_assoc, List.getElem?_append_left (by omega), List.getElem?_take, if_pos h1, hs, if_pos (by omega)]
  · rw [if_neg h1]
    by_cases h2 : i < o + d.length
    · rw [if_pos h2, List.append_assoc, List.getElem?_append_right (by omega), ht, List.getElem?_append_left (by omega)]
    · rw [if_neg h2, List.getElem?_append_right (by rw [List.length_append, ht]; omega), List.length_append, ht, List.getElem?_drop, hs]
      rw [show o + d.length + (i - (o + d.length)) = i from by omega]
      by_cases h3 : i < l.length
      · rw [if_pos (by omega), List.getD_eq_getElem?_getD, List.getElem?_eq_getElem h3]
        rfl
      · rw [if_neg (by omega), List.getElem?_eq_none (by omega)]
theorem writeL_getD (l : List UInt8) (o : Nat) (d : List UInt8) (hd : d ≠ []) (i : Nat) (hi : i < o) : (writeL l o d).getD i 0 = l.getD i 0 := by
  rw [List.getD_eq_getElem?_getD, writeL_get l o d hd, if_pos hi]
  rfl
theorem writeL_twice (l : List UInt8) (o : Nat) (d : List UInt8) : writeL (writeL l o d) o d = writeL l o d := by
  by_cases hd : d = []
  · subst hd
    simp only [writeL_nil]
  · apply List.ext_getElem?
    intro i
    rw [writeL_get _ _ _ hd, writeL_get l o d hd]
    by_cases h1 : i < o
    · rw [if_pos h1, if_pos h1, writeL_getD l o d hd i h1]
    · rw [if_neg h1, if_neg h1]
      by_cases h2 : i < o + d.length
      · rw [if_pos h2, if_pos h2]
      · rw [if_neg h2, if_neg h2]
theorem writeL_two (l : List UInt8) (o : Nat) (d : List UInt8) (k : Nat) (hk : k ≤ d.length) : writeL (writeL l o (d.take k)) (o + k) (d.drop k) = writeL l o d := by
  by_cases hk0 : k = 0
  · subst hk0
    simp only [List.take_zero, writeL_nil, Nat.add_zero, List.drop_zero]
  · by_cases hk1 : k = d.length
    · subst hk1
      rw [List.take_length, List.drop_length, writeL_nil]
    · have hd : d ≠ [] := fun h => by subst h; simp at hk; omega
      have ht : d.take k ≠ [] := fun h => by have := congrArg List.length h; simp at this; rcases this with h | h; exact hk0 h; exact hd h
      have hr : d.drop k ≠ [] := fun h => by have := congrArg List.length h; simp at this; omega
      have htl : (d.take k).length = k := by rw [List.length_take]; omega
      have hrl : (d.drop k).length = d.length - k := List.length_drop
      apply List.ext_getElem?
      intro i
      rw [writeL_get _ _ _ hr, writeL_get l o d hd, hrl]
      by_cases h1 : i < o
      · rw [if_pos (by omega), if_pos h1, writeL_getD l o _ ht i h1]
      · by_cases h2 : i < o + k
        · rw [if_pos h2, if_neg h1, if_pos (by omega), List.getD_eq_getElem?_getD, writeL_get l o _ ht, if_neg h1, htl, if_pos h2, List.getElem?_take, if_pos (by omega), List.getElem?_eq_getElem (by omega)]
          rfl
        · rw [if_neg h2, if_neg h1]
          by_cases h3 : i < o + d.length
          · rw [if_pos (by omega), if_pos h3, List.getElem?_drop]
            congr 1
            omega
          · rw [if_neg (by omega), if_neg h3, writeL_get l o _ ht, if_neg h1, htl, if_neg h2]

/-- A write that fits. -/
theorem write_le (A : Option Addr) (n c : Nat) (l : List UInt8) (oz : Int) (off : Nat) (w : World) (hs : Sees w A n c (bs l)) (hn : n ≤ 900000) (A2 : Option Addr) (n2 c2 : Nat) (d : List UInt8) (hs2 : Sees w A2 n2 c2 (bs d)) (hz : oz = (off : Int)) (hb : off + n2 ≤ 2048) :
    Calls Try.prog 42 #[.slice A n c, .int .i64 oz, .slice A2 n2 c2] w fun e w' => ∃ v, e = .returned (.tuple #[v, .int .i64 0]) ∧ w'.ownsRow w.heap.size 5 1 v (writeL l off d).length (bs (writeL l off d)) ∧ Ext w w' := by
  subst hz
  have hlen := hs.len
  rw [bs_length] at hlen
  have hlen2 := hs2.len
  rw [bs_length] at hlen2
  by_cases h0 : n2 = 0
  · subst h0
    obtain rfl : d = [] := List.eq_nil_of_length_eq_zero hlen2
    rw [writeL_nil, hlen]
    exact write_no A n c l off w hs hn A2 c2 (by omega)
  · have hd : d ≠ [] := fun h => by subst h; simp at hlen2; omega
    rw [writeL_length l off d hd, hlen, hlen2]
    exact write_ok A n c l off w hs hn A2 n2 c2 d hs2 (by omega) hb

theorem blobLives_any (w : World) : Calls Try.prog 41 #[] w fun e w' => e = .returned (.bool true) ∧ Ext w w' := by
  have kc := Lib.run_convert_bytes_const (P := Try.prog) w 22 5 #[.int .u8 97, .int .u8 98] 2 2 Try.underlying22 Try.underlying5
  have kc2 := Lib.run_convert_bytes_const (P := Try.prog) (w.alloc (.cells #[.int .u8 97, .int .u8 98] 5 (2, 3))) 22 5 #[.int .u8 99] 1 1 Try.underlying22 Try.underlying5
  have hz : (w.alloc (.cells #[.int .u8 97, .int .u8 98] 5 (2, 3))).heap.size = w.heap.size + 1 := by simp
  rw [hz] at kc2
  have s1 := sees_mark w 5 #[.int .u8 97, .int .u8 98] (2, 3) (by simp [maxLen])
  have s2 := sees_mark (w.alloc (.cells #[.int .u8 97, .int .u8 98] 5 (2, 3))) 5 #[.int .u8 99] (1, 2) (by simp [maxLen])
  have s1' := s1.ext ((Ext.refl _).alloc (.cells #[.int .u8 99] 5 (1, 2)))
  rw [hz] at s2
  have hw := write_le _ 2 2 [97, 98] 3 3 _ s1' (by omega) _ 1 1 [99] s2 rfl (by omega)
  have hE : Ext w ((w.alloc (.cells #[.int .u8 97, .int .u8 98] 5 (2, 3))).alloc (.cells #[.int .u8 99] 5 (1, 2))) := ((Ext.refl w).alloc _).alloc _
  have HW := Lib.hid hw
  clear s1 s2 s1' hz hw
  go_enter Try.func41, Try.ntmps41
  go_wp2_with fail
  refine (Calls.mono HW.out ?_)
  rintro e w1 ⟨v1, rfl, own1, ext1⟩
  have own1' : w1.ownsRow _ 5 1 v1 4 (bs [97, 98, 0, 99]) := own1
  obtain ⟨A1, c1, rfl, see1⟩ := Sees.of_own own1'
  have hstr := str_of see1
  have ext2 : Ext w w1 := hE.trans ext1
  clear own1 own1' see1 ext1 hE HW kc kc2
  go_wp2
  go_ret
  exact ⟨by simp, ext2⟩
