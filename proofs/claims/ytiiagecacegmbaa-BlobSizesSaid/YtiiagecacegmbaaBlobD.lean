/-
  What is read of a file's bytes: plain contracts.
-/
import Derived.Test.YtiiagecacegmbaaBlobC
namespace Go.Proofs.Ytiiagecacegmbaa
open Go Go.RowKit
set_option linter.unusedVariables false
set_option linter.unusedSimpArgs false

theorem read_no (A : Option Addr) (n c : Nat) (off k : Int) (w : World) (hn : n ≤ c) (hm : c ≤ 9223372036854775807) (ho : (n : Int) ≤ off) :
    Calls Try.prog 39 #[.slice A n c, .int .i64 off, .int .i64 k] w fun e w' => e = .returned (.tuple #[.slice none 0 0, .bool true]) ∧ w = w' := by
  go_enter Try.func39, Try.ntmps39
  go_wp2
  go_ret2
  exact ⟨rfl, rfl⟩
set_option maxRecDepth 4000 in
theorem read_some (A : Option Addr) (n c : Nat) (l : List UInt8) (off K : Nat) (k kz : Int) (e : Bool) (w : World) (hs : Sees w A n c (bs l)) (ho : off < n) (hK : off + K ≤ n) (hk0 : 0 ≤ k) (hk1 : k ≤ 9223372036854775807) (hkz : (k = (K : Int) ∧ kz = (K : Int)) ∨ (k > (K : Int) ∧ off + K = n ∧ kz = (n : Int) - (off : Int)))
    (hn : n ≤ 1000000) (he : Hid (decide (off + K = n) = e)) :
    Calls Try.prog 39 #[.slice A n c, .int .i64 (off : Int), .int .i64 k] w fun e' w' => ∃ v, e' = .returned (.tuple #[v, .bool e]) ∧ w'.ownsRow w.heap.size 5 1 v K (bs ((l.drop off).take K)) ∧ Ext w w' := by
  obtain ⟨i0, hi, hz0, hz1, hz2⟩ := info_parts infoB
  have hlen := hs.len
  rw [bs_length] at hlen
  have HL := Lib.hid hlen
  clear hlen
  have hc := hs.le
  have hm := hs.max
  unfold maxLen at hm
  have hne : ¬ c = off := by omega
  have hd := hs.drop off (by omega) hne
  rw [bs_drop] at hd
  have hmk := fun w => make_bytes K K (Nat.le_refl _) (by omega) w
  have hzz : ((K : Nat) : Int) = kz := by omega
  rw [hzz] at hmk
  have own1 := own_made w w.heap.size K K (Nat.le_refl _) (Nat.le_refl _) (by omega)
  have ext1 : Ext w (w.alloc (.cells (madeCells #[.int .u8 0] K) 5)) := (Ext.refl w).alloc _
  obtain ⟨w2, hrun, own2, hg2⟩ := run_copy_at (P := Try.prog) w.heap.size 22 3 5 Try.underlying22 infoSz w.heap.size K K _ own1 0 (Nat.zero_le _) (some ⟨w.heap.size, 0, none⟩) K (fun _ => rfl) _ _ _ _ (hd.ext ext1) (bs_one _)
  rw [Nat.sub_zero] at hrun own2
  have e2 : (bs (zeros K)).take 0 ++ (bs (l.drop off)).take K ++ (bs (zeros K)).drop (0 + (n - off)) = bs ((l.drop off).take K) := by
    have t1 : (bs (zeros K)).drop (0 + (n - off)) = [] := List.drop_eq_nil_of_le (by rw [bs_length, zeros_length]; omega)
    rw [List.take_zero, List.nil_append, t1, List.append_nil, bs_take]
  rw [e2] at own2
  have ext2 : Ext w w2 := ext1.grown hg2 (by simp)
  have hEq : ((off : Int) + kz == (n : Int)) = e := by
    rw [← he.out, Bool.eq_iff_iff]
    simp
    omega
  have HK := Lib.hid hkz
  have hmin : Nat.min (n - off) K = K := Nat.min_eq_right (by omega)
  rw [hmin] at hrun
  clear hmin e2 own1 ext1 hg2 hs hd
  rcases hkz with ⟨h1, h2⟩ | ⟨h1, h2, h3⟩
  · have hle : kz ≤ (n : Int) - (off : Int) := by omega
    have hk2 : 0 ≤ kz := by omega
    obtain rfl : k = kz := by omega
    clear h1 h2 hzz HK
    go_enter Try.func39, Try.ntmps39
    go_wp2_with fail
    go_ret2
    exact ⟨_, rfl, own2, ext2⟩
  · have he1 : e = true := by rw [← he.out]; simp [h2]
    subst he1
    subst h3
    have hlt : (n : Int) - (off : Int) < k := by omega
    have hpos : 0 < (n : Int) - (off : Int) := by omega
    clear h1 h2 hzz HK
    go_enter Try.func39, Try.ntmps39
    go_wp2_with fail
    go_ret2
    exact ⟨_, rfl, own2, ext2⟩
/-- What is read from off on: at most k bytes. -/
theorem read_any12 (A : Option Addr) (n c : Nat) (l : List UInt8) (off k : Int) (w : World) (hs : Sees w A n c (bs l)) (ho0 : 0 ≤ off) (ho1 : off ≤ 9223372036854775807) (hk0 : 0 ≤ k) (hk1 : k ≤ 9223372036854775807) (hn : n ≤ 1000000) :
    Calls Try.prog 39 #[.slice A n c, .int .i64 off, .int .i64 k] w fun e' w' => ∃ v, e' = .returned (.tuple #[v, .bool (decide ((n : Int) - off ≤ k))]) ∧ w'.ownsRow w.heap.size 5 1 v ((l.drop off.toNat).take k.toNat).length (bs ((l.drop off.toNat).take k.toNat)) ∧ Ext w w' := by
  have hlen := hs.len
  rw [bs_length] at hlen
  by_cases hoff : (n : Int) ≤ off
  · have hm := hs.max
    unfold maxLen at hm
    refine (read_no A n c off k w hs.le (by omega) hoff).mono ?_
    rintro x w' ⟨rfl, rfl⟩
    have h1 : l.drop off.toNat = [] := List.drop_eq_nil_of_le (by omega)
    have h2 : decide ((n : Int) - off ≤ k) = true := by simp; omega
    rw [h1, h2, List.take_nil]
    exact ⟨_, rfl, World.ownsRow_nil _ _ _ _, Ext.refl _⟩
  · obtain ⟨O, rfl⟩ := Int.eq_ofNat_of_zero_le ho0
    have h0 : (O : Int).toNat = O := by simp
    rw [h0]
    have hl : (l.drop O).length = n - O := by rw [List.length_drop, hlen]
    by_cases hk : k ≤ (n : Int) - (O : Int)
    · have h := read_some A n c l O k.toNat k k (decide (O + k.toNat = n)) w hs (by omega) (by omega) hk0 hk1 (.inl ⟨by omega, by omega⟩) hn (Lib.hid rfl)
      have h1 : ((l.drop O).take k.toNat).length = k.toNat := by rw [List.length_take, hl]; omega
      have h2 : decide ((n : Int) - (O : Int) ≤ k) = decide (O + k.toNat = n) := by
        rw [decide_eq_decide]
        omega
      rw [h1, h2]
      exact h
    · have h := read_some A n c l O (n - O) k ((n : Int) - (O : Int)) true w hs (by omega) (by omega) hk0 hk1 (.inr ⟨by omega, by omega, rfl⟩) hn (Lib.hid (by simp; omega))
      have h3 : (l.drop O).take k.toNat = (l.drop O).take (n - O) := by rw [List.take_of_length_le (by omega), List.take_of_length_le (by omega)]
      have h1 : ((l.drop O).take (n - O)).length = n - O := by rw [List.length_take, hl]; omega
      have h2 : decide ((n : Int) - (O : Int) ≤ k) = true := by simp; omega
      rw [h3, h1, h2]
      exact h
end Go.Proofs.Ytiiagecacegmbaa
