/-
  What the small functions of layer 1 return: plain contracts.
-/
import Derived.Test.YtpjigdfllbhknaaCom
namespace Go.Proofs.Ytpjigdfllbhknaa
open Go Go.RowKit
set_option linter.unusedVariables false
set_option linter.unusedSimpArgs false

theorem fixed_any (A : Option Addr) (n c : Nat) (w : World) (hc : n ≤ c) (hm : n ≤ maxLen) :
    Calls Try.prog 83 #[.slice A n c] w fun e w' => e = .returned (.slice A n n) ∧ w = w' := by
  unfold maxLen at hm
  go_enter Try.func83, Try.ntmps83
  go_wp2
  go_ret
  exact ⟨rfl, rfl⟩

/-- A number's four bytes. -/
def be4 (x : Int) : List UInt8 := [UInt8.ofNat (x / 16777216).toNat, UInt8.ofNat (x / 65536 % 256).toNat, UInt8.ofNat (x / 256 % 256).toNat, UInt8.ofNat (x % 256).toNat]
theorem be4_length (x : Int) : (be4 x).length = 4 := rfl
theorem bs_be4 (x : Int) (h0 : 0 ≤ x) (h1 : x < 4294967296) : bs (be4 x) = [.int .u8 (x / 16777216), .int .u8 (x / 65536 % 256), .int .u8 (x / 256 % 256), .int .u8 (x % 256)] := by
  simp only [bs, be4, List.map_cons, List.map_nil]
  rw [u8_of _ (by omega) (by omega), u8_of _ (by omega) (by omega), u8_of _ (by omega) (by omega), u8_of _ (by omega) (by omega)]

theorem ref_u32 (x : Int) (w : World) (h0 : 0 ≤ x) (h1 : x < 4294967296) :
    Calls Try.prog 57 #[.int .u32 x] w fun e w' => ∃ v, e = .returned v ∧ w'.ownsRow w.heap.size 5 1 v 4 (bs (be4 x)) ∧ Ext w w' := by
  go_enter Try.func57, Try.ntmps57
  go_wp2
  go_ret
  rw [bs_be4 x h0 h1]
  exact ⟨_, rfl, own_new w 5 #[_, _, _, _] w.heap.size (Nat.le_refl _) (by simp [maxLen]), (Ext.refl w).alloc _⟩

theorem xdr_u32 (A : Option Addr) (n c : Nat) (x : Int) (l : List UInt8) (w : World) (hs : Sees w A n c (bs l)) (hn : n ≤ 1000000) (h0 : 0 ≤ x) (h1 : x < 4294967296) :
    Calls Try.prog 80 #[.slice A n c, .int .u32 x] w fun e w' => ∃ v, e = .returned v ∧ w'.ownsRow w.heap.size 5 1 v (n + 4) (bs (l ++ be4 x)) ∧ Ext w w' := by
  obtain ⟨i0, hi, hz0, hz1, hz2⟩ := info_parts infoB
  have hc := hs.le
  have hm := hs.max
  have hm' : n ≤ maxLen := by omega
  have hsf : Sees w A n n (bs l) := ⟨hs.1, Nat.le_refl _, hm', fun h => by have := hs.2.2.2.1 h; omega, hs.2.2.2.2⟩
  have he : Ext w (w.alloc (.cells #[.int .u8 (x / 16777216), .int .u8 (x / 65536 % 256), .int .u8 (x / 256 % 256), .int .u8 (x % 256)] 5)) := (Ext.refl w).alloc _
  obtain ⟨v', w1, hrun, hown, hg⟩ := run_append_full (P := Try.prog) 24 24 5 i0 _ 1 Try.underlying24 hi hz0 hz1 hz2 rfl A n n (bs l) (hsf.ext he) _ 4 4 _
    (sees_new w 5 #[.int .u8 (x / 16777216), .int .u8 (x / 65536 % 256), .int .u8 (x / 256 % 256), .int .u8 (x % 256)] (by simp [maxLen])) (by simp [Value.oneCell']) (by omega) (by unfold maxLen; omega) (by omega)
  have hown1 : w1.ownsRow w.heap.size 5 1 v' (n + 4) (bs (l ++ be4 x)) := by
    rw [bs_append, bs_be4 x h0 h1]
    obtain ⟨q1, q2⟩ := hown
    refine ⟨q1, ?_⟩
    rcases q2 with q2 | ⟨g, cap, cur, q3, q4, q5⟩
    · exact .inl q2
    · exact .inr ⟨g, cap, cur, q3, by simp at q4; omega, q5⟩
  have hext : Ext w w1 := he.grown hg (by simp)
  clear hsf he hs
  go_enter Try.func80, Try.ntmps80
  go_wp2_with (first | (go_at_call 83; refine (fixed_any _ _ _ _ hc hm').mono ?_; rintro e w' ⟨rfl, rfl⟩) | (at_builtin; refine wpList_append_run rfl (.tmp 6) (.tmp 18) _ rfl _ _ rfl rfl v' w1 hrun ?_))
  go_ret
  exact ⟨v', rfl, hown1, hext⟩

/-- A number's eight bytes. -/
def be8 (x : Int) : List UInt8 := be4 (x / 4294967296) ++ be4 (x % 4294967296)
theorem be8_length (x : Int) : (be8 x).length = 8 := rfl

theorem xdr_u64 (A : Option Addr) (n c : Nat) (x : Int) (l : List UInt8) (w : World) (hs : Sees w A n c (bs l)) (hn : n ≤ 900000) (h0 : 0 ≤ x) (h1 : x < 18446744073709551616) :
    Calls Try.prog 81 #[.slice A n c, .int .u64 x] w fun e w' => ∃ v, e = .returned v ∧ w'.ownsRow w.heap.size 5 1 v (n + 8) (bs (l ++ be8 x)) ∧ Ext w w' := by
  have hlen := hs.len
  rw [bs_length] at hlen
  have hlen' := Lib.hid hlen
  clear hlen
  go_enter Try.func81, Try.ntmps81
  go_wp2_with fail
  refine (xdr_u32 A n c _ l _ hs (by omega) (by omega) (by omega)).mono ?_
  rintro e w1 ⟨v1, rfl, own1, ext1⟩
  obtain ⟨A1, c1, rfl, see1⟩ := Sees.of_own own1
  go_wp2_with fail
  refine (xdr_u32 A1 (n + 4) c1 _ _ _ see1 (by omega) (by omega) (by omega)).mono ?_
  rintro e w2 ⟨v2, rfl, own2, ext2⟩
  go_wp2
  go_ret
  refine ⟨v2, rfl, ?_, ext1.trans ext2⟩
  rw [List.append_assoc] at own2
  exact own_mono own2 ext1.size
theorem ref_u64 (x : Int) (w : World) (h0 : 0 ≤ x) (h1 : x < 18446744073709551616) :
    Calls Try.prog 53 #[.int .u64 x] w fun e w' => ∃ v, e = .returned v ∧ w'.ownsRow w.heap.size 5 1 v 8 (bs (be8 x)) ∧ Ext w w' := by
  obtain ⟨i0, hi, hz0, hz1, hz2⟩ := info_parts infoB
  go_enter Try.func53, Try.ntmps53
  go_wp2_with fail
  refine (ref_u32 _ _ (by omega) (by omega)).mono ?_
  rintro e w1 ⟨v1, rfl, own1, ext1⟩
  go_wp2_with fail
  refine (ref_u32 _ _ (by omega) (by omega)).mono ?_
  rintro e w2 ⟨v2, rfl, own2, ext2⟩
  obtain ⟨A2, c2, rfl, see2⟩ := Sees.of_own own2
  obtain ⟨v', w', hrun, hown, hg, hat⟩ := run_append_sees (P := Try.prog) w.heap.size 24 24 5 i0 _ 1 Try.underlying24 hi hz0 hz1 hz2 rfl v1 4 _ (own_ext own1 ext2)
    A2 4 c2 _ see2 (bs_one _) (by unfold maxLen; omega) (by omega) (by have := ext1.size; have := ext2.size; omega)
  go_wp2_with (at_builtin; refine wpList_append_run rfl (.tmp 6) (.tmp 10) _ rfl _ _ rfl rfl v' w' hrun ?_)
  go_ret
  refine ⟨v', rfl, ?_, (ext1.trans ext2).grown hg ?_⟩
  · rw [← bs_append] at hown
    exact hown
  · intro k hk
    exact ((own_ext own1 ext2).lt k hk).1
