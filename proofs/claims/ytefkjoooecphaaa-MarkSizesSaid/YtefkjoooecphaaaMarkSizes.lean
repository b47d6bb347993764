/-
  The statement MarkSizes: its walk.
-/
import Derived.Test.YtefkjoooecphaaaMarkC
namespace Go.Proofs.Ytefkjoooecphaaa
open Go Go.RowKit
set_option linter.unusedVariables false
set_option linter.unusedSimpArgs false

theorem sizes_z (nz sz : Int) (n S : Nat) (w : World) (hnz : nz = (n : Int)) (hsz : sz = (S : Int)) (hn : n ≤ 900000) (hS : 0 < S) (hS2 : S ≤ 9223372036854775807) :
    Calls Try.prog 40 #[.int .i64 nz, .int .i64 sz] w fun e w' => ∃ v, e = .returned v ∧ w'.ownsRow w.heap.size 3 1 v (szs n S).length (iv (szs n S)) ∧ Ext w w' := by
  subst hnz hsz
  exact sizes_any n S w hn hS hS2
theorem rsizes_z (nz sz : Int) (n S : Nat) (w : World) (hnz : nz = (n : Int)) (hsz : sz = (S : Int)) (hn : n ≤ 900000) (hS : 0 < S) (hS2 : S ≤ 9223372036854775807) :
    Calls Try.prog 42 #[.int .i64 nz, .int .i64 sz] w fun e w' => ∃ v, e = .returned v ∧ w'.ownsRow w.heap.size 3 1 v (szs n S).length (iv (szs n S)) ∧ Ext w w' := by
  subst hnz hsz
  exact rsizes_any n S w hn hS hS2
theorem same_any (A A2 : Option Addr) (n c c2 : Nat) (l : List Nat) (w : World) (hs : Sees w A n c (iv l)) (hs2 : Sees w A2 n c2 (iv l)) :
    Calls Try.prog 41 #[.slice A n c, .slice A2 n c2] w fun e w' => e = .returned (.bool true) ∧ Ext w w' := by
  have hl := hs.len
  rw [iv_length] at hl
  have hc := hs.le
  have hm := hs.max
  have hc2 := hs2.le
  have hm2 := hs2.max
  unfold maxLen at hm hm2
  have HL := Lib.hid hl
  clear hl
  go_enter Try.func41, Try.ntmps41
  go_wp2_with fail
  go_loopw [5] (fun i wr => ∃ k : Nat, k ≤ n ∧ i = .int .i64 k ∧ Ext w wr) (fun i _ => n - (intOf i).toNat)
  case atStart => exact ⟨0, by omega, rfl, Ext.refl _⟩
  case round =>
    obtain ⟨k, hk, rfl, ext⟩ := hrel
    by_cases hlt : k < n
    · obtain ⟨b, off, u, hA, hu, hcell, _⟩ := (hs.ext ext).at_ hlt
      obtain ⟨b2, off2, u2, hA2, hu2, hcell2, _⟩ := (hs2.ext ext).at_ hlt
      have hkl : k < l.length := by rw [HL.out]; exact hlt
      have hg : (iv l)[k]? = some (.int .i64 ((l[k] : Nat) : Int)) := by simp [iv, List.getElem?_eq_getElem hkl]
      rw [hg] at hu hu2
      injection hu with hu
      injection hu2 with hu2
      subst hA hA2 hu hu2
      clear hg
      generalize l[k] = x at *
      clear hkl
      go_wp2
      go_quiet (fail)
      go_wp2
      go_roundw
      case rel => exact ⟨k + 1, by omega, by go_num, ext.trans ((Ext.refl _).drewN _)⟩
      case measure => simp [intOf]; omega
    · go_wp2
      go_ret
      exact ⟨rfl, ext⟩

set_option maxHeartbeats 1000000 in
theorem msizes_walk (n s : Int) (w : World) (hn0 : -9223372036854775808 ≤ n) (hn1 : n ≤ 9223372036854775807) (hs0 : -9223372036854775808 ≤ s) (hs1 : s ≤ 9223372036854775807) :
    Calls Try.prog 9 #[.int .i64 n, .int .i64 s] w fun e w' => e = .returned (.bool true) ∧ Ext w w' := by
  go_enter Try.func9, Try.ntmps9
  go_wp2_with fail
  refine (around_any n 4097 _ hn0 hn1 (by omega) (by omega)).mono ?_
  rintro e w1 ⟨rfl, rfl⟩
  have hr := aroundZ_bound n 4097 (by omega)
  generalize aroundZ n 4097 = n' at *
  obtain ⟨K, rfl⟩ := Int.eq_ofNat_of_zero_le hr.1
  have hK : K ≤ 4096 := by omega
  clear hr
  go_wp2_with fail
  refine (around_any s 100 _ hs0 hs1 (by omega) (by omega)).mono ?_
  rintro e w1 ⟨rfl, rfl⟩
  have hr := aroundZ_bound s 100 (by omega)
  generalize aroundZ s 100 = s' at *
  obtain ⟨Q, rfl⟩ := Int.eq_ofNat_of_zero_le hr.1
  have hQ : Q ≤ 99 := by omega
  clear hr
  go_wp2_with fail
  refine (sizes_z _ _ K (1 + Q) _ rfl (by omega) (by omega) (by omega) (by omega)).mono ?_
  rintro e w1 ⟨v1, rfl, own1, e1⟩
  obtain ⟨A1, c1, rfl, see1⟩ := Sees.of_own own1
  have hsum := szs_sum (S := 1 + Q) (by omega) K
  have HSUM := Lib.hid hsum
  have hcap := see1.le
  have hmax := see1.max
  unfold maxLen at hmax
  clear own1 hsum
  generalize hL : (szs K (1 + Q)).length = L at *
  have HL := Lib.hid hL
  clear hL
  go_wp2_with fail
  go_loopw [8, 9] (fun z i wr => ∃ (l1 l2 : List Nat), szs K (1 + Q) = l1 ++ l2 ∧ z = .int .i64 ((l1.sum : Nat) : Int) ∧ i = .int .i64 ((l1.length : Nat) : Int) ∧ wr = w1) (fun _ i _ => L - (intOf i).toNat)
  case atStart => exact ⟨[], szs K (1 + Q), rfl, rfl, rfl, rfl⟩
  case round =>
    obtain ⟨l1, l2, hl, rfl, rfl, rfl⟩ := hrel
    have HLL := Lib.hid hl
    clear hl
    match l2, HLL with
    | x :: l3, HLL =>
      have hl := HLL.out
      have hLn : l1.length + (l3.length + 1) = L := by rw [← HL.out, hl]; simp
      have hsm : l1.sum + (x + l3.sum) = K := by have h := HSUM.out; rw [hl] at h; simpa using h
      obtain ⟨b, off, u, hA, hu, hcell, _⟩ := see1.at_ (show l1.length < L by omega)
      rw [iv_get hl] at hu
      injection hu with hu
      subst hA hu
      have hlt : (l1.length : Int) < (L : Int) := by omega
      have hb1 : l1.sum ≤ 4096 := by omega
      have hb2 : x ≤ 4096 := by omega
      have hb3 : l1.length < L := by omega
      have HLn := Lib.hid hLn
      clear hl hLn hsm
      generalize h1 : l1.sum = z1 at *
      generalize h2 : l1.length = j1 at *
      have H1 := Lib.hid h1
      have H2 := Lib.hid h2
      clear h1 h2
      go_wp2
      go_roundw
      case rel => exact ⟨l1 ++ [x], l3, by rw [HLL.out]; simp, by rw [List.sum_append, H1.out]; simp, by rw [List.length_append, H2.out]; go_num, trivial⟩
      case measure => simp [intOf]; omega
    | [], HLL =>
      have hl := HLL.out
      rw [List.append_nil] at hl
      have h1 : l1.length = L := by rw [← HL.out, hl]
      have h2 : l1.sum = K := by rw [← hl]; exact HSUM.out
      rw [h1, h2]
      clear hl h1 h2
      go_wp2_with fail
      refine (rsizes_z _ _ K (1 + Q) _ rfl (by omega) (by omega) (by omega) (by omega)).mono ?_
      rintro e w2 ⟨v2, rfl, own2, e2⟩
      rw [HL.out] at own2
      obtain ⟨A2, c2, rfl, see2⟩ := Sees.of_own own2
      have see1b := see1.ext e2
      have ext2 := e1.trans e2
      clear own2 see1 e1 e2
      go_wp2_with fail
      refine (same_any _ _ _ _ _ _ _ see1b see2).mono ?_
      rintro e w3 ⟨rfl, e3⟩
      have ext3 := ext2.trans e3
      clear see1b see2 ext2 e3
      by_cases hs : s < 1
      · go_wp2_with fail
        refine (sizes_z _ _ K 1 _ rfl rfl (by omega) (by omega) (by omega)).mono ?_
        rintro e w4 ⟨v4, rfl, own4, e4⟩
        obtain ⟨A4, c4, rfl, see4⟩ := Sees.of_own own4
        have ext4 := ext3.trans e4
        clear own4 ext3 e4
        go_wp2_with fail
        refine (rsizes_z _ _ K 1 _ rfl rfl (by omega) (by omega) (by omega)).mono ?_
        rintro e w5 ⟨v5, rfl, own5, e5⟩
        obtain ⟨A5, c5, rfl, see5⟩ := Sees.of_own own5
        have see4b := see4.ext e5
        have ext5 := ext4.trans e5
        clear own5 ext4 e5 see4
        go_wp2_with fail
        refine (same_any _ _ _ _ _ _ _ see4b see5).mono ?_
        rintro e w6 ⟨rfl, e6⟩
        have ext6 := ext5.trans e6
        clear see4b see5 ext5 e6
        go_wp2_with fail
        refine (markLives_any _).mono ?_
        rintro e w7 ⟨rfl, e7⟩
        go_wp2
        go_ret
        exact ⟨rfl, ext6.trans e7⟩
      · obtain ⟨S, rfl⟩ := Int.eq_ofNat_of_zero_le (show 0 ≤ s by omega)
        go_wp2_with fail
        refine (sizes_z _ _ K S _ rfl rfl (by omega) (by omega) (by omega)).mono ?_
        rintro e w4 ⟨v4, rfl, own4, e4⟩
        obtain ⟨A4, c4, rfl, see4⟩ := Sees.of_own own4
        have ext4 := ext3.trans e4
        clear own4 ext3 e4
        go_wp2_with fail
        refine (rsizes_z _ _ K S _ rfl rfl (by omega) (by omega) (by omega)).mono ?_
        rintro e w5 ⟨v5, rfl, own5, e5⟩
        obtain ⟨A5, c5, rfl, see5⟩ := Sees.of_own own5
        have see4b := see4.ext e5
        have ext5 := ext4.trans e5
        clear own5 ext4 e5 see4
        go_wp2_with fail
        refine (same_any _ _ _ _ _ _ _ see4b see5).mono ?_
        rintro e w6 ⟨rfl, e6⟩
        have ext6 := ext5.trans e6
        clear see4b see5 ext5 e6
        go_wp2_with fail
        refine (markLives_any _).mono ?_
        rintro e w7 ⟨rfl, e7⟩
        go_wp2
        go_ret
        exact ⟨rfl, ext6.trans e7⟩

end Go.Proofs.Ytefkjoooecphaaa
