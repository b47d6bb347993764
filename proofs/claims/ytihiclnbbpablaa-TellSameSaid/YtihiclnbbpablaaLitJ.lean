/-
  Layer 2: numbers and texts that the reader reads; plain contracts.
-/
import Derived.Test.YtihiclnbbpablaaLitR
namespace Go.Proofs.Ytihiclnbbpablaa
open Go Go.RowKit
set_option linter.unusedVariables false
set_option linter.unusedSimpArgs false

theorem or_u64 (x y i : Nat) (hy : y < 2 ^ i) (hs : 2 ^ i * x + y < 18446744073709551616) : bits .or .u64 (y : Int) ((2 ^ i * x : Nat) : Int) = ((2 ^ i * x + y : Nat) : Int) := by
  rw [u64_or_nat _ _ (by omega) (by omega), Nat.or_comm, ← Nat.two_pow_add_eq_or_of_lt hy]
theorem or_step (x y k : Nat) (hx : x < 256) (hk : k < 8) (hy : y < 256 ^ k) : bits .or .u64 (y : Int) (IntKind.u64.wrap ((x : Int) * 2 ^ (8 * k))) = ((y + 256 ^ k * x : Nat) : Int) := by
  have e : (2 : Nat) ^ (8 * k) = 256 ^ k := by rw [Nat.pow_mul]
  have hb : 256 ^ k * x + y < 18446744073709551616 := by
    have h1 : 256 ^ k * x + y < 256 ^ k * (x + 1) := by rw [Nat.mul_add]; omega
    have h2 : 256 ^ k * (x + 1) ≤ 256 ^ k * 256 := Nat.mul_le_mul_left _ (by omega)
    have h3 : 256 ^ k * 256 ≤ 256 ^ 8 := by rw [← Nat.pow_succ]; exact Nat.pow_le_pow_right (by omega) (by omega)
    have h4 : (256 : Nat) ^ 8 = 18446744073709551616 := by decide
    omega
  have h1 : (x : Int) * 2 ^ (8 * k) = ((2 ^ (8 * k) * x : Nat) : Int) := by
    simp [Int.mul_comm]
  have h2 : 2 ^ (8 * k) * x + y < 18446744073709551616 := by rw [e]; exact hb
  rw [h1, IntWalk.u64_in _ ⟨by omega, by omega⟩, or_u64 x y (8 * k) (by rw [e]; exact hy) h2, e, Nat.add_comm]
set_option maxRecDepth 20000 in
set_option maxHeartbeats 1000000 in
theorem join_u32 (A : Option Addr) (n c : Nat) (l : List UInt8) (w : World) (hs : Sees w A n c (bs l)) (hn : n ≤ 4) :
    Calls Try.prog 90 #[.slice A n c] w fun e w' => e = .returned (.int .u32 (leV l : Int)) ∧ Ext w w' := by
  have hc := hs.le
  have hm := hs.max
  have hln := hs.len
  rw [bs_length] at hln
  unfold maxLen at hm
  have hlv := leV_lt l
  have hpw : 256 ^ l.length ≤ 256 ^ 4 := Nat.pow_le_pow_right (by omega) (by omega)
  have HS := Lib.hid hs
  have HLN := Lib.hid hln
  have hbd : (256 : Nat) ^ 4 = 4294967296 := by decide
  have HLV : Hid (leV l < 4294967296) := Lib.hid (by omega)
  clear hbd
  clear hs hln hlv hpw
  go_enter Try.func90, Try.ntmps90
  go_wp2_with fail
  go_loopw [3, 8] (fun v i wr => ∃ k : Nat, k ≤ n ∧ i = .int .i64 k ∧ v = .int .u64 (leV (l.take k) : Int) ∧ Ext w wr) (fun _ i _ => n - (intOf i).toNat)
  case atStart => exact ⟨0, by omega, rfl, rfl, Ext.refl _⟩
  case round =>
    obtain ⟨k, hk, rfl, rfl, ext⟩ := hrel
    by_cases hlt : k < n
    · obtain ⟨b, off, u, hA, hu, hcell, _⟩ := (HS.out.ext ext).at_ hlt
      subst hA
      obtain ⟨hj, rfl⟩ := bs_get l k u hu
      have hb := (l[k]).toNat_lt
      have htk : l.take (k + 1) = l.take k ++ [l[k]] := by
        rw [List.take_add_one, List.getElem?_eq_getElem hj]
        rfl
      have hpush : leV (l.take (k + 1)) = leV (l.take k) + 256 ^ k * (l[k]).toNat := by
        rw [htk, leV_push, List.length_take, Nat.min_eq_left (by omega)]
      have hlv := leV_lt (l.take k)
      rw [List.length_take, Nat.min_eq_left (by omega)] at hlv
      have HP := Lib.hid hpush
      have HV := Lib.hid hlv
      clear hpush hlv htk hu
      generalize leV (l.take k) = y at *
      generalize (l[k]).toNat = x at *
      go_wp2_with fail
      go_roundw
      case rel => exact ⟨k + 1, by omega, by go_num, by rw [HP.out, or_step x y k hb (by omega) HV.out], ext⟩
      case measure => simp [intOf]; omega
    · obtain rfl : k = n := by omega
      have htk : l.take k = l := List.take_of_length_le (by rw [HLN.out]; omega)
      rw [htk]
      have hlv := HLV.out
      clear htk
      obtain ⟨y, hy⟩ : ∃ y, y = leV l := ⟨_, rfl⟩
      rw [← hy] at hlv ⊢
      have HY := Lib.hid hy
      clear hy
      go_wp2
      go_ret
      exact ⟨by rw [← HY.out]; rfl, ext⟩
set_option maxRecDepth 20000 in
set_option maxHeartbeats 1000000 in
theorem join_u16 (A : Option Addr) (n c : Nat) (l : List UInt8) (w : World) (hs : Sees w A n c (bs l)) (hn : n ≤ 2) :
    Calls Try.prog 93 #[.slice A n c] w fun e w' => e = .returned (.int .u16 (leV l : Int)) ∧ Ext w w' := by
  have hc := hs.le
  have hm := hs.max
  have hln := hs.len
  rw [bs_length] at hln
  unfold maxLen at hm
  have hlv := leV_lt l
  have hpw : 256 ^ l.length ≤ 256 ^ 2 := Nat.pow_le_pow_right (by omega) (by omega)
  have HS := Lib.hid hs
  have HLN := Lib.hid hln
  have hbd : (256 : Nat) ^ 2 = 65536 := by decide
  have HLV : Hid (leV l < 65536) := Lib.hid (by omega)
  clear hbd
  clear hs hln hlv hpw
  go_enter Try.func93, Try.ntmps93
  go_wp2_with fail
  go_loopw [3, 8] (fun v i wr => ∃ k : Nat, k ≤ n ∧ i = .int .i64 k ∧ v = .int .u64 (leV (l.take k) : Int) ∧ Ext w wr) (fun _ i _ => n - (intOf i).toNat)
  case atStart => exact ⟨0, by omega, rfl, rfl, Ext.refl _⟩
  case round =>
    obtain ⟨k, hk, rfl, rfl, ext⟩ := hrel
    by_cases hlt : k < n
    · obtain ⟨b, off, u, hA, hu, hcell, _⟩ := (HS.out.ext ext).at_ hlt
      subst hA
      obtain ⟨hj, rfl⟩ := bs_get l k u hu
      have hb := (l[k]).toNat_lt
      have htk : l.take (k + 1) = l.take k ++ [l[k]] := by
        rw [List.take_add_one, List.getElem?_eq_getElem hj]
        rfl
      have hpush : leV (l.take (k + 1)) = leV (l.take k) + 256 ^ k * (l[k]).toNat := by
        rw [htk, leV_push, List.length_take, Nat.min_eq_left (by omega)]
      have hlv := leV_lt (l.take k)
      rw [List.length_take, Nat.min_eq_left (by omega)] at hlv
      have HP := Lib.hid hpush
      have HV := Lib.hid hlv
      clear hpush hlv htk hu
      generalize leV (l.take k) = y at *
      generalize (l[k]).toNat = x at *
      go_wp2_with fail
      go_roundw
      case rel => exact ⟨k + 1, by omega, by go_num, by rw [HP.out, or_step x y k hb (by omega) HV.out], ext⟩
      case measure => simp [intOf]; omega
    · obtain rfl : k = n := by omega
      have htk : l.take k = l := List.take_of_length_le (by rw [HLN.out]; omega)
      rw [htk]
      have hlv := HLV.out
      clear htk
      obtain ⟨y, hy⟩ : ∃ y, y = leV l := ⟨_, rfl⟩
      rw [← hy] at hlv ⊢
      have HY := Lib.hid hy
      clear hy
      go_wp2
      go_ret
      exact ⟨by rw [← HY.out]; rfl, ext⟩
set_option maxRecDepth 20000 in
set_option maxHeartbeats 1000000 in
theorem join_u64 (A : Option Addr) (n c : Nat) (l : List UInt8) (w : World) (hs : Sees w A n c (bs l)) (hn : n ≤ 8) :
    Calls Try.prog 98 #[.slice A n c] w fun e w' => e = .returned (.int .u64 (leV l : Int)) ∧ Ext w w' := by
  have hc := hs.le
  have hm := hs.max
  have hln := hs.len
  rw [bs_length] at hln
  unfold maxLen at hm
  have hlv := leV_lt l
  have hpw : 256 ^ l.length ≤ 256 ^ 8 := Nat.pow_le_pow_right (by omega) (by omega)
  have HS := Lib.hid hs
  have HLN := Lib.hid hln
  have hbd : (256 : Nat) ^ 8 = 18446744073709551616 := by decide
  have HLV : Hid (leV l < 18446744073709551616) := Lib.hid (by omega)
  clear hbd
  clear hs hln hlv hpw
  go_enter Try.func98, Try.ntmps98
  go_wp2_with fail
  go_loopw [3, 8] (fun v i wr => ∃ k : Nat, k ≤ n ∧ i = .int .i64 k ∧ v = .int .u64 (leV (l.take k) : Int) ∧ Ext w wr) (fun _ i _ => n - (intOf i).toNat)
  case atStart => exact ⟨0, by omega, rfl, rfl, Ext.refl _⟩
  case round =>
    obtain ⟨k, hk, rfl, rfl, ext⟩ := hrel
    by_cases hlt : k < n
    · obtain ⟨b, off, u, hA, hu, hcell, _⟩ := (HS.out.ext ext).at_ hlt
      subst hA
      obtain ⟨hj, rfl⟩ := bs_get l k u hu
      have hb := (l[k]).toNat_lt
      have htk : l.take (k + 1) = l.take k ++ [l[k]] := by
        rw [List.take_add_one, List.getElem?_eq_getElem hj]
        rfl
      have hpush : leV (l.take (k + 1)) = leV (l.take k) + 256 ^ k * (l[k]).toNat := by
        rw [htk, leV_push, List.length_take, Nat.min_eq_left (by omega)]
      have hlv := leV_lt (l.take k)
      rw [List.length_take, Nat.min_eq_left (by omega)] at hlv
      have HP := Lib.hid hpush
      have HV := Lib.hid hlv
      clear hpush hlv htk hu
      generalize leV (l.take k) = y at *
      generalize (l[k]).toNat = x at *
      go_wp2_with fail
      go_roundw
      case rel => exact ⟨k + 1, by omega, by go_num, by rw [HP.out, or_step x y k hb (by omega) HV.out], ext⟩
      case measure => simp [intOf]; omega
    · obtain rfl : k = n := by omega
      have htk : l.take k = l := List.take_of_length_le (by rw [HLN.out]; omega)
      rw [htk]
      have hlv := HLV.out
      clear htk
      obtain ⟨y, hy⟩ : ∃ y, y = leV l := ⟨_, rfl⟩
      rw [← hy] at hlv ⊢
      have HY := Lib.hid hy
      clear hy
      go_wp2
      go_ret
      exact ⟨by rw [← HY.out]; rfl, ext⟩
set_option maxRecDepth 20000 in
set_option maxHeartbeats 1000000 in
theorem join_u8 (A : Option Addr) (n c : Nat) (l : List UInt8) (w : World) (hs : Sees w A n c (bs l)) (hn : n ≤ 1) :
    Calls Try.prog 92 #[.slice A n c] w fun e w' => e = .returned (.int .u8 (leV l : Int)) ∧ Ext w w' := by
  have hc := hs.le
  have hm := hs.max
  have hln := hs.len
  rw [bs_length] at hln
  unfold maxLen at hm
  have hlv := leV_lt l
  have hpw : 256 ^ l.length ≤ 256 ^ 1 := Nat.pow_le_pow_right (by omega) (by omega)
  have HS := Lib.hid hs
  have HLN := Lib.hid hln
  have hbd : (256 : Nat) ^ 1 = 256 := by decide
  have HLV : Hid (leV l < 256) := Lib.hid (by omega)
  clear hbd
  clear hs hln hlv hpw
  go_enter Try.func92, Try.ntmps92
  go_wp2_with fail
  go_loopw [3, 8] (fun v i wr => ∃ k : Nat, k ≤ n ∧ i = .int .i64 k ∧ v = .int .u64 (leV (l.take k) : Int) ∧ Ext w wr) (fun _ i _ => n - (intOf i).toNat)
  case atStart => exact ⟨0, by omega, rfl, rfl, Ext.refl _⟩
  case round =>
    obtain ⟨k, hk, rfl, rfl, ext⟩ := hrel
    by_cases hlt : k < n
    · obtain ⟨b, off, u, hA, hu, hcell, _⟩ := (HS.out.ext ext).at_ hlt
      subst hA
      obtain ⟨hj, rfl⟩ := bs_get l k u hu
      have hb := (l[k]).toNat_lt
      have htk : l.take (k + 1) = l.take k ++ [l[k]] := by
        rw [List.take_add_one, List.getElem?_eq_getElem hj]
        rfl
      have hpush : leV (l.take (k + 1)) = leV (l.take k) + 256 ^ k * (l[k]).toNat := by
        rw [htk, leV_push, List.length_take, Nat.min_eq_left (by omega)]
      have hlv := leV_lt (l.take k)
      rw [List.length_take, Nat.min_eq_left (by omega)] at hlv
      have HP := Lib.hid hpush
      have HV := Lib.hid hlv
      clear hpush hlv htk hu
      generalize leV (l.take k) = y at *
      generalize (l[k]).toNat = x at *
      go_wp2_with fail
      go_roundw
      case rel => exact ⟨k + 1, by omega, by go_num, by rw [HP.out, or_step x y k hb (by omega) HV.out], ext⟩
      case measure => simp [intOf]; omega
    · obtain rfl : k = n := by omega
      have htk : l.take k = l := List.take_of_length_le (by rw [HLN.out]; omega)
      rw [htk]
      have hlv := HLV.out
      clear htk
      obtain ⟨y, hy⟩ : ∃ y, y = leV l := ⟨_, rfl⟩
      rw [← hy] at hlv ⊢
      have HY := Lib.hid hy
      clear hy
      go_wp2
      go_ret
      exact ⟨by rw [← HY.out]; rfl, ext⟩

end Go.Proofs.Ytihiclnbbpablaa
