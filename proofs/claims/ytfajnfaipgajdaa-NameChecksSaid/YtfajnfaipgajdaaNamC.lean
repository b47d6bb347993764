/-
  Layer 9: steps on both sides; texts that a statement makes; the document's example.
-/
import Derived.Test.YtfajnfaipgajdaaNamB
namespace Go.Proofs.Ytfajnfaipgajdaa
open Go Go.RowKit
set_option linter.unusedVariables false
set_option linter.unusedSimpArgs false
theorem eq_dd (t : List UInt8) : (⟨t.toArray⟩ : ByteArray).toList = t := by simp
theorem step_any (t : List UInt8) (w : World) (ht : t.length ≤ 1000000) :
    Calls Try.prog 24 #[.string ⟨t.toArray⟩] w fun e w' => e = .returned (.bool (stB t)) ∧ w = w' := by
  have HN := Lib.hid (name_any t w ht)
  have hv : stB t = ((t == [46, 46]) || nmB t) := rfl
  have HV := Lib.hid hv
  clear hv
  go_enter Try.func24, Try.ntmps24
  cases h : (t == [46, 46])
  · have h2 : ¬ t = [46, 46] := by simpa using h
    rw [h] at HV
    generalize nmB t = nb at *
    go_wp2_with (go_at_call 22; refine (HN.out).mono ?_)
    rintro e w1 ⟨rfl, rfl⟩
    go_wp2
    go_ret
    exact ⟨by rw [HV.out]; rfl, rfl⟩
  · have h2 : t = [46, 46] := by simpa using h
    subst h2
    go_wp2
    go_ret
    exact ⟨rfl, rfl⟩
theorem rstep_any (t : List UInt8) (w : World) (ht : t.length ≤ 1000000) :
    Calls Try.prog 25 #[.string ⟨t.toArray⟩] w fun e w' => e = .returned (.bool (stB t)) ∧ w = w' := by
  have HN := Lib.hid (rname_any t w ht)
  have hv : stB t = ((t == [46, 46]) || nmB t) := rfl
  have HV := Lib.hid hv
  clear hv
  go_enter Try.func25, Try.ntmps25
  cases h : (t == [46, 46])
  · have h2 : ¬ t = [46, 46] := by simpa using h
    rw [h] at HV
    generalize nmB t = nb at *
    go_wp2_with (go_at_call 23; refine (HN.out).mono ?_)
    rintro e w1 ⟨rfl, rfl⟩
    cases nb
    all_goals
      go_wp2
      go_ret
      exact ⟨by rw [HV.out]; rfl, rfl⟩
  · have h2 : t = [46, 46] := by simpa using h
    subst h2
    have hn : nmB [46, 46] = false := rfl
    rw [hn] at HN
    go_wp2_with (go_at_call 23; refine (HN.out).mono ?_)
    rintro e w1 ⟨rfl, rfl⟩
    go_wp2
    go_ret
    exact ⟨rfl, rfl⟩
theorem short_any (t : List UInt8) (most : Nat) (w : World) (ht : t.length ≤ maxLen) (hm : most ≤ 1000) :
    Calls Try.prog 21 #[.string ⟨t.toArray⟩, .int .i64 (most : Int)] w fun e w' => e = .returned (.string ⟨(t.take most).toArray⟩) ∧ w = w' := by
  have hsz : (ByteArray.mk t.toArray).size = t.length := by simp [ByteArray.size]
  unfold maxLen at ht
  go_enter Try.func21, Try.ntmps21
  by_cases h : most < t.length
  · have hx : (ByteArray.mk t.toArray).extract 0 most = ⟨(t.take most).toArray⟩ := by
      apply ByteArray.ext
      simp
    go_wp2
    go_ret
    exact ⟨by rw [← hx]; rfl, rfl⟩
  · have hx : t.take most = t := List.take_of_length_le (by omega)
    rw [hx]
    go_wp2
    go_ret
    exact ⟨rfl, rfl⟩
/-- Bytes filled up. -/
def fillB (l : List UInt8) (m : Nat) : List UInt8 := (List.range m).map fun i => l.getD (i % l.length) 0
theorem fillB_length (l : List UInt8) (m : Nat) : (fillB l m).length = m := by simp [fillB]
theorem fillB_succ (l : List UInt8) (m : Nat) : fillB l (m + 1) = fillB l m ++ [l.getD (m % l.length) 0] := by simp [fillB, List.range_succ]
set_option maxHeartbeats 1000000 in
set_option maxRecDepth 20000 in
theorem fill_any (A : Option Addr) (n c : Nat) (l : List UInt8) (m : Nat) (w : World) (hs : Sees w A n c (bs l)) (hn : 0 < n) (hn2 : n ≤ 1000) (hm : m ≤ 1000) :
    Calls Try.prog 20 #[.slice A n c, .int .i64 (m : Int)] w fun e w' => ∃ v, e = .returned v ∧ w'.ownsRow w.heap.size 5 1 v m (bs (fillB l m)) ∧ Ext w w' := by
  obtain ⟨i0, hi, hz0, hz1, hz2⟩ := info_parts infoB
  have hln := hs.len
  rw [bs_length] at hln
  have hc := hs.le
  have hmx := hs.max
  unfold maxLen at hmx
  have HS := Lib.hid hs
  clear hs
  go_enter Try.func20, Try.ntmps20
  go_wp2_with fail
  go_loopw [5, 6] (fun v i wr => ∃ k : Nat, k ≤ m ∧ i = .int .i64 k ∧ wr.ownsRow w.heap.size 5 1 v k (bs (fillB l k)) ∧ Ext w wr) (fun _ i _ => m - (intOf i).toNat)
  case atStart => exact ⟨0, by omega, rfl, World.ownsRow_nil _ _ _ _, Ext.refl _⟩
  case round =>
    obtain ⟨k, hk, rfl, own, ext⟩ := hrel
    by_cases hlt : k < m
    · have hr : k % n < n := Nat.mod_lt _ hn
      have hps := fillB_succ l k
      rw [hln] at hps
      obtain ⟨b, off, u, hA, hu, hcell, _⟩ := (HS.out.ext ext).at_ hr
      subst hA
      obtain ⟨hj, rfl⟩ := bs_get l _ u hu
      have hget : l.getD (k % n) 0 = l[k % n] := by simp [List.getD, List.getElem?_eq_getElem hj]
      rw [hget] at hps
      generalize l[k % n] = x at *
      have hxb : x.toNat < 256 := x.toNat_lt
      have hs1 := sees_new wr 5 #[.int .u8 (x.toNat : Int)] (by simp [maxLen])
      have eA : Ext wr (wr.alloc (.cells #[.int .u8 (x.toNat : Int)] 5)) := (Ext.refl _).alloc _
      have ownA := own.alloc (.cells #[.int .u8 (x.toNat : Int)] 5)
      have hcl : (#[Value.int .u8 (x.toNat : Int)] : Array Value).toList = bs [x] := by simp [bs]
      rw [hcl] at hs1
      obtain ⟨v3, w3, hrun3, own3, hg3, _⟩ := run_append_sees (P := Try.prog) (w := wr.alloc (.cells #[.int .u8 (x.toNat : Int)] 5)) w.heap.size 37 37 5 i0 _ 1 Try.underlying37 hi hz0 hz1 hz2 rfl _ _ _ ownA _ 1 1 _ hs1 (bs_one _) (by unfold maxLen; omega) (by omega) (by have := ext.size; have := eA.size; omega)
      have ext3 : Ext w w3 := (ext.trans eA).grown hg3 fun k hk => (ownA.lt k hk).1
      rw [← bs_append, ← hps] at own3
      have HOwn := Lib.hid own3
      clear own own3 ownA hg3 ext eA hs1 hcl hps hget hu
      have hrm : (k : Int) % (n : Int) = ((k % n : Nat) : Int) := by omega
      have HRM := Lib.hid hrm
      clear hrm
      generalize hq : k % n = q at *
      go_wp2_with (first | (at_builtin; refine wpList_append_run rfl (.tmp 15) (.tmp 23) _ rfl _ _ rfl rfl v3 w3 hrun3 ?_) | fail)
      go_roundw
      case rel => exact ⟨k + 1, by omega, by go_num, HOwn.out, ext3⟩
      case measure => simp [intOf]; omega
    · obtain rfl : k = m := by omega
      go_wp2
      go_ret
      exact ⟨_, rfl, own, ext⟩
end Go.Proofs.Ytfajnfaipgajdaa
