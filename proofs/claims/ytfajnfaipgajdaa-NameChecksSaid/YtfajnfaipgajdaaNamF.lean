/-
  Layer 9: rows of texts; which of some steps is none, on both sides.
-/
import Derived.Test.YtfajnfaipgajdaaNamD
namespace Go.Proofs.Ytfajnfaipgajdaa
open Go Go.RowKit
set_option linter.unusedVariables false
set_option linter.unusedSimpArgs false
/-- The cells of texts. -/
def sv (ss : List (List UInt8)) : List Value := ss.map fun t => .string ⟨t.toArray⟩
theorem sv_length (ss : List (List UInt8)) : (sv ss).length = ss.length := by simp [sv]
theorem sv_append (a b : List (List UInt8)) : sv (a ++ b) = sv a ++ sv b := by simp [sv]
theorem sv_one (ss : List (List UInt8)) : ∀ u ∈ sv ss, u.oneCell' = true := by
  intro u hu
  obtain ⟨b, _, rfl⟩ := List.mem_map.1 hu
  rfl
theorem sv_at (ss : List (List UInt8)) (k : Nat) (u : Value) (h : (sv ss)[k]? = some u) : ∃ t, ss[k]? = some t ∧ u = .string ⟨t.toArray⟩ := by
  have hj : k < ss.length := by simpa [sv] using (List.getElem?_eq_some_iff.1 h).1
  refine ⟨ss[k], List.getElem?_eq_getElem hj, ?_⟩
  simp [sv, List.getElem?_eq_getElem hj] at h
  exact h.symm
theorem sv_set (ss : List (List UInt8)) (k : Nat) (t : List UInt8) : (sv ss).set k (.string ⟨t.toArray⟩) = sv (ss.set k t) := by simp [sv, List.map_set]
theorem infoS : (Try.prog.info? 9).map (fun i => (i.zero, i.size, i.bytes)) = some (some (.string ⟨#[]⟩), 1, 16) := by kernel_rfl

theorem sees_strs {w : World} {a : Option Addr} {len cap : Nat} {ss : List ByteArray}
    (h : (a = none ∧ len = 0 ∧ cap = 0 ∧ ss = []) ∨ ∃ x, a = some x ∧ len ≤ cap ∧ cap ≤ maxLen ∧ ss.length = cap ∧ (∀ i, i < ss.length → w.cell? (x.add i) = some (.string (ss.getD i ByteArray.empty))) ∧ ∀ s ∈ ss, s.size ≤ maxLen) :
    ∃ l : List ByteArray, Sees w a len cap (l.map Value.string) ∧ ∀ s ∈ l, s.size ≤ maxLen := by
  rcases h with ⟨rfl, rfl, rfl, rfl⟩ | ⟨x, rfl, hl, hm, hz, hcell, hw⟩
  · exact ⟨[], Sees.nil w, fun _ h => by cases h⟩
  · refine ⟨ss.take len, ⟨by simp; omega, hl, hm, nofun, fun hn => ?_⟩, fun n hn => hw n (List.mem_of_mem_take hn)⟩
    obtain ⟨b, off, spot⟩ := x
    have h0 := hcell 0 (by omega)
    have hspot : spot = none := by simpa [Addr.add] using World.cell?_spot h0
    subst hspot
    refine ⟨b, off, rfl, fun j u hu => ?_⟩
    have hj : j < len ∧ j < ss.length := by
      have := (List.getElem?_eq_some_iff.1 hu).1
      simp at this
      omega
    have hc := hcell j hj.2
    rw [addr_add] at hc
    rw [hc]
    simp [hj.1, List.getElem?_eq_getElem hj.2] at hu
    simp [List.getD, List.getElem?_eq_getElem hj.2, hu]
theorem strs_sv (l : List ByteArray) : l.map Value.string = sv (l.map fun s => s.data.toList) := by
  unfold sv
  rw [List.map_map]
  exact List.map_congr_left fun s _ => by cases s; rfl
/-- Which is no step? -/
def chk1 (ss : List (List UInt8)) : Nat := if 8 < ss.length then 8 else match ss.findIdx? fun t => !stB t with
  | some i => i
  | none => ss.length
def chk2 (ss : List (List UInt8)) : Int := if 8 < ss.length then 4 else match ss.findIdx? fun t => !stB t with
  | some i => 16
  | none => 0
theorem chk_big (ss : List (List UInt8)) (h : 8 < ss.length) : chk1 ss = 8 ∧ chk2 ss = 4 := by
  unfold chk1 chk2
  rw [if_pos h, if_pos h]
  exact ⟨rfl, rfl⟩
theorem chk_at (ss : List (List UInt8)) (i : Nat) (h : ss.length ≤ 8 ∧ ∃ t, ss[i]? = some t ∧ stB t = false ∧ ∀ j t, ss[j]? = some t → j < i → stB t = true) : chk1 ss = i ∧ chk2 ss = 16 := by
  obtain ⟨h8, t, ht, hst, hno⟩ := h
  have hi : i < ss.length := (List.getElem?_eq_some_iff.1 ht).1
  have hf : (ss.findIdx? fun t => !stB t) = some i := by
    rw [List.findIdx?_eq_some_iff_getElem]
    refine ⟨hi, ?_, fun j hj => ?_⟩
    · rw [List.getElem?_eq_getElem hi] at ht
      injection ht with ht
      rw [ht, hst]
      rfl
    · rw [hno j ss[j] (List.getElem?_eq_getElem (by omega)) hj]
      decide
  unfold chk1 chk2
  rw [if_neg (by omega), if_neg (by omega), hf]
  exact ⟨rfl, rfl⟩
theorem chk_ok (ss : List (List UInt8)) (h : ss.length ≤ 8 ∧ ∀ (j : Nat) t, ss[j]? = some t → stB t = true) : chk1 ss = ss.length ∧ chk2 ss = 0 := by
  obtain ⟨h8, hno⟩ := h
  have hf : (ss.findIdx? fun t => !stB t) = none := by
    rw [List.findIdx?_eq_none_iff]
    intro t ht
    obtain ⟨j, hj⟩ := List.getElem?_of_mem ht
    rw [hno j t hj]
    rfl
  unfold chk1 chk2
  rw [if_neg (by omega), if_neg (by omega), hf]
  exact ⟨rfl, rfl⟩
set_option maxHeartbeats 1000000 in
set_option maxRecDepth 20000 in
theorem check_any (A : Option Addr) (n c : Nat) (ss : List (List UInt8)) (w : World) (hs : Sees w A n c (sv ss)) (hl : ∀ t ∈ ss, t.length ≤ 1000000) :
    Calls Try.prog 28 #[.slice A n c] w fun e w' => e = .returned (.tuple #[.int .i64 (chk1 ss : Int), .int .i64 (chk2 ss)]) ∧ Ext w w' := by
  have hln := hs.len
  rw [sv_length] at hln
  have hc := hs.le
  have hmx := hs.max
  unfold maxLen at hmx
  have HS := Lib.hid hs
  have HL := Lib.hid hl
  have hC1 := Lib.hid (chk_big ss)
  have hC2 := Lib.hid (fun i h => chk_at ss i h)
  have hC3 := Lib.hid (chk_ok ss)
  clear hs hl
  go_enter Try.func28, Try.ntmps28
  by_cases h8 : 8 < n
  · obtain ⟨e1, e2⟩ := hC1.out (by omega)
    rw [e1, e2]
    clear hC2 hC3 e1 e2
    go_wp2
    go_ret2
    exact ⟨rfl, Ext.refl _⟩
  go_wp2_with fail
  go_loopw [11] (fun i wr => ∃ k : Nat, k ≤ n ∧ i = .int .i64 k ∧ (∀ j t, ss[j]? = some t → j < k → stB t = true) ∧ Ext w wr) (fun i _ => n - (intOf i).toNat)
  case atStart => exact ⟨0, by omega, rfl, fun j _ _ h => absurd h (by omega), Ext.refl _⟩
  case round =>
    obtain ⟨k, hk, rfl, hno, ext⟩ := hrel
    have HNo := Lib.hid hno
    have HX := Lib.hid ext
    clear hno
    by_cases hlt : k < n
    · obtain ⟨b, off, u, hA, hu, hcell, _⟩ := (HS.out.ext ext).at_ hlt
      obtain ⟨t, ht, rfl⟩ := sv_at ss k u hu
      subst hA
      have HT := Lib.hid ht
      have htl := HL.out t (List.mem_of_getElem? ht)
      have HP := Lib.hid (fun w => step_any t w htl)
      clear ht hu
      cases hst : stB t with
      | true =>
        rw [hst] at HP
        go_wp2_with (go_at_call 24; refine (HP.out _).mono ?_)
        rintro e w1 ⟨rfl, rfl⟩
        go_wp2
        go_roundw
        case rel =>
          refine ⟨k + 1, by omega, by go_num, fun j t2 h2 hj => ?_, HX.out⟩
          by_cases hjk : j = k
          · subst hjk
            have := HT.out.symm.trans h2
            injection this with this
            subst this
            exact hst
          · exact HNo.out j t2 h2 (by omega)
        case measure => simp [intOf]; omega
      | false =>
        rw [hst] at HP
        obtain ⟨e1, e2⟩ := hC2.out k ⟨by omega, t, HT.out, hst, HNo.out⟩
        have E1 := Lib.hid e1
        have E2 := Lib.hid e2
        clear e1 e2
        go_wp2_with (go_at_call 24; refine (HP.out _).mono ?_)
        rintro e w1 ⟨rfl, rfl⟩
        go_wp2
        go_ret2
        exact ⟨by rw [E1.out, E2.out]; rfl, HX.out⟩
    · obtain rfl : k = n := by omega
      obtain ⟨e1, e2⟩ := hC3.out ⟨by omega, fun j t h => HNo.out j t h (by have := (List.getElem?_eq_some_iff.1 h).1; omega)⟩
      rw [hln] at e1
      have E1 := Lib.hid e1
      have E2 := Lib.hid e2
      clear e1 e2
      go_wp2
      go_ret2
      exact ⟨by rw [E1.out, E2.out]; rfl, HX.out⟩
set_option maxHeartbeats 1000000 in
set_option maxRecDepth 20000 in
theorem rcheck_any (A : Option Addr) (n c : Nat) (ss : List (List UInt8)) (w : World) (hs : Sees w A n c (sv ss)) (hl : ∀ t ∈ ss, t.length ≤ 1000000) :
    Calls Try.prog 29 #[.slice A n c] w fun e w' => e = .returned (.tuple #[.int .i64 (chk1 ss : Int), .int .i64 (chk2 ss)]) ∧ Ext w w' := by
  have hln := hs.len
  rw [sv_length] at hln
  have hc := hs.le
  have hmx := hs.max
  unfold maxLen at hmx
  have HS := Lib.hid hs
  have HL := Lib.hid hl
  have hC1 := Lib.hid (chk_big ss)
  have hC2 := Lib.hid (fun i h => chk_at ss i h)
  have hC3 := Lib.hid (chk_ok ss)
  clear hs hl
  go_enter Try.func29, Try.ntmps29
  by_cases h8 : 8 < n
  · obtain ⟨e1, e2⟩ := hC1.out (by omega)
    rw [e1, e2]
    clear hC2 hC3 e1 e2
    go_wp2
    go_ret2
    exact ⟨rfl, Ext.refl _⟩
  go_wp2_with fail
  go_loopw [4] (fun i wr => ∃ k : Nat, k ≤ n ∧ i = .int .i64 k ∧ (∀ j t, ss[j]? = some t → j < k → stB t = true) ∧ Ext w wr) (fun i _ => n - (intOf i).toNat)
  case atStart => exact ⟨0, by omega, rfl, fun j _ _ h => absurd h (by omega), Ext.refl _⟩
  case round =>
    obtain ⟨k, hk, rfl, hno, ext⟩ := hrel
    have HNo := Lib.hid hno
    have HX := Lib.hid ext
    clear hno
    by_cases hlt : k < n
    · obtain ⟨b, off, u, hA, hu, hcell, _⟩ := (HS.out.ext ext).at_ hlt
      obtain ⟨t, ht, rfl⟩ := sv_at ss k u hu
      subst hA
      have HT := Lib.hid ht
      have htl := HL.out t (List.mem_of_getElem? ht)
      have HP := Lib.hid (fun w => rstep_any t w htl)
      clear ht hu
      cases hst : stB t with
      | true =>
        rw [hst] at HP
        go_wp2_with (go_at_call 25; refine (HP.out _).mono ?_)
        rintro e w1 ⟨rfl, rfl⟩
        go_wp2
        go_roundw
        case rel =>
          refine ⟨k + 1, by omega, by go_num, fun j t2 h2 hj => ?_, HX.out⟩
          by_cases hjk : j = k
          · subst hjk
            have := HT.out.symm.trans h2
            injection this with this
            subst this
            exact hst
          · exact HNo.out j t2 h2 (by omega)
        case measure => simp [intOf]; omega
      | false =>
        rw [hst] at HP
        obtain ⟨e1, e2⟩ := hC2.out k ⟨by omega, t, HT.out, hst, HNo.out⟩
        have E1 := Lib.hid e1
        have E2 := Lib.hid e2
        clear e1 e2
        go_wp2_with (go_at_call 25; refine (HP.out _).mono ?_)
        rintro e w1 ⟨rfl, rfl⟩
        go_wp2
        go_ret2
        exact ⟨by rw [E1.out, E2.out]; rfl, HX.out⟩
    · obtain rfl : k = n := by omega
      obtain ⟨e1, e2⟩ := hC3.out ⟨by omega, fun j t h => HNo.out j t h (by have := (List.getElem?_eq_some_iff.1 h).1; omega)⟩
      rw [hln] at e1
      have E1 := Lib.hid e1
      have E2 := Lib.hid e2
      clear e1 e2
      go_wp2
      go_ret2
      exact ⟨by rw [E1.out, E2.out]; rfl, HX.out⟩

end Go.Proofs.Ytfajnfaipgajdaa
