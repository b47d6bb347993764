/-
  The statement BlobReads: what the document reads; its walk.
-/
import Derived.Test.YtiiagecacegmbaaBlobD
import Derived.Test.YtiiagecacegmbaaOrd
namespace Go.Proofs.Ytiiagecacegmbaa
open Go Go.RowKit
set_option linter.unusedVariables false
set_option linter.unusedSimpArgs false
theorem one_str (l : List UInt8) (k : Nat) : (ByteArray.mk l.toArray).extract k (k + 1) = ⟨((l.drop k).take 1).toArray⟩ := by
  apply ByteArray.ext
  simp
theorem str_add12 (a b : List UInt8) : (⟨a.toArray⟩ : ByteArray) ++ ⟨b.toArray⟩ = ⟨(a ++ b).toArray⟩ := by
  apply ByteArray.ext
  simp
theorem take_next (l : List UInt8) (o m : Nat) : (l.drop o).take m ++ (l.drop (o + m)).take 1 = (l.drop o).take (m + 1) := by
  rw [List.take_add, List.drop_drop]
set_option maxHeartbeats 1000000 in
theorem rread_any12 (l : List UInt8) (off k : Int) (w : World) (hl : l.length ≤ 1000000) (ho0 : 0 ≤ off) (ho1 : off ≤ 9223372036854775807) (hk0 : 0 ≤ k) (hk1 : k ≤ 9223372036854775807) :
    Calls Try.prog 40 #[.string ⟨l.toArray⟩, .int .i64 off, .int .i64 k] w fun e w' => e = .returned (.tuple #[.string ⟨((l.drop off.toNat).take k.toNat).toArray⟩, .bool (decide ((l.length : Int) - off ≤ k))]) ∧ Ext w w' := by
  have hsz : (ByteArray.mk l.toArray).size = l.length := by simp [ByteArray.size]
  by_cases hoff : (l.length : Int) ≤ off
  · have h1 : l.drop off.toNat = [] := List.drop_eq_nil_of_le (by omega)
    have h2 : decide ((l.length : Int) - off ≤ k) = true := by simp; omega
    rw [h1, h2, List.take_nil]
    have h3 : ¬ off < (l.length : Int) := by omega
    have h4 : decide (off < (l.length : Int)) = false := by simpa using h3
    clear h1 h2
    go_enter Try.func40, Try.ntmps40
    go_wp2_with fail
    go_loop [8, 9] (fun out i => out = .string ⟨#[]⟩ ∧ i = .int .i64 off) (fun _ _ => 0)
    case atStart => exact ⟨rfl, rfl⟩
    case round =>
      obtain ⟨rfl, rfl⟩ := hrel
      go_wp2
      go_ret2
      exact ⟨rfl, Ext.refl _⟩
  · obtain ⟨O, rfl⟩ := Int.eq_ofNat_of_zero_le ho0
    have h0 : (O : Int).toNat = O := by simp
    rw [h0]
    clear h0
    go_enter Try.func40, Try.ntmps40
    go_wp2_with fail
    go_loop [8, 9] (fun out i => ∃ m : Nat, O + m ≤ l.length ∧ (m : Int) ≤ k ∧ out = .string ⟨((l.drop O).take m).toArray⟩ ∧ i = .int .i64 ((O + m : Nat) : Int)) (fun _ i => l.length - (intOf i).toNat)
    case atStart => exact ⟨0, by omega, by omega, rfl, rfl⟩
    case round =>
      obtain ⟨m, hm, hmk, rfl, rfl⟩ := hrel
      have hlm : ((l.drop O).take m).length = m := by rw [List.length_take, List.length_drop]; omega
      have hzm : (ByteArray.mk ((l.drop O).take m).toArray).size = m := by simp [ByteArray.size]; omega
      have hx := one_str l (O + m)
      have HN := Lib.hid (take_next l O m)
      have HA := Lib.hid (str_add12 ((l.drop O).take m) ((l.drop (O + m)).take 1))
      by_cases hlt : O + m < l.length
      · by_cases hmk2 : (m : Int) < k
        · have hz1 : (ByteArray.mk ((l.drop (O + m)).take 1).toArray).size = 1 := by simp [ByteArray.size]; omega
          have HFin : Hid ((⟨((l.drop O).take m).toArray⟩ : ByteArray) ++ ⟨((l.drop (O + m)).take 1).toArray⟩ = ⟨((l.drop O).take (m + 1)).toArray⟩) := Lib.hid (by rw [HA.out, HN.out])
          generalize (l.drop (O + m)).take 1 = t1 at *
          generalize (l.drop O).take m = tm at *
          clear HA HN hlm
          go_wp2
          go_round
          case rel => exact ⟨m + 1, by omega, by omega, by rw [← HFin.out], by go_num⟩
          case measure => simp [intOf]; omega
        · have hk2 : k = (m : Int) := by omega
          have HD : Hid (decide ((l.length : Int) - (O : Int) ≤ k) = false) := Lib.hid (by rw [decide_eq_false_iff_not]; omega)
          subst hk2
          have HV : Hid ((l.drop O).take ((m : Int)).toNat = (l.drop O).take m) := Lib.hid (by simp)
          clear HA HN hx hlm
          generalize hT : (l.drop O).take m = tm at *
          have HTM := Lib.hid hT.symm
          clear hk0 hk1 hmk hT
          go_wp2
          go_ret2
          exact ⟨by first | rw [HV.out, HD.out] | rw [HD.out]
                    simp
                    exact ⟨HTM.out, by omega⟩, Ext.refl _⟩
      · have hfull : (l.drop O).take k.toNat = (l.drop O).take m := by
          rw [List.take_of_length_le (by rw [List.length_drop]; omega), List.take_of_length_le (by rw [List.length_drop]; omega)]
        have HV := Lib.hid hfull
        have HD : Hid (decide ((l.length : Int) - (O : Int) ≤ k) = true) := Lib.hid (by rw [decide_eq_true_iff]; omega)
        clear HA HN hx hlm hfull
        generalize (l.drop O).take m = tm at *
        go_wp2
        go_ret2
        exact ⟨by first | rw [HV.out, HD.out] | rw [HD.out]
                  simp <;> omega, Ext.refl _⟩
end Go.Proofs.Ytiiagecacegmbaa
