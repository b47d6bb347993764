/-
  Layer 5: the document's example.
-/
import Derived.Test.YtjdcbmelladceaaPipG
import Derived.Test.YtjdcbmelladceaaSam
import Derived.Lib.SlBytesConst
namespace Go.Proofs.Ytjdcbmelladceaa
open Go Go.RowKit
set_option linter.unusedVariables false
set_option linter.unusedSimpArgs false
theorem ext_two {a b c : World} {tb cb : Nat} (h : Ext a b) (k : Kp (Two tb cb) b c) (ht : a.heap.size ≤ tb) (hc : a.heap.size ≤ cb) : Ext a c :=
  ⟨k.os.trans h.os, k.tape.trans h.tape, k.output.trans h.output, Nat.le_trans h.size k.size, fun i hi => (k.block i ⟨by omega, by omega⟩ (Nat.lt_of_lt_of_le hi h.size)).trans (h.block i hi)⟩
theorem fresh_lt {F : Nat → Prop} {w w' : World} (h : ∀ k, F k → k < w.heap.size) (hs : w.heap.size ≤ w'.heap.size) : ∀ k, Fresh F w w' k → k < w'.heap.size := fun k q => by
  rcases q with q | q
  · have := h k q; omega
  · exact q.2
theorem OwnX.seesB {w : World} {Y : Nat → Prop} {A : Option Addr} {c : Nat} {rs : List (List UInt8)} (h : OwnX w Y (.slice A rs.length c) rs) : SeesB w A rs.length c rs := by
  obtain ⟨A', c', hv, hs⟩ := h.toB.sees
  injection hv with q1 _ q2
  subst q1 q2
  exact hs
theorem ex_dr (rs : List (List UInt8)) (h : Dr [2, 0] 0 [97, 98, 99] rs) : rs = [[97, 98], [], [99]] := by
  match rs, h with
  | [], h => simp [Dr] at h
  | [a], h => simp [Dr, szF] at h
  | [a, b], h => simp [Dr, szF] at h
  | a :: b :: c :: d, h =>
    simp [Dr, szF] at h
    obtain ⟨rfl, rfl, rfl, h⟩ := h
    cases d with
    | nil => rfl
    | cons x y => simp [Dr] at h
theorem goes_ex : Goes [2, 0] := ⟨by decide, 0, by decide, by decide⟩
set_option maxRecDepth 20000 in
set_option maxHeartbeats 2000000 in
theorem lives5 (w : World) : Calls Try.prog 20 #[] w fun e w' => e = .returned (.bool true) ∧ Ext w w' := by
  have kc := fun (w : World) (C : Array Value) (n c : Nat) => Lib.run_convert_bytes_const (P := Try.prog) w 33 5 C n c Try.underlying33 Try.underlying5
  have HN := Lib.hid (pnew_ok (some ⟨w.heap.size, 0, none⟩) 2 2 [2, 0] (w.alloc (.cells #[.int .i64 2, .int .i64 0] 3)) (by simpa using sees_new w 3 #[.int .i64 2, .int .i64 0] (by simp [maxLen])) (by decide) (by decide) (by decide) (by decide))
  go_enter Try.func20, Try.ntmps20
  go_wp2_with fail
  refine HN.out.mono ?_
  rintro e w1 ⟨tb, cb, rfl, hp, e1⟩
  have hsz0 := e1.size
  simp at hsz0
  have HT : Hid (w.heap.size ≤ tb ∧ w.heap.size ≤ cb) := Lib.hid (by have := hp.1.inF; simp at this; omega)
  have E1 := Lib.hid (((Ext.refl w).alloc _).trans e1)
  obtain ⟨F1, hF1⟩ : ∃ F1 : Nat → Prop, (fun k => (w.alloc (.cells #[.int .i64 2, .int .i64 0] 3)).heap.size ≤ k ∧ k < w1.heap.size) = F1 := ⟨_, rfl⟩
  have HLT : Hid (∀ k, F1 k → k < w1.heap.size) := Lib.hid (fun k q => by rw [← hF1] at q; exact q.2)
  rw [hF1] at hp
  have HP := Lib.hid hp
  clear hF1 hp e1 hsz0
  have hss := sees_mark w1 5 #[.int .u8 97, .int .u8 98, .int .u8 99] (3, 4) (by simp [maxLen])
  have ea : Ext w1 (w1.alloc (.cells #[.int .u8 97, .int .u8 98, .int .u8 99] 5 (3, 4))) := (Ext.refl w1).alloc _
  have HS := Lib.hid (psend_ok F1 tb cb [] [2, 0] 0 (some ⟨w1.heap.size, 0, none⟩) 3 3 [97, 98, 99] _ (HP.out.keep (Kp.of_ext ea)) (fun k q => by have := HLT.out k q; simp; omega) hss (by decide) (by decide) (by decide) (by decide))
  have E2 := Lib.hid (E1.out.trans ea)
  have HLT2 : Hid (∀ k, F1 k → k < (w1.alloc (.cells #[.int .u8 97, .int .u8 98, .int .u8 99] 5 (3, 4))).heap.size) := Lib.hid (fun k q => by have := HLT.out k q; simp; omega)
  clear hss ea
  go_wp2_with fail
  refine HS.out.mono ?_
  rintro e w3 ⟨rfl, hp3, hk3⟩
  have HP3 := Lib.hid hp3
  have HLT3 := Lib.hid (fresh_lt HLT2.out hk3.size)
  have E3 := Lib.hid (ext_two E2.out hk3 HT.out.1 HT.out.2)
  clear hp3 hk3
  go_wp2_with fail
  refine (pdrain_any _ tb cb [[97, 98, 99]] [2, 0] 0 w3 HP3.out HLT3.out goes_ex (by decide) (by decide)).mono ?_
  rintro e w4 ⟨A, c, rs, b, rfl, hox, hdr, hp4, hk4, _, _⟩
  obtain rfl := ex_dr rs hdr
  have S4 : Hid (SeesB w4 A 3 c [[97, 98], [], [99]]) := Lib.hid hox.seesB
  have E4 := Lib.hid (ext_two E3.out hk4 HT.out.1 HT.out.2)
  clear hox hdr hp4 hk4
  have kc2 := Lib.run_convert_bytes_const (P := Try.prog) (w4.alloc (.cells #[.int .u8 97, .int .u8 98] 5 (2, 3))) 33 5 #[.int .u8 99] 1 1 Try.underlying33 Try.underlying5
  rw [show (w4.alloc (.cells #[.int .u8 97, .int .u8 98] 5 (2, 3))).heap.size = w4.heap.size + 1 by simp] at kc2
  go_wp2_with fail
  have t1 := sees_mark w4 5 #[.int .u8 97, .int .u8 98] (2, 3) (by simp [maxLen])
  have t2 := sees_mark (w4.alloc (.cells #[.int .u8 97, .int .u8 98] 5 (2, 3))) 5 #[.int .u8 99] (1, 2) (by simp [maxLen])
  rw [show (w4.alloc (.cells #[.int .u8 97, .int .u8 98] 5 (2, 3))).heap.size = w4.heap.size + 1 by simp] at t2
  have t3 := sees_new ((w4.alloc (.cells #[.int .u8 97, .int .u8 98] 5 (2, 3))).alloc (.cells #[.int .u8 99] 5 (1, 2))) 33 #[.slice (some ⟨w4.heap.size, 0, none⟩) 2 2, .slice none 0 0, .slice (some ⟨w4.heap.size + 1, 0, none⟩) 1 1] (by simp [maxLen])
  have e5 : Ext w4 _ := (((Ext.refl w4).alloc (.cells #[.int .u8 97, .int .u8 98] 5 (2, 3))).alloc (.cells #[.int .u8 99] 5 (1, 2))).alloc (.cells #[.slice (some ⟨w4.heap.size, 0, none⟩) 2 2, .slice none 0 0, .slice (some ⟨w4.heap.size + 1, 0, none⟩) 1 1] 33)
  have t4 : SeesB _ (some ⟨w4.heap.size + 2, 0, none⟩) 3 3 [[97, 98], [], [99]] := ⟨_, by simpa using t3, rfl, fun j r hr => by
    match j, hr with
    | 0, hr =>
      simp at hr
      subst hr
      exact ⟨_, _, _, rfl, t1.ext (((Ext.refl _).alloc _).alloc _)⟩
    | 1, hr =>
      simp at hr
      subst hr
      exact ⟨_, _, _, rfl, Sees.nil _⟩
    | 2, hr =>
      simp at hr
      subst hr
      exact ⟨_, _, _, rfl, t2.ext ((Ext.refl _).alloc _)⟩
    | j + 3, hr => simp at hr⟩
  have T4 := Lib.hid t4
  have E5 := Lib.hid (E4.out.trans e5)
  have S5 := Lib.hid (S4.out.ext e5)
  clear e5 t1 t2 t3 t4
  refine (sameB_eq _ _ _ _ _ _ _ S5.out T4.out).mono ?_
  rintro e w6 ⟨rfl, e6⟩
  have E6 := Lib.hid (E5.out.trans e6)
  clear e6
  go_wp2
  go_ret
  exact ⟨rfl, E6.out⟩
end Go.Proofs.Ytjdcbmelladceaa
