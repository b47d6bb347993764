/-
  Layer 14: the document's example.
-/
import Derived.Test.YtpjigdfllbhknaaCalH
namespace Go.Proofs.Ytpjigdfllbhknaa
open Go Go.RowKit
set_option linter.unusedVariables false
set_option linter.unusedSimpArgs false
def AR.get : AR := ⟨1, 0, 0, 0, 0, 1, 2, 0, 0, [], [], none, 0, 0⟩
theorem may_get : mayA AR.get [] = true := by decide
set_option maxRecDepth 20000 in
set_option maxHeartbeats 4000000 in
theorem write_get (w : World) :
    Calls Try.prog 15 #[.agg AR.get.cs] w fun e w' => ∃ A n c, e = .returned (.tuple #[.slice A n c, .int .i64 0]) ∧ Sees w' A n c (bs [0, 0, 0, 1, 0, 0, 0, 2]) ∧ Ext w w' := by
  obtain ⟨w1, hw1⟩ : ∃ w1, w.alloc (.cells AR.get.cs 26) = w1 := ⟨_, rfl⟩
  obtain ⟨ab, hab⟩ : ∃ ab, w.heap.size = ab := ⟨_, rfl⟩
  have e1 : Ext w w1 := by rw [← hw1]; exact (Ext.refl w).alloc _
  have hb : w1.heap[ab]? = some (.cells AR.get.cs 26 (0, 0)) := by rw [← hw1, ← hab]; exact heap_alloc_new w _
  have HB1 := Lib.hid hb
  have E1 := Lib.hid e1
  have HM := Lib.hid (cmay_any AR.get [] w1 (Sees.nil _))
  rw [may_get] at HM
  have HIa := Lib.hid (arg_info AR.get)
  clear hb e1
  go_enter Try.func15, Try.ntmps15
  go_wp2_with (first | (with_reducible refine wpList_load_row rfl 26 (.tmp 1) rfl ab rfl _ _ _ _ HB1.out Try.underlying26 rfl HIa.out ?_) | fail)
  refine HM.out.mono ?_
  rintro e w2 ⟨rfl, e2⟩
  obtain ⟨lb, hlb⟩ : ∃ lb, w2.heap.size = lb := ⟨_, rfl⟩
  obtain ⟨w3, hw3⟩ : ∃ w3, w2.alloc (.cells #[.slice none 0 0] 54) = w3 := ⟨_, rfl⟩
  have e3 : Ext w2 w3 := by rw [← hw3]; exact (Ext.refl w2).alloc _
  obtain ⟨fb, hfb⟩ : ∃ fb, w3.heap.size = fb := ⟨_, rfl⟩
  obtain ⟨w4, hw4⟩ : ∃ w4, w3.alloc (.cells #[.int .i64 1, .int .i64 0, .int .i64 0, .int .i64 0, .int .i64 0, .int .i64 1, .int .i64 2, .int .i64 0, .int .i64 0, .string ⟨#[]⟩, .string ⟨#[]⟩, .slice none 0 0, .iface 52 (.pointer (some ⟨lb, 0, none⟩))] 59) = w4 := ⟨_, rfl⟩
  have e4 : Ext w3 w4 := by rw [← hw4]; exact (Ext.refl w3).alloc _
  have h3 : w3.heap[lb]? = some (.cells #[.slice none 0 0] 54 (0, 0)) := by rw [← hw3, ← hlb]; exact heap_alloc_new w2 _
  have hl3 : lb < w3.heap.size := (Array.getElem?_eq_some_iff.1 h3).1
  have hfc : LaC w4 fb lb [] (AR.get.fl lb) := ⟨by rw [← hw4, ← hfb]; exact heap_alloc_new w3 _, by omega, none, 0, 0, e4.heap h3, Sees.nil _⟩
  have HPASS := Lib.hid (pass_get fb lb AR.get w4 hfc rfl (by decide) (by decide) (by decide) (by decide))
  have HB3 : Hid (w3.heap[ab]? = some (.cells #[.int .i64 1, .int .i64 0, .int .i64 0, .int .i64 0, .int .i64 0, .int .i64 1, .int .i64 2, .int .i64 0, .int .i64 0, .string ⟨#[]⟩, .string ⟨#[]⟩, .slice none 0 0] 26 (0, 0))) := Lib.hid (e3.heap (e2.heap HB1.out))
  have HIb : Hid ((Try.prog.info? 26).map (·.size) = some (#[.int .i64 1, .int .i64 0, .int .i64 0, .int .i64 0, .int .i64 0, .int .i64 1, .int .i64 2, .int .i64 0, .int .i64 0, .string ⟨#[]⟩, .string ⟨#[]⟩, .slice none 0 0] : Array Value).size) := HIa
  have E2 := Lib.hid ((E1.out.trans e2).trans (e3.trans e4))
  have hle : w.heap.size ≤ lb := by rw [← hlb]; exact (E1.out.trans e2).size
  have HLE := Lib.hid hle
  clear e2 e3 e4 h3 hl3 hfc HM hle
  go_wp2_with (first | (with_reducible refine wpList_load_row rfl 26 (.tmp 1) rfl ab rfl _ _ _ _ HB3.out Try.underlying26 rfl HIb.out ?_) | fail)
  refine HPASS.out.mono ?_
  rintro e w5 ⟨rfl, hla, on⟩
  obtain ⟨hf, hne, A, n, c, hb, hs⟩ := hla
  have l0 := cell_of_row w5 lb 0 _ _ _ hb
  simp at l0
  have E5 : Hid (Ext w w5) := Lib.hid (on.ext E2.out HLE.out HLE.out)
  have HS := Lib.hid hs
  clear hf hb hs on
  go_wp2_with fail
  go_ret2
  exact ⟨A, n, c, rfl, HS.out, E5.out⟩
theorem lives14 (w : World) : Calls Try.prog 18 #[] w fun e w' => e = .returned (.bool true) ∧ Ext w w' := by
  have HW : Hid (Calls Try.prog 15 #[.agg #[.int .i64 1, .int .i64 0, .int .i64 0, .int .i64 0, .int .i64 0, .int .i64 1, .int .i64 2, .int .i64 0, .int .i64 0, .string ⟨#[]⟩, .string ⟨#[]⟩, .slice none 0 0]] w fun e w' => ∃ A n c, e = .returned (.tuple #[.slice A n c, .int .i64 0]) ∧ Sees w' A n c (bs [0, 0, 0, 1, 0, 0, 0, 2]) ∧ Ext w w') := Lib.hid (write_get w)
  go_enter Try.func18, Try.ntmps18
  go_wp2_with fail
  refine HW.out.mono ?_
  rintro e w1 ⟨A, n, c, rfl, hs, e1⟩
  have x1 := str_of hs
  have E1 := Lib.hid e1
  clear hs e1
  go_wp2_with fail
  go_ret
  exact ⟨rfl, E1.out⟩
end Go.Proofs.Ytpjigdfllbhknaa
