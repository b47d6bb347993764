/-
  Layer 14: what is written of any procedure.
-/
import Derived.Test.YtpjigdfllbhknaaCalW
namespace Go.Proofs.Ytpjigdfllbhknaa
open Go Go.RowKit
set_option linter.unusedVariables false
set_option linter.unusedSimpArgs false
theorem fc_ok (a : AR) (lb : Nat) : a.fl lb = #[.int .i64 a.pr, .int .i64 a.off, .int .i64 a.ct, .int .i64 a.sz, .int .i64 a.md, .int .i64 a.h1, .int .i64 a.h2, .int .i64 a.g1, .int .i64 a.g2, .string ⟨a.nm.toArray⟩, .string ⟨a.n2.toArray⟩, .slice a.dA a.dn a.dk, .iface 52 (.pointer (some ⟨lb, 0, none⟩))] := rfl
set_option maxRecDepth 20000 in
set_option maxHeartbeats 4000000 in
theorem cwrite_ok (a : AR) (d : List UInt8) (w : World) (hd : Sees w a.dA a.dn a.dk (bs d)) (hm : mayR a d = true) :
    Calls Try.prog 15 #[.agg a.cs] w fun e w' => ∃ A n c, e = .returned (.tuple #[.slice A n c, .int .i64 0]) ∧ Sees w' A n c (bs (bytesB a d (fld a.pr))) ∧ Ext w w' := by
  have hdl : d.length = a.dn := by have h9 := hd.len; rwa [bs_length] at h9
  obtain ⟨ha, hfl⟩ := may_ok hm
  have hma : mayA a d = true := by rw [may_eq a d hdl, hm]
  obtain ⟨w1, hw1⟩ : ∃ w1, w.alloc (.cells a.cs 26) = w1 := ⟨_, rfl⟩
  obtain ⟨ab, hab⟩ : ∃ ab, w.heap.size = ab := ⟨_, rfl⟩
  have e1 : Ext w w1 := by rw [← hw1]; exact (Ext.refl w).alloc _
  have hb : w1.heap[ab]? = some (.cells a.cs 26 (0, 0)) := by rw [← hw1, ← hab]; exact heap_alloc_new w _
  have HB1 := Lib.hid hb
  have E1 := Lib.hid e1
  have HM := Lib.hid (cmay_any a d w1 (hd.ext e1))
  rw [hma] at HM
  have HD := Lib.hid (hd.ext e1)
  have HIa := Lib.hid (arg_info a)
  have HA := Lib.hid ha
  have HDL := Lib.hid hdl
  clear hb e1 hd hm hma ha hdl
  go_enter Try.func15, Try.ntmps15
  go_wp2_with (first | (with_reducible refine wpList_load_row rfl 26 (.tmp 1) rfl ab rfl _ _ _ _ HB1.out Try.underlying26 rfl HIa.out ?_) | fail)
  refine HM.out.mono ?_
  rintro e w2 ⟨rfl, e2⟩
  obtain ⟨lb, hlb⟩ : ∃ lb, w2.heap.size = lb := ⟨_, rfl⟩
  obtain ⟨w3, hw3⟩ : ∃ w3, w2.alloc (.cells #[.slice none 0 0] 54) = w3 := ⟨_, rfl⟩
  have e3 : Ext w2 w3 := by rw [← hw3]; exact (Ext.refl w2).alloc _
  obtain ⟨fb, hfb⟩ : ∃ fb, w3.heap.size = fb := ⟨_, rfl⟩
  obtain ⟨w4, hw4⟩ : ∃ w4, w3.alloc (.cells (a.fl lb) 59) = w4 := ⟨_, rfl⟩
  have e4 : Ext w3 w4 := by rw [← hw4]; exact (Ext.refl w3).alloc _
  have h3 : w3.heap[lb]? = some (.cells #[.slice none 0 0] 54 (0, 0)) := by rw [← hw3, ← hlb]; exact heap_alloc_new w2 _
  have hl3 : lb < w3.heap.size := (Array.getElem?_eq_some_iff.1 h3).1
  have hf4 : w4.heap[fb]? = some (.cells (a.fl lb) 59 (0, 0)) := by rw [← hw4, ← hfb]; exact heap_alloc_new w3 _
  have hfc : LaC w4 fb lb [] (a.fl lb) := ⟨hf4, by omega, none, 0, 0, e4.heap h3, Sees.nil _⟩
  have hlb4 : lb < w4.heap.size := Nat.lt_of_lt_of_le hl3 e4.size
  have HPASS := Lib.hid (pass_gen fb a.pr w4 (fun b => b = lb) (StL fb lb a d (fl a.pr)) ((cell_of_row w4 fb 0 _ _ _ hf4).trans rfl) (fun k hk => by rw [hk]; exact hlb4)
    (fun w' he => ⟨hfc.ext he, HD.out.ext (e2.trans (e3.trans (e4.trans he)))⟩)
    (fun k g w9 hg hst => stl_step fb lb a d HA.out (by have := HA.out.dn; rw [HDL.out]; exact this) (fl a.pr) (fl_le a.pr).1 (fl_le a.pr).2 k g w9 hg hst))
  have HB3 : Hid (w3.heap[ab]? = some (.cells #[.int .i64 a.pr, .int .i64 a.off, .int .i64 a.ct, .int .i64 a.sz, .int .i64 a.md, .int .i64 a.h1, .int .i64 a.h2, .int .i64 a.g1, .int .i64 a.g2, .string ⟨a.nm.toArray⟩, .string ⟨a.n2.toArray⟩, .slice a.dA a.dn a.dk] 26 (0, 0))) := Lib.hid (e3.heap (e2.heap HB1.out))
  have HIb : Hid ((Try.prog.info? 26).map (·.size) = some (#[.int .i64 a.pr, .int .i64 a.off, .int .i64 a.ct, .int .i64 a.sz, .int .i64 a.md, .int .i64 a.h1, .int .i64 a.h2, .int .i64 a.g1, .int .i64 a.g2, .string ⟨a.nm.toArray⟩, .string ⟨a.n2.toArray⟩, .slice a.dA a.dn a.dk] : Array Value).size) := HIa
  have E2 := Lib.hid ((E1.out.trans e2).trans (e3.trans e4))
  have hle : w.heap.size ≤ lb := by rw [← hlb]; exact (E1.out.trans e2).size
  have HLE := Lib.hid hle
  rw [fc_ok] at hw4
  clear e2 e3 e4 h3 hl3 hfc HM hle hf4 hlb4
  go_wp2_with (first | (with_reducible refine wpList_load_row rfl 26 (.tmp 1) rfl ab rfl _ _ _ _ HB3.out Try.underlying26 rfl HIb.out ?_) | fail)
  refine HPASS.out.mono ?_
  rintro e w5 ⟨rfl, hst, on⟩
  obtain ⟨hla, _⟩ := hst
  rw [List.take_length, ← fld_fl] at hla
  obtain ⟨hf, hne, A, n, c, hb, hs⟩ := hla
  have l0 := cell_of_row w5 lb 0 _ _ _ hb
  simp at l0
  have E5 : Hid (Ext w w5) := Lib.hid (on.ext E2.out (fun i hi => by rw [hi]; exact HLE.out))
  have HS := Lib.hid hs
  clear hf hb hs on
  go_wp2_with fail
  go_ret2
  exact ⟨A, n, c, rfl, HS.out, E5.out⟩
set_option maxRecDepth 20000 in
set_option maxHeartbeats 4000000 in
theorem cwrite_no (a : AR) (d : List UInt8) (w : World) (hd : Sees w a.dA a.dn a.dk (bs d)) (hm : mayR a d = false) :
    Calls Try.prog 15 #[.agg a.cs] w fun e w' => e = .returned (.tuple #[.slice none 0 0, .int .i64 1]) ∧ Ext w w' := by
  have hdl : d.length = a.dn := by have h9 := hd.len; rwa [bs_length] at h9
  have hma : mayA a d = false := by rw [may_eq a d hdl, hm]
  obtain ⟨w1, hw1⟩ : ∃ w1, w.alloc (.cells a.cs 26) = w1 := ⟨_, rfl⟩
  obtain ⟨ab, hab⟩ : ∃ ab, w.heap.size = ab := ⟨_, rfl⟩
  have e1 : Ext w w1 := by rw [← hw1]; exact (Ext.refl w).alloc _
  have hb : w1.heap[ab]? = some (.cells a.cs 26 (0, 0)) := by rw [← hw1, ← hab]; exact heap_alloc_new w _
  have HB1 := Lib.hid hb
  have E1 := Lib.hid e1
  have HM := Lib.hid (cmay_any a d w1 (hd.ext e1))
  rw [hma] at HM
  have HIa := Lib.hid (arg_info a)
  clear hb e1 hd hm hma
  go_enter Try.func15, Try.ntmps15
  go_wp2_with (first | (with_reducible refine wpList_load_row rfl 26 (.tmp 1) rfl ab rfl _ _ _ _ HB1.out Try.underlying26 rfl HIa.out ?_) | fail)
  refine HM.out.mono ?_
  rintro e w2 ⟨rfl, e2⟩
  have E2 := Lib.hid (E1.out.trans e2)
  clear e2
  go_wp2_with fail
  go_ret2
  exact ⟨rfl, E2.out⟩
end Go.Proofs.Ytpjigdfllbhknaa
