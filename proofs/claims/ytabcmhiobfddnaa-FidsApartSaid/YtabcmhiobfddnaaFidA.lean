/-
  Layer 20: fids by their numbers, in memory.
-/
import Derived.Test.YtabcmhiobfddnaaMuxA
import Derived.Test.YtabcmhiobfddnaaPln
namespace Go.Proofs.Ytabcmhiobfddnaa
open Go Go.RowKit
set_option linter.unusedVariables false
set_option linter.unusedSimpArgs false
theorem i64_wf {x : Int} (h0 : -9223372036854775808 ≤ x) (h1 : x ≤ 9223372036854775807) : (Lit.int .i64 x).wf = true := by
  have e1 : IntKind.i64.min = -9223372036854775808 := by decide
  have e2 : IntKind.i64.max = 9223372036854775807 := by decide
  show (decide (IntKind.i64.min ≤ x) && decide (x ≤ IntKind.i64.max)) = true
  rw [e1, e2, decide_eq_true h0, decide_eq_true h1]
  rfl
/-- Each value is a fid. -/
def FidV (v : Value) : Prop := ∃ (a b c d : Int) (s : ByteArray) (x y : Bool) (m f t : Int), v = .agg #[.int .i64 a, .int .i64 b, .int .i64 c, .int .i64 d, .string s, .bool x, .bool y, .int .i64 m, .int .i64 f, .int .i64 t]
def FVals (L : List (Int × Value)) : Prop := ∀ p ∈ L, FidV p.2
theorem FVals.nil : FVals [] := fun p h => by cases h
theorem FVals.del {L : List (Int × Value)} (h : FVals L) (k : Int) : FVals (delL L k) := fun p hp => h p (del_mem hp).1
theorem FVals.put {L : List (Int × Value)} (h : FVals L) (k : Int) {v : Value} (hv : FidV v) : FVals (putL L k v) := fun p hp => by
  rcases mem_ins hp with rfl | hp
  · exact hv
  · exact h p (del_mem hp).1
theorem FVals.at_ {L : List (Int × Value)} (h : FVals L) (k : Int) : FidV ((lkL L k).getD (.agg #[.int .i64 0, .int .i64 0, .int .i64 0, .int .i64 0, .string ByteArray.empty, .bool false, .bool false, .int .i64 0, .int .i64 0, .int .i64 0])) := by
  unfold lkL
  cases hf : L.find? (fun p => p.1 == k) with
  | none => exact ⟨0, 0, 0, 0, ByteArray.empty, false, false, 0, 0, 0, rfl⟩
  | some p => exact h p (List.mem_of_find?_eq_some hf)
/-- Fids: their struct in block tb, their map in block mb. -/
def FidT (w : World) (tb mb most : Nat) (L : List (Int × Value)) : Prop :=
  w.heap[tb]? = some (.cells #[.int .i64 (most : Int), .map (some mb)] 60 (0, 0)) ∧ MapL Try.prog w 3 .i64 mb L.length L ∧ ¬ tb = mb ∧ FVals L ∧ most ≤ 16 ∧ L.length ≤ most
theorem zeroFid (w : World) : (zeroValue 37).run Try.prog w = .ok (.agg #[.int .i64 0, .int .i64 0, .int .i64 0, .int .i64 0, .string ByteArray.empty, .bool false, .bool false, .int .i64 0, .int .i64 0, .int .i64 0]) w := by kernel_rfl
section
variable {w w' : World} {tb mb most : Nat} {L : List (Int × Value)}
theorem FidT.ext (h : FidT w tb mb most L) (he : Ext w w') : FidT w' tb mb most L := ⟨he.heap h.1, h.2.1.ext he, h.2.2⟩
theorem FidT.lt (h : FidT w tb mb most L) : tb < w.heap.size ∧ mb < w.heap.size := ⟨(Array.getElem?_eq_some_iff.1 h.1).1, h.2.1.lt⟩
end
theorem fnew_no (n : Int) (w : World) (h : n < 1 ∨ 16 < n) :
    Calls Try.prog 9 #[.int .i64 n] w fun e w' => e = .returned (.tuple #[.pointer none, .int .i64 1]) ∧ w = w' := by
  rcases h with h | h
  · go_enter Try.func9, Try.ntmps9
    go_wp2
    go_ret2
    exact ⟨rfl, rfl⟩
  · have h' : ¬ n < 1 := by omega
    go_enter Try.func9, Try.ntmps9
    go_wp2
    go_ret2
    exact ⟨rfl, rfl⟩
def FNew (w : World) (N : Nat) (e : Ending) (w' : World) : Prop := ∃ tb mb, e = .returned (.tuple #[.pointer (some ⟨tb, 0, none⟩), .int .i64 0]) ∧ FidT w' tb mb N [] ∧ w.heap.size ≤ tb ∧ w.heap.size ≤ mb ∧ Ext w w'
theorem fnew_ok (n : Int) (N : Nat) (hN : n = (N : Int)) (w : World) (h1 : 1 ≤ N) (h2 : N ≤ 16) :
    Calls Try.prog 9 #[.int .i64 n] w (FNew w N) := by
  subst hN
  have hmm := @run_makeMap Try.prog
  have g1 : ¬ (N : Int) < 1 := by omega
  have g2 : ¬ (16 : Int) < (N : Int) := by omega
  go_enter Try.func9, Try.ntmps9
  go_wp2
  go_ret2
  have hm := MapL.made Try.prog w 3 .i64
  have hb := heap_alloc_new (w.alloc (.map #[] 0)) (.cells #[.int .i64 (N : Int), .map (some w.heap.size)] 60)
  exact ⟨w.heap.size + 1, w.heap.size, rfl, ⟨by simpa using hb, (hm.ext ((Ext.refl _).alloc _)), by omega, FVals.nil, h2, by simp⟩, by omega, by omega, ((Ext.refl w).alloc _).alloc _⟩
theorem flen_any (tb mb most : Nat) (L : List (Int × Value)) (w : World) (h : FidT w tb mb most L) :
    Calls Try.prog 24 #[.pointer (some ⟨tb, 0, none⟩)] w fun e w' => e = .returned (.int .i64 (L.length : Int)) ∧ w = w' := by
  have c1 := cell_of_row w tb 1 _ _ _ h.1
  simp at c1
  have hl := h.2.1.len (t := 58) (e := 37) Try.underlying58 3
  have HM := Lib.hid h
  clear h
  go_enter Try.func24, Try.ntmps24
  go_wp2
  go_ret
  exact ⟨rfl, rfl⟩
set_option maxRecDepth 20000 in
theorem ffree_busy (tb mb most : Nat) (L : List (Int × Value)) (n : Int) (hb : hasL L n = true) (h0 : -9223372036854775808 ≤ n) (h1 : n ≤ 9223372036854775807) (w : World) (h : FidT w tb mb most L) :
    Calls Try.prog 17 #[.pointer (some ⟨tb, 0, none⟩), .int .i64 n] w fun e w' => e = .returned (.int .i64 18) ∧ Ext w w' := by
  have c1 := cell_of_row w tb 1 _ _ _ h.1
  have c0 := cell_of_row w tb 0 _ _ _ h.1
  simp at c1 c0
  have hl := h.2.1.look (t := 58) (e := 37) Try.underlying3 Try.underlying58 (zeroFid w) n (i64_wf h0 h1)
  obtain ⟨a, b, c, d, s, x, y, m, f, t, hv⟩ := h.2.2.2.1.at_ n
  rw [hv, hb] at hl
  have he : Ext w (w.alloc (.cells #[.int .i64 a, .int .i64 b, .int .i64 c, .int .i64 d, .string s, .bool x, .bool y, .int .i64 m, .int .i64 f, .int .i64 t] 37)) := (Ext.refl w).alloc _
  have hn := fun k => (h.2.1.ext (he.drewN k)).len (t := 58) (e := 37) Try.underlying58 3
  have d1 := cell_of_row _ tb 1 _ _ _ (he.heap h.1)
  have d0 := cell_of_row _ tb 0 _ _ _ (he.heap h.1)
  simp at d1 d0
  clear h hv hb
  go_enter Try.func17, Try.ntmps17
  go_wp2
  go_ret
  exact ⟨rfl, (Ext.refl w).alloc _⟩
set_option maxRecDepth 20000 in
theorem ffree_full (tb mb most : Nat) (L : List (Int × Value)) (n : Int) (hb : hasL L n = false) (hf : L.length = most) (h0 : -9223372036854775808 ≤ n) (h1 : n ≤ 9223372036854775807) (w : World) (h : FidT w tb mb most L) :
    Calls Try.prog 17 #[.pointer (some ⟨tb, 0, none⟩), .int .i64 n] w fun e w' => e = .returned (.int .i64 5) ∧ Ext w w' := by
  have c1 := cell_of_row w tb 1 _ _ _ h.1
  have c0 := cell_of_row w tb 0 _ _ _ h.1
  simp at c1 c0
  have hl := h.2.1.look (t := 58) (e := 37) Try.underlying3 Try.underlying58 (zeroFid w) n (i64_wf h0 h1)
  obtain ⟨a, b, c, d, s, x, y, m, f, t, hv⟩ := h.2.2.2.1.at_ n
  rw [hv, hb] at hl
  have he : Ext w (w.alloc (.cells #[.int .i64 a, .int .i64 b, .int .i64 c, .int .i64 d, .string s, .bool x, .bool y, .int .i64 m, .int .i64 f, .int .i64 t] 37)) := (Ext.refl w).alloc _
  have hn := fun k => (h.2.1.ext (he.drewN k)).len (t := 58) (e := 37) Try.underlying58 3
  have d1 := cell_of_row _ tb 1 _ _ _ (he.heap h.1)
  have d0 := cell_of_row _ tb 0 _ _ _ (he.heap h.1)
  simp at d1 d0
  have ht : decide (most ≤ L.length) = true := by simp; omega
  have ht2 : (most : Int) ≤ (L.length : Int) := by omega
  clear h hv hb
  go_enter Try.func17, Try.ntmps17
  go_wp2
  obtain ⟨wq, hq⟩ : ∃ wq, w.alloc (.cells #[.int .i64 a, .int .i64 b, .int .i64 c, .int .i64 d, .string s, .bool x, .bool y, .int .i64 m, .int .i64 f, .int .i64 t] 37) = wq := ⟨_, rfl⟩
  rw [hq] at hn d0 d1 he ⊢
  clear hq c0 c1 hl
  have EQ := Lib.hid he
  clear he
  go_quiet (fail)
  go_wp2
  go_ret
  exact ⟨rfl, EQ.out.drewN _⟩
set_option maxRecDepth 20000 in
theorem ffree_ok (tb mb most : Nat) (L : List (Int × Value)) (n : Int) (hb : hasL L n = false) (hf : L.length < most) (h0 : -9223372036854775808 ≤ n) (h1 : n ≤ 9223372036854775807) (w : World) (h : FidT w tb mb most L) :
    Calls Try.prog 17 #[.pointer (some ⟨tb, 0, none⟩), .int .i64 n] w fun e w' => e = .returned (.int .i64 0) ∧ Ext w w' := by
  have c1 := cell_of_row w tb 1 _ _ _ h.1
  have c0 := cell_of_row w tb 0 _ _ _ h.1
  simp at c1 c0
  have hl := h.2.1.look (t := 58) (e := 37) Try.underlying3 Try.underlying58 (zeroFid w) n (i64_wf h0 h1)
  obtain ⟨a, b, c, d, s, x, y, m, f, t, hv⟩ := h.2.2.2.1.at_ n
  rw [hv, hb] at hl
  have he : Ext w (w.alloc (.cells #[.int .i64 a, .int .i64 b, .int .i64 c, .int .i64 d, .string s, .bool x, .bool y, .int .i64 m, .int .i64 f, .int .i64 t] 37)) := (Ext.refl w).alloc _
  have hn := fun k => (h.2.1.ext (he.drewN k)).len (t := 58) (e := 37) Try.underlying58 3
  have d1 := cell_of_row _ tb 1 _ _ _ (he.heap h.1)
  have d0 := cell_of_row _ tb 0 _ _ _ (he.heap h.1)
  simp at d1 d0
  have ht : decide (most ≤ L.length) = false := by simp; omega
  have ht2 : ¬ (most : Int) ≤ (L.length : Int) := by omega
  clear h hv hb
  go_enter Try.func17, Try.ntmps17
  go_wp2
  obtain ⟨wq, hq⟩ : ∃ wq, w.alloc (.cells #[.int .i64 a, .int .i64 b, .int .i64 c, .int .i64 d, .string s, .bool x, .bool y, .int .i64 m, .int .i64 f, .int .i64 t] 37) = wq := ⟨_, rfl⟩
  rw [hq] at hn d0 d1 he ⊢
  clear hq c0 c1 hl
  have EQ := Lib.hid he
  clear he
  go_quiet (fail)
  go_wp2
  go_ret
  exact ⟨rfl, EQ.out.drewN _⟩
end Go.Proofs.Ytabcmhiobfddnaa
