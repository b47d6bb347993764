/-
  Layer 18: an error's reply that is read.
-/
import Derived.Test.YtihiclnbbpablaaTellH
import Derived.Test.YtihiclnbbpablaaLitQ
import Derived.Test.YtihiclnbbpablaaPln
namespace Go.Proofs.Ytihiclnbbpablaa
open Go Go.RowKit
set_option linter.unusedVariables false
set_option linter.unusedSimpArgs false
theorem rdl_lt {w : World} {g : Nat} {e : Int} {l : List UInt8} (h : Rdl w g e l) : g < w.heap.size := by
  obtain ⟨A, n, c, hb, _⟩ := h
  exact (Array.getElem?_eq_some_iff.1 hb).1
theorem tl_plain {w : World} {g : Nat} {t : TL} (h : w.heap[g]? = some (.cells t.cs 29 (0, 0))) : Plain w g := by
  refine ⟨_, _, _, h, fun i x hx => ?_⟩
  have hm := Array.mem_of_getElem? hx
  simp [TL.cs] at hm
theorem onl_setRowT (g : Nat) (w : World) (cs : Array Value) : Onl g w (w.setRow g cs) :=
  ⟨rfl, rfl, rfl, by simp [World.setRow], fun k hk hne => setRow_other w g k _ (fun e => hne (by rw [e]))⟩
theorem Onl.setNew {g k i : Nat} {a b : World} (h : Onl g a b) (hk : a.heap.size ≤ k) (v : Value) : Onl g a (b.setCell ⟨k, i, none⟩ v) :=
  ⟨h.os, h.tape, h.output, by have := h.size; simpa [World.setCell] using this, fun j hj hne => (heap_setCell_other _ _ _ _ (by simp; omega)).trans (h.block j hj hne)⟩
theorem Onl.rowNew {g k : Nat} {a b : World} (h : Onl g a b) (hk : a.heap.size ≤ k) (cs : Array Value) : Onl g a (b.setRow k cs) :=
  ⟨h.os, h.tape, h.output, by have := h.size; simpa [World.setRow] using this, fun j hj hne => (setRow_other _ _ _ _ (by omega)).trans (h.block j hj hne)⟩
set_option maxHeartbeats 1000000 in
theorem tread_3 (u : TL) (g rb x : Nat) (hx : x < 65536) (rest : List UInt8) (w : World) (hr : w.heap[rb]? = some (.cells #[.pointer (some ⟨g, 0, none⟩), .int .i64 0, .bool false] 72 (0, 0))) (h : Rdl w g 0 (le 2 x ++ rest)) :
    Calls Try.prog 48 #[.pointer (some ⟨rb, 0, none⟩), .agg u.cs, .int .i64 3] w fun e w' => e = .returned (.agg (TL.cs { u with cd := (x : Int) })) ∧ Rdl w' g 0 rest ∧ Onl g w w' := by
  have hg := rdl_lt h
  have hrl := (Array.getElem?_eq_some_iff.1 hr).1
  obtain ⟨w2, hw2⟩ : ∃ w2, (w.alloc (.cells u.cs 29)).alloc (.cells #[.int .i64 0, .int .i64 0, .int .i64 0, .int .i64 0, .int .i64 0, .int .i64 0, .string ⟨#[]⟩, .bool false, .int .i64 0, .int .i64 0, .slice none 0 0, .slice none 0 0, .bool false, .int .i64 0, .int .i64 0, .int .i64 0, .int .i64 0, .string ⟨#[]⟩] 29) = w2 := ⟨_, rfl⟩
  have e2 : Ext w w2 := by rw [← hw2]; exact ((Ext.refl w).alloc _).alloc _
  have hb : w2.heap[w.heap.size]? = some (.cells u.cs 29 (0, 0)) := by rw [← hw2]; exact ((Ext.refl _).alloc _).heap (heap_alloc_new w _)
  have hz : w2.heap[w.heap.size + 1]? = some (.cells (TL.zero 0 0).cs 29 (0, 0)) := by rw [← hw2]; exact heap_alloc2_new w _ _
  have q0 := cell_of_row w2 rb 0 _ _ _ (e2.heap hr)
  simp at q0
  have H1 := Lib.hid (lr_u16 g 0 x rest w2 hx (h.ext e2))
  have E2 := Lib.hid e2
  have HB := Lib.hid hb
  have HZ := Lib.hid hz
  have HI := Lib.hid (tl_info { u with cd := (x : Int) })
  have HS : Hid ((TL.zero 0 0).cs.size = (TL.cs { u with cd := (x : Int) }).size) := Lib.hid rfl
  have HU := Lib.hid (TL.one { u with cd := (x : Int) })
  clear h hr hb hz e2
  go_enter Try.func48, Try.ntmps48
  go_wp2_with fail
  refine H1.out.mono ?_
  rintro e w3 ⟨rfl, hr3, o3⟩
  have hb3 := o3.heap HB.out (by omega)
  have hz3 := o3.heap HZ.out (by omega)
  have fr := blk_free hb3 2
  have xc := cell_of_row w3 w.heap.size 2 _ _ _ hb3
  simp [TL.cs] at xc
  obtain ⟨w4, hw4⟩ : ∃ w4, w3.setCell ⟨w.heap.size, 2, none⟩ (.int .i64 (x : Int)) = w4 := ⟨_, rfl⟩
  have hb4 : w4.heap[w.heap.size]? = some (.cells (TL.cs { u with cd := (x : Int) }) 29 (0, 0)) := by rw [← hw4]; exact set_blk hb3 2 _
  have hz4 : w4.heap[w.heap.size + 1]? = some (.cells (TL.zero 0 0).cs 29 (0, 0)) := by rw [← hw4]; exact (heap_setCell_other _ _ _ _ (by simp)).trans hz3
  have hr4 : Rdl w4 g 0 rest := hr3.onP (tl_plain hb3) (by rw [← hw4]; exact Onl.set w3 2 _) (by omega)
  have HR5 := Lib.hid (hr4.onP (tl_plain hz4) (onl_setRowT (w.heap.size + 1) w4 (TL.cs { u with cd := (x : Int) })) (by omega))
  have O5 : Hid (Onl g w (w4.setRow (w.heap.size + 1) (TL.cs { u with cd := (x : Int) }))) := Lib.hid (by
    rw [← hw4]
    exact (((Onl.of_ext E2.out).trans o3).setNew (Nat.le_refl _) _).rowNew (by omega) _)
  have HB4 := Lib.hid hb4
  have HZ4 := Lib.hid hz4
  have HG := Lib.hid (setRow_heap w4 (w.heap.size + 1) _ (TL.cs { u with cd := (x : Int) }) _ _ hz4)
  clear hb3 hz3 hr3 hb4 hz4 hr4 o3
  go_wp2_with (first | (with_reducible refine wpList_load_row rfl 29 (.tmp 4) rfl w.heap.size rfl _ _ _ _ HB4.out Try.underlying29 rfl HI.out ?_) | (with_reducible refine wpList_store_row rfl 29 (.tmp 6) (.tmp 75) rfl (w.heap.size + 1) _ rfl rfl _ _ HZ4.out HI.out HS.out HU.out ?_) | fail)
  refine bodyPost_ret (results_cell_row rfl _ _ (w.heap.size + 1) _ _ (0, 0) _ rfl HG.out Try.underlying29 rfl HI.out) rfl ?_
  exact ⟨rfl, HR5.out, O5.out⟩
theorem keep0_any (g rb : Nat) (w : World) (hr : w.heap[rb]? = some (.cells #[.pointer (some ⟨g, 0, none⟩), .int .i64 0, .bool false] 72 (0, 0))) :
    Calls Try.prog 49 #[.pointer (some ⟨rb, 0, none⟩), .int .i64 0] w fun e w' => e = .returned (.tuple #[]) ∧ w'.heap[rb]? = some (.cells #[.pointer (some ⟨g, 0, none⟩), .int .i64 0, .bool false] 72 (0, 0)) ∧ Onl rb w w' := by
  have q1 := cell_of_row w rb 1 _ _ _ hr
  have fr := blk_free hr 1
  simp at q1
  have hs := set_blk hr 1 (.int .i64 0)
  have HS := Lib.hid hs
  clear hs hr
  go_enter Try.func49, Try.ntmps49
  go_wp2_with fail
  go_end0
  exact ⟨rfl, by simpa using HS.out, Onl.set w 1 _⟩
end Go.Proofs.Ytihiclnbbpablaa
