/-
  Layer 14: the hand that lays: numbers and handles; a frame that is passed through by it (Getattr).
-/
import Derived.Test.YtpjigdfllbhknaaCalF
import Derived.Test.YtpjigdfllbhknaaXdrA
import Derived.Test.YtpjigdfllbhknaaPln
namespace Go.Proofs.Ytpjigdfllbhknaa
open Go Go.RowKit
set_option linter.unusedVariables false
set_option linter.unusedSimpArgs false
theorem sees_off {w w' : World} {g n c n0 c0 : Nat} {A A0 : Option Addr} {m : List UInt8} {t : TypeId} {fr : Nat × Nat} (h : Sees w A n c (bs m)) (hb : w.heap[g]? = some (.cells #[.slice A0 n0 c0] t fr)) (ho : On2 g g w w') : Sees w' A n c (bs m) :=
  ⟨h.1, h.2.1, h.2.2.1, h.2.2.2.1, fun hn => by
    obtain ⟨b, off, hA, hc⟩ := h.2.2.2.2 hn
    refine ⟨b, off, hA, fun j u hu => ?_⟩
    have hcc := hc j u hu
    have hbg : ¬ b = g := by
      rintro rfl
      obtain ⟨hj, rfl⟩ := bs_get m j u hu
      rw [cell_of_row w b (off + j) _ t fr hb] at hcc
      rcases h9 : off + j with _ | k
      · rw [h9] at hcc; simp at hcc
      · rw [h9] at hcc; simp at hcc
    exact (World.cell?_of_block (ho.block b (World.block_lt_of_cell? w _ hcc) hbg hbg)).trans hcc⟩
/-- The frame's block, the lay's. -/
def LaC (w : World) (fb lb : Nat) (l : List UInt8) (cs : Array Value) : Prop := w.heap[fb]? = some (.cells cs 59 (0, 0)) ∧ ¬ fb = lb ∧ ∃ A n c, w.heap[lb]? = some (.cells #[.slice A n c] 54 (0, 0)) ∧ Sees w A n c (bs l)
theorem LaC.ext {w w' : World} {fb lb : Nat} {l : List UInt8} {cs : Array Value} (h : LaC w fb lb l cs) (he : Ext w w') : LaC w' fb lb l cs := by
  obtain ⟨h1, h2, A, n, c, h3, h4⟩ := h
  exact ⟨he.heap h1, h2, A, n, c, he.heap h3, h4.ext he⟩
set_option maxRecDepth 20000 in
theorem lay_number (fb lb i : Nat) (cs : Array Value) (x : Int) (l : List UInt8) (w : World) (h : LaC w fb lb l cs) (hl : l.length ≤ 1000000) (hi : cs[i]? = some (.int .i64 x)) (h0 : 0 ≤ x) (h1 : x ≤ 4294967295) :
    Calls Try.prog 76 #[.pointer (some ⟨lb, 0, none⟩), .pointer (some ⟨fb, i, none⟩)] w fun e w' => e = .returned (.tuple #[]) ∧ LaC w' fb lb (l ++ be4 x) cs ∧ On2 lb lb w w' := by
  have hd := h.ext (Ext.refl w).drew
  obtain ⟨hf, hne, A, n, c, hb, hs⟩ := hd
  have hn : l.length = n := by have h9 := hs.len; rwa [bs_length] at h9
  have xb := cell_of_row w.drew lb 0 _ _ _ hb
  simp at xb
  have HXB : Hid (w.drew.cell? ⟨lb, 0, none⟩ = some (.slice A n c)) := Lib.hid (by simpa using xb)
  have HC : Hid ((fun w' : World => w'.cell? ⟨fb, i, none⟩ = some (.int .i64 x)) w.drew) := Lib.hid ((cell_of_row w.drew fb i _ _ _ hf).trans hi)
  have HW : Hid (IntKind.u32.wrap x = x) := Lib.hid (by show x % 4294967296 = _; omega)
  have HU := Lib.hid (xdr_u32 A n c x l w.drew hs (by omega) h0 (by omega))
  have HF := Lib.hid hf
  have HB := Lib.hid hb
  have HNE := Lib.hid hne
  have HN := Lib.hid hn
  have HI := Lib.hid hi
  clear h hf hb hs hne hn hl xb hi
  go_enter Try.func76, Try.ntmps76
  go_wp2_with fail
  refine wp_region_plS (fun w' : World => w'.cell? ⟨fb, i, none⟩ = some (.int .i64 x)) (.free 0 (.free 1 (.free 2 (.free 3 (.free 5 (.free 6 (.free 7 (.free 8 (.one 4 (.one 9 (.free 10 (.free 11 (.one 12 .nil))))))))))))) (by kernel_rfl) (by kernel_rfl) (by kernel_rfl) (by kernel_rfl) ?_
  refine plS_val (v := ?_) rfl rfl HC.out (fun w' hw' => ?_) ?_; rotate_left; (· have q : w'.cell? ⟨fb, i, none⟩ = some (.int .i64 x) := hw'; go_simp; try with_reducible rfl); simp only [Act.put, List.setIfInBounds_toArray, List.set_cons_zero, List.set_cons_succ]
  refine plS_val (v := ?_) rfl rfl HC.out (fun w' hw' => ?_) ?_; rotate_left; (· have q : w'.cell? ⟨fb, i, none⟩ = some (.int .i64 x) := hw'; go_simp; try with_reducible rfl); simp only [Act.put, List.setIfInBounds_toArray, List.set_cons_zero, List.set_cons_succ]
  refine plS_val (v := ?_) rfl rfl HC.out (fun w' hw' => ?_) ?_; rotate_left; (· have q : w'.cell? ⟨fb, i, none⟩ = some (.int .i64 x) := hw'; go_simp; try with_reducible rfl); simp only [Act.put, List.setIfInBounds_toArray, List.set_cons_zero, List.set_cons_succ]
  refine plS_val (v := ?_) rfl rfl HC.out (fun w' hw' => ?_) ?_; rotate_left; (· have q : w'.cell? ⟨fb, i, none⟩ = some (.int .i64 x) := hw'; go_simp; try with_reducible rfl); simp only [Act.put, List.setIfInBounds_toArray, List.set_cons_zero, List.set_cons_succ]
  refine plS_val (v := ?_) rfl rfl HC.out (fun w' hw' => ?_) ?_; rotate_left; (· have q : w'.cell? ⟨fb, i, none⟩ = some (.int .i64 x) := hw'; go_simp; try with_reducible rfl); simp only [Act.put, List.setIfInBounds_toArray, List.set_cons_zero, List.set_cons_succ]
  refine plS_val (v := ?_) rfl rfl HC.out (fun w' hw' => ?_) ?_; rotate_left; (· have q : w'.cell? ⟨fb, i, none⟩ = some (.int .i64 x) := hw'; go_simp; try with_reducible rfl); simp only [Act.put, List.setIfInBounds_toArray, List.set_cons_zero, List.set_cons_succ]
  refine plS_val (v := ?_) rfl rfl HC.out (fun w' hw' => ?_) ?_; rotate_left; (· have q : w'.cell? ⟨fb, i, none⟩ = some (.int .i64 x) := hw'; go_simp; try with_reducible rfl); simp only [Act.put, List.setIfInBounds_toArray, List.set_cons_zero, List.set_cons_succ]
  refine plS_val (v := ?_) rfl rfl HC.out (fun w' hw' => ?_) ?_; rotate_left; (· have q : w'.cell? ⟨fb, i, none⟩ = some (.int .i64 x) := hw'; go_simp; try with_reducible rfl); simp only [Act.put, List.setIfInBounds_toArray, List.set_cons_zero, List.set_cons_succ]
  rw [HW.out]
  refine plS_run (v := .slice A n c) rfl rfl (by have q := HXB.out; go_simp; try rfl) HC.out ?_
  simp only [Act.put, List.setIfInBounds_toArray, List.set_cons_zero, List.set_cons_succ]
  refine plS_call 80 #[.slice A n c, .int .u32 x] rfl rfl (by go_simp) ?_
  refine HU.out.mono ?_
  rintro e w2 ⟨v, rfl, own, e2⟩
  obtain ⟨A2, c2, rfl, see2⟩ := Sees.of_own own
  have HC1 := Lib.hid HC.out
  have HC0 : Hid (w2.cell? ⟨fb, i, none⟩ = some (.int .i64 x)) := Lib.hid (e2.cell HC.out)
  refine ⟨_, rfl, HC0.out, ?_⟩
  simp only [Act.put, List.setIfInBounds_toArray, List.set_cons_zero, List.set_cons_succ]
  clear HC
  have HC := HC0
  have HF2 := Lib.hid (e2.heap HF.out)
  have HB2 := Lib.hid (e2.heap HB.out)
  have HO2 : Hid (On2 lb lb w2 (w2.setCell ⟨lb, 0, none⟩ (.slice A2 (n + 4) c2))) := Lib.hid (On2.set w2 _ _ (.inl rfl))
  have HS2 := Lib.hid see2
  have E2 := Lib.hid e2
  clear own see2 e2
  refine plS_val (v := ?_) rfl rfl HC.out (fun w' hw' => ?_) ?_; rotate_left; (· have q : w'.cell? ⟨fb, i, none⟩ = some (.int .i64 x) := hw'; go_simp; try with_reducible rfl); simp only [Act.put, List.setIfInBounds_toArray, List.set_cons_zero, List.set_cons_succ]
  refine plS_val (v := ?_) rfl rfl HC.out (fun w' hw' => ?_) ?_; rotate_left; (· have q : w'.cell? ⟨fb, i, none⟩ = some (.int .i64 x) := hw'; go_simp; try with_reducible rfl); simp only [Act.put, List.setIfInBounds_toArray, List.set_cons_zero, List.set_cons_succ]
  have HC3 : Hid ((w2.setCell ⟨lb, 0, none⟩ (.slice A2 (n + 4) c2)).cell? ⟨fb, i, none⟩ = some (.int .i64 x)) := Lib.hid ((World.cell?_of_block (HO2.out.block fb (Array.getElem?_eq_some_iff.1 HF2.out).1 HNE.out HNE.out)).trans HC.out)
  have HL : Hid (LaC (w2.setCell ⟨lb, 0, none⟩ (.slice A2 (n + 4) c2)) fb lb (l ++ be4 x) cs) := Lib.hid ⟨HO2.out.heap HF2.out HNE.out HNE.out, HNE.out, A2, n + 4, c2, by simpa using set_blkC HB2.out 0 (.slice A2 (n + 4) c2), sees_off HS2.out HB2.out HO2.out⟩
  refine plS_void (w' := w2.setCell ⟨lb, 0, none⟩ (.slice A2 (n + 4) c2)) rfl rfl (by
    have q0 := blk_freeC HB2.out 0
    have q1 := cell_of_row w2 lb 0 _ _ _ HB2.out
    simp at q1
    go_simp
    try rfl) HC3.out ?_
  refine plS_done ?_
  go_wp2_with fail
  go_end0
  exact ⟨rfl, HL.out, ((On2.of_ext (Ext.refl w).drew).trans (On2.of_ext E2.out)).trans HO2.out⟩
theorem lay_handle (fb lb i : Nat) (cs : Array Value) (x y : Int) (l : List UInt8) (w : World) (h : LaC w fb lb l cs) (hl : l.length ≤ 900000) (hi : cs[i]? = some (.int .i64 x)) (hj : cs[i + 1]? = some (.int .i64 y)) (h0 : 0 ≤ x) (h1 : x ≤ 4294967295) (k0 : 0 ≤ y) (k1 : y ≤ 4294967295) :
    Calls Try.prog 75 #[.pointer (some ⟨lb, 0, none⟩), .pointer (some ⟨fb, i, none⟩)] w fun e w' => e = .returned (.tuple #[]) ∧ LaC w' fb lb (l ++ be4 x ++ be4 y) cs ∧ On2 lb lb w w' := by
  have HW := Lib.hid (lay_number fb lb i cs x l w h (by omega) hi h0 h1)
  have HJ := Lib.hid hj
  clear h hi hj
  go_enter Try.func75, Try.ntmps75
  go_wp2_with fail
  refine HW.out.mono ?_
  rintro e w1 ⟨rfl, h1, o1⟩
  go_wp2_with fail
  refine (lay_number fb lb (i + 1) cs y _ w1 h1 (by simp [be4_length]; omega) HJ.out k0 k1).mono ?_
  rintro e w2 ⟨rfl, h2, o2⟩
  go_wp2_with fail
  go_end0
  exact ⟨rfl, h2, o1.trans o2⟩
end Go.Proofs.Ytpjigdfllbhknaa
