/-
  Layer 14: the hand that lays fields: a place, a text, data; what is written of any procedure.
-/
import Derived.Test.YtpjigdfllbhknaaCalV
import Derived.Test.YtpjigdfllbhknaaCalU
namespace Go.Proofs.Ytpjigdfllbhknaa
open Go Go.RowKit
set_option linter.unusedVariables false
set_option linter.unusedSimpArgs false
set_option maxRecDepth 20000 in
set_option maxHeartbeats 2000000 in
theorem lay_place (fb lb i : Nat) (cs : Array Value) (w : World) (x : Int) (h0 : 0 ≤ x) (h1 : x ≤ 4611686018427387904) (l : List UInt8) (h : LaC w fb lb l cs) (hl : l.length ≤ 800000) (hi : cs[i]? = some (.int .i64 x)) :
    Calls Try.prog 77 #[.pointer (some ⟨lb, 0, none⟩), .pointer (some ⟨fb, i, none⟩)] w fun e w' => e = .returned (.tuple #[]) ∧ LaC w' fb lb (l ++ be8 x) cs ∧ On2 lb lb w w' := by
  have hd := h.ext (Ext.refl w).drew
  obtain ⟨hf, hne, A, n, c, hb, hs⟩ := hd
  have hn : l.length = n := by have h9 := hs.len; rwa [bs_length] at h9
  have xb := cell_of_row w.drew lb 0 _ _ _ hb
  simp at xb
  have HXB : Hid (w.drew.cell? ⟨lb, 0, none⟩ = some (.slice A n c)) := Lib.hid (by simpa using xb)
  have HC : Hid ((fun w' : World => w'.cell? ⟨fb, i, none⟩ = some (.int .i64 x)) w.drew) := Lib.hid ((cell_of_row w.drew fb i _ _ _ hf).trans hi)
  have HF := Lib.hid hf
  have HB := Lib.hid hb
  have HNE := Lib.hid hne
  have HN := Lib.hid hn
  have HS := Lib.hid hs
  have HLL := Lib.hid hl
  have HW : Hid (IntKind.u64.wrap x = x) := Lib.hid (by show x % 18446744073709551616 = _; omega)
  have HU := Lib.hid (xdr_u64 A n c x l w.drew hs (by omega) h0 (by omega))
  have EB : Hid (Ext w.drew w.drew) := Lib.hid (Ext.refl _)
  have HCW := HC
  clear h hf hb hs hne hn hl xb hi
  go_enter Try.func77, Try.ntmps77
  go_wp2_with fail
  refine wp_region_plS (fun w' : World => w'.cell? ⟨fb, i, none⟩ = some (.int .i64 x)) (.free 0 (.free 1 (.free 2 (.free 3 (.free 5 (.free 6 (.free 7 (.free 8 (.one 4 (.one 9 (.free 10 (.free 11 (.one 12 .nil))))))))))))) (by kernel_rfl) (by kernel_rfl) (by kernel_rfl) (by kernel_rfl) ?_
  refine plS_val (v := ?_) rfl rfl HC.out (fun w' hw' => ?_) ?_; rotate_left; (· have q : w'.cell? ⟨fb, i, none⟩ = some (.int .i64 x) := hw'; go_simp; try with_reducible rfl); simp only [Act.put, List.setIfInBounds_toArray, List.set_cons_zero, List.set_cons_succ]
  refine plS_val (v := ?_) rfl rfl HC.out (fun w' hw' => ?_) ?_; rotate_left; (· have q : w'.cell? ⟨fb, i, none⟩ = some (.int .i64 x) := hw'; go_simp; try with_reducible rfl); simp only [Act.put, List.setIfInBounds_toArray, List.set_cons_zero, List.set_cons_succ]
  refine plS_val (v := ?_) rfl rfl HC.out (fun w' hw' => ?_) ?_; rotate_left; (· have q : w'.cell? ⟨fb, i, none⟩ = some (.int .i64 x) := hw'; go_simp; try with_reducible rfl); simp only [Act.put, List.setIfInBounds_toArray, List.set_cons_zero, List.set_cons_succ]
  refine plS_val (v := ?_) rfl rfl HC.out (fun w' hw' => ?_) ?_; rotate_left; (· have q : w'.cell? ⟨fb, i, none⟩ = some (.int .i64 x) := hw'; go_simp; try with_reducible rfl); simp only [Act.put, List.setIfInBounds_toArray, List.set_cons_zero, List.set_cons_succ]
  refine plS_val (v := ?_) rfl rfl HC.out (fun w' hw' => ?_) ?_; rotate_left; (· have q : w'.cell? ⟨fb, i, none⟩ = some (.int .i64 x) := hw'; go_simp; try with_reducible rfl); simp only [Act.put, List.setIfInBounds_toArray, List.set_cons_zero, List.set_cons_succ]
  refine plS_val (v := ?_) rfl rfl HC.out (fun w' hw' => ?_) ?_; rotate_left; (· have q : w'.cell? ⟨fb, i, none⟩ = some (.int .i64 x) := hw'; go_simp; try with_reducible rfl); simp only [Act.put, List.setIfInBounds_toArray, List.set_cons_zero, List.set_cons_succ]
  refine plS_val (v := ?_) rfl rfl HC.out (fun w' hw' => ?_) ?_; rotate_left; (· have q : w'.cell? ⟨fb, i, none⟩ = some (.int .i64 x) := hw'; go_simp; try with_reducible rfl); simp only [Act.put, List.setIfInBounds_toArray, List.set_cons_zero, List.set_cons_succ]
  refine plS_val (v := ?_) rfl rfl HC.out (fun w' hw' => ?_) ?_; rotate_left; (· have q : w'.cell? ⟨fb, i, none⟩ = some (.int .i64 x) := hw'; go_simp; try with_reducible rfl); simp only [Act.put, List.setIfInBounds_toArray, List.set_cons_zero, List.set_cons_succ]
  rw [HW.out]
  refine plS_run (v := .slice A n c) rfl rfl (by have q := HXB.out; go_simp; try rfl) HC.out ?_; simp only [Act.put, List.setIfInBounds_toArray, List.set_cons_zero, List.set_cons_succ]
  refine plS_call 81 #[.slice A n c, .int .u64 x] rfl rfl (by go_simp) ?_
  refine HU.out.mono ?_
  rintro e w2 ⟨v, rfl, own, e2'⟩
  have e2 := EB.out.trans e2'
  obtain ⟨A2, c2, rfl, see2⟩ := Sees.of_own own
  have HC1 := Lib.hid HC.out
  have HC0 : Hid (w2.cell? ⟨fb, i, none⟩ = some (.int .i64 x)) := Lib.hid (e2.cell HCW.out)
  refine ⟨_, rfl, HC0.out, ?_⟩; simp only [Act.put, List.setIfInBounds_toArray, List.set_cons_zero, List.set_cons_succ]
  clear HC
  have HC := HC0
  have HF2 := Lib.hid (e2.heap HF.out)
  have HB2 := Lib.hid (e2.heap HB.out)
  have HO2 : Hid (On2 lb lb w2 (w2.setCell ⟨lb, 0, none⟩ (.slice A2 (n + 8) c2))) := Lib.hid (On2.set w2 _ _ (.inl rfl))
  have HS2 := Lib.hid see2
  have E2 := Lib.hid e2
  clear own see2 e2
  refine plS_val (v := ?_) rfl rfl HC.out (fun w' hw' => ?_) ?_; rotate_left; (· have q : w'.cell? ⟨fb, i, none⟩ = some (.int .i64 x) := hw'; go_simp; try with_reducible rfl); simp only [Act.put, List.setIfInBounds_toArray, List.set_cons_zero, List.set_cons_succ]
  refine plS_val (v := ?_) rfl rfl HC.out (fun w' hw' => ?_) ?_; rotate_left; (· have q : w'.cell? ⟨fb, i, none⟩ = some (.int .i64 x) := hw'; go_simp; try with_reducible rfl); simp only [Act.put, List.setIfInBounds_toArray, List.set_cons_zero, List.set_cons_succ]
  have HC3 : Hid ((w2.setCell ⟨lb, 0, none⟩ (.slice A2 (n + 8) c2)).cell? ⟨fb, i, none⟩ = some (.int .i64 x)) := Lib.hid ((World.cell?_of_block (HO2.out.block fb (Array.getElem?_eq_some_iff.1 HF2.out).1 HNE.out HNE.out)).trans HC.out)
  have HL : Hid (LaC (w2.setCell ⟨lb, 0, none⟩ (.slice A2 (n + 8) c2)) fb lb (l ++ be8 x) cs) := Lib.hid ⟨HO2.out.heap HF2.out HNE.out HNE.out, HNE.out, A2, n + 8, c2, by simpa using set_blkC HB2.out 0 (.slice A2 (n + 8) c2), sees_off HS2.out HB2.out HO2.out⟩
  refine plS_void (w' := w2.setCell ⟨lb, 0, none⟩ (.slice A2 (n + 8) c2)) rfl rfl (by
    have q0 := blk_freeC HB2.out 0
    have q1 := cell_of_row w2 lb 0 _ _ _ HB2.out
    simp at q1
    go_simp
    try rfl) HC3.out ?_
  refine plS_done ?_
  go_wp2_with fail
  go_end0
  exact ⟨rfl, HL.out, ((On2.of_ext (Ext.refl w).drew).trans (On2.of_ext E2.out)).trans HO2.out⟩
set_option maxRecDepth 20000 in
set_option maxHeartbeats 2000000 in
theorem lay_data (fb lb i : Nat) (cs : Array Value) (w : World) (dA : Option Addr) (dn dk : Nat) (d : List UInt8) (hd0 : Sees w dA dn dk (bs d)) (hdn : dn ≤ 10000) (l : List UInt8) (h : LaC w fb lb l cs) (hl : l.length ≤ 800000) (hi : cs[i]? = some (.slice dA dn dk)) :
    Calls Try.prog 74 #[.pointer (some ⟨lb, 0, none⟩), .pointer (some ⟨fb, i, none⟩)] w fun e w' => e = .returned (.tuple #[]) ∧ LaC w' fb lb (l ++ txt d) cs ∧ On2 lb lb w w' := by
  have hd := h.ext (Ext.refl w).drew
  obtain ⟨hf, hne, A, n, c, hb, hs⟩ := hd
  have hn : l.length = n := by have h9 := hs.len; rwa [bs_length] at h9
  have xb := cell_of_row w.drew lb 0 _ _ _ hb
  simp at xb
  have HXB : Hid (w.drew.cell? ⟨lb, 0, none⟩ = some (.slice A n c)) := Lib.hid (by simpa using xb)
  have HC : Hid ((fun w' : World => w'.cell? ⟨fb, i, none⟩ = some (.slice dA dn dk)) w.drew) := Lib.hid ((cell_of_row w.drew fb i _ _ _ hf).trans hi)
  have HF := Lib.hid hf
  have HB := Lib.hid hb
  have HNE := Lib.hid hne
  have HN := Lib.hid hn
  have HS := Lib.hid hs
  have HLL := Lib.hid hl
  have HU := Lib.hid (text_any A n c dA dn dk l d w.drew hs (hd0.ext (Ext.refl w).drew) (by omega) hdn)
  have EB : Hid (Ext w.drew w.drew) := Lib.hid (Ext.refl _)
  have HCW := HC
  clear h hf hb hs hne hn hl xb hi
  go_enter Try.func74, Try.ntmps74
  go_wp2_with fail
  refine wp_region_plS (fun w' : World => w'.cell? ⟨fb, i, none⟩ = some (.slice dA dn dk)) (.free 0 (.free 1 (.free 2 (.free 3 (.free 5 (.free 6 (.free 7 (.one 4 (.one 8 (.free 9 (.free 10 (.one 11 .nil)))))))))))) (by kernel_rfl) (by kernel_rfl) (by kernel_rfl) (by kernel_rfl) ?_
  refine plS_val (v := ?_) rfl rfl HC.out (fun w' hw' => ?_) ?_; rotate_left; (· have q : w'.cell? ⟨fb, i, none⟩ = some (.slice dA dn dk) := hw'; go_simp; try with_reducible rfl); simp only [Act.put, List.setIfInBounds_toArray, List.set_cons_zero, List.set_cons_succ]
  refine plS_val (v := ?_) rfl rfl HC.out (fun w' hw' => ?_) ?_; rotate_left; (· have q : w'.cell? ⟨fb, i, none⟩ = some (.slice dA dn dk) := hw'; go_simp; try with_reducible rfl); simp only [Act.put, List.setIfInBounds_toArray, List.set_cons_zero, List.set_cons_succ]
  refine plS_val (v := ?_) rfl rfl HC.out (fun w' hw' => ?_) ?_; rotate_left; (· have q : w'.cell? ⟨fb, i, none⟩ = some (.slice dA dn dk) := hw'; go_simp; try with_reducible rfl); simp only [Act.put, List.setIfInBounds_toArray, List.set_cons_zero, List.set_cons_succ]
  refine plS_val (v := ?_) rfl rfl HC.out (fun w' hw' => ?_) ?_; rotate_left; (· have q : w'.cell? ⟨fb, i, none⟩ = some (.slice dA dn dk) := hw'; go_simp; try with_reducible rfl); simp only [Act.put, List.setIfInBounds_toArray, List.set_cons_zero, List.set_cons_succ]
  refine plS_val (v := ?_) rfl rfl HC.out (fun w' hw' => ?_) ?_; rotate_left; (· have q : w'.cell? ⟨fb, i, none⟩ = some (.slice dA dn dk) := hw'; go_simp; try with_reducible rfl); simp only [Act.put, List.setIfInBounds_toArray, List.set_cons_zero, List.set_cons_succ]
  refine plS_val (v := ?_) rfl rfl HC.out (fun w' hw' => ?_) ?_; rotate_left; (· have q : w'.cell? ⟨fb, i, none⟩ = some (.slice dA dn dk) := hw'; go_simp; try with_reducible rfl); simp only [Act.put, List.setIfInBounds_toArray, List.set_cons_zero, List.set_cons_succ]
  refine plS_val (v := ?_) rfl rfl HC.out (fun w' hw' => ?_) ?_; rotate_left; (· have q : w'.cell? ⟨fb, i, none⟩ = some (.slice dA dn dk) := hw'; go_simp; try with_reducible rfl); simp only [Act.put, List.setIfInBounds_toArray, List.set_cons_zero, List.set_cons_succ]
  refine plS_run (v := .slice A n c) rfl rfl (by have q := HXB.out; go_simp; try rfl) HC.out ?_; simp only [Act.put, List.setIfInBounds_toArray, List.set_cons_zero, List.set_cons_succ]
  refine plS_call 79 #[.slice A n c, .slice dA dn dk] rfl rfl (by go_simp) ?_
  refine HU.out.mono ?_
  rintro e w2 ⟨v, rfl, own, e2'⟩
  have e2 := EB.out.trans e2'
  obtain ⟨A2, c2, rfl, see2⟩ := Sees.of_own own
  have HC1 := Lib.hid HC.out
  have HC0 : Hid (w2.cell? ⟨fb, i, none⟩ = some (.slice dA dn dk)) := Lib.hid (e2.cell HCW.out)
  refine ⟨_, rfl, HC0.out, ?_⟩; simp only [Act.put, List.setIfInBounds_toArray, List.set_cons_zero, List.set_cons_succ]
  clear HC
  have HC := HC0
  have HF2 := Lib.hid (e2.heap HF.out)
  have HB2 := Lib.hid (e2.heap HB.out)
  have HO2 : Hid (On2 lb lb w2 (w2.setCell ⟨lb, 0, none⟩ (.slice A2 (n + (txt d).length) c2))) := Lib.hid (On2.set w2 _ _ (.inl rfl))
  have HS2 := Lib.hid see2
  have E2 := Lib.hid e2
  clear own see2 e2
  refine plS_val (v := ?_) rfl rfl HC.out (fun w' hw' => ?_) ?_; rotate_left; (· have q : w'.cell? ⟨fb, i, none⟩ = some (.slice dA dn dk) := hw'; go_simp; try with_reducible rfl); simp only [Act.put, List.setIfInBounds_toArray, List.set_cons_zero, List.set_cons_succ]
  refine plS_val (v := ?_) rfl rfl HC.out (fun w' hw' => ?_) ?_; rotate_left; (· have q : w'.cell? ⟨fb, i, none⟩ = some (.slice dA dn dk) := hw'; go_simp; try with_reducible rfl); simp only [Act.put, List.setIfInBounds_toArray, List.set_cons_zero, List.set_cons_succ]
  have HC3 : Hid ((w2.setCell ⟨lb, 0, none⟩ (.slice A2 (n + (txt d).length) c2)).cell? ⟨fb, i, none⟩ = some (.slice dA dn dk)) := Lib.hid ((World.cell?_of_block (HO2.out.block fb (Array.getElem?_eq_some_iff.1 HF2.out).1 HNE.out HNE.out)).trans HC.out)
  have HL : Hid (LaC (w2.setCell ⟨lb, 0, none⟩ (.slice A2 (n + (txt d).length) c2)) fb lb (l ++ txt d) cs) := Lib.hid ⟨HO2.out.heap HF2.out HNE.out HNE.out, HNE.out, A2, n + (txt d).length, c2, by simpa using set_blkC HB2.out 0 (.slice A2 (n + (txt d).length) c2), sees_off HS2.out HB2.out HO2.out⟩
  refine plS_void (w' := w2.setCell ⟨lb, 0, none⟩ (.slice A2 (n + (txt d).length) c2)) rfl rfl (by
    have q0 := blk_freeC HB2.out 0
    have q1 := cell_of_row w2 lb 0 _ _ _ HB2.out
    simp at q1
    go_simp
    try rfl) HC3.out ?_
  refine plS_done ?_
  go_wp2_with fail
  go_end0
  exact ⟨rfl, HL.out, ((On2.of_ext (Ext.refl w).drew).trans (On2.of_ext E2.out)).trans HO2.out⟩
set_option maxRecDepth 20000 in
set_option maxHeartbeats 2000000 in
theorem lay_text (fb lb i : Nat) (cs : Array Value) (w : World) (s : List UInt8) (hsl : s.length ≤ 10000) (l : List UInt8) (h : LaC w fb lb l cs) (hl : l.length ≤ 800000) (hi : cs[i]? = some (.string ⟨s.toArray⟩)) :
    Calls Try.prog 78 #[.pointer (some ⟨lb, 0, none⟩), .pointer (some ⟨fb, i, none⟩)] w fun e w' => e = .returned (.tuple #[]) ∧ LaC w' fb lb (l ++ txt s) cs ∧ On2 lb lb w w' := by
  have hd := h.ext (Ext.refl w).drew
  obtain ⟨hf, hne, A, n, c, hb, hs⟩ := hd
  have hn : l.length = n := by have h9 := hs.len; rwa [bs_length] at h9
  have xb := cell_of_row w.drew lb 0 _ _ _ hb
  simp at xb
  have HXB : Hid (w.drew.cell? ⟨lb, 0, none⟩ = some (.slice A n c)) := Lib.hid (by simpa using xb)
  have HC : Hid ((fun w' : World => w'.cell? ⟨fb, i, none⟩ = some (.string ⟨s.toArray⟩)) w.drew) := Lib.hid ((cell_of_row w.drew fb i _ _ _ hf).trans hi)
  have HF := Lib.hid hf
  have HB := Lib.hid hb
  have HNE := Lib.hid hne
  have HN := Lib.hid hn
  have HS := Lib.hid hs
  have HLL := Lib.hid hl
  obtain ⟨cap, wb, hrun, hom, eb⟩ := bytes_new w.drew s w.drew.heap.size (by unfold maxLen; omega) (Nat.le_refl _)
  obtain ⟨sz, hsz⟩ : ∃ sz, w.drew.heap.size = sz := ⟨_, rfl⟩
  rw [hsz] at hrun
  have HRUN := Lib.hid hrun
  have HU := Lib.hid (text_any A n c (some ⟨w.drew.heap.size, 0, none⟩) s.length cap l s wb (hs.ext eb) hom.sees (by omega) hsl)
  rw [hsz] at HU
  have EB := Lib.hid eb
  have HCW := HC
  have HCB : Hid ((fun w' : World => w'.cell? ⟨fb, i, none⟩ = some (.string ⟨s.toArray⟩)) wb) := Lib.hid (eb.cell HC.out)
  have HXBB : Hid (wb.cell? ⟨lb, 0, none⟩ = some (.slice A n c)) := Lib.hid (eb.cell HXB.out)
  clear hrun hom eb
  clear h hf hb hs hne hn hl xb hi
  go_enter Try.func78, Try.ntmps78
  go_wp2_with fail
  refine wp_region_plS (fun w' : World => w'.cell? ⟨fb, i, none⟩ = some (.string ⟨s.toArray⟩)) (.free 0 (.free 1 (.free 2 (.free 3 (.free 5 (.free 6 (.free 7 (.fork 4 8 (.one 8 (.one 9 (.free 10 (.free 11 (.one 12 .nil))))) (.one 4 (.one 9 (.free 10 (.free 11 (.one 12 .nil))))))))))))) (by kernel_rfl) (by kernel_rfl) (by kernel_rfl) (by kernel_rfl) ?_
  refine plS_val (v := ?_) rfl rfl HC.out (fun w' hw' => ?_) ?_; rotate_left; (· have q : w'.cell? ⟨fb, i, none⟩ = some (.string ⟨s.toArray⟩) := hw'; go_simp; try with_reducible rfl); simp only [Act.put, List.setIfInBounds_toArray, List.set_cons_zero, List.set_cons_succ]
  refine plS_val (v := ?_) rfl rfl HC.out (fun w' hw' => ?_) ?_; rotate_left; (· have q : w'.cell? ⟨fb, i, none⟩ = some (.string ⟨s.toArray⟩) := hw'; go_simp; try with_reducible rfl); simp only [Act.put, List.setIfInBounds_toArray, List.set_cons_zero, List.set_cons_succ]
  refine plS_val (v := ?_) rfl rfl HC.out (fun w' hw' => ?_) ?_; rotate_left; (· have q : w'.cell? ⟨fb, i, none⟩ = some (.string ⟨s.toArray⟩) := hw'; go_simp; try with_reducible rfl); simp only [Act.put, List.setIfInBounds_toArray, List.set_cons_zero, List.set_cons_succ]
  refine plS_val (v := ?_) rfl rfl HC.out (fun w' hw' => ?_) ?_; rotate_left; (· have q : w'.cell? ⟨fb, i, none⟩ = some (.string ⟨s.toArray⟩) := hw'; go_simp; try with_reducible rfl); simp only [Act.put, List.setIfInBounds_toArray, List.set_cons_zero, List.set_cons_succ]
  refine plS_val (v := ?_) rfl rfl HC.out (fun w' hw' => ?_) ?_; rotate_left; (· have q : w'.cell? ⟨fb, i, none⟩ = some (.string ⟨s.toArray⟩) := hw'; go_simp; try with_reducible rfl); simp only [Act.put, List.setIfInBounds_toArray, List.set_cons_zero, List.set_cons_succ]
  refine plS_val (v := ?_) rfl rfl HC.out (fun w' hw' => ?_) ?_; rotate_left; (· have q : w'.cell? ⟨fb, i, none⟩ = some (.string ⟨s.toArray⟩) := hw'; go_simp; try with_reducible rfl); simp only [Act.put, List.setIfInBounds_toArray, List.set_cons_zero, List.set_cons_succ]
  refine plS_val (v := ?_) rfl rfl HC.out (fun w' hw' => ?_) ?_; rotate_left; (· have q : w'.cell? ⟨fb, i, none⟩ = some (.string ⟨s.toArray⟩) := hw'; go_simp; try with_reducible rfl); simp only [Act.put, List.setIfInBounds_toArray, List.set_cons_zero, List.set_cons_succ]
  refine plS_fork ?_ ?_
  · refine plS_run (v := .slice A n c) rfl rfl (by have q := HXB.out; go_simp; try rfl) HC.out ?_; simp only [Act.put, List.setIfInBounds_toArray, List.set_cons_zero, List.set_cons_succ]
    refine plS_run (v := .slice (some ⟨sz, 0, none⟩) s.length cap) rfl rfl (by have q := HRUN.out; go_simp; try rfl) HCB.out ?_; simp only [Act.put, List.setIfInBounds_toArray, List.set_cons_zero, List.set_cons_succ]
    refine plS_call 79 #[.slice A n c, .slice (some ⟨sz, 0, none⟩) s.length cap] rfl rfl (by go_simp) ?_
    refine HU.out.mono ?_
    rintro e w2 ⟨v, rfl, own, e2'⟩
    have e2 := EB.out.trans e2'
    obtain ⟨A2, c2, rfl, see2⟩ := Sees.of_own own
    have HC1 := Lib.hid HC.out
    have HC0 : Hid (w2.cell? ⟨fb, i, none⟩ = some (.string ⟨s.toArray⟩)) := Lib.hid (e2.cell HCW.out)
    refine ⟨_, rfl, HC0.out, ?_⟩; simp only [Act.put, List.setIfInBounds_toArray, List.set_cons_zero, List.set_cons_succ]
    clear HC
    have HC := HC0
    have HF2 := Lib.hid (e2.heap HF.out)
    have HB2 := Lib.hid (e2.heap HB.out)
    have HO2 : Hid (On2 lb lb w2 (w2.setCell ⟨lb, 0, none⟩ (.slice A2 (n + (txt s).length) c2))) := Lib.hid (On2.set w2 _ _ (.inl rfl))
    have HS2 := Lib.hid see2
    have E2 := Lib.hid e2
    clear own see2 e2
    refine plS_val (v := ?_) rfl rfl HC.out (fun w' hw' => ?_) ?_; rotate_left; (· have q : w'.cell? ⟨fb, i, none⟩ = some (.string ⟨s.toArray⟩) := hw'; go_simp; try with_reducible rfl); simp only [Act.put, List.setIfInBounds_toArray, List.set_cons_zero, List.set_cons_succ]
    refine plS_val (v := ?_) rfl rfl HC.out (fun w' hw' => ?_) ?_; rotate_left; (· have q : w'.cell? ⟨fb, i, none⟩ = some (.string ⟨s.toArray⟩) := hw'; go_simp; try with_reducible rfl); simp only [Act.put, List.setIfInBounds_toArray, List.set_cons_zero, List.set_cons_succ]
    have HC3 : Hid ((w2.setCell ⟨lb, 0, none⟩ (.slice A2 (n + (txt s).length) c2)).cell? ⟨fb, i, none⟩ = some (.string ⟨s.toArray⟩)) := Lib.hid ((World.cell?_of_block (HO2.out.block fb (Array.getElem?_eq_some_iff.1 HF2.out).1 HNE.out HNE.out)).trans HC.out)
    have HL : Hid (LaC (w2.setCell ⟨lb, 0, none⟩ (.slice A2 (n + (txt s).length) c2)) fb lb (l ++ txt s) cs) := Lib.hid ⟨HO2.out.heap HF2.out HNE.out HNE.out, HNE.out, A2, n + (txt s).length, c2, by simpa using set_blkC HB2.out 0 (.slice A2 (n + (txt s).length) c2), sees_off HS2.out HB2.out HO2.out⟩
    refine plS_void (w' := w2.setCell ⟨lb, 0, none⟩ (.slice A2 (n + (txt s).length) c2)) rfl rfl (by
      have q0 := blk_freeC HB2.out 0
      have q1 := cell_of_row w2 lb 0 _ _ _ HB2.out
      simp at q1
      go_simp
      try rfl) HC3.out ?_
    refine plS_done ?_
    go_wp2_with fail
    go_end0
    exact ⟨rfl, HL.out, ((On2.of_ext (Ext.refl w).drew).trans (On2.of_ext E2.out)).trans HO2.out⟩
  · refine plS_run (v := .slice (some ⟨sz, 0, none⟩) s.length cap) rfl rfl (by have q := HRUN.out; go_simp; try rfl) HCB.out ?_; simp only [Act.put, List.setIfInBounds_toArray, List.set_cons_zero, List.set_cons_succ]
    refine plS_run (v := .slice A n c) rfl rfl (by have q := HXBB.out; go_simp; try rfl) HCB.out ?_; simp only [Act.put, List.setIfInBounds_toArray, List.set_cons_zero, List.set_cons_succ]
    refine plS_call 79 #[.slice A n c, .slice (some ⟨sz, 0, none⟩) s.length cap] rfl rfl (by go_simp) ?_
    refine HU.out.mono ?_
    rintro e w2 ⟨v, rfl, own, e2'⟩
    have e2 := EB.out.trans e2'
    obtain ⟨A2, c2, rfl, see2⟩ := Sees.of_own own
    have HC1 := Lib.hid HC.out
    have HC0 : Hid (w2.cell? ⟨fb, i, none⟩ = some (.string ⟨s.toArray⟩)) := Lib.hid (e2.cell HCW.out)
    refine ⟨_, rfl, HC0.out, ?_⟩; simp only [Act.put, List.setIfInBounds_toArray, List.set_cons_zero, List.set_cons_succ]
    clear HC
    have HC := HC0
    have HF2 := Lib.hid (e2.heap HF.out)
    have HB2 := Lib.hid (e2.heap HB.out)
    have HO2 : Hid (On2 lb lb w2 (w2.setCell ⟨lb, 0, none⟩ (.slice A2 (n + (txt s).length) c2))) := Lib.hid (On2.set w2 _ _ (.inl rfl))
    have HS2 := Lib.hid see2
    have E2 := Lib.hid e2
    clear own see2 e2
    refine plS_val (v := ?_) rfl rfl HC.out (fun w' hw' => ?_) ?_; rotate_left; (· have q : w'.cell? ⟨fb, i, none⟩ = some (.string ⟨s.toArray⟩) := hw'; go_simp; try with_reducible rfl); simp only [Act.put, List.setIfInBounds_toArray, List.set_cons_zero, List.set_cons_succ]
    refine plS_val (v := ?_) rfl rfl HC.out (fun w' hw' => ?_) ?_; rotate_left; (· have q : w'.cell? ⟨fb, i, none⟩ = some (.string ⟨s.toArray⟩) := hw'; go_simp; try with_reducible rfl); simp only [Act.put, List.setIfInBounds_toArray, List.set_cons_zero, List.set_cons_succ]
    have HC3 : Hid ((w2.setCell ⟨lb, 0, none⟩ (.slice A2 (n + (txt s).length) c2)).cell? ⟨fb, i, none⟩ = some (.string ⟨s.toArray⟩)) := Lib.hid ((World.cell?_of_block (HO2.out.block fb (Array.getElem?_eq_some_iff.1 HF2.out).1 HNE.out HNE.out)).trans HC.out)
    have HL : Hid (LaC (w2.setCell ⟨lb, 0, none⟩ (.slice A2 (n + (txt s).length) c2)) fb lb (l ++ txt s) cs) := Lib.hid ⟨HO2.out.heap HF2.out HNE.out HNE.out, HNE.out, A2, n + (txt s).length, c2, by simpa using set_blkC HB2.out 0 (.slice A2 (n + (txt s).length) c2), sees_off HS2.out HB2.out HO2.out⟩
    refine plS_void (w' := w2.setCell ⟨lb, 0, none⟩ (.slice A2 (n + (txt s).length) c2)) rfl rfl (by
      have q0 := blk_freeC HB2.out 0
      have q1 := cell_of_row w2 lb 0 _ _ _ HB2.out
      simp at q1
      go_simp
      try rfl) HC3.out ?_
    refine plS_done ?_
    go_wp2_with fail
    go_end0
    exact ⟨rfl, HL.out, ((On2.of_ext (Ext.refl w).drew).trans (On2.of_ext E2.out)).trans HO2.out⟩
theorem mY_text (v : Value) (w : World) : (Go.method 226 52 v "truchman/calls.text").run Try.prog w = .ok (78, v) w := by kernel_rfl
theorem mY_place (v : Value) (w : World) : (Go.method 226 52 v "truchman/calls.place").run Try.prog w = .ok (77, v) w := by kernel_rfl
theorem mY_number (v : Value) (w : World) : (Go.method 226 52 v "truchman/calls.number").run Try.prog w = .ok (76, v) w := by kernel_rfl
theorem mY_data (v : Value) (w : World) : (Go.method 226 52 v "truchman/calls.data").run Try.prog w = .ok (74, v) w := by kernel_rfl
theorem cY_text (args : Array Value) (w : World) : (callFunc 78 args).run Try.prog w = .ok (Next.enter 78 args) w := by kernel_rfl
theorem cY_place (args : Array Value) (w : World) : (callFunc 77 args).run Try.prog w = .ok (Next.enter 77 args) w := by kernel_rfl
theorem cY_number (args : Array Value) (w : World) : (callFunc 76 args).run Try.prog w = .ok (Next.enter 76 args) w := by kernel_rfl
theorem cY_data (args : Array Value) (w : World) : (callFunc 74 args).run Try.prog w = .ok (Next.enter 74 args) w := by kernel_rfl
theorem cY_handle (args : Array Value) (w : World) : (callFunc 75 args).run Try.prog w = .ok (Next.enter 75 args) w := by kernel_rfl
def ltr : Nat → UInt8
  | 0 => 104
  | 1 => 105
  | 2 => 110
  | 3 => 106
  | 4 => 111
  | 5 => 99
  | 6 => 115
  | 7 => 109
  | _ => 100
theorem fld_fl (k : Int) : fld k = (fl k).map ltr := by
  by_cases n1 : k = 1
  · subst n1; rfl
  by_cases n2 : k = 2
  · subst n2; rfl
  by_cases n3 : k = 3
  · subst n3; rfl
  by_cases n12 : k = 12
  · subst n12; rfl
  by_cases n13 : k = 13
  · subst n13; rfl
  by_cases n6 : k = 6
  · subst n6; rfl
  by_cases n16 : k = 16
  · subst n16; rfl
  by_cases n7 : k = 7
  · subst n7; rfl
  by_cases n8 : k = 8
  · subst n8; rfl
  by_cases n9 : k = 9
  · subst n9; rfl
  by_cases n14 : k = 14
  · subst n14; rfl
  simp only [fld, fl, n1, n2, n3, n12, n13, n6, n16, n7, n8, n9, n14, if_false, List.map_nil]
/-- What is laid of the first fields. -/
def StL (fb lb : Nat) (a : AR) (d : List UInt8) (l : List Nat) (k : Nat) (w : World) : Prop := LaC w fb lb (bytesB a d ((l.take k).map ltr)) (a.fl lb) ∧ Sees w a.dA a.dn a.dk (bs d)
theorem fl_rbyte (a : AR) (lb : Nat) (i : Nat) (x : Int) : ¬ (a.fl lb)[i]? = some (Value.int .u8 x) := by
  intro h
  have hm := Array.mem_of_getElem? h
  simp [AR.fl] at hm
theorem stl_step (fb lb : Nat) (a : AR) (d : List UInt8) (ha : a.ok) (hd : d.length ≤ 2048) (l : List Nat) (hl : l.length ≤ 4) (h8 : ∀ g ∈ l, g ≤ 8) (k g : Nat) (w : World) (hg : l[k]? = some g) (h : StL fb lb a d l k w) :
    Calls Try.prog (fmF g) #[.pointer (some ⟨fb, 0, none⟩)] w fun e w' => e = .returned (.tuple #[]) ∧ (StL fb lb a d l (k + 1) w' ∧ OnP (fun b => b = lb) w w') := by
  have hkl : k < l.length := (List.getElem?_eq_some_iff.1 hg).1
  have hgl : l[k] = g := (List.getElem?_eq_some_iff.1 hg).2
  obtain ⟨hla, hsd⟩ := h
  have hlen : (bytesB a d ((l.take k).map ltr)).length ≤ 800000 := by
    have h1 := bytesB_len ha hd ((l.take k).map ltr)
    have h2 : ((l.take k).map ltr).length ≤ 4 := by rw [List.length_map, List.length_take]; omega
    omega
  have hnx : bytesB a d ((l.take (k + 1)).map ltr) = bytesB a d ((l.take k).map ltr) ++ fieldB a d (ltr g) := by
    rw [List.take_succ_eq_append_getElem hkl, hgl, List.map_append, List.map_singleton, bytesB_snoc]
  have hc : w.cell? ⟨fb, 12, none⟩ = some (.iface 52 (.pointer (some ⟨lb, 0, none⟩))) := (cell_of_row w fb 12 _ _ _ hla.1).trans rfl
  have key : ∀ w', LaC w' fb lb (bytesB a d ((l.take (k + 1)).map ltr)) (a.fl lb) ∧ On2 lb lb w.drew w' → StL fb lb a d l (k + 1) w' ∧ OnP (fun b => b = lb) w w' := by
    rintro w' ⟨h1, h2⟩
    obtain ⟨_, _, A0, n0, c0, hb0, _⟩ := hla
    exact ⟨⟨h1, sees_off (hsd.ext (Ext.refl w).drew) (show w.drew.heap[lb]? = _ from hb0) h2⟩, (OnP.of_ext (Ext.refl w).drew).trans (OnP.of_on2 h2 rfl rfl)⟩
  have hcR : ∀ w', (StL fb lb a d l (k + 1) w' ∧ OnP (fun b => b = lb) w w') → w'.cell? ⟨fb, 12, none⟩ = some (.iface 52 (.pointer (some ⟨lb, 0, none⟩))) := fun w' h' => (cell_of_row w' fb 12 _ _ _ h'.1.1.1).trans rfl
  have hdr := hla.ext (Ext.refl w).drew
  have hsdr := hsd.ext (Ext.refl w).drew
  rw [hnx] at key
  have g8 : g ≤ 8 := h8 g (List.mem_of_getElem? hg)
  have g9 : g = 0 ∨ g = 1 ∨ g = 2 ∨ g = 3 ∨ g = 4 ∨ g = 5 ∨ g = 6 ∨ g = 7 ∨ g = 8 := by omega
  rcases g9 with rfl | rfl | rfl | rfl | rfl | rfl | rfl | rfl | rfl
  · exact fmg_0 fb lb 52 75 w _ hc mY_handle cY_handle ((lay_handle fb lb 5 (a.fl lb) a.h1 a.h2 _ _ hdr (by omega) rfl rfl ha.h1.1 ha.h1.2 ha.h2.1 ha.h2.2).mono (by rintro e w' ⟨rfl, h1, h2⟩; exact ⟨rfl, key w' ⟨by rw [List.append_assoc] at h1; exact h1, h2⟩⟩)) hcR
  · exact fmg_1 fb lb 52 75 w _ hc mY_handle cY_handle ((lay_handle fb lb 7 (a.fl lb) a.g1 a.g2 _ _ hdr (by omega) rfl rfl ha.g1.1 ha.g1.2 ha.g2.1 ha.g2.2).mono (by rintro e w' ⟨rfl, h1, h2⟩; exact ⟨rfl, key w' ⟨by rw [List.append_assoc] at h1; exact h1, h2⟩⟩)) hcR
  · exact fmg_2 fb lb 52 78 w _ hc mY_text cY_text ((lay_text fb lb 9 (a.fl lb) _ a.nm (by have := ha.nm; omega) _ hdr hlen rfl).mono (by rintro e w' ⟨rfl, h1, h2⟩; exact ⟨rfl, key w' ⟨h1, h2⟩⟩)) hcR
  · exact fmg_3 fb lb 52 78 w _ hc mY_text cY_text ((lay_text fb lb 10 (a.fl lb) _ a.n2 (by have := ha.n2; omega) _ hdr hlen rfl).mono (by rintro e w' ⟨rfl, h1, h2⟩; exact ⟨rfl, key w' ⟨h1, h2⟩⟩)) hcR
  · exact fmg_4 fb lb 52 77 w _ hc mY_place cY_place ((lay_place fb lb 1 (a.fl lb) _ a.off ha.off.1 ha.off.2 _ hdr hlen rfl).mono (by rintro e w' ⟨rfl, h1, h2⟩; exact ⟨rfl, key w' ⟨h1, h2⟩⟩)) hcR
  · exact fmg_5 fb lb 52 76 w _ hc mY_number cY_number ((lay_number fb lb 2 (a.fl lb) a.ct _ _ hdr (by omega) rfl ha.ct.1 ha.ct.2).mono (by rintro e w' ⟨rfl, h1, h2⟩; exact ⟨rfl, key w' ⟨h1, h2⟩⟩)) hcR
  · exact fmg_6 fb lb 52 76 w _ hc mY_number cY_number ((lay_number fb lb 3 (a.fl lb) a.sz _ _ hdr (by omega) rfl ha.sz.1 ha.sz.2).mono (by rintro e w' ⟨rfl, h1, h2⟩; exact ⟨rfl, key w' ⟨h1, h2⟩⟩)) hcR
  · exact fmg_7 fb lb 52 76 w _ hc mY_number cY_number ((lay_number fb lb 4 (a.fl lb) a.md _ _ hdr (by omega) rfl ha.md.1 ha.md.2).mono (by rintro e w' ⟨rfl, h1, h2⟩; exact ⟨rfl, key w' ⟨h1, h2⟩⟩)) hcR
  · exact fmg_8 fb lb 52 74 w _ hc mY_data cY_data ((lay_data fb lb 11 (a.fl lb) _ a.dA a.dn a.dk d hsdr (by have := ha.dn; omega) _ hdr hlen rfl).mono (by rintro e w' ⟨rfl, h1, h2⟩; exact ⟨rfl, key w' ⟨h1, h2⟩⟩)) hcR
end Go.Proofs.Ytpjigdfllbhknaa
