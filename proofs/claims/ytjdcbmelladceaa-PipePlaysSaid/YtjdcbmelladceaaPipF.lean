/-
  Layer 5: a new pipe: New.
-/
import Derived.Test.YtjdcbmelladceaaPipE
namespace Go.Proofs.Ytjdcbmelladceaa
open Go Go.RowKit
set_option linter.unusedVariables false
set_option linter.unusedSimpArgs false
theorem infoInt : (Try.prog.info? 3).map (fun i => (i.zero, i.size, i.bytes)) = some (some (.int .i64 0), 1, 8) := by kernel_rfl
theorem infoInt_at : ∃ j, Try.prog.info? 3 = some j ∧ j.zero = some (.int .i64 0) ∧ j.size = 1 ∧ j.bytes = 8 := by
  have := infoInt
  cases hh : Try.prog.info? 3 with
  | none => rw [hh] at this; cases this
  | some j =>
    rw [hh] at this
    simp at this
    exact ⟨j, rfl, this⟩
theorem ints_one (z : List Int) : ∀ u ∈ z.map (Value.int .i64), u.oneCell' = true := by
  intro u hu
  obtain ⟨b, _, rfl⟩ := List.mem_map.1 hu
  rfl
theorem mkch (w : World) : (Instr.makeChan 54 (.int .i64 63)).run Try.prog w = .ok (.chan (some w.heap.size)) (w.alloc (.chan 63 #[] false 0 0 false)) := by
  obtain ⟨i, hi, _, _, hb⟩ := info_partsS infoS
  simpa using Conc.run_makeChan (P := Try.prog) (w := w) Try.underlying54 hi .i64 63 (by omega) (by rw [hb]; omega)
/-- append([]int(nil), s...). -/
theorem app_ints {w : World} {A : Option Addr} {n c : Nat} {z : List Int} (h : Sees w A n c (z.map (Value.int .i64))) (hn : n ≤ 1000) :
    ∃ A' c' w', (Builtin.append_ #[22, 22] 22 #[.slice none 0 0, .slice A n c]).run Try.prog w = .ok (.slice A' n c') w' ∧ Sees w' A' n c' (z.map (Value.int .i64)) ∧ Ext w w' ∧ (∀ a, A' = some a → w.heap.size ≤ a.block ∧ a.block < w'.heap.size) := by
  obtain ⟨i0, hi, hz0, hz1, hz2⟩ := infoInt_at
  obtain ⟨v', w1, hrun, hown, hg, hat⟩ := run_append_sees (P := Try.prog) (w := w) w.heap.size 22 22 3 i0 _ 8 Try.underlying22 hi hz0 hz1 hz2 rfl (.slice none 0 0) 0 [] (World.ownsRow_nil _ _ _ _)
    A n c (z.map (Value.int .i64)) h (ints_one z) (by unfold maxLen; omega) (by omega) (Nat.le_refl _)
  rw [Nat.zero_add, List.nil_append] at hown
  obtain ⟨vA, vc, rfl, hsv⟩ := Sees.of_own hown
  exact ⟨vA, vc, w1, hrun, hsv, (Ext.refl w).grown hg (fun k hk => by cases hk), fun a ha => hown.lt a.block (by rw [ha]; rfl)⟩
def PNew (w : World) (z : List Int) (e : Ending) (w' : World) : Prop :=
  ∃ tb cb, e = .returned (.tuple #[.pointer (some ⟨tb, 0, none⟩), .int .i64 0]) ∧ Pip w' (fun k => w.heap.size ≤ k ∧ k < w'.heap.size) tb cb [] z 0 ∧ Ext w w'
theorem pnew_fin {w wx : World} {z : List Int} {As : Option Addr} {cs cb n : Nat} (hn : n = z.length) (he : Ext w wx) (hc : wx.heap[cb]? = some (.chan 63 #[] false 0 0 false)) (hcb : w.heap.size ≤ cb) (hs : Sees wx As n cs (z.map (Value.int .i64)))
    (ha : ∀ a, As = some a → w.heap.size ≤ a.block ∧ a.block < wx.heap.size ∧ ¬ a.block = cb) (hz0 : 0 < z.length) (hzb : ∀ x ∈ z, 0 ≤ x ∧ x ≤ 9223372036854775807) (hzl : z.length ≤ 1000) :
    PNew w z (.returned (.tuple #[.pointer (some ⟨wx.heap.size, 0, none⟩), .int .i64 0])) (wx.alloc (.cells #[.slice none 0 0, .chan (some cb), .int .i64 0, .slice As n cs, .int .i64 0] 56)) := by
  subst hn
  have e1 : Ext wx (wx.alloc (.cells #[.slice none 0 0, .chan (some cb), .int .i64 0, .slice As z.length cs, .int .i64 0] 56)) := (Ext.refl wx).alloc _
  have hsz : (wx.alloc (.cells #[.slice none 0 0, .chan (some cb), .int .i64 0, .slice As z.length cs, .int .i64 0] 56)).heap.size = wx.heap.size + 1 := by simp
  have hwx := he.size
  have hcl := (Array.getElem?_eq_some_iff.1 hc).1
  exact ⟨wx.heap.size, cb, rfl, ⟨⟨none, 0, 0, #[], 0, 0, As, cs, heap_alloc_new wx _, e1.heap hc, ⟨hwx, by omega⟩, ⟨hcb, by omega⟩, ⟨Sees.nil _, InF.none _ _ _ _⟩,
    ⟨hs.ext e1, fun a h1 h2 => by
      obtain ⟨g1, g2, g3⟩ := ha a h1
      exact ⟨⟨g1, by omega⟩, by omega, g3⟩⟩, ⟨rfl, fun j x hx => by simp at hx⟩⟩, fun x hx => by simp at hx, by simp, hz0, hzb, hzl⟩, he.trans e1⟩
set_option maxRecDepth 20000 in
theorem pnew_ok (A : Option Addr) (n c : Nat) (z : List Int) (w : World) (h : Sees w A n c (z.map (Value.int .i64))) (hz0 : 0 < z.length) (hg : (okB z && smB z) = true) (hzb : ∀ x ∈ z, 0 ≤ x ∧ x ≤ 9223372036854775807) (hzl : z.length ≤ 1000) :
    Calls Try.prog 10 #[.slice A n c] w (PNew w z) := by
  have hlen := h.len
  rw [List.length_map] at hlen
  have hn0 : ((n : Int) == 0) = false := by simpa using (show ¬ n = 0 by omega)
  have hn1 : n ≤ 1000 := by omega
  have HLEN := Lib.hid hlen
  have HS := Lib.hid h
  have HG := Lib.hid hg
  have HZ1 := hz0
  have HZ2 := hzb
  have HZ3 := hzl
  have HGO := Lib.hid (goes_any A n c z w h fun x hx => by have := hzb x hx; omega)
  rw [hg] at HGO
  clear h hg hlen hz0 hzb hzl
  go_enter Try.func10, Try.ntmps10
  go_wp2_with fail
  refine (HGO.out).mono ?_
  rintro e w1 ⟨rfl, rfl⟩
  go_wp2_with fail
  refine wp_region_pl (.free 1 (.fork 0 2 (.one 2 (.free 3 (.one 4 (.free 5 (.free 6 .nil))))) (.one 0 (.free 3 (.one 4 (.free 5 (.free 6 .nil))))))) (by kernel_rfl) (by kernel_rfl) (by kernel_rfl) (by kernel_rfl) ?_
  obtain ⟨wd, hwd⟩ : ∃ wd, w.drew = wd := ⟨_, rfl⟩
  have ed : Ext w wd := by rw [← hwd]; exact (Ext.refl _).drew
  rw [hwd]
  clear hwd
  iterate 1 (refine pl_val (v := ?_) rfl rfl (fun w' hw' => ?_) ?_; rotate_left; (· skip; go_simp; try with_reducible rfl); simp only [Act.put, List.setIfInBounds_toArray, List.set_cons_zero, List.set_cons_succ])
  refine pl_fork ?_ ?_
  · have E1 := Lib.hid ((Ext.refl w).trans ed)
    have ea : Ext wd (wd.alloc (.chan 63 #[] false 0 0 false)) := (Ext.refl wd).alloc _
    refine pl_run (w' := wd.alloc (.chan 63 #[] false 0 0 false)) (.chan (some wd.heap.size)) rfl rfl (by have hm := mkch; go_simp; try rfl) ea ?_
    simp only [Act.put, List.setIfInBounds_toArray, List.set_cons_zero, List.set_cons_succ]
    obtain ⟨A2, c2, w2, hrun2, hs2, e2, hb2⟩ := app_ints ((HS.out.ext ed).ext ea) (by omega)
    have hchan := e2.heap (heap_alloc_new wd (.chan 63 #[] false 0 0 false))
    refine pl_run (w' := w2) (.slice A2 n c2) rfl rfl (exec_appP (.const (.slice none 0 0)) (.tmp 12) 22 rfl _ _ rfl rfl _ _ hrun2) e2 ?_
    simp only [Act.put, List.setIfInBounds_toArray, List.set_cons_zero, List.set_cons_succ]
    iterate 1 (refine pl_val (v := ?_) rfl rfl (fun w' hw' => ?_) ?_; rotate_left; (· skip; go_simp; try with_reducible rfl); simp only [Act.put, List.setIfInBounds_toArray, List.set_cons_zero, List.set_cons_succ])
    refine pl_run (w' := w2.alloc (.cells #[.slice none 0 0, .chan (some wd.heap.size), .int .i64 0, .slice A2 n c2, .int .i64 0] 56)) (.pointer (some ⟨w2.heap.size, 0, none⟩)) rfl rfl (by go_simp; try rfl) ((Ext.refl _).alloc _) ?_
    simp only [Act.put, List.setIfInBounds_toArray, List.set_cons_zero, List.set_cons_succ]
    iterate 2 (refine pl_val (v := ?_) rfl rfl (fun w' hw' => ?_) ?_; rotate_left; (· skip; go_simp; try with_reducible rfl); simp only [Act.put, List.setIfInBounds_toArray, List.set_cons_zero, List.set_cons_succ])
    refine pl_done ?_
    have HFIN := Lib.hid (pnew_fin (w := w) (wx := w2) (z := z) (As := A2) (cs := c2) (cb := wd.heap.size) HLEN.out.symm ((E1.out.trans ea).trans e2) (hchan) (by have := E1.out.size; omega) (hs2) (fun a ha => by have := hb2 a ha; have := E1.out.size; simp at *; omega) HZ1 HZ2 HZ3)
    clear hrun2 hs2 e2 hb2 hchan ea ed
    go_wp2
    go_ret2
    exact HFIN.out
  · have E1 := Lib.hid ((Ext.refl w).trans ed)
    obtain ⟨A2, c2, w2, hrun2, hs2, e2, hb2⟩ := app_ints (HS.out.ext ed) (by omega)
    refine pl_run (w' := w2) (.slice A2 n c2) rfl rfl (exec_appP (.const (.slice none 0 0)) (.tmp 12) 22 rfl _ _ rfl rfl _ _ hrun2) e2 ?_
    simp only [Act.put, List.setIfInBounds_toArray, List.set_cons_zero, List.set_cons_succ]
    have ea : Ext w2 (w2.alloc (.chan 63 #[] false 0 0 false)) := (Ext.refl w2).alloc _
    refine pl_run (w' := w2.alloc (.chan 63 #[] false 0 0 false)) (.chan (some w2.heap.size)) rfl rfl (by have hm := mkch; go_simp; try rfl) ea ?_
    simp only [Act.put, List.setIfInBounds_toArray, List.set_cons_zero, List.set_cons_succ]
    have hchan := heap_alloc_new w2 (.chan 63 #[] false 0 0 false)
    have hsx := hs2.ext ea
    have hcbx : wd.heap.size ≤ w2.heap.size := e2.size
    have hbx : ∀ a, A2 = some a → w.heap.size ≤ a.block ∧ a.block < (w2.alloc (.chan 63 #[] false 0 0 false)).heap.size ∧ ¬ a.block = w2.heap.size := fun a ha => by have := hb2 a ha; have := E1.out.size; simp; omega
    obtain ⟨w3, hw3⟩ : ∃ w3, w2.alloc (.chan 63 #[] false 0 0 false) = w3 := ⟨_, rfl⟩
    have E3 := Lib.hid ((E1.out.trans e2).trans ea)
    rw [hw3] at hchan hsx hbx E3 ⊢
    clear hw3 ea hrun2 hs2
    iterate 1 (refine pl_val (v := ?_) rfl rfl (fun w' hw' => ?_) ?_; rotate_left; (· skip; go_simp; try with_reducible rfl); simp only [Act.put, List.setIfInBounds_toArray, List.set_cons_zero, List.set_cons_succ])
    refine pl_run (w' := w3.alloc (.cells #[.slice none 0 0, .chan (some w2.heap.size), .int .i64 0, .slice A2 n c2, .int .i64 0] 56)) (.pointer (some ⟨w3.heap.size, 0, none⟩)) rfl rfl (by go_simp; try rfl) ((Ext.refl _).alloc _) ?_
    simp only [Act.put, List.setIfInBounds_toArray, List.set_cons_zero, List.set_cons_succ]
    iterate 2 (refine pl_val (v := ?_) rfl rfl (fun w' hw' => ?_) ?_; rotate_left; (· skip; go_simp; try with_reducible rfl); simp only [Act.put, List.setIfInBounds_toArray, List.set_cons_zero, List.set_cons_succ])
    refine pl_done ?_
    have HFIN := Lib.hid (pnew_fin (w := w) (wx := w3) (z := z) (As := A2) (cs := c2) (cb := w2.heap.size) HLEN.out.symm (E3.out) (hchan) (by have := E1.out.size; omega) (hsx) (hbx) HZ1 HZ2 HZ3)
    clear e2 hb2 hchan ed hsx hcbx hbx
    go_wp2
    go_ret2
    exact HFIN.out
theorem pnew_bad (A : Option Addr) (n c : Nat) (z : List Int) (w : World) (h : Sees w A n c (z.map (Value.int .i64))) (hz0 : 0 < z.length) (hg : (okB z && smB z) = false) (hzb : ∀ x ∈ z, -9223372036854775808 ≤ x ∧ x ≤ 9223372036854775807) :
    Calls Try.prog 10 #[.slice A n c] w fun e w' => e = .returned (.tuple #[.pointer none, .int .i64 1]) ∧ w = w' := by
  have hlen := h.len
  rw [List.length_map] at hlen
  have hn0 : ((n : Int) == 0) = false := by simpa using (show ¬ n = 0 by omega)
  have HGO := Lib.hid (goes_any A n c z w h hzb)
  rw [hg] at HGO
  clear h hg hlen hz0 hzb
  go_enter Try.func10, Try.ntmps10
  go_wp2_with fail
  refine (HGO.out).mono ?_
  rintro e w1 ⟨rfl, rfl⟩
  go_wp2
  go_ret2
  exact ⟨rfl, rfl⟩
set_option maxRecDepth 20000 in
theorem pnew_default (A : Option Addr) (c : Nat) (w : World) :
    Calls Try.prog 10 #[.slice A 0 c] w (PNew w [4096]) := by
  have hs0 : Sees (w.alloc (.cells #[.int .i64 4096] 3)) (some ⟨w.heap.size, 0, none⟩) 1 1 (([4096] : List Int).map (Value.int .i64)) := by simpa using sees_new w 3 #[.int .i64 4096] (by simp [maxLen])
  have HS := Lib.hid hs0
  have HLEN : Hid (([4096] : List Int).length = 1) := Lib.hid rfl
  have HZ1 : 0 < ([4096] : List Int).length := by decide
  have HZ2 : ∀ x ∈ ([4096] : List Int), 0 ≤ x ∧ x ≤ 9223372036854775807 := by decide
  have HZ3 : ([4096] : List Int).length ≤ 1000 := by decide
  have HGO := Lib.hid (goes_any (some ⟨w.heap.size, 0, none⟩) 1 1 [4096] _ hs0 (by decide))
  rw [show (okB [4096] && smB [4096]) = true from by decide] at HGO
  have HE0 : Hid (Ext w (w.alloc (.cells #[.int .i64 4096] 3))) := Lib.hid ((Ext.refl w).alloc _)
  obtain ⟨wz, hwz⟩ : ∃ wz, w.alloc (.cells #[.int .i64 4096] 3) = wz := ⟨_, rfl⟩
  rw [hwz] at HS HGO HE0
  clear hs0
  go_enter Try.func10, Try.ntmps10
  go_wp2_with fail
  clear hwz
  refine (HGO.out).mono ?_
  rintro e w1 ⟨rfl, rfl⟩
  go_wp2_with fail
  refine wp_region_pl (.free 1 (.fork 0 2 (.one 2 (.free 3 (.one 4 (.free 5 (.free 6 .nil))))) (.one 0 (.free 3 (.one 4 (.free 5 (.free 6 .nil))))))) (by kernel_rfl) (by kernel_rfl) (by kernel_rfl) (by kernel_rfl) ?_
  obtain ⟨wd, hwd⟩ : ∃ wd, wz.drew = wd := ⟨_, rfl⟩
  have ed : Ext wz wd := by rw [← hwd]; exact (Ext.refl _).drew
  rw [hwd]
  clear hwd
  iterate 1 (refine pl_val (v := ?_) rfl rfl (fun w' hw' => ?_) ?_; rotate_left; (· skip; go_simp; try with_reducible rfl); simp only [Act.put, List.setIfInBounds_toArray, List.set_cons_zero, List.set_cons_succ])
  refine pl_fork ?_ ?_
  · have E1 := Lib.hid ((HE0.out).trans ed)
    have ea : Ext wd (wd.alloc (.chan 63 #[] false 0 0 false)) := (Ext.refl wd).alloc _
    refine pl_run (w' := wd.alloc (.chan 63 #[] false 0 0 false)) (.chan (some wd.heap.size)) rfl rfl (by have hm := mkch; go_simp; try rfl) ea ?_
    simp only [Act.put, List.setIfInBounds_toArray, List.set_cons_zero, List.set_cons_succ]
    obtain ⟨A2, c2, w2, hrun2, hs2, e2, hb2⟩ := app_ints ((HS.out.ext ed).ext ea) (by omega)
    have hchan := e2.heap (heap_alloc_new wd (.chan 63 #[] false 0 0 false))
    refine pl_run (w' := w2) (.slice A2 1 c2) rfl rfl (exec_appP (.const (.slice none 0 0)) (.tmp 12) 22 rfl _ _ rfl rfl _ _ hrun2) e2 ?_
    simp only [Act.put, List.setIfInBounds_toArray, List.set_cons_zero, List.set_cons_succ]
    iterate 1 (refine pl_val (v := ?_) rfl rfl (fun w' hw' => ?_) ?_; rotate_left; (· skip; go_simp; try with_reducible rfl); simp only [Act.put, List.setIfInBounds_toArray, List.set_cons_zero, List.set_cons_succ])
    refine pl_run (w' := w2.alloc (.cells #[.slice none 0 0, .chan (some wd.heap.size), .int .i64 0, .slice A2 1 c2, .int .i64 0] 56)) (.pointer (some ⟨w2.heap.size, 0, none⟩)) rfl rfl (by go_simp; try rfl) ((Ext.refl _).alloc _) ?_
    simp only [Act.put, List.setIfInBounds_toArray, List.set_cons_zero, List.set_cons_succ]
    iterate 2 (refine pl_val (v := ?_) rfl rfl (fun w' hw' => ?_) ?_; rotate_left; (· skip; go_simp; try with_reducible rfl); simp only [Act.put, List.setIfInBounds_toArray, List.set_cons_zero, List.set_cons_succ])
    refine pl_done ?_
    have HFIN := Lib.hid (pnew_fin (w := w) (wx := w2) (z := [4096]) (As := A2) (cs := c2) (cb := wd.heap.size) rfl ((E1.out.trans ea).trans e2) (hchan) (by have := E1.out.size; omega) (hs2) (fun a ha => by have := hb2 a ha; have := E1.out.size; simp at *; omega) HZ1 HZ2 HZ3)
    clear hrun2 hs2 e2 hb2 hchan ea ed
    go_wp2
    go_ret2
    exact HFIN.out
  · have E1 := Lib.hid ((HE0.out).trans ed)
    obtain ⟨A2, c2, w2, hrun2, hs2, e2, hb2⟩ := app_ints (HS.out.ext ed) (by omega)
    refine pl_run (w' := w2) (.slice A2 1 c2) rfl rfl (exec_appP (.const (.slice none 0 0)) (.tmp 12) 22 rfl _ _ rfl rfl _ _ hrun2) e2 ?_
    simp only [Act.put, List.setIfInBounds_toArray, List.set_cons_zero, List.set_cons_succ]
    have ea : Ext w2 (w2.alloc (.chan 63 #[] false 0 0 false)) := (Ext.refl w2).alloc _
    refine pl_run (w' := w2.alloc (.chan 63 #[] false 0 0 false)) (.chan (some w2.heap.size)) rfl rfl (by have hm := mkch; go_simp; try rfl) ea ?_
    simp only [Act.put, List.setIfInBounds_toArray, List.set_cons_zero, List.set_cons_succ]
    have hchan := heap_alloc_new w2 (.chan 63 #[] false 0 0 false)
    have hsx := hs2.ext ea
    have hcbx : wd.heap.size ≤ w2.heap.size := e2.size
    have hbx : ∀ a, A2 = some a → w.heap.size ≤ a.block ∧ a.block < (w2.alloc (.chan 63 #[] false 0 0 false)).heap.size ∧ ¬ a.block = w2.heap.size := fun a ha => by have := hb2 a ha; have := E1.out.size; simp; omega
    obtain ⟨w3, hw3⟩ : ∃ w3, w2.alloc (.chan 63 #[] false 0 0 false) = w3 := ⟨_, rfl⟩
    have E3 := Lib.hid ((E1.out.trans e2).trans ea)
    rw [hw3] at hchan hsx hbx E3 ⊢
    clear hw3 ea hrun2 hs2
    iterate 1 (refine pl_val (v := ?_) rfl rfl (fun w' hw' => ?_) ?_; rotate_left; (· skip; go_simp; try with_reducible rfl); simp only [Act.put, List.setIfInBounds_toArray, List.set_cons_zero, List.set_cons_succ])
    refine pl_run (w' := w3.alloc (.cells #[.slice none 0 0, .chan (some w2.heap.size), .int .i64 0, .slice A2 1 c2, .int .i64 0] 56)) (.pointer (some ⟨w3.heap.size, 0, none⟩)) rfl rfl (by go_simp; try rfl) ((Ext.refl _).alloc _) ?_
    simp only [Act.put, List.setIfInBounds_toArray, List.set_cons_zero, List.set_cons_succ]
    iterate 2 (refine pl_val (v := ?_) rfl rfl (fun w' hw' => ?_) ?_; rotate_left; (· skip; go_simp; try with_reducible rfl); simp only [Act.put, List.setIfInBounds_toArray, List.set_cons_zero, List.set_cons_succ])
    refine pl_done ?_
    have HFIN := Lib.hid (pnew_fin (w := w) (wx := w3) (z := [4096]) (As := A2) (cs := c2) (cb := w2.heap.size) rfl (E3.out) (hchan) (by have := E1.out.size; omega) (hsx) (hbx) HZ1 HZ2 HZ3)
    clear e2 hb2 hchan ed hsx hcbx hbx
    go_wp2
    go_ret2
    exact HFIN.out
end Go.Proofs.Ytjdcbmelladceaa
