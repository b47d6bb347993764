/-
  Layer 14: what may be, with one field another one.
-/
import Derived.Test.YtpjigdfllbhknaaCalP
namespace Go.Proofs.Ytpjigdfllbhknaa
open Go Go.RowKit
set_option linter.unusedVariables false
set_option linter.unusedSimpArgs false
/-- What odd leaves. -/
def odA (G : AR) (n : Int) (s : List UInt8) : Nat → AR
  | 0 => { G with pr := n }
  | 1 => { G with h1 := n }
  | 2 => { G with h2 := n }
  | 3 => { G with g2 := n }
  | 4 => { G with sz := n }
  | 5 => { G with ct := n }
  | 6 => { G with md := n }
  | 7 => { G with off := n }
  | 8 => { G with nm := s.take 70 }
  | _ => { G with n2 := s.take 70 }
theorem ownA_rng {a : AR} (h : a.rng) : (ownA a).rng := by
  have z : I64 0 := ⟨by omega, by omega⟩
  obtain ⟨h0, h1, h2, h3, h4, h5, h6, h7, h8, h9, h10⟩ := h
  constructor <;> simp only [ownA] <;> (try split) <;> first | assumption | exact Nat.zero_le _ | simp
theorem aroundZ_rng (x m : Int) (h : 0 < m) (hm : m ≤ 9223372036854775807) : I64 (aroundZ x m) := by
  have := aroundZ_bound x m h
  exact ⟨by omega, by omega⟩
theorem mkA_rng {k : Int} {a : AR} {A : Option Addr} {n c : Nat} (hk : I64 k) (h : a.rng) : (mkA k a A n c).rng := by
  have l : ∀ x, I64 (lw x) := fun x => aroundZ_rng x _ (by omega) (by omega)
  obtain ⟨h0, h1, h2, h3, h4, h5, h6, h7, h8, h9, h10⟩ := h
  exact ⟨hk, aroundZ_rng _ _ (by omega) (by omega), l _, l _, l _, l _, l _, l _, l _, by simp [mkA]; omega, by simp [mkA]; omega⟩
theorem gk_rng (x : Int) : I64 (gk x) := by
  have h := gk_mem x
  unfold gpL at h
  simp at h
  unfold I64
  omega
theorem gdA_rng {a : AR} {A : Option Addr} {n c : Nat} (h : a.rng) : (gdA a A n c).rng := ownA_rng (mkA_rng (gk_rng _) h)
theorem odA_rng {G : AR} {n : Int} {s : List UInt8} (h : G.rng) (hn : I64 n) (hs : s.length ≤ 9223372036854775807) (m : Nat) : (odA G n s m).rng := by
  obtain ⟨h0, h1, h2, h3, h4, h5, h6, h7, h8, h9, h10⟩ := h
  have hs2 : (s.take 70).length ≤ 9223372036854775807 := by rw [List.length_take]; omega
  rcases m with _ | _ | _ | _ | _ | _ | _ | _ | _ | m <;> constructor <;> simp only [odA] <;> assumption
theorem odA_data (G : AR) (n : Int) (s : List UInt8) (m : Nat) : (odA G n s m).dA = G.dA ∧ (odA G n s m).dn = G.dn ∧ (odA G n s m).dk = G.dk := by
  rcases m with _ | _ | _ | _ | _ | _ | _ | _ | _ | m <;> exact ⟨rfl, rfl, rfl⟩
/-- The data that a procedure has. -/
def ownL (k : Int) (l : List UInt8) : List UInt8 := if hasB (fld k) 100 then l else []
theorem sees_ownA {w : World} {a : AR} {l : List UInt8} (h : Sees w a.dA a.dn a.dk (bs l)) : Sees w (ownA a).dA (ownA a).dn (ownA a).dk (bs (ownL a.pr l)) := by
  unfold ownL
  simp only [ownA]
  by_cases hb : hasB (fld a.pr) 100 = true
  · simp only [hb, if_true]; exact h
  · simp only [hb, if_false]; exact Sees.nil w
def gdL (a : AR) (l : List UInt8) : List UInt8 := ownL (gk a.pr) (l.take 30)
theorem sees_gdA {w : World} {a : AR} {A : Option Addr} {n c : Nat} {l : List UInt8} (h : Sees w A n c (bs (l.take 30))) : Sees w (gdA a A n c).dA (gdA a A n c).dn (gdA a A n c).dk (bs (gdL a l)) :=
  sees_ownA (a := mkA (gk a.pr) a A n c) h
set_option maxRecDepth 20000 in
set_option maxHeartbeats 4000000 in
theorem odd14 (a : AR) (l : List UInt8) (wh n : Int) (s : List UInt8) (w : World) (hr0 : a.rng) (hs : Sees w a.dA a.dn a.dk (bs l)) (hw : I64 wh) (hsl : s.length ≤ 9223372036854775807) :
    Calls Try.prog 13 #[.agg a.cs, .int .i64 wh, .int .i64 n, .string ⟨s.toArray⟩] w fun e w' => ∃ A m c, e = .returned (.agg (odA (gdA a A m c) n s (aroundZ wh 10).toNat).cs) ∧ Sees w' (gdA a A m c).dA (gdA a A m c).dn (gdA a A m c).dk (bs (gdL a l)) ∧ Ext w w' := by
  have hr := Lib.hid hr0
  obtain ⟨ab, hab⟩ : ∃ ab, w.heap.size = ab := ⟨_, rfl⟩
  obtain ⟨w2, hw2⟩ : ∃ w2, (w.alloc (.cells a.cs 26)).alloc (.cells #[.int .i64 0, .int .i64 0, .int .i64 0, .int .i64 0, .int .i64 0, .int .i64 0, .int .i64 0, .int .i64 0, .int .i64 0, .string ⟨#[]⟩, .string ⟨#[]⟩, .slice none 0 0] 26) = w2 := ⟨_, rfl⟩
  have e2 : Ext w w2 := by rw [← hw2]; exact ((Ext.refl w).alloc _).alloc _
  have hb : w2.heap[ab]? = some (.cells a.cs 26 (0, 0)) := by rw [← hw2, ← hab]; exact ((Ext.refl _).alloc _).heap (heap_alloc_new w _)
  have hz : w2.heap[ab + 1]? = some (.cells #[.int .i64 0, .int .i64 0, .int .i64 0, .int .i64 0, .int .i64 0, .int .i64 0, .int .i64 0, .int .i64 0, .int .i64 0, .string ⟨#[]⟩, .string ⟨#[]⟩, .slice none 0 0] 26 (0, 0)) := by rw [← hw2, ← hab]; exact heap_alloc2_new w _ _
  have hlt := (Array.getElem?_eq_some_iff.1 hz).1
  have HSD := Lib.hid (hs.ext e2)
  have HB := Lib.hid hb
  have HZ := Lib.hid hz
  have E2 := Lib.hid e2
  have HI := Lib.hid (fun b : AR => arg_info b)
  have HU := Lib.hid (fun b : AR => AR.one b)
  have HR := Lib.hid (aroundZ_bound wh 10 (by omega))
  have HW := Lib.hid hw
  have HSL := Lib.hid hsl
  clear hb hz e2 hs hr0 hw hsl
  go_enter Try.func13, Try.ntmps13
  go_wp2_with (first | (with_reducible refine wpList_load_row rfl 26 (.tmp 4) rfl ab rfl _ _ _ _ HB.out Try.underlying26 rfl (HI.out _) ?_) | fail)
  refine (good14 a l _ hr.out HSD.out).mono ?_
  rintro e w3 ⟨A, m, c, rfl, see, e3⟩
  obtain ⟨G, hG⟩ : ∃ G, gdA a A m c = G := ⟨_, rfl⟩
  have hsg : Sees w3 G.dA G.dn G.dk (bs (gdL a l)) := by rw [← hG]; exact sees_gdA see
  have HGG := Lib.hid hG
  rw [hG]
  obtain ⟨xb, hxb⟩ : ∃ xb, w3.heap.size = xb := ⟨_, rfl⟩
  have hx9 := e3.size
  have HZ3 := Lib.hid (e3.heap HZ.out)
  have HXA : Hid ((w3.alloc (.cells #[.int .i64 0, .int .i64 0, .int .i64 0, .int .i64 0, .int .i64 0, .int .i64 0, .int .i64 0, .int .i64 0, .int .i64 0, .string ⟨#[]⟩, .string ⟨#[]⟩, .slice none 0 0] 26)).heap[xb]? = some (.cells #[.int .i64 0, .int .i64 0, .int .i64 0, .int .i64 0, .int .i64 0, .int .i64 0, .int .i64 0, .int .i64 0, .int .i64 0, .string ⟨#[]⟩, .string ⟨#[]⟩, .slice none 0 0] 26 (0, 0))) := Lib.hid (by rw [← hxb]; exact heap_alloc_new _ _)
  obtain ⟨w4, hw4⟩ : ∃ w4, (w3.alloc (.cells #[.int .i64 0, .int .i64 0, .int .i64 0, .int .i64 0, .int .i64 0, .int .i64 0, .int .i64 0, .int .i64 0, .int .i64 0, .string ⟨#[]⟩, .string ⟨#[]⟩, .slice none 0 0] 26)).setRow xb G.cs = w4 := ⟨_, rfl⟩
  have E34 : Hid (Ext w3 w4) := Lib.hid (by rw [← hw4]; exact below_setRow ((Ext.refl w3).alloc _) (by omega) _)
  have HX4 : Hid (w4.heap[xb]? = some (.cells G.cs 26 (0, 0))) := Lib.hid (by rw [← hw4]; exact setRow_heap _ xb _ _ _ _ HXA.out)
  have HZ4 := Lib.hid (E34.out.heap HZ3.out)
  have HS4 := Lib.hid (hsg.ext E34.out)
  have E4 := Lib.hid ((E2.out.trans e3).trans E34.out)
  have hne : ¬ ab + 1 = xb := by omega
  have hsz : w.heap.size ≤ ab + 1 := by omega
  have hsz2 : w.heap.size ≤ xb := by omega
  clear see e3 hsg hG hx9
  go_wp2_with (first | (with_reducible refine wpList_store_row rfl 26 (.tmp 9) (.tmp 11) rfl xb _ rfl rfl _ _ HXA.out (HI.out _) rfl (HU.out _) ?_) | fail)
  refine (around_any wh 10 _ HW.out.1 HW.out.2 (by omega) (by omega)).mono ?_
  rintro e w5 ⟨rfl, rfl⟩
  obtain ⟨z, hz, hz9⟩ : ∃ z : Nat, aroundZ wh 10 = z ∧ z < 10 := ⟨(aroundZ wh 10).toNat, by have := HR.out; omega, by have := HR.out; omega⟩
  rw [hz]
  have hz3 : z = 0 ∨ z = 1 ∨ z = 2 ∨ z = 3 ∨ z = 4 ∨ z = 5 ∨ z = 6 ∨ z = 7 ∨ z = 8 ∨ z = 9 := by omega
  have HZ5 := Lib.hid hz
  clear hz
  rcases hz3 with rfl | rfl | rfl | rfl | rfl | rfl | rfl | rfl | rfl | rfl
  · have x1 : ∃ o, w4.cell? ⟨xb, 0, none⟩ = some o := ⟨_, (cell_of_row _ xb 0 _ _ _ HX4.out).trans rfl⟩
    obtain ⟨o1, x1⟩ := x1
    have f1 := blk_freeC HX4.out 0
    have HO : Hid (On2 xb xb w4 (w4.setCell ⟨xb, 0, none⟩ (.int .i64 n))) := Lib.hid (On2.set _ _ _ (.inl rfl))
    have HX6 : Hid ((w4.setCell ⟨xb, 0, none⟩ (.int .i64 n)).heap[xb]? = some (.cells (odA G n s 0).cs 26 (0, 0))) := Lib.hid (set_blkC HX4.out 0 _)
    have HZ6 := Lib.hid (HO.out.heap HZ4.out hne hne)
    have E6 := Lib.hid (HO.out.ext E4.out hsz2 hsz2)
    have S6 := Lib.hid (sees_offB HS4.out HX4.out (AR.noB _) HO.out)
    have HG := Lib.hid (setRow_heap _ (ab + 1) _ (odA G n s 0).cs _ _ HZ6.out)
    have EG := Lib.hid (below_setRow E6.out hsz (odA G n s 0).cs)
    have SG : Hid (Sees (((w4.setCell ⟨xb, 0, none⟩ (.int .i64 n))).setRow (ab + 1) (odA G n s 0).cs) G.dA G.dn G.dk (bs (gdL a l))) := Lib.hid (sees_offB S6.out HZ6.out (fun i x h => by have hm := Array.mem_of_getElem? h; simp at hm) ⟨rfl, rfl, rfl, by simp [World.setRow], fun i hi h1 h2 => setRow_other _ _ _ _ h1⟩)
    go_wp2_with (first | (with_reducible refine wpList_load_row rfl 26 (.tmp 9) rfl xb rfl _ _ _ _ HX6.out Try.underlying26 rfl (HI.out _) ?_) | (with_reducible refine wpList_store_row rfl 26 (.tmp 8) (.tmp 57) rfl (ab + 1) _ rfl rfl _ _ HZ6.out (HI.out _) rfl (HU.out _) ?_) | fail)
    refine bodyPost_ret (results_cell_row rfl _ _ (ab + 1) _ _ (0, 0) _ rfl HG.out Try.underlying26 rfl (HI.out _)) rfl ?_
    exact ⟨A, m, c, by rw [HZ5.out, HGG.out]; rfl, by rw [HGG.out]; exact SG.out, EG.out⟩
  · have x1 : ∃ o, w4.cell? ⟨xb, 5, none⟩ = some o := ⟨_, (cell_of_row _ xb 5 _ _ _ HX4.out).trans rfl⟩
    obtain ⟨o1, x1⟩ := x1
    have f1 := blk_freeC HX4.out 5
    have HO : Hid (On2 xb xb w4 (w4.setCell ⟨xb, 5, none⟩ (.int .i64 n))) := Lib.hid (On2.set _ _ _ (.inl rfl))
    have HX6 : Hid ((w4.setCell ⟨xb, 5, none⟩ (.int .i64 n)).heap[xb]? = some (.cells (odA G n s 1).cs 26 (0, 0))) := Lib.hid (set_blkC HX4.out 5 _)
    have HZ6 := Lib.hid (HO.out.heap HZ4.out hne hne)
    have E6 := Lib.hid (HO.out.ext E4.out hsz2 hsz2)
    have S6 := Lib.hid (sees_offB HS4.out HX4.out (AR.noB _) HO.out)
    have HG := Lib.hid (setRow_heap _ (ab + 1) _ (odA G n s 1).cs _ _ HZ6.out)
    have EG := Lib.hid (below_setRow E6.out hsz (odA G n s 1).cs)
    have SG : Hid (Sees (((w4.setCell ⟨xb, 5, none⟩ (.int .i64 n))).setRow (ab + 1) (odA G n s 1).cs) G.dA G.dn G.dk (bs (gdL a l))) := Lib.hid (sees_offB S6.out HZ6.out (fun i x h => by have hm := Array.mem_of_getElem? h; simp at hm) ⟨rfl, rfl, rfl, by simp [World.setRow], fun i hi h1 h2 => setRow_other _ _ _ _ h1⟩)
    go_wp2_with (first | (with_reducible refine wpList_load_row rfl 26 (.tmp 9) rfl xb rfl _ _ _ _ HX6.out Try.underlying26 rfl (HI.out _) ?_) | (with_reducible refine wpList_store_row rfl 26 (.tmp 8) (.tmp 57) rfl (ab + 1) _ rfl rfl _ _ HZ6.out (HI.out _) rfl (HU.out _) ?_) | fail)
    refine bodyPost_ret (results_cell_row rfl _ _ (ab + 1) _ _ (0, 0) _ rfl HG.out Try.underlying26 rfl (HI.out _)) rfl ?_
    exact ⟨A, m, c, by rw [HZ5.out, HGG.out]; rfl, by rw [HGG.out]; exact SG.out, EG.out⟩
  · have x1 : ∃ o, w4.cell? ⟨xb, 6, none⟩ = some o := ⟨_, (cell_of_row _ xb 6 _ _ _ HX4.out).trans rfl⟩
    obtain ⟨o1, x1⟩ := x1
    have f1 := blk_freeC HX4.out 6
    have HO : Hid (On2 xb xb w4 (w4.setCell ⟨xb, 6, none⟩ (.int .i64 n))) := Lib.hid (On2.set _ _ _ (.inl rfl))
    have HX6 : Hid ((w4.setCell ⟨xb, 6, none⟩ (.int .i64 n)).heap[xb]? = some (.cells (odA G n s 2).cs 26 (0, 0))) := Lib.hid (set_blkC HX4.out 6 _)
    have HZ6 := Lib.hid (HO.out.heap HZ4.out hne hne)
    have E6 := Lib.hid (HO.out.ext E4.out hsz2 hsz2)
    have S6 := Lib.hid (sees_offB HS4.out HX4.out (AR.noB _) HO.out)
    have HG := Lib.hid (setRow_heap _ (ab + 1) _ (odA G n s 2).cs _ _ HZ6.out)
    have EG := Lib.hid (below_setRow E6.out hsz (odA G n s 2).cs)
    have SG : Hid (Sees (((w4.setCell ⟨xb, 6, none⟩ (.int .i64 n))).setRow (ab + 1) (odA G n s 2).cs) G.dA G.dn G.dk (bs (gdL a l))) := Lib.hid (sees_offB S6.out HZ6.out (fun i x h => by have hm := Array.mem_of_getElem? h; simp at hm) ⟨rfl, rfl, rfl, by simp [World.setRow], fun i hi h1 h2 => setRow_other _ _ _ _ h1⟩)
    go_wp2_with (first | (with_reducible refine wpList_load_row rfl 26 (.tmp 9) rfl xb rfl _ _ _ _ HX6.out Try.underlying26 rfl (HI.out _) ?_) | (with_reducible refine wpList_store_row rfl 26 (.tmp 8) (.tmp 57) rfl (ab + 1) _ rfl rfl _ _ HZ6.out (HI.out _) rfl (HU.out _) ?_) | fail)
    refine bodyPost_ret (results_cell_row rfl _ _ (ab + 1) _ _ (0, 0) _ rfl HG.out Try.underlying26 rfl (HI.out _)) rfl ?_
    exact ⟨A, m, c, by rw [HZ5.out, HGG.out]; rfl, by rw [HGG.out]; exact SG.out, EG.out⟩
  · have x1 : ∃ o, w4.cell? ⟨xb, 8, none⟩ = some o := ⟨_, (cell_of_row _ xb 8 _ _ _ HX4.out).trans rfl⟩
    obtain ⟨o1, x1⟩ := x1
    have f1 := blk_freeC HX4.out 8
    have HO : Hid (On2 xb xb w4 (w4.setCell ⟨xb, 8, none⟩ (.int .i64 n))) := Lib.hid (On2.set _ _ _ (.inl rfl))
    have HX6 : Hid ((w4.setCell ⟨xb, 8, none⟩ (.int .i64 n)).heap[xb]? = some (.cells (odA G n s 3).cs 26 (0, 0))) := Lib.hid (set_blkC HX4.out 8 _)
    have HZ6 := Lib.hid (HO.out.heap HZ4.out hne hne)
    have E6 := Lib.hid (HO.out.ext E4.out hsz2 hsz2)
    have S6 := Lib.hid (sees_offB HS4.out HX4.out (AR.noB _) HO.out)
    have HG := Lib.hid (setRow_heap _ (ab + 1) _ (odA G n s 3).cs _ _ HZ6.out)
    have EG := Lib.hid (below_setRow E6.out hsz (odA G n s 3).cs)
    have SG : Hid (Sees (((w4.setCell ⟨xb, 8, none⟩ (.int .i64 n))).setRow (ab + 1) (odA G n s 3).cs) G.dA G.dn G.dk (bs (gdL a l))) := Lib.hid (sees_offB S6.out HZ6.out (fun i x h => by have hm := Array.mem_of_getElem? h; simp at hm) ⟨rfl, rfl, rfl, by simp [World.setRow], fun i hi h1 h2 => setRow_other _ _ _ _ h1⟩)
    go_wp2_with (first | (with_reducible refine wpList_load_row rfl 26 (.tmp 9) rfl xb rfl _ _ _ _ HX6.out Try.underlying26 rfl (HI.out _) ?_) | (with_reducible refine wpList_store_row rfl 26 (.tmp 8) (.tmp 57) rfl (ab + 1) _ rfl rfl _ _ HZ6.out (HI.out _) rfl (HU.out _) ?_) | fail)
    refine bodyPost_ret (results_cell_row rfl _ _ (ab + 1) _ _ (0, 0) _ rfl HG.out Try.underlying26 rfl (HI.out _)) rfl ?_
    exact ⟨A, m, c, by rw [HZ5.out, HGG.out]; rfl, by rw [HGG.out]; exact SG.out, EG.out⟩
  · have x1 : ∃ o, w4.cell? ⟨xb, 3, none⟩ = some o := ⟨_, (cell_of_row _ xb 3 _ _ _ HX4.out).trans rfl⟩
    obtain ⟨o1, x1⟩ := x1
    have f1 := blk_freeC HX4.out 3
    have HO : Hid (On2 xb xb w4 (w4.setCell ⟨xb, 3, none⟩ (.int .i64 n))) := Lib.hid (On2.set _ _ _ (.inl rfl))
    have HX6 : Hid ((w4.setCell ⟨xb, 3, none⟩ (.int .i64 n)).heap[xb]? = some (.cells (odA G n s 4).cs 26 (0, 0))) := Lib.hid (set_blkC HX4.out 3 _)
    have HZ6 := Lib.hid (HO.out.heap HZ4.out hne hne)
    have E6 := Lib.hid (HO.out.ext E4.out hsz2 hsz2)
    have S6 := Lib.hid (sees_offB HS4.out HX4.out (AR.noB _) HO.out)
    have HG := Lib.hid (setRow_heap _ (ab + 1) _ (odA G n s 4).cs _ _ HZ6.out)
    have EG := Lib.hid (below_setRow E6.out hsz (odA G n s 4).cs)
    have SG : Hid (Sees (((w4.setCell ⟨xb, 3, none⟩ (.int .i64 n))).setRow (ab + 1) (odA G n s 4).cs) G.dA G.dn G.dk (bs (gdL a l))) := Lib.hid (sees_offB S6.out HZ6.out (fun i x h => by have hm := Array.mem_of_getElem? h; simp at hm) ⟨rfl, rfl, rfl, by simp [World.setRow], fun i hi h1 h2 => setRow_other _ _ _ _ h1⟩)
    go_wp2_with (first | (with_reducible refine wpList_load_row rfl 26 (.tmp 9) rfl xb rfl _ _ _ _ HX6.out Try.underlying26 rfl (HI.out _) ?_) | (with_reducible refine wpList_store_row rfl 26 (.tmp 8) (.tmp 57) rfl (ab + 1) _ rfl rfl _ _ HZ6.out (HI.out _) rfl (HU.out _) ?_) | fail)
    refine bodyPost_ret (results_cell_row rfl _ _ (ab + 1) _ _ (0, 0) _ rfl HG.out Try.underlying26 rfl (HI.out _)) rfl ?_
    exact ⟨A, m, c, by rw [HZ5.out, HGG.out]; rfl, by rw [HGG.out]; exact SG.out, EG.out⟩
  · have x1 : ∃ o, w4.cell? ⟨xb, 2, none⟩ = some o := ⟨_, (cell_of_row _ xb 2 _ _ _ HX4.out).trans rfl⟩
    obtain ⟨o1, x1⟩ := x1
    have f1 := blk_freeC HX4.out 2
    have HO : Hid (On2 xb xb w4 (w4.setCell ⟨xb, 2, none⟩ (.int .i64 n))) := Lib.hid (On2.set _ _ _ (.inl rfl))
    have HX6 : Hid ((w4.setCell ⟨xb, 2, none⟩ (.int .i64 n)).heap[xb]? = some (.cells (odA G n s 5).cs 26 (0, 0))) := Lib.hid (set_blkC HX4.out 2 _)
    have HZ6 := Lib.hid (HO.out.heap HZ4.out hne hne)
    have E6 := Lib.hid (HO.out.ext E4.out hsz2 hsz2)
    have S6 := Lib.hid (sees_offB HS4.out HX4.out (AR.noB _) HO.out)
    have HG := Lib.hid (setRow_heap _ (ab + 1) _ (odA G n s 5).cs _ _ HZ6.out)
    have EG := Lib.hid (below_setRow E6.out hsz (odA G n s 5).cs)
    have SG : Hid (Sees (((w4.setCell ⟨xb, 2, none⟩ (.int .i64 n))).setRow (ab + 1) (odA G n s 5).cs) G.dA G.dn G.dk (bs (gdL a l))) := Lib.hid (sees_offB S6.out HZ6.out (fun i x h => by have hm := Array.mem_of_getElem? h; simp at hm) ⟨rfl, rfl, rfl, by simp [World.setRow], fun i hi h1 h2 => setRow_other _ _ _ _ h1⟩)
    go_wp2_with (first | (with_reducible refine wpList_load_row rfl 26 (.tmp 9) rfl xb rfl _ _ _ _ HX6.out Try.underlying26 rfl (HI.out _) ?_) | (with_reducible refine wpList_store_row rfl 26 (.tmp 8) (.tmp 57) rfl (ab + 1) _ rfl rfl _ _ HZ6.out (HI.out _) rfl (HU.out _) ?_) | fail)
    refine bodyPost_ret (results_cell_row rfl _ _ (ab + 1) _ _ (0, 0) _ rfl HG.out Try.underlying26 rfl (HI.out _)) rfl ?_
    exact ⟨A, m, c, by rw [HZ5.out, HGG.out]; rfl, by rw [HGG.out]; exact SG.out, EG.out⟩
  · have x1 : ∃ o, w4.cell? ⟨xb, 4, none⟩ = some o := ⟨_, (cell_of_row _ xb 4 _ _ _ HX4.out).trans rfl⟩
    obtain ⟨o1, x1⟩ := x1
    have f1 := blk_freeC HX4.out 4
    have HO : Hid (On2 xb xb w4 (w4.setCell ⟨xb, 4, none⟩ (.int .i64 n))) := Lib.hid (On2.set _ _ _ (.inl rfl))
    have HX6 : Hid ((w4.setCell ⟨xb, 4, none⟩ (.int .i64 n)).heap[xb]? = some (.cells (odA G n s 6).cs 26 (0, 0))) := Lib.hid (set_blkC HX4.out 4 _)
    have HZ6 := Lib.hid (HO.out.heap HZ4.out hne hne)
    have E6 := Lib.hid (HO.out.ext E4.out hsz2 hsz2)
    have S6 := Lib.hid (sees_offB HS4.out HX4.out (AR.noB _) HO.out)
    have HG := Lib.hid (setRow_heap _ (ab + 1) _ (odA G n s 6).cs _ _ HZ6.out)
    have EG := Lib.hid (below_setRow E6.out hsz (odA G n s 6).cs)
    have SG : Hid (Sees (((w4.setCell ⟨xb, 4, none⟩ (.int .i64 n))).setRow (ab + 1) (odA G n s 6).cs) G.dA G.dn G.dk (bs (gdL a l))) := Lib.hid (sees_offB S6.out HZ6.out (fun i x h => by have hm := Array.mem_of_getElem? h; simp at hm) ⟨rfl, rfl, rfl, by simp [World.setRow], fun i hi h1 h2 => setRow_other _ _ _ _ h1⟩)
    go_wp2_with (first | (with_reducible refine wpList_load_row rfl 26 (.tmp 9) rfl xb rfl _ _ _ _ HX6.out Try.underlying26 rfl (HI.out _) ?_) | (with_reducible refine wpList_store_row rfl 26 (.tmp 8) (.tmp 57) rfl (ab + 1) _ rfl rfl _ _ HZ6.out (HI.out _) rfl (HU.out _) ?_) | fail)
    refine bodyPost_ret (results_cell_row rfl _ _ (ab + 1) _ _ (0, 0) _ rfl HG.out Try.underlying26 rfl (HI.out _)) rfl ?_
    exact ⟨A, m, c, by rw [HZ5.out, HGG.out]; rfl, by rw [HGG.out]; exact SG.out, EG.out⟩
  · have x1 : ∃ o, w4.cell? ⟨xb, 1, none⟩ = some o := ⟨_, (cell_of_row _ xb 1 _ _ _ HX4.out).trans rfl⟩
    obtain ⟨o1, x1⟩ := x1
    have f1 := blk_freeC HX4.out 1
    have HO : Hid (On2 xb xb w4 (w4.setCell ⟨xb, 1, none⟩ (.int .i64 n))) := Lib.hid (On2.set _ _ _ (.inl rfl))
    have HX6 : Hid ((w4.setCell ⟨xb, 1, none⟩ (.int .i64 n)).heap[xb]? = some (.cells (odA G n s 7).cs 26 (0, 0))) := Lib.hid (set_blkC HX4.out 1 _)
    have HZ6 := Lib.hid (HO.out.heap HZ4.out hne hne)
    have E6 := Lib.hid (HO.out.ext E4.out hsz2 hsz2)
    have S6 := Lib.hid (sees_offB HS4.out HX4.out (AR.noB _) HO.out)
    have HG := Lib.hid (setRow_heap _ (ab + 1) _ (odA G n s 7).cs _ _ HZ6.out)
    have EG := Lib.hid (below_setRow E6.out hsz (odA G n s 7).cs)
    have SG : Hid (Sees (((w4.setCell ⟨xb, 1, none⟩ (.int .i64 n))).setRow (ab + 1) (odA G n s 7).cs) G.dA G.dn G.dk (bs (gdL a l))) := Lib.hid (sees_offB S6.out HZ6.out (fun i x h => by have hm := Array.mem_of_getElem? h; simp at hm) ⟨rfl, rfl, rfl, by simp [World.setRow], fun i hi h1 h2 => setRow_other _ _ _ _ h1⟩)
    go_wp2_with (first | (with_reducible refine wpList_load_row rfl 26 (.tmp 9) rfl xb rfl _ _ _ _ HX6.out Try.underlying26 rfl (HI.out _) ?_) | (with_reducible refine wpList_store_row rfl 26 (.tmp 8) (.tmp 57) rfl (ab + 1) _ rfl rfl _ _ HZ6.out (HI.out _) rfl (HU.out _) ?_) | fail)
    refine bodyPost_ret (results_cell_row rfl _ _ (ab + 1) _ _ (0, 0) _ rfl HG.out Try.underlying26 rfl (HI.out _)) rfl ?_
    exact ⟨A, m, c, by rw [HZ5.out, HGG.out]; rfl, by rw [HGG.out]; exact SG.out, EG.out⟩
  · have x1 : ∃ o, w4.cell? ⟨xb, 9, none⟩ = some o := ⟨_, (cell_of_row _ xb 9 _ _ _ HX4.out).trans rfl⟩
    obtain ⟨o1, x1⟩ := x1
    have f1 := blk_freeC HX4.out 9
    have HO : Hid (On2 xb xb w4 (w4.setCell ⟨xb, 9, none⟩ (.string ⟨(s.take 70).toArray⟩))) := Lib.hid (On2.set _ _ _ (.inl rfl))
    have HX6 : Hid ((w4.setCell ⟨xb, 9, none⟩ (.string ⟨(s.take 70).toArray⟩)).heap[xb]? = some (.cells (odA G n s 8).cs 26 (0, 0))) := Lib.hid (set_blkC HX4.out 9 _)
    have HZ6 := Lib.hid (HO.out.heap HZ4.out hne hne)
    have E6 := Lib.hid (HO.out.ext E4.out hsz2 hsz2)
    have S6 := Lib.hid (sees_offB HS4.out HX4.out (AR.noB _) HO.out)
    have HG := Lib.hid (setRow_heap _ (ab + 1) _ (odA G n s 8).cs _ _ HZ6.out)
    have EG := Lib.hid (below_setRow E6.out hsz (odA G n s 8).cs)
    have SG : Hid (Sees (((w4.setCell ⟨xb, 9, none⟩ (.string ⟨(s.take 70).toArray⟩))).setRow (ab + 1) (odA G n s 8).cs) G.dA G.dn G.dk (bs (gdL a l))) := Lib.hid (sees_offB S6.out HZ6.out (fun i x h => by have hm := Array.mem_of_getElem? h; simp at hm) ⟨rfl, rfl, rfl, by simp [World.setRow], fun i hi h1 h2 => setRow_other _ _ _ _ h1⟩)
    go_wp2_with fail
    refine (short_any s 70 70 rfl _ HSL.out).mono ?_
    rintro e _ ⟨rfl, rfl⟩
    go_wp2_with (first | (with_reducible refine wpList_load_row rfl 26 (.tmp 9) rfl xb rfl _ _ _ _ HX6.out Try.underlying26 rfl (HI.out _) ?_) | (with_reducible refine wpList_store_row rfl 26 (.tmp 8) (.tmp 57) rfl (ab + 1) _ rfl rfl _ _ HZ6.out (HI.out _) rfl (HU.out _) ?_) | fail)
    refine bodyPost_ret (results_cell_row rfl _ _ (ab + 1) _ _ (0, 0) _ rfl HG.out Try.underlying26 rfl (HI.out _)) rfl ?_
    exact ⟨A, m, c, by rw [HZ5.out, HGG.out]; rfl, by rw [HGG.out]; exact SG.out, EG.out⟩
  · have x1 : ∃ o, w4.cell? ⟨xb, 10, none⟩ = some o := ⟨_, (cell_of_row _ xb 10 _ _ _ HX4.out).trans rfl⟩
    obtain ⟨o1, x1⟩ := x1
    have f1 := blk_freeC HX4.out 10
    have HO : Hid (On2 xb xb w4 (w4.setCell ⟨xb, 10, none⟩ (.string ⟨(s.take 70).toArray⟩))) := Lib.hid (On2.set _ _ _ (.inl rfl))
    have HX6 : Hid ((w4.setCell ⟨xb, 10, none⟩ (.string ⟨(s.take 70).toArray⟩)).heap[xb]? = some (.cells (odA G n s 9).cs 26 (0, 0))) := Lib.hid (set_blkC HX4.out 10 _)
    have HZ6 := Lib.hid (HO.out.heap HZ4.out hne hne)
    have E6 := Lib.hid (HO.out.ext E4.out hsz2 hsz2)
    have S6 := Lib.hid (sees_offB HS4.out HX4.out (AR.noB _) HO.out)
    have HG := Lib.hid (setRow_heap _ (ab + 1) _ (odA G n s 9).cs _ _ HZ6.out)
    have EG := Lib.hid (below_setRow E6.out hsz (odA G n s 9).cs)
    have SG : Hid (Sees (((w4.setCell ⟨xb, 10, none⟩ (.string ⟨(s.take 70).toArray⟩))).setRow (ab + 1) (odA G n s 9).cs) G.dA G.dn G.dk (bs (gdL a l))) := Lib.hid (sees_offB S6.out HZ6.out (fun i x h => by have hm := Array.mem_of_getElem? h; simp at hm) ⟨rfl, rfl, rfl, by simp [World.setRow], fun i hi h1 h2 => setRow_other _ _ _ _ h1⟩)
    go_wp2_with fail
    refine (short_any s 70 70 rfl _ HSL.out).mono ?_
    rintro e _ ⟨rfl, rfl⟩
    go_wp2_with (first | (with_reducible refine wpList_load_row rfl 26 (.tmp 9) rfl xb rfl _ _ _ _ HX6.out Try.underlying26 rfl (HI.out _) ?_) | (with_reducible refine wpList_store_row rfl 26 (.tmp 8) (.tmp 57) rfl (ab + 1) _ rfl rfl _ _ HZ6.out (HI.out _) rfl (HU.out _) ?_) | fail)
    refine bodyPost_ret (results_cell_row rfl _ _ (ab + 1) _ _ (0, 0) _ rfl HG.out Try.underlying26 rfl (HI.out _)) rfl ?_
    exact ⟨A, m, c, by rw [HZ5.out, HGG.out]; rfl, by rw [HGG.out]; exact SG.out, EG.out⟩
end Go.Proofs.Ytpjigdfllbhknaa
