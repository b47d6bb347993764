/-
  Layer 14: what may be of a procedure, made of any.
-/
import Derived.Test.YtpjigdfllbhknaaCalN
import Derived.Test.YtpjigdfllbhknaaSubR
import Derived.Test.YtpjigdfllbhknaaRowS
import Derived.Test.YtpjigdfllbhknaaShort
import Derived.Test.YtpjigdfllbhknaaCom
namespace Go.Proofs.Ytpjigdfllbhknaa
open Go Go.RowKit
set_option linter.unusedVariables false
set_option linter.unusedSimpArgs false
/-- No byte lies in the block. -/
theorem sees_offB {w w' : World} {g n c : Nat} {A : Option Addr} {m : List UInt8} {t : TypeId} {fr : Nat × Nat} {cs : Array Value} (h : Sees w A n c (bs m)) (hb : w.heap[g]? = some (.cells cs t fr)) (hq : ∀ (i : Nat) (x : Int), ¬ cs[i]? = some (Value.int .u8 x)) (ho : On2 g g w w') : Sees w' A n c (bs m) :=
  ⟨h.1, h.2.1, h.2.2.1, h.2.2.2.1, fun hn => by
    obtain ⟨b, off, hA, hc⟩ := h.2.2.2.2 hn
    refine ⟨b, off, hA, fun j u hu => ?_⟩
    have hcc := hc j u hu
    have hbg : ¬ b = g := by
      rintro rfl
      obtain ⟨hj, rfl⟩ := bs_get m j u hu
      rw [cell_of_row w b (off + j) _ t fr hb] at hcc
      exact hq _ _ hcc
    exact (World.cell?_of_block (ho.block b (World.block_lt_of_cell? w _ hcc) hbg hbg)).trans hcc⟩
theorem AR.noB (a : AR) (i : Nat) (x : Int) : ¬ a.cs[i]? = some (Value.int .u8 x) := by
  intro h
  have hm := Array.mem_of_getElem? h
  simp [AR.cs] at hm
def I64 (x : Int) : Prop := -9223372036854775808 ≤ x ∧ x ≤ 9223372036854775807
/-- All numbers have 64 bits, all texts may be. -/
structure AR.rng (a : AR) : Prop where
  pr : I64 a.pr
  off : I64 a.off
  ct : I64 a.ct
  sz : I64 a.sz
  md : I64 a.md
  h1 : I64 a.h1
  h2 : I64 a.h2
  g1 : I64 a.g1
  g2 : I64 a.g2
  nm : a.nm.length ≤ 9223372036854775807
  n2 : a.n2.length ≤ 9223372036854775807
def lw (x : Int) : Int := aroundZ x 4294967296
def mkA (k : Int) (a : AR) (A : Option Addr) (n c : Nat) : AR := ⟨k, aroundZ a.off 4611686018427387905, lw a.ct, lw a.sz, lw a.md, lw a.h1, lw a.h2, lw a.g1, lw a.g2, a.nm.take 40, a.n2.take 40, A, n, c⟩
def mk1 (k : Int) (a : AR) : AR := ⟨k, aroundZ a.off 4611686018427387905, lw a.ct, lw a.sz, lw a.md, 0, 0, 0, 0, [], [], none, 0, 0⟩
def mk2 (k : Int) (a : AR) : AR := { mk1 k a with h1 := lw a.h1, h2 := lw a.h2 }
def mk3 (k : Int) (a : AR) : AR := { mk2 k a with g1 := lw a.g1, g2 := lw a.g2 }
def mk4 (k : Int) (a : AR) : AR := { mk3 k a with nm := a.nm.take 40 }
def mk5 (k : Int) (a : AR) : AR := { mk4 k a with n2 := a.n2.take 40 }
theorem mk5_mkA (k : Int) (a : AR) (A : Option Addr) (n c : Nat) : (mk5 k a).cs.setIfInBounds 11 (.slice A n c) = (mkA k a A n c).cs := rfl
theorem hnd_info (x y : Int) : (Try.prog.info? 23).map (·.size) = some (#[.int .i64 x, .int .i64 y] : Array Value).size := by
  have h : (Try.prog.info? 23).map (·.size) = some 2 := by kernel_rfl
  rw [h]; rfl
set_option maxRecDepth 20000 in
set_option maxHeartbeats 4000000 in
theorem made14 (k : Int) (a : AR) (l : List UInt8) (w : World) (hr0 : a.rng) (hs : Sees w a.dA a.dn a.dk (bs l)) :
    Calls Try.prog 25 #[.int .i64 k, .agg a.cs] w fun e w' => ∃ A n c, e = .returned (.agg (ownA (mkA k a A n c)).cs) ∧ Sees w' A n c (bs (l.take 30)) ∧ Ext w w' := by
  have hr := Lib.hid hr0
  obtain ⟨w2, hw2⟩ : ∃ w2, (w.alloc (.cells a.cs 26)).alloc (.cells #[.int .i64 0, .int .i64 0, .int .i64 0, .int .i64 0, .int .i64 0, .int .i64 0, .int .i64 0, .int .i64 0, .int .i64 0, .string ⟨#[]⟩, .string ⟨#[]⟩, .slice none 0 0] 26) = w2 := ⟨_, rfl⟩
  have e2 : Ext w w2 := by rw [← hw2]; exact ((Ext.refl w).alloc _).alloc _
  have hb : w2.heap[w.heap.size]? = some (.cells a.cs 26 (0, 0)) := by rw [← hw2]; exact ((Ext.refl _).alloc _).heap (heap_alloc_new w _)
  have hz : w2.heap[w.heap.size + 1]? = some (.cells #[.int .i64 0, .int .i64 0, .int .i64 0, .int .i64 0, .int .i64 0, .int .i64 0, .int .i64 0, .int .i64 0, .int .i64 0, .string ⟨#[]⟩, .string ⟨#[]⟩, .slice none 0 0] 26 (0, 0)) := by rw [← hw2]; exact heap_alloc2_new w _ _
  obtain ⟨ab, hab⟩ : ∃ ab, w.heap.size = ab := ⟨_, rfl⟩
  obtain ⟨xb, hxb⟩ : ∃ xb, w2.heap.size = xb := ⟨_, rfl⟩
  rw [hab] at hb hz
  have hlt : ab + 1 < xb := by rw [← hxb]; exact (Array.getElem?_eq_some_iff.1 hz).1
  have E2 := Lib.hid e2
  have HSD := Lib.hid hs
  have HS0 : Hid (((fun v : World => v.heap[ab]? = some (.cells a.cs 26 (0, 0)))) w2.drew) := Lib.hid hb
  have HZ2 : Hid (w2.drew.heap[ab + 1]? = some (.cells #[.int .i64 0, .int .i64 0, .int .i64 0, .int .i64 0, .int .i64 0, .int .i64 0, .int .i64 0, .int .i64 0, .int .i64 0, .string ⟨#[]⟩, .string ⟨#[]⟩, .slice none 0 0] 26 (0, 0))) := Lib.hid hz
  have HXS : Hid (w2.drew.heap.size = xb) := Lib.hid hxb
  have HI := Lib.hid (fun b : AR => arg_info b)
  have HU := Lib.hid (fun b : AR => AR.one b)
  clear hb hz e2 hs hr0
  go_enter Try.func25, Try.ntmps25
  go_wp2_with fail
  refine wp_region_plS ((fun v : World => v.heap[ab]? = some (.cells a.cs 26 (0, 0)))) (.free 0 (.free 1 (.free 2 (.free 3 (.free 4 (.free 5 (.free 6 (.free 7 (.free 8 (.free 9 (.free 10 (.free 11 (.free 12 (.free 13 (.one 14 (.one 15 .nil)))))))))))))))) (by kernel_rfl) (by kernel_rfl) (by kernel_rfl) (by kernel_rfl) ?_
  refine plS_val (v := ?_) rfl rfl HS0.out (fun w' hw' => ?_) ?_; rotate_left; (· go_simp; try with_reducible rfl); simp only [Act.put, List.setIfInBounds_toArray, List.set_cons_zero, List.set_cons_succ]
  refine plS_val (v := ?_) rfl rfl HS0.out (fun w' hw' => ?_) ?_; rotate_left; (· go_simp; try with_reducible rfl); simp only [Act.put, List.setIfInBounds_toArray, List.set_cons_zero, List.set_cons_succ]
  refine plS_val (v := ?_) rfl rfl HS0.out (fun w' hw' => ?_) ?_; rotate_left; (· have q : w'.cell? ⟨ab, 3, none⟩ = some (.int .i64 a.sz) := (cell_of_row w' ab 3 _ _ _ hw').trans rfl; go_simp; try with_reducible rfl); simp only [Act.put, List.setIfInBounds_toArray, List.set_cons_zero, List.set_cons_succ]
  refine plS_even 40 #[.int .i64 a.sz] (.int .i64 (lw a.sz)) rfl rfl HS0.out (fun w' hw' => by go_simp) (fun w' hw' => low_any a.sz w' hr.out.sz.1 hr.out.sz.2) ?_; simp only [Act.put, List.setIfInBounds_toArray, List.set_cons_zero, List.set_cons_succ]
  refine plS_val (v := ?_) rfl rfl HS0.out (fun w' hw' => ?_) ?_; rotate_left; (· go_simp; try with_reducible rfl); simp only [Act.put, List.setIfInBounds_toArray, List.set_cons_zero, List.set_cons_succ]
  refine plS_val (v := ?_) rfl rfl HS0.out (fun w' hw' => ?_) ?_; rotate_left; (· have q : w'.cell? ⟨ab, 2, none⟩ = some (.int .i64 a.ct) := (cell_of_row w' ab 2 _ _ _ hw').trans rfl; go_simp; try with_reducible rfl); simp only [Act.put, List.setIfInBounds_toArray, List.set_cons_zero, List.set_cons_succ]
  refine plS_even 40 #[.int .i64 a.ct] (.int .i64 (lw a.ct)) rfl rfl HS0.out (fun w' hw' => by go_simp) (fun w' hw' => low_any a.ct w' hr.out.ct.1 hr.out.ct.2) ?_; simp only [Act.put, List.setIfInBounds_toArray, List.set_cons_zero, List.set_cons_succ]
  refine plS_val (v := ?_) rfl rfl HS0.out (fun w' hw' => ?_) ?_; rotate_left; (· go_simp; try with_reducible rfl); simp only [Act.put, List.setIfInBounds_toArray, List.set_cons_zero, List.set_cons_succ]
  refine plS_val (v := ?_) rfl rfl HS0.out (fun w' hw' => ?_) ?_; rotate_left; (· have q : w'.cell? ⟨ab, 4, none⟩ = some (.int .i64 a.md) := (cell_of_row w' ab 4 _ _ _ hw').trans rfl; go_simp; try with_reducible rfl); simp only [Act.put, List.setIfInBounds_toArray, List.set_cons_zero, List.set_cons_succ]
  refine plS_even 40 #[.int .i64 a.md] (.int .i64 (lw a.md)) rfl rfl HS0.out (fun w' hw' => by go_simp) (fun w' hw' => low_any a.md w' hr.out.md.1 hr.out.md.2) ?_; simp only [Act.put, List.setIfInBounds_toArray, List.set_cons_zero, List.set_cons_succ]
  refine plS_val (v := ?_) rfl rfl HS0.out (fun w' hw' => ?_) ?_; rotate_left; (· go_simp; try with_reducible rfl); simp only [Act.put, List.setIfInBounds_toArray, List.set_cons_zero, List.set_cons_succ]
  refine plS_val (v := ?_) rfl rfl HS0.out (fun w' hw' => ?_) ?_; rotate_left; (· have q : w'.cell? ⟨ab, 1, none⟩ = some (.int .i64 a.off) := (cell_of_row w' ab 1 _ _ _ hw').trans rfl; go_simp; try with_reducible rfl); simp only [Act.put, List.setIfInBounds_toArray, List.set_cons_zero, List.set_cons_succ]
  refine plS_even 19 #[.int .i64 a.off, .int .i64 4611686018427387905] (.int .i64 (aroundZ a.off 4611686018427387905)) rfl rfl HS0.out (fun w' hw' => by go_simp) (fun w' hw' => around_any a.off 4611686018427387905 w' hr.out.off.1 hr.out.off.2 (by omega) (by omega)) ?_; simp only [Act.put, List.setIfInBounds_toArray, List.set_cons_zero, List.set_cons_succ]
  refine plS_val (v := .agg (mk1 k a).cs) rfl rfl HS0.out (fun w' hw' => exec_build _ _ rfl _ (by kernel_rfl)) ?_; simp only [Act.put, List.setIfInBounds_toArray, List.set_cons_zero, List.set_cons_succ]
  have HX3 : Hid ((w2.drew.alloc (.cells #[.int .i64 0, .int .i64 0, .int .i64 0, .int .i64 0, .int .i64 0, .int .i64 0, .int .i64 0, .int .i64 0, .int .i64 0, .string ⟨#[]⟩, .string ⟨#[]⟩, .slice none 0 0] 26)).heap[xb]? = some (.cells #[.int .i64 0, .int .i64 0, .int .i64 0, .int .i64 0, .int .i64 0, .int .i64 0, .int .i64 0, .int .i64 0, .int .i64 0, .string ⟨#[]⟩, .string ⟨#[]⟩, .slice none 0 0] 26 (0, 0))) := Lib.hid (by rw [← HXS.out]; exact heap_alloc_new _ _)
  have HS3 : Hid (((fun v : World => v.heap[ab]? = some (.cells a.cs 26 (0, 0)))) (w2.drew.alloc (.cells #[.int .i64 0, .int .i64 0, .int .i64 0, .int .i64 0, .int .i64 0, .int .i64 0, .int .i64 0, .int .i64 0, .int .i64 0, .string ⟨#[]⟩, .string ⟨#[]⟩, .slice none 0 0] 26))) := Lib.hid (((Ext.refl w2.drew).alloc _).heap HS0.out)
  refine plS_run (w' := w2.drew.alloc (.cells #[.int .i64 0, .int .i64 0, .int .i64 0, .int .i64 0, .int .i64 0, .int .i64 0, .int .i64 0, .int .i64 0, .int .i64 0, .string ⟨#[]⟩, .string ⟨#[]⟩, .slice none 0 0] 26)) (.pointer (some ⟨xb, 0, none⟩)) rfl rfl (by have q := HXS.out; go_simp; try (first | rfl | (rw [q]) | exact ⟨by rw [q], rfl⟩)) HS3.out ?_; simp only [Act.put, List.setIfInBounds_toArray, List.set_cons_zero, List.set_cons_succ]
  obtain ⟨w3, hw3⟩ : ∃ w3, (w2.drew.alloc (.cells #[.int .i64 0, .int .i64 0, .int .i64 0, .int .i64 0, .int .i64 0, .int .i64 0, .int .i64 0, .int .i64 0, .int .i64 0, .string ⟨#[]⟩, .string ⟨#[]⟩, .slice none 0 0] 26)).setRow xb (mk1 k a).cs = w3 := ⟨_, rfl⟩
  have E3 : Hid (Ext w w3) := Lib.hid (by rw [← hw3]; exact E2.out.trans (below_setRow ((Ext.refl w2).drew.alloc _) (Nat.le_of_eq hxb) _))
  have HS4 : Hid (((fun v : World => v.heap[ab]? = some (.cells a.cs 26 (0, 0)))) w3) := Lib.hid (by rw [← hw3]; exact (setRow_other _ xb ab _ (by omega)).trans HS3.out)
  have HX4 : Hid (w3.heap[xb]? = some (.cells (mk1 k a).cs 26 (0, 0))) := Lib.hid (by rw [← hw3]; exact setRow_heap _ xb _ _ _ _ HX3.out)
  have HZ4 : Hid (w3.heap[ab + 1]? = some (.cells #[.int .i64 0, .int .i64 0, .int .i64 0, .int .i64 0, .int .i64 0, .int .i64 0, .int .i64 0, .int .i64 0, .int .i64 0, .string ⟨#[]⟩, .string ⟨#[]⟩, .slice none 0 0] 26 (0, 0))) := Lib.hid (by rw [← hw3]; exact (setRow_other _ xb (ab + 1) _ (by omega)).trans (((Ext.refl w2.drew).alloc _).heap HZ2.out))
  refine plS_void (w' := w3) rfl rfl (by rw [← hw3]; exact exec_storeRow 26 (.tmp 5) (.tmp 19) rfl xb _ rfl rfl 26 _ HX3.out (HI.out _) rfl (HU.out _)) HS4.out ?_; simp only [Act.put, List.setIfInBounds_toArray, List.set_cons_zero, List.set_cons_succ]
  clear hw3 HX3 HS3 HZ2 HS0 HXS E2
  refine plS_done ?_
  go_wp2_with fail
  have HS0 : Hid (((fun v : World => v.heap[ab]? = some (.cells a.cs 26 (0, 0)))) w3.drew) := Lib.hid HS4.out
  refine wp_region_plS ((fun v : World => v.heap[ab]? = some (.cells a.cs 26 (0, 0)))) (.free 0 (.free 1 (.free 2 (.free 3 (.free 4 (.free 5 (.free 6 (.free 7 (.free 8 (.free 9 (.one 10 .nil))))))))))) (by kernel_rfl) (by kernel_rfl) (by kernel_rfl) (by kernel_rfl) ?_
  refine plS_val (v := ?_) rfl rfl HS0.out (fun w' hw' => ?_) ?_; rotate_left; (· go_simp; try with_reducible rfl); simp only [Act.put, List.setIfInBounds_toArray, List.set_cons_zero, List.set_cons_succ]
  refine plS_val (v := ?_) rfl rfl HS0.out (fun w' hw' => ?_) ?_; rotate_left; (· go_simp; try with_reducible rfl); simp only [Act.put, List.setIfInBounds_toArray, List.set_cons_zero, List.set_cons_succ]
  refine plS_val (v := ?_) rfl rfl HS0.out (fun w' hw' => ?_) ?_; rotate_left; (· have q : w'.cell? ⟨ab, 5, none⟩ = some (.int .i64 a.h1) := (cell_of_row w' ab 5 _ _ _ hw').trans rfl; go_simp; try with_reducible rfl); simp only [Act.put, List.setIfInBounds_toArray, List.set_cons_zero, List.set_cons_succ]
  refine plS_even 40 #[.int .i64 a.h1] (.int .i64 (lw a.h1)) rfl rfl HS0.out (fun w' hw' => by go_simp) (fun w' hw' => low_any a.h1 w' hr.out.h1.1 hr.out.h1.2) ?_; simp only [Act.put, List.setIfInBounds_toArray, List.set_cons_zero, List.set_cons_succ]
  refine plS_val (v := ?_) rfl rfl HS0.out (fun w' hw' => ?_) ?_; rotate_left; (· go_simp; try with_reducible rfl); simp only [Act.put, List.setIfInBounds_toArray, List.set_cons_zero, List.set_cons_succ]
  refine plS_val (v := ?_) rfl rfl HS0.out (fun w' hw' => ?_) ?_; rotate_left; (· go_simp; try with_reducible rfl); simp only [Act.put, List.setIfInBounds_toArray, List.set_cons_zero, List.set_cons_succ]
  refine plS_val (v := ?_) rfl rfl HS0.out (fun w' hw' => ?_) ?_; rotate_left; (· have q : w'.cell? ⟨ab, 6, none⟩ = some (.int .i64 a.h2) := (cell_of_row w' ab 6 _ _ _ hw').trans rfl; go_simp; try with_reducible rfl); simp only [Act.put, List.setIfInBounds_toArray, List.set_cons_zero, List.set_cons_succ]
  refine plS_even 40 #[.int .i64 a.h2] (.int .i64 (lw a.h2)) rfl rfl HS0.out (fun w' hw' => by go_simp) (fun w' hw' => low_any a.h2 w' hr.out.h2.1 hr.out.h2.2) ?_; simp only [Act.put, List.setIfInBounds_toArray, List.set_cons_zero, List.set_cons_succ]
  refine plS_val (v := .agg #[.int .i64 (lw a.h1), .int .i64 (lw a.h2)]) rfl rfl HS0.out (fun w' hw' => exec_build _ _ rfl _ (by kernel_rfl)) ?_; simp only [Act.put, List.setIfInBounds_toArray, List.set_cons_zero, List.set_cons_succ]
  refine plS_val (v := ?_) rfl rfl HS0.out (fun w' hw' => ?_) ?_; rotate_left; (· go_simp; try with_reducible rfl); simp only [Act.put, List.setIfInBounds_toArray, List.set_cons_zero, List.set_cons_succ]
  obtain ⟨w4, hw4⟩ : ∃ w4, w3.drew.setRow xb (mk2 k a).cs = w4 := ⟨_, rfl⟩
  have E4 : Hid (Ext w w4) := Lib.hid (by rw [← hw4]; exact below_setRow E3.out.drew (by omega) _)
  have HS4a : Hid (((fun v : World => v.heap[ab]? = some (.cells a.cs 26 (0, 0)))) w4) := Lib.hid (by rw [← hw4]; exact (setRow_other _ xb ab _ (by omega)).trans HS0.out)
  have HX4a : Hid (w4.heap[xb]? = some (.cells (mk2 k a).cs 26 (0, 0))) := Lib.hid (by rw [← hw4]; exact setRow_heap w3.drew xb _ _ _ _ HX4.out)
  have HZ4a : Hid (w4.heap[ab + 1]? = some (.cells #[.int .i64 0, .int .i64 0, .int .i64 0, .int .i64 0, .int .i64 0, .int .i64 0, .int .i64 0, .int .i64 0, .int .i64 0, .string ⟨#[]⟩, .string ⟨#[]⟩, .slice none 0 0] 26 (0, 0))) := Lib.hid (by rw [← hw4]; exact (setRow_other w3.drew xb (ab + 1) _ (by omega)).trans HZ4.out)
  refine plS_void (w' := w4) rfl rfl (by rw [← hw4]; exact exec_store_sub 23 (.tmp 29) (.tmp 28) rfl xb 5 _ (mk1 k a).cs _ rfl rfl 26 HX4.out (hnd_info _ _) (by show 5 + 2 ≤ 12; omega) (by simp [Value.oneCell']) rfl) HS4a.out ?_; simp only [Act.put, List.setIfInBounds_toArray, List.set_cons_zero, List.set_cons_succ]
  clear hw4 HS0 HX4 HZ4 HS4 E3
  refine plS_done ?_
  go_wp2_with fail
  have HS0 : Hid (((fun v : World => v.heap[ab]? = some (.cells a.cs 26 (0, 0)))) w4.drew) := Lib.hid HS4a.out
  refine wp_region_plS ((fun v : World => v.heap[ab]? = some (.cells a.cs 26 (0, 0)))) (.free 0 (.free 1 (.free 2 (.free 3 (.free 4 (.free 5 (.free 6 (.free 7 (.free 8 (.free 9 (.one 10 .nil))))))))))) (by kernel_rfl) (by kernel_rfl) (by kernel_rfl) (by kernel_rfl) ?_
  refine plS_val (v := ?_) rfl rfl HS0.out (fun w' hw' => ?_) ?_; rotate_left; (· go_simp; try with_reducible rfl); simp only [Act.put, List.setIfInBounds_toArray, List.set_cons_zero, List.set_cons_succ]
  refine plS_val (v := ?_) rfl rfl HS0.out (fun w' hw' => ?_) ?_; rotate_left; (· go_simp; try with_reducible rfl); simp only [Act.put, List.setIfInBounds_toArray, List.set_cons_zero, List.set_cons_succ]
  refine plS_val (v := ?_) rfl rfl HS0.out (fun w' hw' => ?_) ?_; rotate_left; (· have q : w'.cell? ⟨ab, 7, none⟩ = some (.int .i64 a.g1) := (cell_of_row w' ab 7 _ _ _ hw').trans rfl; go_simp; try with_reducible rfl); simp only [Act.put, List.setIfInBounds_toArray, List.set_cons_zero, List.set_cons_succ]
  refine plS_even 40 #[.int .i64 a.g1] (.int .i64 (lw a.g1)) rfl rfl HS0.out (fun w' hw' => by go_simp) (fun w' hw' => low_any a.g1 w' hr.out.g1.1 hr.out.g1.2) ?_; simp only [Act.put, List.setIfInBounds_toArray, List.set_cons_zero, List.set_cons_succ]
  refine plS_val (v := ?_) rfl rfl HS0.out (fun w' hw' => ?_) ?_; rotate_left; (· go_simp; try with_reducible rfl); simp only [Act.put, List.setIfInBounds_toArray, List.set_cons_zero, List.set_cons_succ]
  refine plS_val (v := ?_) rfl rfl HS0.out (fun w' hw' => ?_) ?_; rotate_left; (· go_simp; try with_reducible rfl); simp only [Act.put, List.setIfInBounds_toArray, List.set_cons_zero, List.set_cons_succ]
  refine plS_val (v := ?_) rfl rfl HS0.out (fun w' hw' => ?_) ?_; rotate_left; (· have q : w'.cell? ⟨ab, 8, none⟩ = some (.int .i64 a.g2) := (cell_of_row w' ab 8 _ _ _ hw').trans rfl; go_simp; try with_reducible rfl); simp only [Act.put, List.setIfInBounds_toArray, List.set_cons_zero, List.set_cons_succ]
  refine plS_even 40 #[.int .i64 a.g2] (.int .i64 (lw a.g2)) rfl rfl HS0.out (fun w' hw' => by go_simp) (fun w' hw' => low_any a.g2 w' hr.out.g2.1 hr.out.g2.2) ?_; simp only [Act.put, List.setIfInBounds_toArray, List.set_cons_zero, List.set_cons_succ]
  refine plS_val (v := .agg #[.int .i64 (lw a.g1), .int .i64 (lw a.g2)]) rfl rfl HS0.out (fun w' hw' => exec_build _ _ rfl _ (by kernel_rfl)) ?_; simp only [Act.put, List.setIfInBounds_toArray, List.set_cons_zero, List.set_cons_succ]
  refine plS_val (v := ?_) rfl rfl HS0.out (fun w' hw' => ?_) ?_; rotate_left; (· go_simp; try with_reducible rfl); simp only [Act.put, List.setIfInBounds_toArray, List.set_cons_zero, List.set_cons_succ]
  obtain ⟨w5, hw5⟩ : ∃ w5, w4.drew.setRow xb (mk3 k a).cs = w5 := ⟨_, rfl⟩
  have E5 : Hid (Ext w w5) := Lib.hid (by rw [← hw5]; exact below_setRow E4.out.drew (by omega) _)
  have HS5a : Hid (((fun v : World => v.heap[ab]? = some (.cells a.cs 26 (0, 0)))) w5) := Lib.hid (by rw [← hw5]; exact (setRow_other _ xb ab _ (by omega)).trans HS0.out)
  have HX5a : Hid (w5.heap[xb]? = some (.cells (mk3 k a).cs 26 (0, 0))) := Lib.hid (by rw [← hw5]; exact setRow_heap w4.drew xb _ _ _ _ HX4a.out)
  have HZ5a : Hid (w5.heap[ab + 1]? = some (.cells #[.int .i64 0, .int .i64 0, .int .i64 0, .int .i64 0, .int .i64 0, .int .i64 0, .int .i64 0, .int .i64 0, .int .i64 0, .string ⟨#[]⟩, .string ⟨#[]⟩, .slice none 0 0] 26 (0, 0))) := Lib.hid (by rw [← hw5]; exact (setRow_other w4.drew xb (ab + 1) _ (by omega)).trans HZ4a.out)
  refine plS_void (w' := w5) rfl rfl (by rw [← hw5]; exact exec_store_sub 23 (.tmp 39) (.tmp 38) rfl xb 7 _ (mk2 k a).cs _ rfl rfl 26 HX4a.out (hnd_info _ _) (by show 7 + 2 ≤ 12; omega) (by simp [Value.oneCell']) rfl) HS5a.out ?_; simp only [Act.put, List.setIfInBounds_toArray, List.set_cons_zero, List.set_cons_succ]
  clear hw5 HS0 HX4a HZ4a HS4a E4
  refine plS_done ?_
  have W6 : Hid (On2 xb xb w5 (w5.setCell ⟨xb, 9, none⟩ (.string ⟨(a.nm.take 40).toArray⟩))) := Lib.hid (On2.set _ _ _ (.inl rfl))
  have HS6 := Lib.hid (W6.out.heap HS5a.out (by omega) (by omega))
  have HX6 : Hid ((w5.setCell ⟨xb, 9, none⟩ (.string ⟨(a.nm.take 40).toArray⟩)).heap[xb]? = some (.cells (mk4 k a).cs 26 (0, 0))) := Lib.hid (set_blkC HX5a.out 9 _)
  have HZ6 := Lib.hid (W6.out.heap HZ5a.out (by omega) (by omega))
  have y9 : w5.cell? ⟨ab, 9, none⟩ = some (.string ⟨a.nm.toArray⟩) := (cell_of_row _ ab 9 _ _ _ HS5a.out).trans rfl
  have x9 : w5.cell? ⟨xb, 9, none⟩ = some (.string ⟨#[]⟩) := (cell_of_row _ xb 9 _ _ _ HX5a.out).trans rfl
  have f9 := blk_freeC HX5a.out 9
  obtain ⟨w6, hw6⟩ : ∃ w6, w5.setCell ⟨xb, 9, none⟩ (.string ⟨(a.nm.take 40).toArray⟩) = w6 := ⟨_, rfl⟩
  rw [hw6] at W6 HS6 HX6 HZ6
  have y10 : w6.cell? ⟨ab, 10, none⟩ = some (.string ⟨a.n2.toArray⟩) := (cell_of_row _ ab 10 _ _ _ HS6.out).trans rfl
  have x10 : w6.cell? ⟨xb, 10, none⟩ = some (.string ⟨#[]⟩) := (cell_of_row _ xb 10 _ _ _ HX6.out).trans rfl
  have f10 := blk_freeC HX6.out 10
  have W7 : Hid (On2 xb xb w6 (w6.setCell ⟨xb, 10, none⟩ (.string ⟨(a.n2.take 40).toArray⟩))) := Lib.hid (On2.set _ _ _ (.inl rfl))
  have HS7 := Lib.hid (W7.out.heap HS6.out (by omega) (by omega))
  have HX7 : Hid ((w6.setCell ⟨xb, 10, none⟩ (.string ⟨(a.n2.take 40).toArray⟩)).heap[xb]? = some (.cells (mk5 k a).cs 26 (0, 0))) := Lib.hid (set_blkC HX6.out 10 _)
  have HZ7 := Lib.hid (W7.out.heap HZ6.out (by omega) (by omega))
  obtain ⟨w7, hw7⟩ : ∃ w7, w6.setCell ⟨xb, 10, none⟩ (.string ⟨(a.n2.take 40).toArray⟩) = w7 := ⟨_, rfl⟩
  rw [hw7] at W7 HS7 HX7 HZ7
  have y11 : w7.cell? ⟨ab, 11, none⟩ = some (.slice a.dA a.dn a.dk) := (cell_of_row _ ab 11 _ _ _ HS7.out).trans rfl
  have E7 : Hid (Ext w w7) := Lib.hid ((W6.out.trans W7.out).ext E5.out (by omega) (by omega))
  go_wp2_with fail
  refine (short_any a.nm 40 40 rfl _ hr.out.nm).mono ?_
  rintro e _ ⟨rfl, rfl⟩
  go_wp2_with fail
  refine (short_any a.n2 40 40 rfl _ hr.out.n2).mono ?_
  rintro e _ ⟨rfl, rfl⟩
  go_wp2_with fail
  refine (few_nat a.dA a.dn a.dk 30 30 (bs l) _ (HSD.out.ext E7.out) (fun u hu => bs_one l u hu) (by omega) (by omega) rfl).mono ?_
  rintro e w8 ⟨v, rfl, own, e8⟩
  obtain ⟨A, c, rfl, see⟩ := Sees.of_own own
  have HX8 := Lib.hid (e8.heap HX7.out)
  have HZ8 := Lib.hid (e8.heap HZ7.out)
  have E8 := Lib.hid (E7.out.trans e8)
  have SE8 := Lib.hid see
  have x11 : w8.cell? ⟨xb, 11, none⟩ = some (.slice none 0 0) := (cell_of_row _ xb 11 _ _ _ HX8.out).trans rfl
  have f11 := blk_freeC HX8.out 11
  have W9 : Hid (On2 xb xb w8 (w8.setCell ⟨xb, 11, none⟩ (.slice A (min a.dn 30) c))) := Lib.hid (On2.set _ _ _ (.inl rfl))
  have HX9 : Hid ((w8.setCell ⟨xb, 11, none⟩ (.slice A (min a.dn 30) c)).heap[xb]? = some (.cells (mkA k a A (min a.dn 30) c).cs 26 (0, 0))) := Lib.hid (set_blkC HX8.out 11 _)
  have HZ9 := Lib.hid (W9.out.heap HZ8.out (by omega) (by omega))
  have SE9 : Hid (Sees (w8.setCell ⟨xb, 11, none⟩ (.slice A (min a.dn 30) c)) A (min a.dn 30) c (bs (l.take 30))) := Lib.hid (sees_offB (by rw [← bs_take]; exact SE8.out) HX8.out (AR.noB _) W9.out)
  have E9 : Hid (Ext w (w8.setCell ⟨xb, 11, none⟩ (.slice A (min a.dn 30) c))) := Lib.hid (W9.out.ext E8.out (by omega) (by omega))
  obtain ⟨w9, hw9⟩ : ∃ w9, w8.setCell ⟨xb, 11, none⟩ (.slice A (min a.dn 30) c) = w9 := ⟨_, rfl⟩
  clear see own e8
  rw [hw9] at W9 HX9 HZ9 SE9 E9
  go_wp2_with (first | (with_reducible refine wpList_load_row rfl 26 (.tmp 5) rfl xb rfl _ _ _ _ HX9.out Try.underlying26 rfl (HI.out _) ?_) | fail)
  refine (own14 _ _).mono ?_
  rintro e w10 ⟨rfl, e10⟩
  have HZ10 := Lib.hid (e10.heap HZ9.out)
  have HG := Lib.hid (setRow_heap w10 (ab + 1) _ (ownA (mkA k a A (min a.dn 30) c)).cs _ _ HZ10.out)
  have EG := Lib.hid (below_setRow (E9.out.trans e10) (by omega : w.heap.size ≤ ab + 1) (ownA (mkA k a A (min a.dn 30) c)).cs)
  have SEG : Hid (Sees (w10.setRow (ab + 1) (ownA (mkA k a A (min a.dn 30) c)).cs) A (min a.dn 30) c (bs (l.take 30))) := Lib.hid (sees_offB (SE9.out.ext e10) HZ10.out (fun i x h => by have hm := Array.mem_of_getElem? h; simp at hm) ⟨rfl, rfl, rfl, by simp [World.setRow], fun i hi h1 h2 => setRow_other _ _ _ _ h1⟩)
  go_wp2_with (first | (with_reducible refine wpList_store_row rfl 26 (.tmp 4) (.tmp 53) rfl (ab + 1) _ rfl rfl _ _ HZ10.out (HI.out _) rfl (HU.out _) ?_) | fail)
  refine bodyPost_ret (results_cell_row rfl _ _ (ab + 1) _ _ (0, 0) _ rfl HG.out Try.underlying26 rfl (HI.out _)) rfl ?_
  exact ⟨A, _, c, rfl, SEG.out, EG.out⟩
end Go.Proofs.Ytpjigdfllbhknaa
