/-
  Layer 18: a reply that may be, made of any: the walk.
-/
import Derived.Test.YtihiclnbbpablaaTelN
namespace Go.Proofs.Ytihiclnbbpablaa
open Go Go.RowKit
set_option linter.unusedVariables false
set_option linter.unusedSimpArgs false
theorem qid_zero : (Try.prog.info? 23).map (fun i => (i.size, i.zero)) = some (3, some (.agg #[.bool false, .int .i64 0, .int .i64 0])) := by kernel_rfl
set_option maxRecDepth 20000 in
set_option maxHeartbeats 4000000 in
theorem good18 (t : TL) (w : World) (hr0 : t.rng) (hok : t.Ok w) :
    Calls Try.prog 11 #[.agg t.cs] w fun e w' => ∃ A n c A2 n2 c2, e = .returned (.agg (ownT (mks t (mkd (mkq t A n c ((t.ql.take 8).map gq)) A2 n2 c2 (t.dl.take 30)))).cs) ∧ w'.ownsRow w.heap.size 23 3 (.slice A n c) n (((t.ql.take 8).map gq).flatMap qc) ∧ n = ((t.ql.take 8).map gq).length ∧ w'.ownsRow w.heap.size 5 1 (.slice A2 n2 c2) n2 (bs (t.dl.take 30)) ∧ Ext w w' := by
  have hr := Lib.hid hr0
  have HOK := Lib.hid hok
  have HQL : Hid (t.ql.length = t.qn) := Lib.hid hok.1.1
  obtain ⟨ab, hab⟩ : ∃ ab, w.heap.size = ab := ⟨_, rfl⟩
  obtain ⟨w2, hw2⟩ : ∃ w2, (w.alloc (.cells t.cs 29)).alloc (.cells #[.int .i64 0, .int .i64 0, .int .i64 0, .int .i64 0, .int .i64 0, .int .i64 0, .string ⟨#[]⟩, .bool false, .int .i64 0, .int .i64 0, .slice none 0 0, .slice none 0 0, .bool false, .int .i64 0, .int .i64 0, .int .i64 0, .int .i64 0, .string ⟨#[]⟩] 29) = w2 := ⟨_, rfl⟩
  have e2 : Ext w w2 := by rw [← hw2]; exact ((Ext.refl w).alloc _).alloc _
  have hb : w2.heap[ab]? = some (.cells t.cs 29 (0, 0)) := by rw [← hw2, ← hab]; exact ((Ext.refl _).alloc _).heap (heap_alloc_new w _)
  have hz : w2.heap[ab + 1]? = some (.cells #[.int .i64 0, .int .i64 0, .int .i64 0, .int .i64 0, .int .i64 0, .int .i64 0, .string ⟨#[]⟩, .bool false, .int .i64 0, .int .i64 0, .slice none 0 0, .slice none 0 0, .bool false, .int .i64 0, .int .i64 0, .int .i64 0, .int .i64 0, .string ⟨#[]⟩] 29 (0, 0)) := by rw [← hw2, ← hab]; exact heap_alloc2_new w _ _
  have HLT : Hid (w.heap.size = ab) := Lib.hid hab
  have HI := Lib.hid (fun b : TL => tl_info b)
  have HU := Lib.hid (fun b : TL => TL.one b)
  have HL7 : Hid (∀ (j : Nat) (v : Value), (qv t.q)[j]? = some v → t.cs[7 + j]? = some v) := Lib.hid (fun j v h => by
    have hj : j < 3 := (Array.getElem?_eq_some_iff.1 h).1
    match j, hj with
    | 0, _ => exact h
    | 1, _ => exact h
    | 2, _ => exact h
    | n + 3, h9 => omega)
  have HL12 : Hid (∀ (j : Nat) (v : Value), (qv t.s)[j]? = some v → t.cs[12 + j]? = some v) := Lib.hid (fun j v h => by
    have hj : j < 3 := (Array.getElem?_eq_some_iff.1 h).1
    match j, hj with
    | 0, _ => exact h
    | 1, _ => exact h
    | 2, _ => exact h
    | n + 3, h9 => omega)
  obtain ⟨w3, hw3⟩ : ∃ w3, w2.drew = w3 := ⟨_, rfl⟩
  have HBw3 : Hid ((fun v : World => v.heap[ab]? = some (.cells t.cs 29 (0, 0))) w3) := Lib.hid (by rw [← hw3]; exact hb)
  have HZw3 : Hid (w3.heap[ab + 1]? = some (.cells #[.int .i64 0, .int .i64 0, .int .i64 0, .int .i64 0, .int .i64 0, .int .i64 0, .string ⟨#[]⟩, .bool false, .int .i64 0, .int .i64 0, .slice none 0 0, .slice none 0 0, .bool false, .int .i64 0, .int .i64 0, .int .i64 0, .int .i64 0, .string ⟨#[]⟩] 29 (0, 0))) := Lib.hid (by rw [← hw3]; exact hz)
  have Ew3 : Hid (Ext w w3) := Lib.hid (by rw [← hw3]; exact e2.drew)
  clear hb hz e2 hr0 hok
  go_enter Try.func11, Try.ntmps11
  go_wp2_with fail
  refine wp_region_plS (fun v : World => v.heap[ab]? = some (.cells t.cs 29 (0, 0))) (.free 0 (.free 1 (.free 3 (.free 4 (.free 6 (.free 7 (.free 9 (.free 10 (.free 12 (.free 13 (.free 15 (.free 16 (.free 18 (.free 19 (.fork 2 22 (.free 5 (.free 8 (.free 11 (.free 14 (.free 17 (.fork 20 22 (.free 21 (.one 22 (.one 23 .nil))) (.one 20 (.free 21 (.one 23 .nil))))))))) (.one 2 (.free 5 (.free 8 (.free 11 (.free 14 (.free 17 (.one 20 (.free 21 (.one 23 .nil)))))))))))))))))))))))) (by kernel_rfl) (by kernel_rfl) (by kernel_rfl) (by kernel_rfl) ?_
  rw [hw3]
  refine plS_val (v := ?_) rfl rfl HBw3.out (fun w' hw' => ?_) ?_; rotate_left; (· skip; go_simp; try with_reducible rfl); simp only [Act.put, List.setIfInBounds_toArray, List.set_cons_zero, List.set_cons_succ]
  refine plS_val (v := ?_) rfl rfl HBw3.out (fun w' hw' => ?_) ?_; rotate_left; (· have h9 : w'.cell? ⟨ab, 0, none⟩ = some (.int .i64 t.ty) := (cell_of_row w' ab 0 _ _ _ hw').trans rfl; go_simp; try with_reducible rfl); simp only [Act.put, List.setIfInBounds_toArray, List.set_cons_zero, List.set_cons_succ]
  refine plS_val (v := ?_) rfl rfl HBw3.out (fun w' hw' => ?_) ?_; rotate_left; (· skip; go_simp; try with_reducible rfl); simp only [Act.put, List.setIfInBounds_toArray, List.set_cons_zero, List.set_cons_succ]
  refine plS_val (v := ?_) rfl rfl HBw3.out (fun w' hw' => ?_) ?_; rotate_left; (· have h9 : w'.cell? ⟨ab, 1, none⟩ = some (.int .i64 t.tg) := (cell_of_row w' ab 1 _ _ _ hw').trans rfl; go_simp; try with_reducible rfl); simp only [Act.put, List.setIfInBounds_toArray, List.set_cons_zero, List.set_cons_succ]
  refine plS_val (v := ?_) rfl rfl HBw3.out (fun w' hw' => ?_) ?_; rotate_left; (· skip; go_simp; try with_reducible rfl); simp only [Act.put, List.setIfInBounds_toArray, List.set_cons_zero, List.set_cons_succ]
  refine plS_val (v := ?_) rfl rfl HBw3.out (fun w' hw' => ?_) ?_; rotate_left; (· have h9 : w'.cell? ⟨ab, 2, none⟩ = some (.int .i64 t.cd) := (cell_of_row w' ab 2 _ _ _ hw').trans rfl; go_simp; try with_reducible rfl); simp only [Act.put, List.setIfInBounds_toArray, List.set_cons_zero, List.set_cons_succ]
  refine plS_val (v := ?_) rfl rfl HBw3.out (fun w' hw' => ?_) ?_; rotate_left; (· skip; go_simp; try with_reducible rfl); simp only [Act.put, List.setIfInBounds_toArray, List.set_cons_zero, List.set_cons_succ]
  refine plS_val (v := ?_) rfl rfl HBw3.out (fun w' hw' => ?_) ?_; rotate_left; (· have h9 : w'.cell? ⟨ab, 3, none⟩ = some (.int .i64 t.ms) := (cell_of_row w' ab 3 _ _ _ hw').trans rfl; go_simp; try with_reducible rfl); simp only [Act.put, List.setIfInBounds_toArray, List.set_cons_zero, List.set_cons_succ]
  refine plS_val (v := ?_) rfl rfl HBw3.out (fun w' hw' => ?_) ?_; rotate_left; (· skip; go_simp; try with_reducible rfl); simp only [Act.put, List.setIfInBounds_toArray, List.set_cons_zero, List.set_cons_succ]
  refine plS_val (v := ?_) rfl rfl HBw3.out (fun w' hw' => ?_) ?_; rotate_left; (· have h9 : w'.cell? ⟨ab, 4, none⟩ = some (.int .i64 t.io) := (cell_of_row w' ab 4 _ _ _ hw').trans rfl; go_simp; try with_reducible rfl); simp only [Act.put, List.setIfInBounds_toArray, List.set_cons_zero, List.set_cons_succ]
  refine plS_val (v := ?_) rfl rfl HBw3.out (fun w' hw' => ?_) ?_; rotate_left; (· skip; go_simp; try with_reducible rfl); simp only [Act.put, List.setIfInBounds_toArray, List.set_cons_zero, List.set_cons_succ]
  refine plS_val (v := ?_) rfl rfl HBw3.out (fun w' hw' => ?_) ?_; rotate_left; (· have h9 : w'.cell? ⟨ab, 5, none⟩ = some (.int .i64 t.ct) := (cell_of_row w' ab 5 _ _ _ hw').trans rfl; go_simp; try with_reducible rfl); simp only [Act.put, List.setIfInBounds_toArray, List.set_cons_zero, List.set_cons_succ]
  refine plS_val (v := ?_) rfl rfl HBw3.out (fun w' hw' => ?_) ?_; rotate_left; (· skip; go_simp; try with_reducible rfl); simp only [Act.put, List.setIfInBounds_toArray, List.set_cons_zero, List.set_cons_succ]
  refine plS_val (v := .agg (qv t.q)) rfl rfl HBw3.out (fun w' hw' => exec_loadSub 23 _ rfl ab 7 rfl 29 _ _ _ _ hw' HL7.out Try.underlying23 rfl (qid_info _)) ?_; simp only [Act.put, List.setIfInBounds_toArray, List.set_cons_zero, List.set_cons_succ]
  refine plS_fork ?_ ?_
  · refine plS_call 27 #[.int .i64 t.ty] rfl rfl (by go_simp) ?_
    refine (kind18 t.ty w3 hr.out.ty.1 hr.out.ty.2).mono ?_
    rintro e w4 ⟨rfl, eK⟩
    have HBw4 : Hid ((fun v : World => v.heap[ab]? = some (.cells t.cs 29 (0, 0))) w4) := Lib.hid (eK.heap HBw3.out)
    have HZw4 := Lib.hid (eK.heap HZw3.out)
    have Ew4 := Lib.hid (Ew3.out.trans eK)
    have htr := trivial
    refine ⟨_, rfl, HBw4.out, ?_⟩; simp only [Act.put, List.setIfInBounds_toArray, List.set_cons_zero, List.set_cons_succ]
    clear eK
    refine plS_even 18 #[.int .i64 t.tg, .int .i64 65536] (.int .i64 (aroundZ t.tg 65536)) rfl rfl HBw4.out (fun w' hw' => by go_simp) (fun w' hw' => around_any t.tg 65536 w' hr.out.tg.1 hr.out.tg.2 (by omega) (by omega)) ?_; simp only [Act.put, List.setIfInBounds_toArray, List.set_cons_zero, List.set_cons_succ]
    refine plS_even 18 #[.int .i64 t.cd, .int .i64 65536] (.int .i64 (aroundZ t.cd 65536)) rfl rfl HBw4.out (fun w' hw' => by go_simp) (fun w' hw' => around_any t.cd 65536 w' hr.out.cd.1 hr.out.cd.2 (by omega) (by omega)) ?_; simp only [Act.put, List.setIfInBounds_toArray, List.set_cons_zero, List.set_cons_succ]
    refine plS_even 28 #[.int .i64 t.ms] (.int .i64 (aroundZ t.ms 4294967296)) rfl rfl HBw4.out (fun w' hw' => by go_simp) (fun w' hw' => low_any t.ms w' hr.out.ms.1 hr.out.ms.2) ?_; simp only [Act.put, List.setIfInBounds_toArray, List.set_cons_zero, List.set_cons_succ]
    refine plS_even 28 #[.int .i64 t.io] (.int .i64 (aroundZ t.io 4294967296)) rfl rfl HBw4.out (fun w' hw' => by go_simp) (fun w' hw' => low_any t.io w' hr.out.io.1 hr.out.io.2) ?_; simp only [Act.put, List.setIfInBounds_toArray, List.set_cons_zero, List.set_cons_succ]
    refine plS_even 28 #[.int .i64 t.ct] (.int .i64 (aroundZ t.ct 4294967296)) rfl rfl HBw4.out (fun w' hw' => by go_simp) (fun w' hw' => low_any t.ct w' hr.out.ct.1 hr.out.ct.2) ?_; simp only [Act.put, List.setIfInBounds_toArray, List.set_cons_zero, List.set_cons_succ]
    refine plS_fork ?_ ?_
    · refine plS_call 29 #[.agg (qv t.q)] rfl rfl (by go_simp) ?_
      refine (good_qid t.q w4 hr.out.q.1 hr.out.q.2).mono ?_
      rintro e w5 ⟨rfl, eK⟩
      have HBw5 : Hid ((fun v : World => v.heap[ab]? = some (.cells t.cs 29 (0, 0))) w5) := Lib.hid (eK.heap HBw4.out)
      have HZw5 := Lib.hid (eK.heap HZw4.out)
      have Ew5 := Lib.hid (Ew4.out.trans eK)
      have htr := trivial
      refine ⟨_, rfl, HBw5.out, ?_⟩; simp only [Act.put, List.setIfInBounds_toArray, List.set_cons_zero, List.set_cons_succ]
      clear eK
      refine plS_val (v := .agg (mk1 t).cs) rfl rfl HBw5.out (fun w' hw' => exec_build _ _ rfl _ (by kernel_rfl)) ?_; simp only [Act.put, List.setIfInBounds_toArray, List.set_cons_zero, List.set_cons_succ]
      obtain ⟨xb, hxb⟩ : ∃ xb, w5.heap.size = xb := ⟨_, rfl⟩
      obtain ⟨w6, hw6⟩ : ∃ w6, w5.alloc (.cells #[.int .i64 0, .int .i64 0, .int .i64 0, .int .i64 0, .int .i64 0, .int .i64 0, .string ⟨#[]⟩, .bool false, .int .i64 0, .int .i64 0, .slice none 0 0, .slice none 0 0, .bool false, .int .i64 0, .int .i64 0, .int .i64 0, .int .i64 0, .string ⟨#[]⟩] 29) = w6 := ⟨_, rfl⟩
      have HXA0 : Hid (w6.heap[xb]? = some (.cells #[.int .i64 0, .int .i64 0, .int .i64 0, .int .i64 0, .int .i64 0, .int .i64 0, .string ⟨#[]⟩, .bool false, .int .i64 0, .int .i64 0, .slice none 0 0, .slice none 0 0, .bool false, .int .i64 0, .int .i64 0, .int .i64 0, .int .i64 0, .string ⟨#[]⟩] 29 (0, 0))) := Lib.hid (by rw [← hw6, ← hxb]; exact heap_alloc_new _ _)
      have eAl : Ext w5 w6 := by rw [← hw6]; exact (Ext.refl _).alloc _
      have HNE : Hid (¬ ab = xb ∧ ¬ ab + 1 = xb) := Lib.hid (by have := HLT.out; have := (Array.getElem?_eq_some_iff.1 HZw5.out).1; omega)
      have HXB : Hid (w.heap.size ≤ xb) := Lib.hid (by have := (Array.getElem?_eq_some_iff.1 HZw5.out).1; omega)
      have HBw6 : Hid ((fun v : World => v.heap[ab]? = some (.cells t.cs 29 (0, 0))) w6) := Lib.hid (eAl.heap HBw5.out)
      have HZw6 := Lib.hid (eAl.heap HZw5.out)
      have Ew6 := Lib.hid (Ew5.out.trans eAl)
      refine plS_run (w' := w6) (.pointer (some ⟨xb, 0, none⟩)) rfl rfl (by rw [← hw6]; have q := hxb; go_simp; try (first | rfl | (rw [q]))) HBw6.out ?_; simp only [Act.put, List.setIfInBounds_toArray, List.set_cons_zero, List.set_cons_succ]
      clear hw6 eAl
      have HXA := HXA0
      have HBB := HBw6
      have HZB := HZw6
      have EB := Ew6
      obtain ⟨ws, hws⟩ : ∃ ws, (w6).setRow xb (mk1 t).cs = ws := ⟨_, rfl⟩
      have HXS : Hid (ws.heap[xb]? = some (.cells (mk1 t).cs 29 (0, 0))) := Lib.hid (by rw [← hws]; exact setRow_heap _ xb _ _ _ _ HXA.out)
      have HBS : Hid (ws.heap[ab]? = some (.cells t.cs 29 (0, 0))) := Lib.hid (by rw [← hws]; exact (setRow_other _ _ _ _ HNE.out.1).trans HBB.out)
      have HZS : Hid (ws.heap[ab + 1]? = some (.cells #[.int .i64 0, .int .i64 0, .int .i64 0, .int .i64 0, .int .i64 0, .int .i64 0, .string ⟨#[]⟩, .bool false, .int .i64 0, .int .i64 0, .slice none 0 0, .slice none 0 0, .bool false, .int .i64 0, .int .i64 0, .int .i64 0, .int .i64 0, .string ⟨#[]⟩] 29 (0, 0))) := Lib.hid (by rw [← hws]; exact (setRow_other _ _ _ _ HNE.out.2).trans HZB.out)
      have ES : Hid (Ext w ws) := Lib.hid (by rw [← hws]; exact below_setRow EB.out HXB.out _)
      refine plS_void (w' := ws) rfl rfl (by rw [← hws]; exact exec_storeRow 29 (.tmp 3) (.tmp 26) rfl xb _ rfl rfl 29 _ HXA.out (HI.out _) rfl (HU.out _)) HBS.out ?_
      refine plS_done ?_
      clear hws HXA HBB HZB EB
      have HX6 := HXS
      have HZS0 := HZS
      have HXG : Hid (ab + 1 < xb + 1) := Lib.hid (by have := HLT.out; have := HXB.out; have := HNE.out; omega)
      have HZ6 := HZS
      have HB6 := HBS
      have E6 := ES
      clear HXS HZS HBS ES
      have y6 : ws.cell? ⟨ab, 6, none⟩ = some (.string ⟨t.nm.toArray⟩) := (cell_of_row _ ab 6 _ _ _ HB6.out).trans rfl
      have x6 : ws.cell? ⟨xb, 6, none⟩ = some (.string ⟨#[]⟩) := (cell_of_row _ xb 6 _ _ _ HX6.out).trans rfl
      have f6 := blk_freeC HX6.out 6
      have W7 : Hid (On2 xb xb ws (ws.setCell ⟨xb, 6, none⟩ (.string ⟨(t.nm.take 40).toArray⟩))) := Lib.hid (On2.set _ _ _ (.inl rfl))
      have HX7 : Hid ((ws.setCell ⟨xb, 6, none⟩ (.string ⟨(t.nm.take 40).toArray⟩)).heap[xb]? = some (.cells (mk2 t).cs 29 (0, 0))) := Lib.hid (set_blkC HX6.out 6 _)
      have HB7 := Lib.hid (W7.out.heap HB6.out HNE.out.1 HNE.out.1)
      have HZ7 := Lib.hid (W7.out.heap HZ6.out HNE.out.2 HNE.out.2)
      have E7 := Lib.hid (W7.out.ext E6.out HXB.out HXB.out)
      obtain ⟨w7, hw7⟩ : ∃ w7, ws.setCell ⟨xb, 6, none⟩ (.string ⟨(t.nm.take 40).toArray⟩) = w7 := ⟨_, rfl⟩
      rw [hw7] at W7 HX7 HB7 HZ7 E7
      go_wp2_with fail
      refine (short_any t.nm 40 40 rfl _ hr.out.nm).mono ?_
      rintro e _ ⟨rfl, rfl⟩
      go_wp2_with fail
      clear hw7 y6 x6 f6
      have hq8 := HQL.out
      go_loopw [4] (fun i wr => ∃ (j : Nat) (A : Option Addr) (c : Nat), j ≤ 8 ∧ j ≤ t.qn ∧ i = .int .i64 j ∧ wr.heap[xb]? = some (.cells (mkq t A j c ((t.ql.take j).map gq)).cs 29 (0, 0)) ∧ wr.ownsRow (xb + 1) 23 3 (.slice A j c) j (((t.ql.take j).map gq).flatMap qc) ∧ wr.heap[ab]? = some (.cells t.cs 29 (0, 0)) ∧ wr.heap[ab + 1]? = some (.cells #[.int .i64 0, .int .i64 0, .int .i64 0, .int .i64 0, .int .i64 0, .int .i64 0, .string ⟨#[]⟩, .bool false, .int .i64 0, .int .i64 0, .slice none 0 0, .slice none 0 0, .bool false, .int .i64 0, .int .i64 0, .int .i64 0, .int .i64 0, .string ⟨#[]⟩] 29 (0, 0)) ∧ Ext w wr ∧ xb + 1 ≤ wr.heap.size) (fun i _ => t.qn - (intOf i).toNat)
      case atStart => exact ⟨0, none, 0, by omega, by omega, rfl, HX7.out, World.ownsRow_nil _ _ _ _, HB7.out, HZ7.out, E7.out, (Array.getElem?_eq_some_iff.1 HX7.out).1⟩
      case round =>
        obtain ⟨j, A1, c1, hj8, hjn, rfl, hx, own, hb, hz, er, hsz⟩ := hrel
        have HX := Lib.hid hx
        have OWN := Lib.hid own
        have HBr := Lib.hid hb
        have HZr := Lib.hid hz
        have ER := Lib.hid er
        have HSZ := Lib.hid hsz
        have ya : wr.cell? ⟨ab, 10, none⟩ = some (.slice t.qA t.qn t.qk) := (cell_of_row _ ab 10 _ _ _ hb).trans rfl
        clear hx own hb hz er hsz
        by_cases hlt : j < t.qn ∧ j < 8
        · have hl1 : (j : Int) < (t.qn : Int) := by omega
          have hl2 : (j : Int) < 8 := by omega
          obtain ⟨qb, off, q, hqA, hqj, d0, d1, d2, _⟩ := HOK.out.1.at_ j hlt.1
          have HC3 : Hid (∀ w', Ext w w' → ∀ (k : Nat) (v : Value), (qv q)[k]? = some v → w'.cell? ⟨qb, (off + j * 3) + k, none⟩ = some v) := Lib.hid fun w' he k v hv => by
            have hk : k < 3 := (Array.getElem?_eq_some_iff.1 hv).1
            match k, hk with
            | 0, _ => rw [show some v = some (.bool q.1) from hv.symm]; exact he.cell d0
            | 1, _ => rw [show some v = some (.int .i64 q.2.1) from hv.symm]; exact he.cell d1
            | 2, _ => rw [show some v = some (.int .i64 q.2.2) from hv.symm]; exact he.cell d2
            | n + 3, h => omega
          have HQ9 := Lib.hid (hr.out.ql q (List.mem_of_getElem? hqj))
          have HQJ := Lib.hid hqj
          have HQA := Lib.hid hqA
          clear d0 d1 d2 hqj
          have HCW : Hid (∀ w', Ext w w' → ∀ (k : Nat) (v : Value), (qv q)[k]? = some v → w'.cell? ⟨qb, (off + j * 3) + k, none⟩ = some v) := HC3
          have HS0 : Hid ((fun v : World => Ext w v ∧ v.heap[ab]? = some (.cells t.cs 29 (0, 0))) wr.drew) := Lib.hid ⟨ER.out.drew, HBr.out⟩
          have hqA' := HQA.out
          go_wp2_with fail
          refine wp_region_plS (fun v : World => Ext w v ∧ v.heap[ab]? = some (.cells t.cs 29 (0, 0))) (.free 0 (.free 2 (.free 3 (.free 4 (.free 5 (.free 6 (.fork 1 7 (.one 7 (.one 8 (.one 9 (.free 10 (.one 11 .nil))))) (.fork 1 8 (.one 8 (.one 9 (.free 10 (.one 11 .nil)))) (.one 1 (.one 9 (.free 10 (.one 11 .nil)))))))))))) (by kernel_rfl) (by kernel_rfl) (by kernel_rfl) (by kernel_rfl) ?_
          refine plS_val (v := ?_) rfl rfl HS0.out (fun w' hw' => ?_) ?_; rotate_left; (· skip; go_simp; try with_reducible rfl); simp only [Act.put, List.setIfInBounds_toArray, List.set_cons_zero, List.set_cons_succ]
          refine plS_val (v := ?_) rfl rfl HS0.out (fun w' hw' => ?_) ?_; rotate_left; (· skip; go_simp; try with_reducible rfl); simp only [Act.put, List.setIfInBounds_toArray, List.set_cons_zero, List.set_cons_succ]
          refine plS_val (v := .slice t.qA t.qn t.qk) rfl rfl HS0.out (fun w' hw' => by have h9 : w'.cell? ⟨ab, 10, none⟩ = some (.slice t.qA t.qn t.qk) := (cell_of_row w' ab 10 _ _ _ hw'.2).trans rfl; go_simp; try rfl) ?_; simp only [Act.put, List.setIfInBounds_toArray, List.set_cons_zero, List.set_cons_succ]
          refine plS_val (v := ?_) rfl rfl HS0.out (fun w' hw' => ?_) ?_; rotate_left; (· skip; go_simp; try with_reducible rfl); simp only [Act.put, List.setIfInBounds_toArray, List.set_cons_zero, List.set_cons_succ]
          refine plS_val (v := .pointer (some ⟨qb, off + j * 3, none⟩)) rfl rfl HS0.out (fun w' hw' => by go_simp; first | done | omega | (intro hx; omega)) ?_; simp only [Act.put, List.setIfInBounds_toArray, List.set_cons_zero, List.set_cons_succ]
          refine plS_val (v := .agg (qv q)) rfl rfl HS0.out (fun w' hw' => exec_loadCells 23 _ rfl qb (off + j * 3) rfl _ _ (HCW.out w' hw'.1) Try.underlying23 rfl (qid_info _)) ?_; simp only [Act.put, List.setIfInBounds_toArray, List.set_cons_zero, List.set_cons_succ]
          refine plS_fork ?_ ?_
          · refine plS_run (w' := wr.drew) (.slice A1 j c1) rfl rfl (by have h9 : World.cell? wr.drew ⟨xb, 10, none⟩ = some (.slice A1 j c1) := (cell_of_row _ xb 10 _ _ _ HX.out).trans rfl; go_simp; try rfl) HS0.out ?_; simp only [Act.put, List.setIfInBounds_toArray, List.set_cons_zero, List.set_cons_succ]
            refine plS_call 29 #[.agg (qv q)] rfl rfl (by go_simp) ?_
            refine (good_qid q _ HQ9.out.1 HQ9.out.2).mono ?_
            rintro e w8 ⟨rfl, e8⟩
            have HX8 := Lib.hid (e8.heap (show wr.drew.heap[xb]? = _ from HX.out))
            have HZ8 := Lib.hid (e8.heap (show wr.drew.heap[ab + 1]? = _ from HZr.out))
            have OW8 := Lib.hid (own_ext3 OWN.out ((Ext.refl wr).drew.trans e8))
            have HS8 : Hid ((fun v : World => Ext w v ∧ v.heap[ab]? = some (.cells t.cs 29 (0, 0))) w8) := Lib.hid ⟨ER.out.trans ((Ext.refl wr).drew.trans e8), e8.heap HS0.out.2⟩
            have HSZ8 : Hid (xb + 1 ≤ w8.heap.size) := Lib.hid (Nat.le_trans HSZ.out e8.size)
            refine ⟨_, rfl, HS8.out, ?_⟩; simp only [Act.put, List.setIfInBounds_toArray, List.set_cons_zero, List.set_cons_succ]
            clear e8
            obtain ⟨nb, hnb⟩ : ∃ nb, w8.heap.size = nb := ⟨_, rfl⟩
            obtain ⟨w9, hw9⟩ : ∃ w9, w8.alloc (.cells (qv (gq q)) 23) = w9 := ⟨_, rfl⟩
            have e9 : Ext w8 w9 := by rw [← hw9]; exact (Ext.refl _).alloc _
            have HN9 : Hid (w9.heap[nb]? = some (.cells (qv (gq q)) 23 (0, 0))) := Lib.hid (by rw [← hw9, ← hnb]; exact heap_alloc_new _ _)
            have HX9 := Lib.hid (e9.heap HX8.out)
            have HZ9 := Lib.hid (e9.heap HZ8.out)
            have OW9 := Lib.hid (own_ext3 OW8.out e9)
            have HS9 : Hid ((fun v : World => Ext w v ∧ v.heap[ab]? = some (.cells t.cs 29 (0, 0))) w9) := Lib.hid ⟨HS8.out.1.trans e9, e9.heap HS8.out.2⟩
            have HSZ9 : Hid (xb + 1 ≤ w9.heap.size) := Lib.hid (Nat.le_trans HSZ8.out e9.size)
            refine plS_run (w' := w9) (.slice (some ⟨nb, 0, none⟩) 1 1) rfl rfl ?hv HS9.out ?_
            case hv =>
              obtain ⟨ie, hie, hsz⟩ := Option.map_eq_some_iff.1 qid_zero
              injection hsz with hsz hz
              rw [← hw9, ← hnb]
              refine exec_buildSlice 24 23 1 _ rfl _ ie (.agg #[.bool false, .int .i64 0, .int .i64 0]) (by kernel_rfl) hie hz (by rw [hsz]; omega) (by rw [hsz]; omega) ?_
              rw [hsz]
              kernel_rfl
            simp only [Act.put, List.setIfInBounds_toArray, List.set_cons_zero, List.set_cons_succ]
            clear hw9 hnb e9
            obtain ⟨v10, w10, hrun, own10, hk10, e10, hs10⟩ := push_qid OW9.out HN9.out (by omega) HS9.out.1 (Nat.le_succ_of_le HXB.out) HSZ9.out
            obtain ⟨A2, c2, rfl, _⟩ := seesQ_own own10 (by rw [List.length_append, List.length_map, List.length_take, List.length_singleton]; have := HQL.out; omega)
            have HX10 := Lib.hid (hk10 xb _ (by omega) HX9.out)
            have HZ10 := Lib.hid (hk10 (ab + 1) _ (by have := (Array.getElem?_eq_some_iff.1 HZS0.out).1; have := HXG.out; omega) HZ9.out)
            have HS10 : Hid ((fun v : World => Ext w v ∧ v.heap[ab]? = some (.cells t.cs 29 (0, 0))) w10) := Lib.hid ⟨e10, hk10 ab _ (by have := HXG.out; omega) HS9.out.2⟩
            have OW10 := Lib.hid own10
            have HSZ10 : Hid (xb + 1 ≤ w10.heap.size) := Lib.hid (Nat.le_trans HSZ9.out hs10)
            refine plS_run (w' := w10) (.slice A2 (j + 1) c2) rfl rfl (exec_app (.tmp 43) (.tmp 50) _ rfl _ _ rfl rfl _ _ hrun) HS10.out ?_; simp only [Act.put, List.setIfInBounds_toArray, List.set_cons_zero, List.set_cons_succ]
            clear own10 hk10 e10 hs10 hrun
            refine plS_val (v := ?_) rfl rfl HS10.out (fun w' hw' => ?_) ?_; rotate_left; (· skip; go_simp; try with_reducible rfl); simp only [Act.put, List.setIfInBounds_toArray, List.set_cons_zero, List.set_cons_succ]
            obtain ⟨w11, hw11⟩ : ∃ w11, w10.setCell ⟨xb, 10, none⟩ (.slice A2 (j + 1) c2) = w11 := ⟨_, rfl⟩
            have o11 : On2 xb xb w10 w11 := by rw [← hw11]; exact On2.set _ _ _ (.inl rfl)
            have HX11 : Hid (w11.heap[xb]? = some (.cells (mkq t A2 (j + 1) c2 ((t.ql.take (j + 1)).map gq)).cs 29 (0, 0))) := Lib.hid (by rw [← hw11]; exact set_blkC HX10.out 10 _)
            have HB11 := Lib.hid (o11.heap HS10.out.2 HNE.out.1 HNE.out.1)
            have HZ11 := Lib.hid (o11.heap HZ10.out HNE.out.2 HNE.out.2)
            have E11 := Lib.hid (o11.ext HS10.out.1 HXB.out HXB.out)
            have HTK : Hid ((t.ql.take (j + 1)).map gq = (t.ql.take j).map gq ++ [gq q]) := Lib.hid (by
              obtain ⟨hjl, hje⟩ := List.getElem?_eq_some_iff.1 HQJ.out
              rw [List.take_succ_eq_append_getElem hjl, hje, List.map_append, List.map_singleton])
            have OW11 : Hid (w11.ownsRow (xb + 1) 23 3 (.slice A2 (j + 1) c2) (j + 1) (((t.ql.take (j + 1)).map gq).flatMap qc)) := Lib.hid (by
              rw [HTK.out]
              exact own_on2 OW10.out o11 (fun e => by have := (OW10.out.lt _ e).1; omega))
            have HSZ11 : Hid (xb + 1 ≤ w11.heap.size) := Lib.hid (Nat.le_trans HSZ10.out o11.size)
            refine plS_void (w' := w11) rfl rfl (by
              have h9 : w10.cell? ⟨xb, 10, none⟩ = some (.slice A1 j c1) := (cell_of_row _ xb 10 _ _ _ HX10.out).trans rfl
              have h8 := blk_freeC HX10.out 10
              go_simp
              try exact hw11) ⟨E11.out, HB11.out⟩ ?_
            refine plS_done ?_
            clear hw11 o11
            go_wp2_with fail
            go_roundw
            case rel => exact ⟨j + 1, A2, c2, by omega, by omega, by go_num, HX11.out, OW11.out, HB11.out, HZ11.out, E11.out, HSZ11.out⟩
            case measure => simp [intOf]; omega
          · refine plS_call 29 #[.agg (qv q)] rfl rfl (by go_simp) ?_
            refine (good_qid q _ HQ9.out.1 HQ9.out.2).mono ?_
            rintro e w8 ⟨rfl, e8⟩
            have HX8 := Lib.hid (e8.heap (show wr.drew.heap[xb]? = _ from HX.out))
            have HZ8 := Lib.hid (e8.heap (show wr.drew.heap[ab + 1]? = _ from HZr.out))
            have OW8 := Lib.hid (own_ext3 OWN.out ((Ext.refl wr).drew.trans e8))
            have HS8 : Hid ((fun v : World => Ext w v ∧ v.heap[ab]? = some (.cells t.cs 29 (0, 0))) w8) := Lib.hid ⟨ER.out.trans ((Ext.refl wr).drew.trans e8), e8.heap HS0.out.2⟩
            have HSZ8 : Hid (xb + 1 ≤ w8.heap.size) := Lib.hid (Nat.le_trans HSZ.out e8.size)
            refine ⟨_, rfl, HS8.out, ?_⟩; simp only [Act.put, List.setIfInBounds_toArray, List.set_cons_zero, List.set_cons_succ]
            clear e8
            refine plS_fork ?_ ?_
            · refine plS_run (w' := w8) (.slice A1 j c1) rfl rfl (by have h9 : World.cell? w8 ⟨xb, 10, none⟩ = some (.slice A1 j c1) := (cell_of_row _ xb 10 _ _ _ HX8.out).trans rfl; go_simp; try rfl) HS8.out ?_; simp only [Act.put, List.setIfInBounds_toArray, List.set_cons_zero, List.set_cons_succ]
              obtain ⟨nb, hnb⟩ : ∃ nb, w8.heap.size = nb := ⟨_, rfl⟩
              obtain ⟨w9, hw9⟩ : ∃ w9, w8.alloc (.cells (qv (gq q)) 23) = w9 := ⟨_, rfl⟩
              have e9 : Ext w8 w9 := by rw [← hw9]; exact (Ext.refl _).alloc _
              have HN9 : Hid (w9.heap[nb]? = some (.cells (qv (gq q)) 23 (0, 0))) := Lib.hid (by rw [← hw9, ← hnb]; exact heap_alloc_new _ _)
              have HX9 := Lib.hid (e9.heap HX8.out)
              have HZ9 := Lib.hid (e9.heap HZ8.out)
              have OW9 := Lib.hid (own_ext3 OW8.out e9)
              have HS9 : Hid ((fun v : World => Ext w v ∧ v.heap[ab]? = some (.cells t.cs 29 (0, 0))) w9) := Lib.hid ⟨HS8.out.1.trans e9, e9.heap HS8.out.2⟩
              have HSZ9 : Hid (xb + 1 ≤ w9.heap.size) := Lib.hid (Nat.le_trans HSZ8.out e9.size)
              refine plS_run (w' := w9) (.slice (some ⟨nb, 0, none⟩) 1 1) rfl rfl ?hv HS9.out ?_
              case hv =>
                obtain ⟨ie, hie, hsz⟩ := Option.map_eq_some_iff.1 qid_zero
                injection hsz with hsz hz
                rw [← hw9, ← hnb]
                refine exec_buildSlice 24 23 1 _ rfl _ ie (.agg #[.bool false, .int .i64 0, .int .i64 0]) (by kernel_rfl) hie hz (by rw [hsz]; omega) (by rw [hsz]; omega) ?_
                rw [hsz]
                kernel_rfl
              simp only [Act.put, List.setIfInBounds_toArray, List.set_cons_zero, List.set_cons_succ]
              clear hw9 hnb e9
              obtain ⟨v10, w10, hrun, own10, hk10, e10, hs10⟩ := push_qid OW9.out HN9.out (by omega) HS9.out.1 (Nat.le_succ_of_le HXB.out) HSZ9.out
              obtain ⟨A2, c2, rfl, _⟩ := seesQ_own own10 (by rw [List.length_append, List.length_map, List.length_take, List.length_singleton]; have := HQL.out; omega)
              have HX10 := Lib.hid (hk10 xb _ (by omega) HX9.out)
              have HZ10 := Lib.hid (hk10 (ab + 1) _ (by have := (Array.getElem?_eq_some_iff.1 HZS0.out).1; have := HXG.out; omega) HZ9.out)
              have HS10 : Hid ((fun v : World => Ext w v ∧ v.heap[ab]? = some (.cells t.cs 29 (0, 0))) w10) := Lib.hid ⟨e10, hk10 ab _ (by have := HXG.out; omega) HS9.out.2⟩
              have OW10 := Lib.hid own10
              have HSZ10 : Hid (xb + 1 ≤ w10.heap.size) := Lib.hid (Nat.le_trans HSZ9.out hs10)
              refine plS_run (w' := w10) (.slice A2 (j + 1) c2) rfl rfl (exec_app (.tmp 43) (.tmp 50) _ rfl _ _ rfl rfl _ _ hrun) HS10.out ?_; simp only [Act.put, List.setIfInBounds_toArray, List.set_cons_zero, List.set_cons_succ]
              clear own10 hk10 e10 hs10 hrun
              refine plS_val (v := ?_) rfl rfl HS10.out (fun w' hw' => ?_) ?_; rotate_left; (· skip; go_simp; try with_reducible rfl); simp only [Act.put, List.setIfInBounds_toArray, List.set_cons_zero, List.set_cons_succ]
              obtain ⟨w11, hw11⟩ : ∃ w11, w10.setCell ⟨xb, 10, none⟩ (.slice A2 (j + 1) c2) = w11 := ⟨_, rfl⟩
              have o11 : On2 xb xb w10 w11 := by rw [← hw11]; exact On2.set _ _ _ (.inl rfl)
              have HX11 : Hid (w11.heap[xb]? = some (.cells (mkq t A2 (j + 1) c2 ((t.ql.take (j + 1)).map gq)).cs 29 (0, 0))) := Lib.hid (by rw [← hw11]; exact set_blkC HX10.out 10 _)
              have HB11 := Lib.hid (o11.heap HS10.out.2 HNE.out.1 HNE.out.1)
              have HZ11 := Lib.hid (o11.heap HZ10.out HNE.out.2 HNE.out.2)
              have E11 := Lib.hid (o11.ext HS10.out.1 HXB.out HXB.out)
              have HTK : Hid ((t.ql.take (j + 1)).map gq = (t.ql.take j).map gq ++ [gq q]) := Lib.hid (by
                obtain ⟨hjl, hje⟩ := List.getElem?_eq_some_iff.1 HQJ.out
                rw [List.take_succ_eq_append_getElem hjl, hje, List.map_append, List.map_singleton])
              have OW11 : Hid (w11.ownsRow (xb + 1) 23 3 (.slice A2 (j + 1) c2) (j + 1) (((t.ql.take (j + 1)).map gq).flatMap qc)) := Lib.hid (by
                rw [HTK.out]
                exact own_on2 OW10.out o11 (fun e => by have := (OW10.out.lt _ e).1; omega))
              have HSZ11 : Hid (xb + 1 ≤ w11.heap.size) := Lib.hid (Nat.le_trans HSZ10.out o11.size)
              refine plS_void (w' := w11) rfl rfl (by
                have h9 : w10.cell? ⟨xb, 10, none⟩ = some (.slice A1 j c1) := (cell_of_row _ xb 10 _ _ _ HX10.out).trans rfl
                have h8 := blk_freeC HX10.out 10
                go_simp
                try exact hw11) ⟨E11.out, HB11.out⟩ ?_
              refine plS_done ?_
              clear hw11 o11
              go_wp2_with fail
              go_roundw
              case rel => exact ⟨j + 1, A2, c2, by omega, by omega, by go_num, HX11.out, OW11.out, HB11.out, HZ11.out, E11.out, HSZ11.out⟩
              case measure => simp [intOf]; omega
            · obtain ⟨nb, hnb⟩ : ∃ nb, w8.heap.size = nb := ⟨_, rfl⟩
              obtain ⟨w9, hw9⟩ : ∃ w9, w8.alloc (.cells (qv (gq q)) 23) = w9 := ⟨_, rfl⟩
              have e9 : Ext w8 w9 := by rw [← hw9]; exact (Ext.refl _).alloc _
              have HN9 : Hid (w9.heap[nb]? = some (.cells (qv (gq q)) 23 (0, 0))) := Lib.hid (by rw [← hw9, ← hnb]; exact heap_alloc_new _ _)
              have HX9 := Lib.hid (e9.heap HX8.out)
              have HZ9 := Lib.hid (e9.heap HZ8.out)
              have OW9 := Lib.hid (own_ext3 OW8.out e9)
              have HS9 : Hid ((fun v : World => Ext w v ∧ v.heap[ab]? = some (.cells t.cs 29 (0, 0))) w9) := Lib.hid ⟨HS8.out.1.trans e9, e9.heap HS8.out.2⟩
              have HSZ9 : Hid (xb + 1 ≤ w9.heap.size) := Lib.hid (Nat.le_trans HSZ8.out e9.size)
              refine plS_run (w' := w9) (.slice (some ⟨nb, 0, none⟩) 1 1) rfl rfl ?hv HS9.out ?_
              case hv =>
                obtain ⟨ie, hie, hsz⟩ := Option.map_eq_some_iff.1 qid_zero
                injection hsz with hsz hz
                rw [← hw9, ← hnb]
                refine exec_buildSlice 24 23 1 _ rfl _ ie (.agg #[.bool false, .int .i64 0, .int .i64 0]) (by kernel_rfl) hie hz (by rw [hsz]; omega) (by rw [hsz]; omega) ?_
                rw [hsz]
                kernel_rfl
              simp only [Act.put, List.setIfInBounds_toArray, List.set_cons_zero, List.set_cons_succ]
              clear hw9 hnb e9
              refine plS_run (w' := w9) (.slice A1 j c1) rfl rfl (by have h9 : World.cell? w9 ⟨xb, 10, none⟩ = some (.slice A1 j c1) := (cell_of_row _ xb 10 _ _ _ HX9.out).trans rfl; go_simp; try rfl) HS9.out ?_; simp only [Act.put, List.setIfInBounds_toArray, List.set_cons_zero, List.set_cons_succ]
              obtain ⟨v10, w10, hrun, own10, hk10, e10, hs10⟩ := push_qid OW9.out HN9.out (by omega) HS9.out.1 (Nat.le_succ_of_le HXB.out) HSZ9.out
              obtain ⟨A2, c2, rfl, _⟩ := seesQ_own own10 (by rw [List.length_append, List.length_map, List.length_take, List.length_singleton]; have := HQL.out; omega)
              have HX10 := Lib.hid (hk10 xb _ (by omega) HX9.out)
              have HZ10 := Lib.hid (hk10 (ab + 1) _ (by have := (Array.getElem?_eq_some_iff.1 HZS0.out).1; have := HXG.out; omega) HZ9.out)
              have HS10 : Hid ((fun v : World => Ext w v ∧ v.heap[ab]? = some (.cells t.cs 29 (0, 0))) w10) := Lib.hid ⟨e10, hk10 ab _ (by have := HXG.out; omega) HS9.out.2⟩
              have OW10 := Lib.hid own10
              have HSZ10 : Hid (xb + 1 ≤ w10.heap.size) := Lib.hid (Nat.le_trans HSZ9.out hs10)
              refine plS_run (w' := w10) (.slice A2 (j + 1) c2) rfl rfl (exec_app (.tmp 43) (.tmp 50) _ rfl _ _ rfl rfl _ _ hrun) HS10.out ?_; simp only [Act.put, List.setIfInBounds_toArray, List.set_cons_zero, List.set_cons_succ]
              clear own10 hk10 e10 hs10 hrun
              refine plS_val (v := ?_) rfl rfl HS10.out (fun w' hw' => ?_) ?_; rotate_left; (· skip; go_simp; try with_reducible rfl); simp only [Act.put, List.setIfInBounds_toArray, List.set_cons_zero, List.set_cons_succ]
              obtain ⟨w11, hw11⟩ : ∃ w11, w10.setCell ⟨xb, 10, none⟩ (.slice A2 (j + 1) c2) = w11 := ⟨_, rfl⟩
              have o11 : On2 xb xb w10 w11 := by rw [← hw11]; exact On2.set _ _ _ (.inl rfl)
              have HX11 : Hid (w11.heap[xb]? = some (.cells (mkq t A2 (j + 1) c2 ((t.ql.take (j + 1)).map gq)).cs 29 (0, 0))) := Lib.hid (by rw [← hw11]; exact set_blkC HX10.out 10 _)
              have HB11 := Lib.hid (o11.heap HS10.out.2 HNE.out.1 HNE.out.1)
              have HZ11 := Lib.hid (o11.heap HZ10.out HNE.out.2 HNE.out.2)
              have E11 := Lib.hid (o11.ext HS10.out.1 HXB.out HXB.out)
              have HTK : Hid ((t.ql.take (j + 1)).map gq = (t.ql.take j).map gq ++ [gq q]) := Lib.hid (by
                obtain ⟨hjl, hje⟩ := List.getElem?_eq_some_iff.1 HQJ.out
                rw [List.take_succ_eq_append_getElem hjl, hje, List.map_append, List.map_singleton])
              have OW11 : Hid (w11.ownsRow (xb + 1) 23 3 (.slice A2 (j + 1) c2) (j + 1) (((t.ql.take (j + 1)).map gq).flatMap qc)) := Lib.hid (by
                rw [HTK.out]
                exact own_on2 OW10.out o11 (fun e => by have := (OW10.out.lt _ e).1; omega))
              have HSZ11 : Hid (xb + 1 ≤ w11.heap.size) := Lib.hid (Nat.le_trans HSZ10.out o11.size)
              refine plS_void (w' := w11) rfl rfl (by
                have h9 : w10.cell? ⟨xb, 10, none⟩ = some (.slice A1 j c1) := (cell_of_row _ xb 10 _ _ _ HX10.out).trans rfl
                have h8 := blk_freeC HX10.out 10
                go_simp
                try exact hw11) ⟨E11.out, HB11.out⟩ ?_
              refine plS_done ?_
              clear hw11 o11
              go_wp2_with fail
              go_roundw
              case rel => exact ⟨j + 1, A2, c2, by omega, by omega, by go_num, HX11.out, OW11.out, HB11.out, HZ11.out, E11.out, HSZ11.out⟩
              case measure => simp [intOf]; omega
        · have hjq : (t.ql.take j).map gq = (t.ql.take 8).map gq := by
            have h9 := HQL.out
            by_cases h8 : j = 8
            · rw [h8]
            · rw [List.take_of_length_le (by omega), List.take_of_length_le (by omega)]
          have HJQ := Lib.hid hjq
          have hcond : ¬ ((j : Int) < (t.qn : Int) ∧ (j : Int) < 8) := by omega
          clear hjq
          rw [HJQ.out] at OWN HX
          have hj9 : ((t.ql.take 8).map gq).length = j := by rw [← HJQ.out, List.length_map, List.length_take]; have := HQL.out; omega
          have HJ9 := Lib.hid hj9
          have y11 : wr.cell? ⟨ab, 11, none⟩ = some (.slice t.dA t.dn t.dk) := (cell_of_row _ ab 11 _ _ _ HBr.out).trans rfl
          have HDS : Hid (Sees wr t.dA t.dn t.dk (bs t.dl)) := Lib.hid (HOK.out.2.ext ER.out)
          have hex : (j : Int) < (t.qn : Int) → ¬ (j : Int) < 8 := by omega
          clear hcond hj9
          by_cases hj1 : (j : Int) < (t.qn : Int)
          · have hj2 : ¬ (j : Int) < 8 := hex hj1
            clear hex
            go_wp2_with fail
            refine (few_nat t.dA t.dn t.dk 30 30 (bs t.dl) _ HDS.out (fun u hu => bs_one t.dl u hu) (by omega) (by omega) rfl).mono ?_
            rintro e w8 ⟨v, rfl, own8, e8⟩
            obtain ⟨Ad, cd, rfl, see8⟩ := Sees.of_own own8
            rw [bs_take] at see8
            have HX8 := Lib.hid (e8.heap HX.out)
            have x11 : w8.cell? ⟨xb, 11, none⟩ = some (.slice none 0 0) := (cell_of_row _ xb 11 _ _ _ HX8.out).trans rfl
            have f11 := blk_freeC HX8.out 11
            obtain ⟨w9, hw9⟩ : ∃ w9, w8.setCell ⟨xb, 11, none⟩ (.slice Ad (min t.dn 30) cd) = w9 := ⟨_, rfl⟩
            have o9 : On2 xb xb w8 w9 := by rw [← hw9]; exact On2.set _ _ _ (.inl rfl)
            obtain ⟨u, hu⟩ : ∃ u, mkd (mkq t A1 j c1 ((t.ql.take 8).map gq)) Ad (min t.dn 30) cd (t.dl.take 30) = u := ⟨_, rfl⟩
            have HX9 : Hid (w9.heap[xb]? = some (.cells u.cs 29 (0, 0))) := Lib.hid (by rw [← hw9, ← hu]; exact set_blkC HX8.out 11 _)
            have HB9 := Lib.hid (o9.heap (e8.heap HBr.out) HNE.out.1 HNE.out.1)
            have HZ9 := Lib.hid (o9.heap (e8.heap HZr.out) HNE.out.2 HNE.out.2)
            have E9 := Lib.hid (o9.ext (ER.out.trans e8) HXB.out HXB.out)
            have OW9 : Hid (w9.ownsRow (xb + 1) 23 3 (.slice A1 j c1) j (((t.ql.take 8).map gq).flatMap qc)) := Lib.hid (own_on2 (own_ext3 OWN.out e8) o9 (fun e => by have := (OWN.out.lt _ e).1; omega))
            have SD9 : Hid (w9.ownsRow (xb + 1) 5 1 (.slice Ad (min t.dn 30) cd) (min t.dn 30) (bs (t.dl.take 30))) := Lib.hid (by rw [← bs_take]; exact own_mono3 (own_on2 own8 o9 (fun e => by have := (own8.lt _ e).1; have := HSZ.out; omega)) HSZ.out)
            have HU9 := Lib.hid hu
            clear own8 see8 e8 o9 hu
            go_wp2_with fail
            clear hw9
            have HS0 : Hid ((fun v : World => v.heap[ab]? = some (.cells t.cs 29 (0, 0))) w9.drew) := Lib.hid HB9.out
            refine wp_region_plS (fun v : World => v.heap[ab]? = some (.cells t.cs 29 (0, 0))) (.free 0 (.free 1 (.free 2 (.free 4 (.free 5 (.free 6 (.free 8 (.free 9 (.free 10 (.free 12 (.free 13 (.free 14 (.one 3 (.free 7 (.free 11 (.one 15 (.free 16 (.free 17 (.one 18 .nil))))))))))))))))))) (by kernel_rfl) (by kernel_rfl) (by kernel_rfl) (by kernel_rfl) ?_
            refine plS_val (v := ?_) rfl rfl HS0.out (fun w' hw' => ?_) ?_; rotate_left; (· skip; go_simp; try with_reducible rfl); simp only [Act.put, List.setIfInBounds_toArray, List.set_cons_zero, List.set_cons_succ]
            refine plS_val (v := ?_) rfl rfl HS0.out (fun w' hw' => ?_) ?_; rotate_left; (· skip; go_simp; try with_reducible rfl); simp only [Act.put, List.setIfInBounds_toArray, List.set_cons_zero, List.set_cons_succ]
            refine plS_val (v := .agg (qv t.s)) rfl rfl HS0.out (fun w' hw' => exec_loadSub 23 _ rfl ab 12 rfl 29 _ _ _ _ hw' HL12.out Try.underlying23 rfl (qid_info _)) ?_; simp only [Act.put, List.setIfInBounds_toArray, List.set_cons_zero, List.set_cons_succ]
            refine plS_val (v := ?_) rfl rfl HS0.out (fun w' hw' => ?_) ?_; rotate_left; (· skip; go_simp; try with_reducible rfl); simp only [Act.put, List.setIfInBounds_toArray, List.set_cons_zero, List.set_cons_succ]
            refine plS_val (v := ?_) rfl rfl HS0.out (fun w' hw' => ?_) ?_; rotate_left; (· skip; go_simp; try with_reducible rfl); simp only [Act.put, List.setIfInBounds_toArray, List.set_cons_zero, List.set_cons_succ]
            refine plS_val (v := ?_) rfl rfl HS0.out (fun w' hw' => ?_) ?_; rotate_left; (· have h9 : w'.cell? ⟨ab, 15, none⟩ = some (.int .i64 t.sm) := (cell_of_row w' ab 15 _ _ _ hw').trans rfl; go_simp; try with_reducible rfl); simp only [Act.put, List.setIfInBounds_toArray, List.set_cons_zero, List.set_cons_succ]
            refine plS_val (v := ?_) rfl rfl HS0.out (fun w' hw' => ?_) ?_; rotate_left; (· skip; go_simp; try with_reducible rfl); simp only [Act.put, List.setIfInBounds_toArray, List.set_cons_zero, List.set_cons_succ]
            refine plS_val (v := ?_) rfl rfl HS0.out (fun w' hw' => ?_) ?_; rotate_left; (· skip; go_simp; try with_reducible rfl); simp only [Act.put, List.setIfInBounds_toArray, List.set_cons_zero, List.set_cons_succ]
            refine plS_val (v := ?_) rfl rfl HS0.out (fun w' hw' => ?_) ?_; rotate_left; (· have h9 : w'.cell? ⟨ab, 16, none⟩ = some (.int .i64 t.sz) := (cell_of_row w' ab 16 _ _ _ hw').trans rfl; go_simp; try with_reducible rfl); simp only [Act.put, List.setIfInBounds_toArray, List.set_cons_zero, List.set_cons_succ]
            refine plS_val (v := ?_) rfl rfl HS0.out (fun w' hw' => ?_) ?_; rotate_left; (· skip; go_simp; try with_reducible rfl); simp only [Act.put, List.setIfInBounds_toArray, List.set_cons_zero, List.set_cons_succ]
            refine plS_val (v := ?_) rfl rfl HS0.out (fun w' hw' => ?_) ?_; rotate_left; (· skip; go_simp; try with_reducible rfl); simp only [Act.put, List.setIfInBounds_toArray, List.set_cons_zero, List.set_cons_succ]
            refine plS_val (v := ?_) rfl rfl HS0.out (fun w' hw' => ?_) ?_; rotate_left; (· have h9 : w'.cell? ⟨ab, 17, none⟩ = some (.string ⟨t.sn.toArray⟩) := (cell_of_row w' ab 17 _ _ _ hw').trans rfl; go_simp; try with_reducible rfl); simp only [Act.put, List.setIfInBounds_toArray, List.set_cons_zero, List.set_cons_succ]
            refine plS_call 29 #[.agg (qv t.s)] rfl rfl (by go_simp) ?_
            refine (good_qid t.s _ hr.out.s.1 hr.out.s.2).mono ?_
            rintro e w10 ⟨rfl, e10⟩
            have HS10 : Hid ((fun v : World => v.heap[ab]? = some (.cells t.cs 29 (0, 0))) w10) := Lib.hid (e10.heap HS0.out)
            have HX10 := Lib.hid (e10.heap (show w9.drew.heap[xb]? = _ from HX9.out))
            have HZ10 := Lib.hid (e10.heap (show w9.drew.heap[ab + 1]? = _ from HZ9.out))
            have E10 := Lib.hid (E9.out.drew.trans e10)
            have OW10 := Lib.hid (own_ext3 OW9.out ((Ext.refl w9).drew.trans e10))
            have SD10 := Lib.hid (own_ext3 SD9.out ((Ext.refl w9).drew.trans e10))
            refine ⟨_, rfl, HS10.out, ?_⟩; simp only [Act.put, List.setIfInBounds_toArray, List.set_cons_zero, List.set_cons_succ]
            clear e10
            refine plS_even 28 #[.int .i64 t.sm] (.int .i64 (aroundZ t.sm 4294967296)) rfl rfl HS10.out (fun w' hw' => by go_simp) (fun w' hw' => low_any t.sm w' hr.out.sm.1 hr.out.sm.2) ?_; simp only [Act.put, List.setIfInBounds_toArray, List.set_cons_zero, List.set_cons_succ]
            refine plS_even 30 #[.int .i64 t.sz] (.int .i64 (aroundZ t.sz 4611686018427387905)) rfl rfl HS10.out (fun w' hw' => by go_simp) (fun w' hw' => high_any t.sz w' hr.out.sz.1 hr.out.sz.2) ?_; simp only [Act.put, List.setIfInBounds_toArray, List.set_cons_zero, List.set_cons_succ]
            refine plS_call 26 #[.string ⟨t.sn.toArray⟩, .int .i64 40] rfl rfl (by go_simp) ?_
            refine (short_any t.sn 40 40 rfl _ hr.out.sn).mono ?_
            rintro e _ ⟨rfl, rfl⟩
            refine ⟨_, rfl, HS10.out, ?_⟩; simp only [Act.put, List.setIfInBounds_toArray, List.set_cons_zero, List.set_cons_succ]
            refine plS_val (v := .agg (sv (mks t u))) rfl rfl HS10.out (fun w' hw' => exec_build _ _ rfl _ (by kernel_rfl)) ?_; simp only [Act.put, List.setIfInBounds_toArray, List.set_cons_zero, List.set_cons_succ]
            refine plS_val (v := ?_) rfl rfl HS10.out (fun w' hw' => ?_) ?_; rotate_left; (· skip; go_simp; try with_reducible rfl); simp only [Act.put, List.setIfInBounds_toArray, List.set_cons_zero, List.set_cons_succ]
            obtain ⟨w11, hw11⟩ : ∃ w11, w10.setRow xb (mks t u).cs = w11 := ⟨_, rfl⟩
            have o11 : On2 xb xb w10 w11 := by rw [← hw11]; exact on2_row _ _ _
            have HX11 : Hid (w11.heap[xb]? = some (.cells (mks t u).cs 29 (0, 0))) := Lib.hid (by rw [← hw11]; exact setRow_heap _ xb _ _ _ _ HX10.out)
            have HB11 : Hid ((fun v : World => v.heap[ab]? = some (.cells t.cs 29 (0, 0))) w11) := Lib.hid (o11.heap HS10.out HNE.out.1 HNE.out.1)
            have HZ11 := Lib.hid (o11.heap HZ10.out HNE.out.2 HNE.out.2)
            have E11 := Lib.hid (o11.ext E10.out HXB.out HXB.out)
            have OW11 := Lib.hid (own_on2 OW10.out o11 (fun e => by have := (OW10.out.lt _ e).1; omega))
            have SD11 := Lib.hid (own_on2 SD10.out o11 (fun e => by have := (SD10.out.lt _ e).1; omega))
            refine plS_void (w' := w11) rfl rfl (by rw [← hw11]; exact exec_store_sub 27 (.tmp 74) (.tmp 73) rfl xb 12 (sv (mks t u)) u.cs (mks t u).cs rfl rfl 29 HX10.out (stat_info _) (by show 12 + 6 ≤ 18; omega) (sv_one _) rfl) HB11.out ?_
            refine plS_done ?_
            clear hw11 o11
            go_wp2_with (first | (with_reducible refine wpList_load_row rfl 29 (.tmp 3) rfl xb rfl _ _ _ _ HX11.out Try.underlying29 rfl (HI.out _) ?_) | fail)
            refine (own18 _ _).mono ?_
            rintro e w12 ⟨rfl, e12⟩
            have HZ12 := Lib.hid (e12.heap HZ11.out)
            have HG := Lib.hid (setRow_heap w12 (ab + 1) _ (ownT (mks t u)).cs _ _ HZ12.out)
            have EG := Lib.hid (below_setRow (E11.out.trans e12) (by have := HLT.out; omega : w.heap.size ≤ ab + 1) (ownT (mks t u)).cs)
            have oG : On2 (ab + 1) (ab + 1) w12 (w12.setRow (ab + 1) (ownT (mks t u)).cs) := on2_row _ _ _
            have OWG := Lib.hid (own_mono3 (own_on2 (own_ext3 OW11.out e12) oG (fun e => by have := (OW11.out.lt _ e).1; have := HXG.out; omega)) (Nat.le_succ_of_le HXB.out))
            have SDG := Lib.hid (own_mono3 (own_on2 (own_ext3 SD11.out e12) oG (fun e => by have := (SD11.out.lt _ e).1; have := HXG.out; omega)) (Nat.le_succ_of_le HXB.out))
            clear oG e12
            go_wp2_with (first | (with_reducible refine wpList_store_row rfl 29 (.tmp 2) (.tmp 76) rfl (ab + 1) _ rfl rfl _ _ HZ12.out (HI.out _) rfl (HU.out _) ?_) | fail)
            refine bodyPost_ret (results_cell_row rfl _ _ (ab + 1) _ _ (0, 0) _ rfl HG.out Try.underlying29 rfl (HI.out _)) rfl ?_
            exact ⟨A1, j, c1, Ad, _, cd, by rw [HU9.out], OWG.out, HJ9.out.symm, SDG.out, EG.out⟩
          · clear hex
            go_wp2_with fail
            refine (few_nat t.dA t.dn t.dk 30 30 (bs t.dl) _ HDS.out (fun u hu => bs_one t.dl u hu) (by omega) (by omega) rfl).mono ?_
            rintro e w8 ⟨v, rfl, own8, e8⟩
            obtain ⟨Ad, cd, rfl, see8⟩ := Sees.of_own own8
            rw [bs_take] at see8
            have HX8 := Lib.hid (e8.heap HX.out)
            have x11 : w8.cell? ⟨xb, 11, none⟩ = some (.slice none 0 0) := (cell_of_row _ xb 11 _ _ _ HX8.out).trans rfl
            have f11 := blk_freeC HX8.out 11
            obtain ⟨w9, hw9⟩ : ∃ w9, w8.setCell ⟨xb, 11, none⟩ (.slice Ad (min t.dn 30) cd) = w9 := ⟨_, rfl⟩
            have o9 : On2 xb xb w8 w9 := by rw [← hw9]; exact On2.set _ _ _ (.inl rfl)
            obtain ⟨u, hu⟩ : ∃ u, mkd (mkq t A1 j c1 ((t.ql.take 8).map gq)) Ad (min t.dn 30) cd (t.dl.take 30) = u := ⟨_, rfl⟩
            have HX9 : Hid (w9.heap[xb]? = some (.cells u.cs 29 (0, 0))) := Lib.hid (by rw [← hw9, ← hu]; exact set_blkC HX8.out 11 _)
            have HB9 := Lib.hid (o9.heap (e8.heap HBr.out) HNE.out.1 HNE.out.1)
            have HZ9 := Lib.hid (o9.heap (e8.heap HZr.out) HNE.out.2 HNE.out.2)
            have E9 := Lib.hid (o9.ext (ER.out.trans e8) HXB.out HXB.out)
            have OW9 : Hid (w9.ownsRow (xb + 1) 23 3 (.slice A1 j c1) j (((t.ql.take 8).map gq).flatMap qc)) := Lib.hid (own_on2 (own_ext3 OWN.out e8) o9 (fun e => by have := (OWN.out.lt _ e).1; omega))
            have SD9 : Hid (w9.ownsRow (xb + 1) 5 1 (.slice Ad (min t.dn 30) cd) (min t.dn 30) (bs (t.dl.take 30))) := Lib.hid (by rw [← bs_take]; exact own_mono3 (own_on2 own8 o9 (fun e => by have := (own8.lt _ e).1; have := HSZ.out; omega)) HSZ.out)
            have HU9 := Lib.hid hu
            clear own8 see8 e8 o9 hu
            go_wp2_with fail
            clear hw9
            have HS0 : Hid ((fun v : World => v.heap[ab]? = some (.cells t.cs 29 (0, 0))) w9.drew) := Lib.hid HB9.out
            refine wp_region_plS (fun v : World => v.heap[ab]? = some (.cells t.cs 29 (0, 0))) (.free 0 (.free 1 (.free 2 (.free 4 (.free 5 (.free 6 (.free 8 (.free 9 (.free 10 (.free 12 (.free 13 (.free 14 (.one 3 (.free 7 (.free 11 (.one 15 (.free 16 (.free 17 (.one 18 .nil))))))))))))))))))) (by kernel_rfl) (by kernel_rfl) (by kernel_rfl) (by kernel_rfl) ?_
            refine plS_val (v := ?_) rfl rfl HS0.out (fun w' hw' => ?_) ?_; rotate_left; (· skip; go_simp; try with_reducible rfl); simp only [Act.put, List.setIfInBounds_toArray, List.set_cons_zero, List.set_cons_succ]
            refine plS_val (v := ?_) rfl rfl HS0.out (fun w' hw' => ?_) ?_; rotate_left; (· skip; go_simp; try with_reducible rfl); simp only [Act.put, List.setIfInBounds_toArray, List.set_cons_zero, List.set_cons_succ]
            refine plS_val (v := .agg (qv t.s)) rfl rfl HS0.out (fun w' hw' => exec_loadSub 23 _ rfl ab 12 rfl 29 _ _ _ _ hw' HL12.out Try.underlying23 rfl (qid_info _)) ?_; simp only [Act.put, List.setIfInBounds_toArray, List.set_cons_zero, List.set_cons_succ]
            refine plS_val (v := ?_) rfl rfl HS0.out (fun w' hw' => ?_) ?_; rotate_left; (· skip; go_simp; try with_reducible rfl); simp only [Act.put, List.setIfInBounds_toArray, List.set_cons_zero, List.set_cons_succ]
            refine plS_val (v := ?_) rfl rfl HS0.out (fun w' hw' => ?_) ?_; rotate_left; (· skip; go_simp; try with_reducible rfl); simp only [Act.put, List.setIfInBounds_toArray, List.set_cons_zero, List.set_cons_succ]
            refine plS_val (v := ?_) rfl rfl HS0.out (fun w' hw' => ?_) ?_; rotate_left; (· have h9 : w'.cell? ⟨ab, 15, none⟩ = some (.int .i64 t.sm) := (cell_of_row w' ab 15 _ _ _ hw').trans rfl; go_simp; try with_reducible rfl); simp only [Act.put, List.setIfInBounds_toArray, List.set_cons_zero, List.set_cons_succ]
            refine plS_val (v := ?_) rfl rfl HS0.out (fun w' hw' => ?_) ?_; rotate_left; (· skip; go_simp; try with_reducible rfl); simp only [Act.put, List.setIfInBounds_toArray, List.set_cons_zero, List.set_cons_succ]
            refine plS_val (v := ?_) rfl rfl HS0.out (fun w' hw' => ?_) ?_; rotate_left; (· skip; go_simp; try with_reducible rfl); simp only [Act.put, List.setIfInBounds_toArray, List.set_cons_zero, List.set_cons_succ]
            refine plS_val (v := ?_) rfl rfl HS0.out (fun w' hw' => ?_) ?_; rotate_left; (· have h9 : w'.cell? ⟨ab, 16, none⟩ = some (.int .i64 t.sz) := (cell_of_row w' ab 16 _ _ _ hw').trans rfl; go_simp; try with_reducible rfl); simp only [Act.put, List.setIfInBounds_toArray, List.set_cons_zero, List.set_cons_succ]
            refine plS_val (v := ?_) rfl rfl HS0.out (fun w' hw' => ?_) ?_; rotate_left; (· skip; go_simp; try with_reducible rfl); simp only [Act.put, List.setIfInBounds_toArray, List.set_cons_zero, List.set_cons_succ]
            refine plS_val (v := ?_) rfl rfl HS0.out (fun w' hw' => ?_) ?_; rotate_left; (· skip; go_simp; try with_reducible rfl); simp only [Act.put, List.setIfInBounds_toArray, List.set_cons_zero, List.set_cons_succ]
            refine plS_val (v := ?_) rfl rfl HS0.out (fun w' hw' => ?_) ?_; rotate_left; (· have h9 : w'.cell? ⟨ab, 17, none⟩ = some (.string ⟨t.sn.toArray⟩) := (cell_of_row w' ab 17 _ _ _ hw').trans rfl; go_simp; try with_reducible rfl); simp only [Act.put, List.setIfInBounds_toArray, List.set_cons_zero, List.set_cons_succ]
            refine plS_call 29 #[.agg (qv t.s)] rfl rfl (by go_simp) ?_
            refine (good_qid t.s _ hr.out.s.1 hr.out.s.2).mono ?_
            rintro e w10 ⟨rfl, e10⟩
            have HS10 : Hid ((fun v : World => v.heap[ab]? = some (.cells t.cs 29 (0, 0))) w10) := Lib.hid (e10.heap HS0.out)
            have HX10 := Lib.hid (e10.heap (show w9.drew.heap[xb]? = _ from HX9.out))
            have HZ10 := Lib.hid (e10.heap (show w9.drew.heap[ab + 1]? = _ from HZ9.out))
            have E10 := Lib.hid (E9.out.drew.trans e10)
            have OW10 := Lib.hid (own_ext3 OW9.out ((Ext.refl w9).drew.trans e10))
            have SD10 := Lib.hid (own_ext3 SD9.out ((Ext.refl w9).drew.trans e10))
            refine ⟨_, rfl, HS10.out, ?_⟩; simp only [Act.put, List.setIfInBounds_toArray, List.set_cons_zero, List.set_cons_succ]
            clear e10
            refine plS_even 28 #[.int .i64 t.sm] (.int .i64 (aroundZ t.sm 4294967296)) rfl rfl HS10.out (fun w' hw' => by go_simp) (fun w' hw' => low_any t.sm w' hr.out.sm.1 hr.out.sm.2) ?_; simp only [Act.put, List.setIfInBounds_toArray, List.set_cons_zero, List.set_cons_succ]
            refine plS_even 30 #[.int .i64 t.sz] (.int .i64 (aroundZ t.sz 4611686018427387905)) rfl rfl HS10.out (fun w' hw' => by go_simp) (fun w' hw' => high_any t.sz w' hr.out.sz.1 hr.out.sz.2) ?_; simp only [Act.put, List.setIfInBounds_toArray, List.set_cons_zero, List.set_cons_succ]
            refine plS_call 26 #[.string ⟨t.sn.toArray⟩, .int .i64 40] rfl rfl (by go_simp) ?_
            refine (short_any t.sn 40 40 rfl _ hr.out.sn).mono ?_
            rintro e _ ⟨rfl, rfl⟩
            refine ⟨_, rfl, HS10.out, ?_⟩; simp only [Act.put, List.setIfInBounds_toArray, List.set_cons_zero, List.set_cons_succ]
            refine plS_val (v := .agg (sv (mks t u))) rfl rfl HS10.out (fun w' hw' => exec_build _ _ rfl _ (by kernel_rfl)) ?_; simp only [Act.put, List.setIfInBounds_toArray, List.set_cons_zero, List.set_cons_succ]
            refine plS_val (v := ?_) rfl rfl HS10.out (fun w' hw' => ?_) ?_; rotate_left; (· skip; go_simp; try with_reducible rfl); simp only [Act.put, List.setIfInBounds_toArray, List.set_cons_zero, List.set_cons_succ]
            obtain ⟨w11, hw11⟩ : ∃ w11, w10.setRow xb (mks t u).cs = w11 := ⟨_, rfl⟩
            have o11 : On2 xb xb w10 w11 := by rw [← hw11]; exact on2_row _ _ _
            have HX11 : Hid (w11.heap[xb]? = some (.cells (mks t u).cs 29 (0, 0))) := Lib.hid (by rw [← hw11]; exact setRow_heap _ xb _ _ _ _ HX10.out)
            have HB11 : Hid ((fun v : World => v.heap[ab]? = some (.cells t.cs 29 (0, 0))) w11) := Lib.hid (o11.heap HS10.out HNE.out.1 HNE.out.1)
            have HZ11 := Lib.hid (o11.heap HZ10.out HNE.out.2 HNE.out.2)
            have E11 := Lib.hid (o11.ext E10.out HXB.out HXB.out)
            have OW11 := Lib.hid (own_on2 OW10.out o11 (fun e => by have := (OW10.out.lt _ e).1; omega))
            have SD11 := Lib.hid (own_on2 SD10.out o11 (fun e => by have := (SD10.out.lt _ e).1; omega))
            refine plS_void (w' := w11) rfl rfl (by rw [← hw11]; exact exec_store_sub 27 (.tmp 74) (.tmp 73) rfl xb 12 (sv (mks t u)) u.cs (mks t u).cs rfl rfl 29 HX10.out (stat_info _) (by show 12 + 6 ≤ 18; omega) (sv_one _) rfl) HB11.out ?_
            refine plS_done ?_
            clear hw11 o11
            go_wp2_with (first | (with_reducible refine wpList_load_row rfl 29 (.tmp 3) rfl xb rfl _ _ _ _ HX11.out Try.underlying29 rfl (HI.out _) ?_) | fail)
            refine (own18 _ _).mono ?_
            rintro e w12 ⟨rfl, e12⟩
            have HZ12 := Lib.hid (e12.heap HZ11.out)
            have HG := Lib.hid (setRow_heap w12 (ab + 1) _ (ownT (mks t u)).cs _ _ HZ12.out)
            have EG := Lib.hid (below_setRow (E11.out.trans e12) (by have := HLT.out; omega : w.heap.size ≤ ab + 1) (ownT (mks t u)).cs)
            have oG : On2 (ab + 1) (ab + 1) w12 (w12.setRow (ab + 1) (ownT (mks t u)).cs) := on2_row _ _ _
            have OWG := Lib.hid (own_mono3 (own_on2 (own_ext3 OW11.out e12) oG (fun e => by have := (OW11.out.lt _ e).1; have := HXG.out; omega)) (Nat.le_succ_of_le HXB.out))
            have SDG := Lib.hid (own_mono3 (own_on2 (own_ext3 SD11.out e12) oG (fun e => by have := (SD11.out.lt _ e).1; have := HXG.out; omega)) (Nat.le_succ_of_le HXB.out))
            clear oG e12
            go_wp2_with (first | (with_reducible refine wpList_store_row rfl 29 (.tmp 2) (.tmp 76) rfl (ab + 1) _ rfl rfl _ _ HZ12.out (HI.out _) rfl (HU.out _) ?_) | fail)
            refine bodyPost_ret (results_cell_row rfl _ _ (ab + 1) _ _ (0, 0) _ rfl HG.out Try.underlying29 rfl (HI.out _)) rfl ?_
            exact ⟨A1, j, c1, Ad, _, cd, by rw [HU9.out], OWG.out, HJ9.out.symm, SDG.out, EG.out⟩
    · obtain ⟨xb, hxb⟩ : ∃ xb, w4.heap.size = xb := ⟨_, rfl⟩
      obtain ⟨w5, hw5⟩ : ∃ w5, w4.alloc (.cells #[.int .i64 0, .int .i64 0, .int .i64 0, .int .i64 0, .int .i64 0, .int .i64 0, .string ⟨#[]⟩, .bool false, .int .i64 0, .int .i64 0, .slice none 0 0, .slice none 0 0, .bool false, .int .i64 0, .int .i64 0, .int .i64 0, .int .i64 0, .string ⟨#[]⟩] 29) = w5 := ⟨_, rfl⟩
      have HXA0 : Hid (w5.heap[xb]? = some (.cells #[.int .i64 0, .int .i64 0, .int .i64 0, .int .i64 0, .int .i64 0, .int .i64 0, .string ⟨#[]⟩, .bool false, .int .i64 0, .int .i64 0, .slice none 0 0, .slice none 0 0, .bool false, .int .i64 0, .int .i64 0, .int .i64 0, .int .i64 0, .string ⟨#[]⟩] 29 (0, 0))) := Lib.hid (by rw [← hw5, ← hxb]; exact heap_alloc_new _ _)
      have eAl : Ext w4 w5 := by rw [← hw5]; exact (Ext.refl _).alloc _
      have HNE : Hid (¬ ab = xb ∧ ¬ ab + 1 = xb) := Lib.hid (by have := HLT.out; have := (Array.getElem?_eq_some_iff.1 HZw4.out).1; omega)
      have HXB : Hid (w.heap.size ≤ xb) := Lib.hid (by have := (Array.getElem?_eq_some_iff.1 HZw4.out).1; omega)
      have HBw5 : Hid ((fun v : World => v.heap[ab]? = some (.cells t.cs 29 (0, 0))) w5) := Lib.hid (eAl.heap HBw4.out)
      have HZw5 := Lib.hid (eAl.heap HZw4.out)
      have Ew5 := Lib.hid (Ew4.out.trans eAl)
      refine plS_run (w' := w5) (.pointer (some ⟨xb, 0, none⟩)) rfl rfl (by rw [← hw5]; have q := hxb; go_simp; try (first | rfl | (rw [q]))) HBw5.out ?_; simp only [Act.put, List.setIfInBounds_toArray, List.set_cons_zero, List.set_cons_succ]
      clear hw5 eAl
      refine plS_call 29 #[.agg (qv t.q)] rfl rfl (by go_simp) ?_
      refine (good_qid t.q w5 hr.out.q.1 hr.out.q.2).mono ?_
      rintro e w6 ⟨rfl, eK⟩
      have HBw6 : Hid ((fun v : World => v.heap[ab]? = some (.cells t.cs 29 (0, 0))) w6) := Lib.hid (eK.heap HBw5.out)
      have HZw6 := Lib.hid (eK.heap HZw5.out)
      have Ew6 := Lib.hid (Ew5.out.trans eK)
      have HXAw6 := Lib.hid (eK.heap HXA0.out)
      refine ⟨_, rfl, HBw6.out, ?_⟩; simp only [Act.put, List.setIfInBounds_toArray, List.set_cons_zero, List.set_cons_succ]
      clear eK
      refine plS_val (v := .agg (mk1 t).cs) rfl rfl HBw6.out (fun w' hw' => exec_build _ _ rfl _ (by kernel_rfl)) ?_; simp only [Act.put, List.setIfInBounds_toArray, List.set_cons_zero, List.set_cons_succ]
      have HXA := HXAw6
      have HBB := HBw6
      have HZB := HZw6
      have EB := Ew6
      obtain ⟨ws, hws⟩ : ∃ ws, (w6).setRow xb (mk1 t).cs = ws := ⟨_, rfl⟩
      have HXS : Hid (ws.heap[xb]? = some (.cells (mk1 t).cs 29 (0, 0))) := Lib.hid (by rw [← hws]; exact setRow_heap _ xb _ _ _ _ HXA.out)
      have HBS : Hid (ws.heap[ab]? = some (.cells t.cs 29 (0, 0))) := Lib.hid (by rw [← hws]; exact (setRow_other _ _ _ _ HNE.out.1).trans HBB.out)
      have HZS : Hid (ws.heap[ab + 1]? = some (.cells #[.int .i64 0, .int .i64 0, .int .i64 0, .int .i64 0, .int .i64 0, .int .i64 0, .string ⟨#[]⟩, .bool false, .int .i64 0, .int .i64 0, .slice none 0 0, .slice none 0 0, .bool false, .int .i64 0, .int .i64 0, .int .i64 0, .int .i64 0, .string ⟨#[]⟩] 29 (0, 0))) := Lib.hid (by rw [← hws]; exact (setRow_other _ _ _ _ HNE.out.2).trans HZB.out)
      have ES : Hid (Ext w ws) := Lib.hid (by rw [← hws]; exact below_setRow EB.out HXB.out _)
      refine plS_void (w' := ws) rfl rfl (by rw [← hws]; exact exec_storeRow 29 (.tmp 3) (.tmp 26) rfl xb _ rfl rfl 29 _ HXA.out (HI.out _) rfl (HU.out _)) HBS.out ?_
      refine plS_done ?_
      clear hws HXA HBB HZB EB
      have HX6 := HXS
      have HZS0 := HZS
      have HXG : Hid (ab + 1 < xb + 1) := Lib.hid (by have := HLT.out; have := HXB.out; have := HNE.out; omega)
      have HZ6 := HZS
      have HB6 := HBS
      have E6 := ES
      clear HXS HZS HBS ES
      have y6 : ws.cell? ⟨ab, 6, none⟩ = some (.string ⟨t.nm.toArray⟩) := (cell_of_row _ ab 6 _ _ _ HB6.out).trans rfl
      have x6 : ws.cell? ⟨xb, 6, none⟩ = some (.string ⟨#[]⟩) := (cell_of_row _ xb 6 _ _ _ HX6.out).trans rfl
      have f6 := blk_freeC HX6.out 6
      have W7 : Hid (On2 xb xb ws (ws.setCell ⟨xb, 6, none⟩ (.string ⟨(t.nm.take 40).toArray⟩))) := Lib.hid (On2.set _ _ _ (.inl rfl))
      have HX7 : Hid ((ws.setCell ⟨xb, 6, none⟩ (.string ⟨(t.nm.take 40).toArray⟩)).heap[xb]? = some (.cells (mk2 t).cs 29 (0, 0))) := Lib.hid (set_blkC HX6.out 6 _)
      have HB7 := Lib.hid (W7.out.heap HB6.out HNE.out.1 HNE.out.1)
      have HZ7 := Lib.hid (W7.out.heap HZ6.out HNE.out.2 HNE.out.2)
      have E7 := Lib.hid (W7.out.ext E6.out HXB.out HXB.out)
      obtain ⟨w7, hw7⟩ : ∃ w7, ws.setCell ⟨xb, 6, none⟩ (.string ⟨(t.nm.take 40).toArray⟩) = w7 := ⟨_, rfl⟩
      rw [hw7] at W7 HX7 HB7 HZ7 E7
      go_wp2_with fail
      refine (short_any t.nm 40 40 rfl _ hr.out.nm).mono ?_
      rintro e _ ⟨rfl, rfl⟩
      go_wp2_with fail
      clear hw7 y6 x6 f6
      have hq8 := HQL.out
      go_loopw [4] (fun i wr => ∃ (j : Nat) (A : Option Addr) (c : Nat), j ≤ 8 ∧ j ≤ t.qn ∧ i = .int .i64 j ∧ wr.heap[xb]? = some (.cells (mkq t A j c ((t.ql.take j).map gq)).cs 29 (0, 0)) ∧ wr.ownsRow (xb + 1) 23 3 (.slice A j c) j (((t.ql.take j).map gq).flatMap qc) ∧ wr.heap[ab]? = some (.cells t.cs 29 (0, 0)) ∧ wr.heap[ab + 1]? = some (.cells #[.int .i64 0, .int .i64 0, .int .i64 0, .int .i64 0, .int .i64 0, .int .i64 0, .string ⟨#[]⟩, .bool false, .int .i64 0, .int .i64 0, .slice none 0 0, .slice none 0 0, .bool false, .int .i64 0, .int .i64 0, .int .i64 0, .int .i64 0, .string ⟨#[]⟩] 29 (0, 0)) ∧ Ext w wr ∧ xb + 1 ≤ wr.heap.size) (fun i _ => t.qn - (intOf i).toNat)
      case atStart => exact ⟨0, none, 0, by omega, by omega, rfl, HX7.out, World.ownsRow_nil _ _ _ _, HB7.out, HZ7.out, E7.out, (Array.getElem?_eq_some_iff.1 HX7.out).1⟩
      case round =>
        obtain ⟨j, A1, c1, hj8, hjn, rfl, hx, own, hb, hz, er, hsz⟩ := hrel
        have HX := Lib.hid hx
        have OWN := Lib.hid own
        have HBr := Lib.hid hb
        have HZr := Lib.hid hz
        have ER := Lib.hid er
        have HSZ := Lib.hid hsz
        have ya : wr.cell? ⟨ab, 10, none⟩ = some (.slice t.qA t.qn t.qk) := (cell_of_row _ ab 10 _ _ _ hb).trans rfl
        clear hx own hb hz er hsz
        by_cases hlt : j < t.qn ∧ j < 8
        · have hl1 : (j : Int) < (t.qn : Int) := by omega
          have hl2 : (j : Int) < 8 := by omega
          obtain ⟨qb, off, q, hqA, hqj, d0, d1, d2, _⟩ := HOK.out.1.at_ j hlt.1
          have HC3 : Hid (∀ w', Ext w w' → ∀ (k : Nat) (v : Value), (qv q)[k]? = some v → w'.cell? ⟨qb, (off + j * 3) + k, none⟩ = some v) := Lib.hid fun w' he k v hv => by
            have hk : k < 3 := (Array.getElem?_eq_some_iff.1 hv).1
            match k, hk with
            | 0, _ => rw [show some v = some (.bool q.1) from hv.symm]; exact he.cell d0
            | 1, _ => rw [show some v = some (.int .i64 q.2.1) from hv.symm]; exact he.cell d1
            | 2, _ => rw [show some v = some (.int .i64 q.2.2) from hv.symm]; exact he.cell d2
            | n + 3, h => omega
          have HQ9 := Lib.hid (hr.out.ql q (List.mem_of_getElem? hqj))
          have HQJ := Lib.hid hqj
          have HQA := Lib.hid hqA
          clear d0 d1 d2 hqj
          have HCW : Hid (∀ w', Ext w w' → ∀ (k : Nat) (v : Value), (qv q)[k]? = some v → w'.cell? ⟨qb, (off + j * 3) + k, none⟩ = some v) := HC3
          have HS0 : Hid ((fun v : World => Ext w v ∧ v.heap[ab]? = some (.cells t.cs 29 (0, 0))) wr.drew) := Lib.hid ⟨ER.out.drew, HBr.out⟩
          have hqA' := HQA.out
          go_wp2_with fail
          refine wp_region_plS (fun v : World => Ext w v ∧ v.heap[ab]? = some (.cells t.cs 29 (0, 0))) (.free 0 (.free 2 (.free 3 (.free 4 (.free 5 (.free 6 (.fork 1 7 (.one 7 (.one 8 (.one 9 (.free 10 (.one 11 .nil))))) (.fork 1 8 (.one 8 (.one 9 (.free 10 (.one 11 .nil)))) (.one 1 (.one 9 (.free 10 (.one 11 .nil)))))))))))) (by kernel_rfl) (by kernel_rfl) (by kernel_rfl) (by kernel_rfl) ?_
          refine plS_val (v := ?_) rfl rfl HS0.out (fun w' hw' => ?_) ?_; rotate_left; (· skip; go_simp; try with_reducible rfl); simp only [Act.put, List.setIfInBounds_toArray, List.set_cons_zero, List.set_cons_succ]
          refine plS_val (v := ?_) rfl rfl HS0.out (fun w' hw' => ?_) ?_; rotate_left; (· skip; go_simp; try with_reducible rfl); simp only [Act.put, List.setIfInBounds_toArray, List.set_cons_zero, List.set_cons_succ]
          refine plS_val (v := .slice t.qA t.qn t.qk) rfl rfl HS0.out (fun w' hw' => by have h9 : w'.cell? ⟨ab, 10, none⟩ = some (.slice t.qA t.qn t.qk) := (cell_of_row w' ab 10 _ _ _ hw'.2).trans rfl; go_simp; try rfl) ?_; simp only [Act.put, List.setIfInBounds_toArray, List.set_cons_zero, List.set_cons_succ]
          refine plS_val (v := ?_) rfl rfl HS0.out (fun w' hw' => ?_) ?_; rotate_left; (· skip; go_simp; try with_reducible rfl); simp only [Act.put, List.setIfInBounds_toArray, List.set_cons_zero, List.set_cons_succ]
          refine plS_val (v := .pointer (some ⟨qb, off + j * 3, none⟩)) rfl rfl HS0.out (fun w' hw' => by go_simp; first | done | omega | (intro hx; omega)) ?_; simp only [Act.put, List.setIfInBounds_toArray, List.set_cons_zero, List.set_cons_succ]
          refine plS_val (v := .agg (qv q)) rfl rfl HS0.out (fun w' hw' => exec_loadCells 23 _ rfl qb (off + j * 3) rfl _ _ (HCW.out w' hw'.1) Try.underlying23 rfl (qid_info _)) ?_; simp only [Act.put, List.setIfInBounds_toArray, List.set_cons_zero, List.set_cons_succ]
          refine plS_fork ?_ ?_
          · refine plS_run (w' := wr.drew) (.slice A1 j c1) rfl rfl (by have h9 : World.cell? wr.drew ⟨xb, 10, none⟩ = some (.slice A1 j c1) := (cell_of_row _ xb 10 _ _ _ HX.out).trans rfl; go_simp; try rfl) HS0.out ?_; simp only [Act.put, List.setIfInBounds_toArray, List.set_cons_zero, List.set_cons_succ]
            refine plS_call 29 #[.agg (qv q)] rfl rfl (by go_simp) ?_
            refine (good_qid q _ HQ9.out.1 HQ9.out.2).mono ?_
            rintro e w8 ⟨rfl, e8⟩
            have HX8 := Lib.hid (e8.heap (show wr.drew.heap[xb]? = _ from HX.out))
            have HZ8 := Lib.hid (e8.heap (show wr.drew.heap[ab + 1]? = _ from HZr.out))
            have OW8 := Lib.hid (own_ext3 OWN.out ((Ext.refl wr).drew.trans e8))
            have HS8 : Hid ((fun v : World => Ext w v ∧ v.heap[ab]? = some (.cells t.cs 29 (0, 0))) w8) := Lib.hid ⟨ER.out.trans ((Ext.refl wr).drew.trans e8), e8.heap HS0.out.2⟩
            have HSZ8 : Hid (xb + 1 ≤ w8.heap.size) := Lib.hid (Nat.le_trans HSZ.out e8.size)
            refine ⟨_, rfl, HS8.out, ?_⟩; simp only [Act.put, List.setIfInBounds_toArray, List.set_cons_zero, List.set_cons_succ]
            clear e8
            obtain ⟨nb, hnb⟩ : ∃ nb, w8.heap.size = nb := ⟨_, rfl⟩
            obtain ⟨w9, hw9⟩ : ∃ w9, w8.alloc (.cells (qv (gq q)) 23) = w9 := ⟨_, rfl⟩
            have e9 : Ext w8 w9 := by rw [← hw9]; exact (Ext.refl _).alloc _
            have HN9 : Hid (w9.heap[nb]? = some (.cells (qv (gq q)) 23 (0, 0))) := Lib.hid (by rw [← hw9, ← hnb]; exact heap_alloc_new _ _)
            have HX9 := Lib.hid (e9.heap HX8.out)
            have HZ9 := Lib.hid (e9.heap HZ8.out)
            have OW9 := Lib.hid (own_ext3 OW8.out e9)
            have HS9 : Hid ((fun v : World => Ext w v ∧ v.heap[ab]? = some (.cells t.cs 29 (0, 0))) w9) := Lib.hid ⟨HS8.out.1.trans e9, e9.heap HS8.out.2⟩
            have HSZ9 : Hid (xb + 1 ≤ w9.heap.size) := Lib.hid (Nat.le_trans HSZ8.out e9.size)
            refine plS_run (w' := w9) (.slice (some ⟨nb, 0, none⟩) 1 1) rfl rfl ?hv HS9.out ?_
            case hv =>
              obtain ⟨ie, hie, hsz⟩ := Option.map_eq_some_iff.1 qid_zero
              injection hsz with hsz hz
              rw [← hw9, ← hnb]
              refine exec_buildSlice 24 23 1 _ rfl _ ie (.agg #[.bool false, .int .i64 0, .int .i64 0]) (by kernel_rfl) hie hz (by rw [hsz]; omega) (by rw [hsz]; omega) ?_
              rw [hsz]
              kernel_rfl
            simp only [Act.put, List.setIfInBounds_toArray, List.set_cons_zero, List.set_cons_succ]
            clear hw9 hnb e9
            obtain ⟨v10, w10, hrun, own10, hk10, e10, hs10⟩ := push_qid OW9.out HN9.out (by omega) HS9.out.1 (Nat.le_succ_of_le HXB.out) HSZ9.out
            obtain ⟨A2, c2, rfl, _⟩ := seesQ_own own10 (by rw [List.length_append, List.length_map, List.length_take, List.length_singleton]; have := HQL.out; omega)
            have HX10 := Lib.hid (hk10 xb _ (by omega) HX9.out)
            have HZ10 := Lib.hid (hk10 (ab + 1) _ (by have := (Array.getElem?_eq_some_iff.1 HZS0.out).1; have := HXG.out; omega) HZ9.out)
            have HS10 : Hid ((fun v : World => Ext w v ∧ v.heap[ab]? = some (.cells t.cs 29 (0, 0))) w10) := Lib.hid ⟨e10, hk10 ab _ (by have := HXG.out; omega) HS9.out.2⟩
            have OW10 := Lib.hid own10
            have HSZ10 : Hid (xb + 1 ≤ w10.heap.size) := Lib.hid (Nat.le_trans HSZ9.out hs10)
            refine plS_run (w' := w10) (.slice A2 (j + 1) c2) rfl rfl (exec_app (.tmp 43) (.tmp 50) _ rfl _ _ rfl rfl _ _ hrun) HS10.out ?_; simp only [Act.put, List.setIfInBounds_toArray, List.set_cons_zero, List.set_cons_succ]
            clear own10 hk10 e10 hs10 hrun
            refine plS_val (v := ?_) rfl rfl HS10.out (fun w' hw' => ?_) ?_; rotate_left; (· skip; go_simp; try with_reducible rfl); simp only [Act.put, List.setIfInBounds_toArray, List.set_cons_zero, List.set_cons_succ]
            obtain ⟨w11, hw11⟩ : ∃ w11, w10.setCell ⟨xb, 10, none⟩ (.slice A2 (j + 1) c2) = w11 := ⟨_, rfl⟩
            have o11 : On2 xb xb w10 w11 := by rw [← hw11]; exact On2.set _ _ _ (.inl rfl)
            have HX11 : Hid (w11.heap[xb]? = some (.cells (mkq t A2 (j + 1) c2 ((t.ql.take (j + 1)).map gq)).cs 29 (0, 0))) := Lib.hid (by rw [← hw11]; exact set_blkC HX10.out 10 _)
            have HB11 := Lib.hid (o11.heap HS10.out.2 HNE.out.1 HNE.out.1)
            have HZ11 := Lib.hid (o11.heap HZ10.out HNE.out.2 HNE.out.2)
            have E11 := Lib.hid (o11.ext HS10.out.1 HXB.out HXB.out)
            have HTK : Hid ((t.ql.take (j + 1)).map gq = (t.ql.take j).map gq ++ [gq q]) := Lib.hid (by
              obtain ⟨hjl, hje⟩ := List.getElem?_eq_some_iff.1 HQJ.out
              rw [List.take_succ_eq_append_getElem hjl, hje, List.map_append, List.map_singleton])
            have OW11 : Hid (w11.ownsRow (xb + 1) 23 3 (.slice A2 (j + 1) c2) (j + 1) (((t.ql.take (j + 1)).map gq).flatMap qc)) := Lib.hid (by
              rw [HTK.out]
              exact own_on2 OW10.out o11 (fun e => by have := (OW10.out.lt _ e).1; omega))
            have HSZ11 : Hid (xb + 1 ≤ w11.heap.size) := Lib.hid (Nat.le_trans HSZ10.out o11.size)
            refine plS_void (w' := w11) rfl rfl (by
              have h9 : w10.cell? ⟨xb, 10, none⟩ = some (.slice A1 j c1) := (cell_of_row _ xb 10 _ _ _ HX10.out).trans rfl
              have h8 := blk_freeC HX10.out 10
              go_simp
              try exact hw11) ⟨E11.out, HB11.out⟩ ?_
            refine plS_done ?_
            clear hw11 o11
            go_wp2_with fail
            go_roundw
            case rel => exact ⟨j + 1, A2, c2, by omega, by omega, by go_num, HX11.out, OW11.out, HB11.out, HZ11.out, E11.out, HSZ11.out⟩
            case measure => simp [intOf]; omega
          · refine plS_call 29 #[.agg (qv q)] rfl rfl (by go_simp) ?_
            refine (good_qid q _ HQ9.out.1 HQ9.out.2).mono ?_
            rintro e w8 ⟨rfl, e8⟩
            have HX8 := Lib.hid (e8.heap (show wr.drew.heap[xb]? = _ from HX.out))
            have HZ8 := Lib.hid (e8.heap (show wr.drew.heap[ab + 1]? = _ from HZr.out))
            have OW8 := Lib.hid (own_ext3 OWN.out ((Ext.refl wr).drew.trans e8))
            have HS8 : Hid ((fun v : World => Ext w v ∧ v.heap[ab]? = some (.cells t.cs 29 (0, 0))) w8) := Lib.hid ⟨ER.out.trans ((Ext.refl wr).drew.trans e8), e8.heap HS0.out.2⟩
            have HSZ8 : Hid (xb + 1 ≤ w8.heap.size) := Lib.hid (Nat.le_trans HSZ.out e8.size)
            refine ⟨_, rfl, HS8.out, ?_⟩; simp only [Act.put, List.setIfInBounds_toArray, List.set_cons_zero, List.set_cons_succ]
            clear e8
            refine plS_fork ?_ ?_
            · refine plS_run (w' := w8) (.slice A1 j c1) rfl rfl (by have h9 : World.cell? w8 ⟨xb, 10, none⟩ = some (.slice A1 j c1) := (cell_of_row _ xb 10 _ _ _ HX8.out).trans rfl; go_simp; try rfl) HS8.out ?_; simp only [Act.put, List.setIfInBounds_toArray, List.set_cons_zero, List.set_cons_succ]
              obtain ⟨nb, hnb⟩ : ∃ nb, w8.heap.size = nb := ⟨_, rfl⟩
              obtain ⟨w9, hw9⟩ : ∃ w9, w8.alloc (.cells (qv (gq q)) 23) = w9 := ⟨_, rfl⟩
              have e9 : Ext w8 w9 := by rw [← hw9]; exact (Ext.refl _).alloc _
              have HN9 : Hid (w9.heap[nb]? = some (.cells (qv (gq q)) 23 (0, 0))) := Lib.hid (by rw [← hw9, ← hnb]; exact heap_alloc_new _ _)
              have HX9 := Lib.hid (e9.heap HX8.out)
              have HZ9 := Lib.hid (e9.heap HZ8.out)
              have OW9 := Lib.hid (own_ext3 OW8.out e9)
              have HS9 : Hid ((fun v : World => Ext w v ∧ v.heap[ab]? = some (.cells t.cs 29 (0, 0))) w9) := Lib.hid ⟨HS8.out.1.trans e9, e9.heap HS8.out.2⟩
              have HSZ9 : Hid (xb + 1 ≤ w9.heap.size) := Lib.hid (Nat.le_trans HSZ8.out e9.size)
              refine plS_run (w' := w9) (.slice (some ⟨nb, 0, none⟩) 1 1) rfl rfl ?hv HS9.out ?_
              case hv =>
                obtain ⟨ie, hie, hsz⟩ := Option.map_eq_some_iff.1 qid_zero
                injection hsz with hsz hz
                rw [← hw9, ← hnb]
                refine exec_buildSlice 24 23 1 _ rfl _ ie (.agg #[.bool false, .int .i64 0, .int .i64 0]) (by kernel_rfl) hie hz (by rw [hsz]; omega) (by rw [hsz]; omega) ?_
                rw [hsz]
                kernel_rfl
              simp only [Act.put, List.setIfInBounds_toArray, List.set_cons_zero, List.set_cons_succ]
              clear hw9 hnb e9
              obtain ⟨v10, w10, hrun, own10, hk10, e10, hs10⟩ := push_qid OW9.out HN9.out (by omega) HS9.out.1 (Nat.le_succ_of_le HXB.out) HSZ9.out
              obtain ⟨A2, c2, rfl, _⟩ := seesQ_own own10 (by rw [List.length_append, List.length_map, List.length_take, List.length_singleton]; have := HQL.out; omega)
              have HX10 := Lib.hid (hk10 xb _ (by omega) HX9.out)
              have HZ10 := Lib.hid (hk10 (ab + 1) _ (by have := (Array.getElem?_eq_some_iff.1 HZS0.out).1; have := HXG.out; omega) HZ9.out)
              have HS10 : Hid ((fun v : World => Ext w v ∧ v.heap[ab]? = some (.cells t.cs 29 (0, 0))) w10) := Lib.hid ⟨e10, hk10 ab _ (by have := HXG.out; omega) HS9.out.2⟩
              have OW10 := Lib.hid own10
              have HSZ10 : Hid (xb + 1 ≤ w10.heap.size) := Lib.hid (Nat.le_trans HSZ9.out hs10)
              refine plS_run (w' := w10) (.slice A2 (j + 1) c2) rfl rfl (exec_app (.tmp 43) (.tmp 50) _ rfl _ _ rfl rfl _ _ hrun) HS10.out ?_; simp only [Act.put, List.setIfInBounds_toArray, List.set_cons_zero, List.set_cons_succ]
              clear own10 hk10 e10 hs10 hrun
              refine plS_val (v := ?_) rfl rfl HS10.out (fun w' hw' => ?_) ?_; rotate_left; (· skip; go_simp; try with_reducible rfl); simp only [Act.put, List.setIfInBounds_toArray, List.set_cons_zero, List.set_cons_succ]
              obtain ⟨w11, hw11⟩ : ∃ w11, w10.setCell ⟨xb, 10, none⟩ (.slice A2 (j + 1) c2) = w11 := ⟨_, rfl⟩
              have o11 : On2 xb xb w10 w11 := by rw [← hw11]; exact On2.set _ _ _ (.inl rfl)
              have HX11 : Hid (w11.heap[xb]? = some (.cells (mkq t A2 (j + 1) c2 ((t.ql.take (j + 1)).map gq)).cs 29 (0, 0))) := Lib.hid (by rw [← hw11]; exact set_blkC HX10.out 10 _)
              have HB11 := Lib.hid (o11.heap HS10.out.2 HNE.out.1 HNE.out.1)
              have HZ11 := Lib.hid (o11.heap HZ10.out HNE.out.2 HNE.out.2)
              have E11 := Lib.hid (o11.ext HS10.out.1 HXB.out HXB.out)
              have HTK : Hid ((t.ql.take (j + 1)).map gq = (t.ql.take j).map gq ++ [gq q]) := Lib.hid (by
                obtain ⟨hjl, hje⟩ := List.getElem?_eq_some_iff.1 HQJ.out
                rw [List.take_succ_eq_append_getElem hjl, hje, List.map_append, List.map_singleton])
              have OW11 : Hid (w11.ownsRow (xb + 1) 23 3 (.slice A2 (j + 1) c2) (j + 1) (((t.ql.take (j + 1)).map gq).flatMap qc)) := Lib.hid (by
                rw [HTK.out]
                exact own_on2 OW10.out o11 (fun e => by have := (OW10.out.lt _ e).1; omega))
              have HSZ11 : Hid (xb + 1 ≤ w11.heap.size) := Lib.hid (Nat.le_trans HSZ10.out o11.size)
              refine plS_void (w' := w11) rfl rfl (by
                have h9 : w10.cell? ⟨xb, 10, none⟩ = some (.slice A1 j c1) := (cell_of_row _ xb 10 _ _ _ HX10.out).trans rfl
                have h8 := blk_freeC HX10.out 10
                go_simp
                try exact hw11) ⟨E11.out, HB11.out⟩ ?_
              refine plS_done ?_
              clear hw11 o11
              go_wp2_with fail
              go_roundw
              case rel => exact ⟨j + 1, A2, c2, by omega, by omega, by go_num, HX11.out, OW11.out, HB11.out, HZ11.out, E11.out, HSZ11.out⟩
              case measure => simp [intOf]; omega
            · obtain ⟨nb, hnb⟩ : ∃ nb, w8.heap.size = nb := ⟨_, rfl⟩
              obtain ⟨w9, hw9⟩ : ∃ w9, w8.alloc (.cells (qv (gq q)) 23) = w9 := ⟨_, rfl⟩
              have e9 : Ext w8 w9 := by rw [← hw9]; exact (Ext.refl _).alloc _
              have HN9 : Hid (w9.heap[nb]? = some (.cells (qv (gq q)) 23 (0, 0))) := Lib.hid (by rw [← hw9, ← hnb]; exact heap_alloc_new _ _)
              have HX9 := Lib.hid (e9.heap HX8.out)
              have HZ9 := Lib.hid (e9.heap HZ8.out)
              have OW9 := Lib.hid (own_ext3 OW8.out e9)
              have HS9 : Hid ((fun v : World => Ext w v ∧ v.heap[ab]? = some (.cells t.cs 29 (0, 0))) w9) := Lib.hid ⟨HS8.out.1.trans e9, e9.heap HS8.out.2⟩
              have HSZ9 : Hid (xb + 1 ≤ w9.heap.size) := Lib.hid (Nat.le_trans HSZ8.out e9.size)
              refine plS_run (w' := w9) (.slice (some ⟨nb, 0, none⟩) 1 1) rfl rfl ?hv HS9.out ?_
              case hv =>
                obtain ⟨ie, hie, hsz⟩ := Option.map_eq_some_iff.1 qid_zero
                injection hsz with hsz hz
                rw [← hw9, ← hnb]
                refine exec_buildSlice 24 23 1 _ rfl _ ie (.agg #[.bool false, .int .i64 0, .int .i64 0]) (by kernel_rfl) hie hz (by rw [hsz]; omega) (by rw [hsz]; omega) ?_
                rw [hsz]
                kernel_rfl
              simp only [Act.put, List.setIfInBounds_toArray, List.set_cons_zero, List.set_cons_succ]
              clear hw9 hnb e9
              refine plS_run (w' := w9) (.slice A1 j c1) rfl rfl (by have h9 : World.cell? w9 ⟨xb, 10, none⟩ = some (.slice A1 j c1) := (cell_of_row _ xb 10 _ _ _ HX9.out).trans rfl; go_simp; try rfl) HS9.out ?_; simp only [Act.put, List.setIfInBounds_toArray, List.set_cons_zero, List.set_cons_succ]
              obtain ⟨v10, w10, hrun, own10, hk10, e10, hs10⟩ := push_qid OW9.out HN9.out (by omega) HS9.out.1 (Nat.le_succ_of_le HXB.out) HSZ9.out
              obtain ⟨A2, c2, rfl, _⟩ := seesQ_own own10 (by rw [List.length_append, List.length_map, List.length_take, List.length_singleton]; have := HQL.out; omega)
              have HX10 := Lib.hid (hk10 xb _ (by omega) HX9.out)
              have HZ10 := Lib.hid (hk10 (ab + 1) _ (by have := (Array.getElem?_eq_some_iff.1 HZS0.out).1; have := HXG.out; omega) HZ9.out)
              have HS10 : Hid ((fun v : World => Ext w v ∧ v.heap[ab]? = some (.cells t.cs 29 (0, 0))) w10) := Lib.hid ⟨e10, hk10 ab _ (by have := HXG.out; omega) HS9.out.2⟩
              have OW10 := Lib.hid own10
              have HSZ10 : Hid (xb + 1 ≤ w10.heap.size) := Lib.hid (Nat.le_trans HSZ9.out hs10)
              refine plS_run (w' := w10) (.slice A2 (j + 1) c2) rfl rfl (exec_app (.tmp 43) (.tmp 50) _ rfl _ _ rfl rfl _ _ hrun) HS10.out ?_; simp only [Act.put, List.setIfInBounds_toArray, List.set_cons_zero, List.set_cons_succ]
              clear own10 hk10 e10 hs10 hrun
              refine plS_val (v := ?_) rfl rfl HS10.out (fun w' hw' => ?_) ?_; rotate_left; (· skip; go_simp; try with_reducible rfl); simp only [Act.put, List.setIfInBounds_toArray, List.set_cons_zero, List.set_cons_succ]
              obtain ⟨w11, hw11⟩ : ∃ w11, w10.setCell ⟨xb, 10, none⟩ (.slice A2 (j + 1) c2) = w11 := ⟨_, rfl⟩
              have o11 : On2 xb xb w10 w11 := by rw [← hw11]; exact On2.set _ _ _ (.inl rfl)
              have HX11 : Hid (w11.heap[xb]? = some (.cells (mkq t A2 (j + 1) c2 ((t.ql.take (j + 1)).map gq)).cs 29 (0, 0))) := Lib.hid (by rw [← hw11]; exact set_blkC HX10.out 10 _)
              have HB11 := Lib.hid (o11.heap HS10.out.2 HNE.out.1 HNE.out.1)
              have HZ11 := Lib.hid (o11.heap HZ10.out HNE.out.2 HNE.out.2)
              have E11 := Lib.hid (o11.ext HS10.out.1 HXB.out HXB.out)
              have HTK : Hid ((t.ql.take (j + 1)).map gq = (t.ql.take j).map gq ++ [gq q]) := Lib.hid (by
                obtain ⟨hjl, hje⟩ := List.getElem?_eq_some_iff.1 HQJ.out
                rw [List.take_succ_eq_append_getElem hjl, hje, List.map_append, List.map_singleton])
              have OW11 : Hid (w11.ownsRow (xb + 1) 23 3 (.slice A2 (j + 1) c2) (j + 1) (((t.ql.take (j + 1)).map gq).flatMap qc)) := Lib.hid (by
                rw [HTK.out]
                exact own_on2 OW10.out o11 (fun e => by have := (OW10.out.lt _ e).1; omega))
              have HSZ11 : Hid (xb + 1 ≤ w11.heap.size) := Lib.hid (Nat.le_trans HSZ10.out o11.size)
              refine plS_void (w' := w11) rfl rfl (by
                have h9 : w10.cell? ⟨xb, 10, none⟩ = some (.slice A1 j c1) := (cell_of_row _ xb 10 _ _ _ HX10.out).trans rfl
                have h8 := blk_freeC HX10.out 10
                go_simp
                try exact hw11) ⟨E11.out, HB11.out⟩ ?_
              refine plS_done ?_
              clear hw11 o11
              go_wp2_with fail
              go_roundw
              case rel => exact ⟨j + 1, A2, c2, by omega, by omega, by go_num, HX11.out, OW11.out, HB11.out, HZ11.out, E11.out, HSZ11.out⟩
              case measure => simp [intOf]; omega
        · have hjq : (t.ql.take j).map gq = (t.ql.take 8).map gq := by
            have h9 := HQL.out
            by_cases h8 : j = 8
            · rw [h8]
            · rw [List.take_of_length_le (by omega), List.take_of_length_le (by omega)]
          have HJQ := Lib.hid hjq
          have hcond : ¬ ((j : Int) < (t.qn : Int) ∧ (j : Int) < 8) := by omega
          clear hjq
          rw [HJQ.out] at OWN HX
          have hj9 : ((t.ql.take 8).map gq).length = j := by rw [← HJQ.out, List.length_map, List.length_take]; have := HQL.out; omega
          have HJ9 := Lib.hid hj9
          have y11 : wr.cell? ⟨ab, 11, none⟩ = some (.slice t.dA t.dn t.dk) := (cell_of_row _ ab 11 _ _ _ HBr.out).trans rfl
          have HDS : Hid (Sees wr t.dA t.dn t.dk (bs t.dl)) := Lib.hid (HOK.out.2.ext ER.out)
          have hex : (j : Int) < (t.qn : Int) → ¬ (j : Int) < 8 := by omega
          clear hcond hj9
          by_cases hj1 : (j : Int) < (t.qn : Int)
          · have hj2 : ¬ (j : Int) < 8 := hex hj1
            clear hex
            go_wp2_with fail
            refine (few_nat t.dA t.dn t.dk 30 30 (bs t.dl) _ HDS.out (fun u hu => bs_one t.dl u hu) (by omega) (by omega) rfl).mono ?_
            rintro e w8 ⟨v, rfl, own8, e8⟩
            obtain ⟨Ad, cd, rfl, see8⟩ := Sees.of_own own8
            rw [bs_take] at see8
            have HX8 := Lib.hid (e8.heap HX.out)
            have x11 : w8.cell? ⟨xb, 11, none⟩ = some (.slice none 0 0) := (cell_of_row _ xb 11 _ _ _ HX8.out).trans rfl
            have f11 := blk_freeC HX8.out 11
            obtain ⟨w9, hw9⟩ : ∃ w9, w8.setCell ⟨xb, 11, none⟩ (.slice Ad (min t.dn 30) cd) = w9 := ⟨_, rfl⟩
            have o9 : On2 xb xb w8 w9 := by rw [← hw9]; exact On2.set _ _ _ (.inl rfl)
            obtain ⟨u, hu⟩ : ∃ u, mkd (mkq t A1 j c1 ((t.ql.take 8).map gq)) Ad (min t.dn 30) cd (t.dl.take 30) = u := ⟨_, rfl⟩
            have HX9 : Hid (w9.heap[xb]? = some (.cells u.cs 29 (0, 0))) := Lib.hid (by rw [← hw9, ← hu]; exact set_blkC HX8.out 11 _)
            have HB9 := Lib.hid (o9.heap (e8.heap HBr.out) HNE.out.1 HNE.out.1)
            have HZ9 := Lib.hid (o9.heap (e8.heap HZr.out) HNE.out.2 HNE.out.2)
            have E9 := Lib.hid (o9.ext (ER.out.trans e8) HXB.out HXB.out)
            have OW9 : Hid (w9.ownsRow (xb + 1) 23 3 (.slice A1 j c1) j (((t.ql.take 8).map gq).flatMap qc)) := Lib.hid (own_on2 (own_ext3 OWN.out e8) o9 (fun e => by have := (OWN.out.lt _ e).1; omega))
            have SD9 : Hid (w9.ownsRow (xb + 1) 5 1 (.slice Ad (min t.dn 30) cd) (min t.dn 30) (bs (t.dl.take 30))) := Lib.hid (by rw [← bs_take]; exact own_mono3 (own_on2 own8 o9 (fun e => by have := (own8.lt _ e).1; have := HSZ.out; omega)) HSZ.out)
            have HU9 := Lib.hid hu
            clear own8 see8 e8 o9 hu
            go_wp2_with fail
            clear hw9
            have HS0 : Hid ((fun v : World => v.heap[ab]? = some (.cells t.cs 29 (0, 0))) w9.drew) := Lib.hid HB9.out
            refine wp_region_plS (fun v : World => v.heap[ab]? = some (.cells t.cs 29 (0, 0))) (.free 0 (.free 1 (.free 2 (.free 4 (.free 5 (.free 6 (.free 8 (.free 9 (.free 10 (.free 12 (.free 13 (.free 14 (.one 3 (.free 7 (.free 11 (.one 15 (.free 16 (.free 17 (.one 18 .nil))))))))))))))))))) (by kernel_rfl) (by kernel_rfl) (by kernel_rfl) (by kernel_rfl) ?_
            refine plS_val (v := ?_) rfl rfl HS0.out (fun w' hw' => ?_) ?_; rotate_left; (· skip; go_simp; try with_reducible rfl); simp only [Act.put, List.setIfInBounds_toArray, List.set_cons_zero, List.set_cons_succ]
            refine plS_val (v := ?_) rfl rfl HS0.out (fun w' hw' => ?_) ?_; rotate_left; (· skip; go_simp; try with_reducible rfl); simp only [Act.put, List.setIfInBounds_toArray, List.set_cons_zero, List.set_cons_succ]
            refine plS_val (v := .agg (qv t.s)) rfl rfl HS0.out (fun w' hw' => exec_loadSub 23 _ rfl ab 12 rfl 29 _ _ _ _ hw' HL12.out Try.underlying23 rfl (qid_info _)) ?_; simp only [Act.put, List.setIfInBounds_toArray, List.set_cons_zero, List.set_cons_succ]
            refine plS_val (v := ?_) rfl rfl HS0.out (fun w' hw' => ?_) ?_; rotate_left; (· skip; go_simp; try with_reducible rfl); simp only [Act.put, List.setIfInBounds_toArray, List.set_cons_zero, List.set_cons_succ]
            refine plS_val (v := ?_) rfl rfl HS0.out (fun w' hw' => ?_) ?_; rotate_left; (· skip; go_simp; try with_reducible rfl); simp only [Act.put, List.setIfInBounds_toArray, List.set_cons_zero, List.set_cons_succ]
            refine plS_val (v := ?_) rfl rfl HS0.out (fun w' hw' => ?_) ?_; rotate_left; (· have h9 : w'.cell? ⟨ab, 15, none⟩ = some (.int .i64 t.sm) := (cell_of_row w' ab 15 _ _ _ hw').trans rfl; go_simp; try with_reducible rfl); simp only [Act.put, List.setIfInBounds_toArray, List.set_cons_zero, List.set_cons_succ]
            refine plS_val (v := ?_) rfl rfl HS0.out (fun w' hw' => ?_) ?_; rotate_left; (· skip; go_simp; try with_reducible rfl); simp only [Act.put, List.setIfInBounds_toArray, List.set_cons_zero, List.set_cons_succ]
            refine plS_val (v := ?_) rfl rfl HS0.out (fun w' hw' => ?_) ?_; rotate_left; (· skip; go_simp; try with_reducible rfl); simp only [Act.put, List.setIfInBounds_toArray, List.set_cons_zero, List.set_cons_succ]
            refine plS_val (v := ?_) rfl rfl HS0.out (fun w' hw' => ?_) ?_; rotate_left; (· have h9 : w'.cell? ⟨ab, 16, none⟩ = some (.int .i64 t.sz) := (cell_of_row w' ab 16 _ _ _ hw').trans rfl; go_simp; try with_reducible rfl); simp only [Act.put, List.setIfInBounds_toArray, List.set_cons_zero, List.set_cons_succ]
            refine plS_val (v := ?_) rfl rfl HS0.out (fun w' hw' => ?_) ?_; rotate_left; (· skip; go_simp; try with_reducible rfl); simp only [Act.put, List.setIfInBounds_toArray, List.set_cons_zero, List.set_cons_succ]
            refine plS_val (v := ?_) rfl rfl HS0.out (fun w' hw' => ?_) ?_; rotate_left; (· skip; go_simp; try with_reducible rfl); simp only [Act.put, List.setIfInBounds_toArray, List.set_cons_zero, List.set_cons_succ]
            refine plS_val (v := ?_) rfl rfl HS0.out (fun w' hw' => ?_) ?_; rotate_left; (· have h9 : w'.cell? ⟨ab, 17, none⟩ = some (.string ⟨t.sn.toArray⟩) := (cell_of_row w' ab 17 _ _ _ hw').trans rfl; go_simp; try with_reducible rfl); simp only [Act.put, List.setIfInBounds_toArray, List.set_cons_zero, List.set_cons_succ]
            refine plS_call 29 #[.agg (qv t.s)] rfl rfl (by go_simp) ?_
            refine (good_qid t.s _ hr.out.s.1 hr.out.s.2).mono ?_
            rintro e w10 ⟨rfl, e10⟩
            have HS10 : Hid ((fun v : World => v.heap[ab]? = some (.cells t.cs 29 (0, 0))) w10) := Lib.hid (e10.heap HS0.out)
            have HX10 := Lib.hid (e10.heap (show w9.drew.heap[xb]? = _ from HX9.out))
            have HZ10 := Lib.hid (e10.heap (show w9.drew.heap[ab + 1]? = _ from HZ9.out))
            have E10 := Lib.hid (E9.out.drew.trans e10)
            have OW10 := Lib.hid (own_ext3 OW9.out ((Ext.refl w9).drew.trans e10))
            have SD10 := Lib.hid (own_ext3 SD9.out ((Ext.refl w9).drew.trans e10))
            refine ⟨_, rfl, HS10.out, ?_⟩; simp only [Act.put, List.setIfInBounds_toArray, List.set_cons_zero, List.set_cons_succ]
            clear e10
            refine plS_even 28 #[.int .i64 t.sm] (.int .i64 (aroundZ t.sm 4294967296)) rfl rfl HS10.out (fun w' hw' => by go_simp) (fun w' hw' => low_any t.sm w' hr.out.sm.1 hr.out.sm.2) ?_; simp only [Act.put, List.setIfInBounds_toArray, List.set_cons_zero, List.set_cons_succ]
            refine plS_even 30 #[.int .i64 t.sz] (.int .i64 (aroundZ t.sz 4611686018427387905)) rfl rfl HS10.out (fun w' hw' => by go_simp) (fun w' hw' => high_any t.sz w' hr.out.sz.1 hr.out.sz.2) ?_; simp only [Act.put, List.setIfInBounds_toArray, List.set_cons_zero, List.set_cons_succ]
            refine plS_call 26 #[.string ⟨t.sn.toArray⟩, .int .i64 40] rfl rfl (by go_simp) ?_
            refine (short_any t.sn 40 40 rfl _ hr.out.sn).mono ?_
            rintro e _ ⟨rfl, rfl⟩
            refine ⟨_, rfl, HS10.out, ?_⟩; simp only [Act.put, List.setIfInBounds_toArray, List.set_cons_zero, List.set_cons_succ]
            refine plS_val (v := .agg (sv (mks t u))) rfl rfl HS10.out (fun w' hw' => exec_build _ _ rfl _ (by kernel_rfl)) ?_; simp only [Act.put, List.setIfInBounds_toArray, List.set_cons_zero, List.set_cons_succ]
            refine plS_val (v := ?_) rfl rfl HS10.out (fun w' hw' => ?_) ?_; rotate_left; (· skip; go_simp; try with_reducible rfl); simp only [Act.put, List.setIfInBounds_toArray, List.set_cons_zero, List.set_cons_succ]
            obtain ⟨w11, hw11⟩ : ∃ w11, w10.setRow xb (mks t u).cs = w11 := ⟨_, rfl⟩
            have o11 : On2 xb xb w10 w11 := by rw [← hw11]; exact on2_row _ _ _
            have HX11 : Hid (w11.heap[xb]? = some (.cells (mks t u).cs 29 (0, 0))) := Lib.hid (by rw [← hw11]; exact setRow_heap _ xb _ _ _ _ HX10.out)
            have HB11 : Hid ((fun v : World => v.heap[ab]? = some (.cells t.cs 29 (0, 0))) w11) := Lib.hid (o11.heap HS10.out HNE.out.1 HNE.out.1)
            have HZ11 := Lib.hid (o11.heap HZ10.out HNE.out.2 HNE.out.2)
            have E11 := Lib.hid (o11.ext E10.out HXB.out HXB.out)
            have OW11 := Lib.hid (own_on2 OW10.out o11 (fun e => by have := (OW10.out.lt _ e).1; omega))
            have SD11 := Lib.hid (own_on2 SD10.out o11 (fun e => by have := (SD10.out.lt _ e).1; omega))
            refine plS_void (w' := w11) rfl rfl (by rw [← hw11]; exact exec_store_sub 27 (.tmp 74) (.tmp 73) rfl xb 12 (sv (mks t u)) u.cs (mks t u).cs rfl rfl 29 HX10.out (stat_info _) (by show 12 + 6 ≤ 18; omega) (sv_one _) rfl) HB11.out ?_
            refine plS_done ?_
            clear hw11 o11
            go_wp2_with (first | (with_reducible refine wpList_load_row rfl 29 (.tmp 3) rfl xb rfl _ _ _ _ HX11.out Try.underlying29 rfl (HI.out _) ?_) | fail)
            refine (own18 _ _).mono ?_
            rintro e w12 ⟨rfl, e12⟩
            have HZ12 := Lib.hid (e12.heap HZ11.out)
            have HG := Lib.hid (setRow_heap w12 (ab + 1) _ (ownT (mks t u)).cs _ _ HZ12.out)
            have EG := Lib.hid (below_setRow (E11.out.trans e12) (by have := HLT.out; omega : w.heap.size ≤ ab + 1) (ownT (mks t u)).cs)
            have oG : On2 (ab + 1) (ab + 1) w12 (w12.setRow (ab + 1) (ownT (mks t u)).cs) := on2_row _ _ _
            have OWG := Lib.hid (own_mono3 (own_on2 (own_ext3 OW11.out e12) oG (fun e => by have := (OW11.out.lt _ e).1; have := HXG.out; omega)) (Nat.le_succ_of_le HXB.out))
            have SDG := Lib.hid (own_mono3 (own_on2 (own_ext3 SD11.out e12) oG (fun e => by have := (SD11.out.lt _ e).1; have := HXG.out; omega)) (Nat.le_succ_of_le HXB.out))
            clear oG e12
            go_wp2_with (first | (with_reducible refine wpList_store_row rfl 29 (.tmp 2) (.tmp 76) rfl (ab + 1) _ rfl rfl _ _ HZ12.out (HI.out _) rfl (HU.out _) ?_) | fail)
            refine bodyPost_ret (results_cell_row rfl _ _ (ab + 1) _ _ (0, 0) _ rfl HG.out Try.underlying29 rfl (HI.out _)) rfl ?_
            exact ⟨A1, j, c1, Ad, _, cd, by rw [HU9.out], OWG.out, HJ9.out.symm, SDG.out, EG.out⟩
          · clear hex
            go_wp2_with fail
            refine (few_nat t.dA t.dn t.dk 30 30 (bs t.dl) _ HDS.out (fun u hu => bs_one t.dl u hu) (by omega) (by omega) rfl).mono ?_
            rintro e w8 ⟨v, rfl, own8, e8⟩
            obtain ⟨Ad, cd, rfl, see8⟩ := Sees.of_own own8
            rw [bs_take] at see8
            have HX8 := Lib.hid (e8.heap HX.out)
            have x11 : w8.cell? ⟨xb, 11, none⟩ = some (.slice none 0 0) := (cell_of_row _ xb 11 _ _ _ HX8.out).trans rfl
            have f11 := blk_freeC HX8.out 11
            obtain ⟨w9, hw9⟩ : ∃ w9, w8.setCell ⟨xb, 11, none⟩ (.slice Ad (min t.dn 30) cd) = w9 := ⟨_, rfl⟩
            have o9 : On2 xb xb w8 w9 := by rw [← hw9]; exact On2.set _ _ _ (.inl rfl)
            obtain ⟨u, hu⟩ : ∃ u, mkd (mkq t A1 j c1 ((t.ql.take 8).map gq)) Ad (min t.dn 30) cd (t.dl.take 30) = u := ⟨_, rfl⟩
            have HX9 : Hid (w9.heap[xb]? = some (.cells u.cs 29 (0, 0))) := Lib.hid (by rw [← hw9, ← hu]; exact set_blkC HX8.out 11 _)
            have HB9 := Lib.hid (o9.heap (e8.heap HBr.out) HNE.out.1 HNE.out.1)
            have HZ9 := Lib.hid (o9.heap (e8.heap HZr.out) HNE.out.2 HNE.out.2)
            have E9 := Lib.hid (o9.ext (ER.out.trans e8) HXB.out HXB.out)
            have OW9 : Hid (w9.ownsRow (xb + 1) 23 3 (.slice A1 j c1) j (((t.ql.take 8).map gq).flatMap qc)) := Lib.hid (own_on2 (own_ext3 OWN.out e8) o9 (fun e => by have := (OWN.out.lt _ e).1; omega))
            have SD9 : Hid (w9.ownsRow (xb + 1) 5 1 (.slice Ad (min t.dn 30) cd) (min t.dn 30) (bs (t.dl.take 30))) := Lib.hid (by rw [← bs_take]; exact own_mono3 (own_on2 own8 o9 (fun e => by have := (own8.lt _ e).1; have := HSZ.out; omega)) HSZ.out)
            have HU9 := Lib.hid hu
            clear own8 see8 e8 o9 hu
            go_wp2_with fail
            clear hw9
            have HS0 : Hid ((fun v : World => v.heap[ab]? = some (.cells t.cs 29 (0, 0))) w9.drew) := Lib.hid HB9.out
            refine wp_region_plS (fun v : World => v.heap[ab]? = some (.cells t.cs 29 (0, 0))) (.free 0 (.free 1 (.free 2 (.free 4 (.free 5 (.free 6 (.free 8 (.free 9 (.free 10 (.free 12 (.free 13 (.free 14 (.one 3 (.free 7 (.free 11 (.one 15 (.free 16 (.free 17 (.one 18 .nil))))))))))))))))))) (by kernel_rfl) (by kernel_rfl) (by kernel_rfl) (by kernel_rfl) ?_
            refine plS_val (v := ?_) rfl rfl HS0.out (fun w' hw' => ?_) ?_; rotate_left; (· skip; go_simp; try with_reducible rfl); simp only [Act.put, List.setIfInBounds_toArray, List.set_cons_zero, List.set_cons_succ]
            refine plS_val (v := ?_) rfl rfl HS0.out (fun w' hw' => ?_) ?_; rotate_left; (· skip; go_simp; try with_reducible rfl); simp only [Act.put, List.setIfInBounds_toArray, List.set_cons_zero, List.set_cons_succ]
            refine plS_val (v := .agg (qv t.s)) rfl rfl HS0.out (fun w' hw' => exec_loadSub 23 _ rfl ab 12 rfl 29 _ _ _ _ hw' HL12.out Try.underlying23 rfl (qid_info _)) ?_; simp only [Act.put, List.setIfInBounds_toArray, List.set_cons_zero, List.set_cons_succ]
            refine plS_val (v := ?_) rfl rfl HS0.out (fun w' hw' => ?_) ?_; rotate_left; (· skip; go_simp; try with_reducible rfl); simp only [Act.put, List.setIfInBounds_toArray, List.set_cons_zero, List.set_cons_succ]
            refine plS_val (v := ?_) rfl rfl HS0.out (fun w' hw' => ?_) ?_; rotate_left; (· skip; go_simp; try with_reducible rfl); simp only [Act.put, List.setIfInBounds_toArray, List.set_cons_zero, List.set_cons_succ]
            refine plS_val (v := ?_) rfl rfl HS0.out (fun w' hw' => ?_) ?_; rotate_left; (· have h9 : w'.cell? ⟨ab, 15, none⟩ = some (.int .i64 t.sm) := (cell_of_row w' ab 15 _ _ _ hw').trans rfl; go_simp; try with_reducible rfl); simp only [Act.put, List.setIfInBounds_toArray, List.set_cons_zero, List.set_cons_succ]
            refine plS_val (v := ?_) rfl rfl HS0.out (fun w' hw' => ?_) ?_; rotate_left; (· skip; go_simp; try with_reducible rfl); simp only [Act.put, List.setIfInBounds_toArray, List.set_cons_zero, List.set_cons_succ]
            refine plS_val (v := ?_) rfl rfl HS0.out (fun w' hw' => ?_) ?_; rotate_left; (· skip; go_simp; try with_reducible rfl); simp only [Act.put, List.setIfInBounds_toArray, List.set_cons_zero, List.set_cons_succ]
            refine plS_val (v := ?_) rfl rfl HS0.out (fun w' hw' => ?_) ?_; rotate_left; (· have h9 : w'.cell? ⟨ab, 16, none⟩ = some (.int .i64 t.sz) := (cell_of_row w' ab 16 _ _ _ hw').trans rfl; go_simp; try with_reducible rfl); simp only [Act.put, List.setIfInBounds_toArray, List.set_cons_zero, List.set_cons_succ]
            refine plS_val (v := ?_) rfl rfl HS0.out (fun w' hw' => ?_) ?_; rotate_left; (· skip; go_simp; try with_reducible rfl); simp only [Act.put, List.setIfInBounds_toArray, List.set_cons_zero, List.set_cons_succ]
            refine plS_val (v := ?_) rfl rfl HS0.out (fun w' hw' => ?_) ?_; rotate_left; (· skip; go_simp; try with_reducible rfl); simp only [Act.put, List.setIfInBounds_toArray, List.set_cons_zero, List.set_cons_succ]
            refine plS_val (v := ?_) rfl rfl HS0.out (fun w' hw' => ?_) ?_; rotate_left; (· have h9 : w'.cell? ⟨ab, 17, none⟩ = some (.string ⟨t.sn.toArray⟩) := (cell_of_row w' ab 17 _ _ _ hw').trans rfl; go_simp; try with_reducible rfl); simp only [Act.put, List.setIfInBounds_toArray, List.set_cons_zero, List.set_cons_succ]
            refine plS_call 29 #[.agg (qv t.s)] rfl rfl (by go_simp) ?_
            refine (good_qid t.s _ hr.out.s.1 hr.out.s.2).mono ?_
            rintro e w10 ⟨rfl, e10⟩
            have HS10 : Hid ((fun v : World => v.heap[ab]? = some (.cells t.cs 29 (0, 0))) w10) := Lib.hid (e10.heap HS0.out)
            have HX10 := Lib.hid (e10.heap (show w9.drew.heap[xb]? = _ from HX9.out))
            have HZ10 := Lib.hid (e10.heap (show w9.drew.heap[ab + 1]? = _ from HZ9.out))
            have E10 := Lib.hid (E9.out.drew.trans e10)
            have OW10 := Lib.hid (own_ext3 OW9.out ((Ext.refl w9).drew.trans e10))
            have SD10 := Lib.hid (own_ext3 SD9.out ((Ext.refl w9).drew.trans e10))
            refine ⟨_, rfl, HS10.out, ?_⟩; simp only [Act.put, List.setIfInBounds_toArray, List.set_cons_zero, List.set_cons_succ]
            clear e10
            refine plS_even 28 #[.int .i64 t.sm] (.int .i64 (aroundZ t.sm 4294967296)) rfl rfl HS10.out (fun w' hw' => by go_simp) (fun w' hw' => low_any t.sm w' hr.out.sm.1 hr.out.sm.2) ?_; simp only [Act.put, List.setIfInBounds_toArray, List.set_cons_zero, List.set_cons_succ]
            refine plS_even 30 #[.int .i64 t.sz] (.int .i64 (aroundZ t.sz 4611686018427387905)) rfl rfl HS10.out (fun w' hw' => by go_simp) (fun w' hw' => high_any t.sz w' hr.out.sz.1 hr.out.sz.2) ?_; simp only [Act.put, List.setIfInBounds_toArray, List.set_cons_zero, List.set_cons_succ]
            refine plS_call 26 #[.string ⟨t.sn.toArray⟩, .int .i64 40] rfl rfl (by go_simp) ?_
            refine (short_any t.sn 40 40 rfl _ hr.out.sn).mono ?_
            rintro e _ ⟨rfl, rfl⟩
            refine ⟨_, rfl, HS10.out, ?_⟩; simp only [Act.put, List.setIfInBounds_toArray, List.set_cons_zero, List.set_cons_succ]
            refine plS_val (v := .agg (sv (mks t u))) rfl rfl HS10.out (fun w' hw' => exec_build _ _ rfl _ (by kernel_rfl)) ?_; simp only [Act.put, List.setIfInBounds_toArray, List.set_cons_zero, List.set_cons_succ]
            refine plS_val (v := ?_) rfl rfl HS10.out (fun w' hw' => ?_) ?_; rotate_left; (· skip; go_simp; try with_reducible rfl); simp only [Act.put, List.setIfInBounds_toArray, List.set_cons_zero, List.set_cons_succ]
            obtain ⟨w11, hw11⟩ : ∃ w11, w10.setRow xb (mks t u).cs = w11 := ⟨_, rfl⟩
            have o11 : On2 xb xb w10 w11 := by rw [← hw11]; exact on2_row _ _ _
            have HX11 : Hid (w11.heap[xb]? = some (.cells (mks t u).cs 29 (0, 0))) := Lib.hid (by rw [← hw11]; exact setRow_heap _ xb _ _ _ _ HX10.out)
            have HB11 : Hid ((fun v : World => v.heap[ab]? = some (.cells t.cs 29 (0, 0))) w11) := Lib.hid (o11.heap HS10.out HNE.out.1 HNE.out.1)
            have HZ11 := Lib.hid (o11.heap HZ10.out HNE.out.2 HNE.out.2)
            have E11 := Lib.hid (o11.ext E10.out HXB.out HXB.out)
            have OW11 := Lib.hid (own_on2 OW10.out o11 (fun e => by have := (OW10.out.lt _ e).1; omega))
            have SD11 := Lib.hid (own_on2 SD10.out o11 (fun e => by have := (SD10.out.lt _ e).1; omega))
            refine plS_void (w' := w11) rfl rfl (by rw [← hw11]; exact exec_store_sub 27 (.tmp 74) (.tmp 73) rfl xb 12 (sv (mks t u)) u.cs (mks t u).cs rfl rfl 29 HX10.out (stat_info _) (by show 12 + 6 ≤ 18; omega) (sv_one _) rfl) HB11.out ?_
            refine plS_done ?_
            clear hw11 o11
            go_wp2_with (first | (with_reducible refine wpList_load_row rfl 29 (.tmp 3) rfl xb rfl _ _ _ _ HX11.out Try.underlying29 rfl (HI.out _) ?_) | fail)
            refine (own18 _ _).mono ?_
            rintro e w12 ⟨rfl, e12⟩
            have HZ12 := Lib.hid (e12.heap HZ11.out)
            have HG := Lib.hid (setRow_heap w12 (ab + 1) _ (ownT (mks t u)).cs _ _ HZ12.out)
            have EG := Lib.hid (below_setRow (E11.out.trans e12) (by have := HLT.out; omega : w.heap.size ≤ ab + 1) (ownT (mks t u)).cs)
            have oG : On2 (ab + 1) (ab + 1) w12 (w12.setRow (ab + 1) (ownT (mks t u)).cs) := on2_row _ _ _
            have OWG := Lib.hid (own_mono3 (own_on2 (own_ext3 OW11.out e12) oG (fun e => by have := (OW11.out.lt _ e).1; have := HXG.out; omega)) (Nat.le_succ_of_le HXB.out))
            have SDG := Lib.hid (own_mono3 (own_on2 (own_ext3 SD11.out e12) oG (fun e => by have := (SD11.out.lt _ e).1; have := HXG.out; omega)) (Nat.le_succ_of_le HXB.out))
            clear oG e12
            go_wp2_with (first | (with_reducible refine wpList_store_row rfl 29 (.tmp 2) (.tmp 76) rfl (ab + 1) _ rfl rfl _ _ HZ12.out (HI.out _) rfl (HU.out _) ?_) | fail)
            refine bodyPost_ret (results_cell_row rfl _ _ (ab + 1) _ _ (0, 0) _ rfl HG.out Try.underlying29 rfl (HI.out _)) rfl ?_
            exact ⟨A1, j, c1, Ad, _, cd, by rw [HU9.out], OWG.out, HJ9.out.symm, SDG.out, EG.out⟩
  · obtain ⟨xb, hxb⟩ : ∃ xb, w3.heap.size = xb := ⟨_, rfl⟩
    obtain ⟨w4, hw4⟩ : ∃ w4, w3.alloc (.cells #[.int .i64 0, .int .i64 0, .int .i64 0, .int .i64 0, .int .i64 0, .int .i64 0, .string ⟨#[]⟩, .bool false, .int .i64 0, .int .i64 0, .slice none 0 0, .slice none 0 0, .bool false, .int .i64 0, .int .i64 0, .int .i64 0, .int .i64 0, .string ⟨#[]⟩] 29) = w4 := ⟨_, rfl⟩
    have HXA0 : Hid (w4.heap[xb]? = some (.cells #[.int .i64 0, .int .i64 0, .int .i64 0, .int .i64 0, .int .i64 0, .int .i64 0, .string ⟨#[]⟩, .bool false, .int .i64 0, .int .i64 0, .slice none 0 0, .slice none 0 0, .bool false, .int .i64 0, .int .i64 0, .int .i64 0, .int .i64 0, .string ⟨#[]⟩] 29 (0, 0))) := Lib.hid (by rw [← hw4, ← hxb]; exact heap_alloc_new _ _)
    have eAl : Ext w3 w4 := by rw [← hw4]; exact (Ext.refl _).alloc _
    have HNE : Hid (¬ ab = xb ∧ ¬ ab + 1 = xb) := Lib.hid (by have := HLT.out; have := (Array.getElem?_eq_some_iff.1 HZw3.out).1; omega)
    have HXB : Hid (w.heap.size ≤ xb) := Lib.hid (by have := (Array.getElem?_eq_some_iff.1 HZw3.out).1; omega)
    have HBw4 : Hid ((fun v : World => v.heap[ab]? = some (.cells t.cs 29 (0, 0))) w4) := Lib.hid (eAl.heap HBw3.out)
    have HZw4 := Lib.hid (eAl.heap HZw3.out)
    have Ew4 := Lib.hid (Ew3.out.trans eAl)
    refine plS_run (w' := w4) (.pointer (some ⟨xb, 0, none⟩)) rfl rfl (by rw [← hw4]; have q := hxb; go_simp; try (first | rfl | (rw [q]))) HBw4.out ?_; simp only [Act.put, List.setIfInBounds_toArray, List.set_cons_zero, List.set_cons_succ]
    clear hw4 eAl
    refine plS_call 27 #[.int .i64 t.ty] rfl rfl (by go_simp) ?_
    refine (kind18 t.ty w4 hr.out.ty.1 hr.out.ty.2).mono ?_
    rintro e w5 ⟨rfl, eK⟩
    have HBw5 : Hid ((fun v : World => v.heap[ab]? = some (.cells t.cs 29 (0, 0))) w5) := Lib.hid (eK.heap HBw4.out)
    have HZw5 := Lib.hid (eK.heap HZw4.out)
    have Ew5 := Lib.hid (Ew4.out.trans eK)
    have HXAw5 := Lib.hid (eK.heap HXA0.out)
    refine ⟨_, rfl, HBw5.out, ?_⟩; simp only [Act.put, List.setIfInBounds_toArray, List.set_cons_zero, List.set_cons_succ]
    clear eK
    refine plS_even 18 #[.int .i64 t.tg, .int .i64 65536] (.int .i64 (aroundZ t.tg 65536)) rfl rfl HBw5.out (fun w' hw' => by go_simp) (fun w' hw' => around_any t.tg 65536 w' hr.out.tg.1 hr.out.tg.2 (by omega) (by omega)) ?_; simp only [Act.put, List.setIfInBounds_toArray, List.set_cons_zero, List.set_cons_succ]
    refine plS_even 18 #[.int .i64 t.cd, .int .i64 65536] (.int .i64 (aroundZ t.cd 65536)) rfl rfl HBw5.out (fun w' hw' => by go_simp) (fun w' hw' => around_any t.cd 65536 w' hr.out.cd.1 hr.out.cd.2 (by omega) (by omega)) ?_; simp only [Act.put, List.setIfInBounds_toArray, List.set_cons_zero, List.set_cons_succ]
    refine plS_even 28 #[.int .i64 t.ms] (.int .i64 (aroundZ t.ms 4294967296)) rfl rfl HBw5.out (fun w' hw' => by go_simp) (fun w' hw' => low_any t.ms w' hr.out.ms.1 hr.out.ms.2) ?_; simp only [Act.put, List.setIfInBounds_toArray, List.set_cons_zero, List.set_cons_succ]
    refine plS_even 28 #[.int .i64 t.io] (.int .i64 (aroundZ t.io 4294967296)) rfl rfl HBw5.out (fun w' hw' => by go_simp) (fun w' hw' => low_any t.io w' hr.out.io.1 hr.out.io.2) ?_; simp only [Act.put, List.setIfInBounds_toArray, List.set_cons_zero, List.set_cons_succ]
    refine plS_even 28 #[.int .i64 t.ct] (.int .i64 (aroundZ t.ct 4294967296)) rfl rfl HBw5.out (fun w' hw' => by go_simp) (fun w' hw' => low_any t.ct w' hr.out.ct.1 hr.out.ct.2) ?_; simp only [Act.put, List.setIfInBounds_toArray, List.set_cons_zero, List.set_cons_succ]
    refine plS_call 29 #[.agg (qv t.q)] rfl rfl (by go_simp) ?_
    refine (good_qid t.q w5 hr.out.q.1 hr.out.q.2).mono ?_
    rintro e w6 ⟨rfl, eK⟩
    have HBw6 : Hid ((fun v : World => v.heap[ab]? = some (.cells t.cs 29 (0, 0))) w6) := Lib.hid (eK.heap HBw5.out)
    have HZw6 := Lib.hid (eK.heap HZw5.out)
    have Ew6 := Lib.hid (Ew5.out.trans eK)
    have HXAw6 := Lib.hid (eK.heap HXAw5.out)
    refine ⟨_, rfl, HBw6.out, ?_⟩; simp only [Act.put, List.setIfInBounds_toArray, List.set_cons_zero, List.set_cons_succ]
    clear eK
    refine plS_val (v := .agg (mk1 t).cs) rfl rfl HBw6.out (fun w' hw' => exec_build _ _ rfl _ (by kernel_rfl)) ?_; simp only [Act.put, List.setIfInBounds_toArray, List.set_cons_zero, List.set_cons_succ]
    have HXA := HXAw6
    have HBB := HBw6
    have HZB := HZw6
    have EB := Ew6
    obtain ⟨ws, hws⟩ : ∃ ws, (w6).setRow xb (mk1 t).cs = ws := ⟨_, rfl⟩
    have HXS : Hid (ws.heap[xb]? = some (.cells (mk1 t).cs 29 (0, 0))) := Lib.hid (by rw [← hws]; exact setRow_heap _ xb _ _ _ _ HXA.out)
    have HBS : Hid (ws.heap[ab]? = some (.cells t.cs 29 (0, 0))) := Lib.hid (by rw [← hws]; exact (setRow_other _ _ _ _ HNE.out.1).trans HBB.out)
    have HZS : Hid (ws.heap[ab + 1]? = some (.cells #[.int .i64 0, .int .i64 0, .int .i64 0, .int .i64 0, .int .i64 0, .int .i64 0, .string ⟨#[]⟩, .bool false, .int .i64 0, .int .i64 0, .slice none 0 0, .slice none 0 0, .bool false, .int .i64 0, .int .i64 0, .int .i64 0, .int .i64 0, .string ⟨#[]⟩] 29 (0, 0))) := Lib.hid (by rw [← hws]; exact (setRow_other _ _ _ _ HNE.out.2).trans HZB.out)
    have ES : Hid (Ext w ws) := Lib.hid (by rw [← hws]; exact below_setRow EB.out HXB.out _)
    refine plS_void (w' := ws) rfl rfl (by rw [← hws]; exact exec_storeRow 29 (.tmp 3) (.tmp 26) rfl xb _ rfl rfl 29 _ HXA.out (HI.out _) rfl (HU.out _)) HBS.out ?_
    refine plS_done ?_
    clear hws HXA HBB HZB EB
    have HX6 := HXS
    have HZS0 := HZS
    have HXG : Hid (ab + 1 < xb + 1) := Lib.hid (by have := HLT.out; have := HXB.out; have := HNE.out; omega)
    have HZ6 := HZS
    have HB6 := HBS
    have E6 := ES
    clear HXS HZS HBS ES
    have y6 : ws.cell? ⟨ab, 6, none⟩ = some (.string ⟨t.nm.toArray⟩) := (cell_of_row _ ab 6 _ _ _ HB6.out).trans rfl
    have x6 : ws.cell? ⟨xb, 6, none⟩ = some (.string ⟨#[]⟩) := (cell_of_row _ xb 6 _ _ _ HX6.out).trans rfl
    have f6 := blk_freeC HX6.out 6
    have W7 : Hid (On2 xb xb ws (ws.setCell ⟨xb, 6, none⟩ (.string ⟨(t.nm.take 40).toArray⟩))) := Lib.hid (On2.set _ _ _ (.inl rfl))
    have HX7 : Hid ((ws.setCell ⟨xb, 6, none⟩ (.string ⟨(t.nm.take 40).toArray⟩)).heap[xb]? = some (.cells (mk2 t).cs 29 (0, 0))) := Lib.hid (set_blkC HX6.out 6 _)
    have HB7 := Lib.hid (W7.out.heap HB6.out HNE.out.1 HNE.out.1)
    have HZ7 := Lib.hid (W7.out.heap HZ6.out HNE.out.2 HNE.out.2)
    have E7 := Lib.hid (W7.out.ext E6.out HXB.out HXB.out)
    obtain ⟨w7, hw7⟩ : ∃ w7, ws.setCell ⟨xb, 6, none⟩ (.string ⟨(t.nm.take 40).toArray⟩) = w7 := ⟨_, rfl⟩
    rw [hw7] at W7 HX7 HB7 HZ7 E7
    go_wp2_with fail
    refine (short_any t.nm 40 40 rfl _ hr.out.nm).mono ?_
    rintro e _ ⟨rfl, rfl⟩
    go_wp2_with fail
    clear hw7 y6 x6 f6
    have hq8 := HQL.out
    go_loopw [4] (fun i wr => ∃ (j : Nat) (A : Option Addr) (c : Nat), j ≤ 8 ∧ j ≤ t.qn ∧ i = .int .i64 j ∧ wr.heap[xb]? = some (.cells (mkq t A j c ((t.ql.take j).map gq)).cs 29 (0, 0)) ∧ wr.ownsRow (xb + 1) 23 3 (.slice A j c) j (((t.ql.take j).map gq).flatMap qc) ∧ wr.heap[ab]? = some (.cells t.cs 29 (0, 0)) ∧ wr.heap[ab + 1]? = some (.cells #[.int .i64 0, .int .i64 0, .int .i64 0, .int .i64 0, .int .i64 0, .int .i64 0, .string ⟨#[]⟩, .bool false, .int .i64 0, .int .i64 0, .slice none 0 0, .slice none 0 0, .bool false, .int .i64 0, .int .i64 0, .int .i64 0, .int .i64 0, .string ⟨#[]⟩] 29 (0, 0)) ∧ Ext w wr ∧ xb + 1 ≤ wr.heap.size) (fun i _ => t.qn - (intOf i).toNat)
    case atStart => exact ⟨0, none, 0, by omega, by omega, rfl, HX7.out, World.ownsRow_nil _ _ _ _, HB7.out, HZ7.out, E7.out, (Array.getElem?_eq_some_iff.1 HX7.out).1⟩
    case round =>
      obtain ⟨j, A1, c1, hj8, hjn, rfl, hx, own, hb, hz, er, hsz⟩ := hrel
      have HX := Lib.hid hx
      have OWN := Lib.hid own
      have HBr := Lib.hid hb
      have HZr := Lib.hid hz
      have ER := Lib.hid er
      have HSZ := Lib.hid hsz
      have ya : wr.cell? ⟨ab, 10, none⟩ = some (.slice t.qA t.qn t.qk) := (cell_of_row _ ab 10 _ _ _ hb).trans rfl
      clear hx own hb hz er hsz
      by_cases hlt : j < t.qn ∧ j < 8
      · have hl1 : (j : Int) < (t.qn : Int) := by omega
        have hl2 : (j : Int) < 8 := by omega
        obtain ⟨qb, off, q, hqA, hqj, d0, d1, d2, _⟩ := HOK.out.1.at_ j hlt.1
        have HC3 : Hid (∀ w', Ext w w' → ∀ (k : Nat) (v : Value), (qv q)[k]? = some v → w'.cell? ⟨qb, (off + j * 3) + k, none⟩ = some v) := Lib.hid fun w' he k v hv => by
          have hk : k < 3 := (Array.getElem?_eq_some_iff.1 hv).1
          match k, hk with
          | 0, _ => rw [show some v = some (.bool q.1) from hv.symm]; exact he.cell d0
          | 1, _ => rw [show some v = some (.int .i64 q.2.1) from hv.symm]; exact he.cell d1
          | 2, _ => rw [show some v = some (.int .i64 q.2.2) from hv.symm]; exact he.cell d2
          | n + 3, h => omega
        have HQ9 := Lib.hid (hr.out.ql q (List.mem_of_getElem? hqj))
        have HQJ := Lib.hid hqj
        have HQA := Lib.hid hqA
        clear d0 d1 d2 hqj
        have HCW : Hid (∀ w', Ext w w' → ∀ (k : Nat) (v : Value), (qv q)[k]? = some v → w'.cell? ⟨qb, (off + j * 3) + k, none⟩ = some v) := HC3
        have HS0 : Hid ((fun v : World => Ext w v ∧ v.heap[ab]? = some (.cells t.cs 29 (0, 0))) wr.drew) := Lib.hid ⟨ER.out.drew, HBr.out⟩
        have hqA' := HQA.out
        go_wp2_with fail
        refine wp_region_plS (fun v : World => Ext w v ∧ v.heap[ab]? = some (.cells t.cs 29 (0, 0))) (.free 0 (.free 2 (.free 3 (.free 4 (.free 5 (.free 6 (.fork 1 7 (.one 7 (.one 8 (.one 9 (.free 10 (.one 11 .nil))))) (.fork 1 8 (.one 8 (.one 9 (.free 10 (.one 11 .nil)))) (.one 1 (.one 9 (.free 10 (.one 11 .nil)))))))))))) (by kernel_rfl) (by kernel_rfl) (by kernel_rfl) (by kernel_rfl) ?_
        refine plS_val (v := ?_) rfl rfl HS0.out (fun w' hw' => ?_) ?_; rotate_left; (· skip; go_simp; try with_reducible rfl); simp only [Act.put, List.setIfInBounds_toArray, List.set_cons_zero, List.set_cons_succ]
        refine plS_val (v := ?_) rfl rfl HS0.out (fun w' hw' => ?_) ?_; rotate_left; (· skip; go_simp; try with_reducible rfl); simp only [Act.put, List.setIfInBounds_toArray, List.set_cons_zero, List.set_cons_succ]
        refine plS_val (v := .slice t.qA t.qn t.qk) rfl rfl HS0.out (fun w' hw' => by have h9 : w'.cell? ⟨ab, 10, none⟩ = some (.slice t.qA t.qn t.qk) := (cell_of_row w' ab 10 _ _ _ hw'.2).trans rfl; go_simp; try rfl) ?_; simp only [Act.put, List.setIfInBounds_toArray, List.set_cons_zero, List.set_cons_succ]
        refine plS_val (v := ?_) rfl rfl HS0.out (fun w' hw' => ?_) ?_; rotate_left; (· skip; go_simp; try with_reducible rfl); simp only [Act.put, List.setIfInBounds_toArray, List.set_cons_zero, List.set_cons_succ]
        refine plS_val (v := .pointer (some ⟨qb, off + j * 3, none⟩)) rfl rfl HS0.out (fun w' hw' => by go_simp; first | done | omega | (intro hx; omega)) ?_; simp only [Act.put, List.setIfInBounds_toArray, List.set_cons_zero, List.set_cons_succ]
        refine plS_val (v := .agg (qv q)) rfl rfl HS0.out (fun w' hw' => exec_loadCells 23 _ rfl qb (off + j * 3) rfl _ _ (HCW.out w' hw'.1) Try.underlying23 rfl (qid_info _)) ?_; simp only [Act.put, List.setIfInBounds_toArray, List.set_cons_zero, List.set_cons_succ]
        refine plS_fork ?_ ?_
        · refine plS_run (w' := wr.drew) (.slice A1 j c1) rfl rfl (by have h9 : World.cell? wr.drew ⟨xb, 10, none⟩ = some (.slice A1 j c1) := (cell_of_row _ xb 10 _ _ _ HX.out).trans rfl; go_simp; try rfl) HS0.out ?_; simp only [Act.put, List.setIfInBounds_toArray, List.set_cons_zero, List.set_cons_succ]
          refine plS_call 29 #[.agg (qv q)] rfl rfl (by go_simp) ?_
          refine (good_qid q _ HQ9.out.1 HQ9.out.2).mono ?_
          rintro e w8 ⟨rfl, e8⟩
          have HX8 := Lib.hid (e8.heap (show wr.drew.heap[xb]? = _ from HX.out))
          have HZ8 := Lib.hid (e8.heap (show wr.drew.heap[ab + 1]? = _ from HZr.out))
          have OW8 := Lib.hid (own_ext3 OWN.out ((Ext.refl wr).drew.trans e8))
          have HS8 : Hid ((fun v : World => Ext w v ∧ v.heap[ab]? = some (.cells t.cs 29 (0, 0))) w8) := Lib.hid ⟨ER.out.trans ((Ext.refl wr).drew.trans e8), e8.heap HS0.out.2⟩
          have HSZ8 : Hid (xb + 1 ≤ w8.heap.size) := Lib.hid (Nat.le_trans HSZ.out e8.size)
          refine ⟨_, rfl, HS8.out, ?_⟩; simp only [Act.put, List.setIfInBounds_toArray, List.set_cons_zero, List.set_cons_succ]
          clear e8
          obtain ⟨nb, hnb⟩ : ∃ nb, w8.heap.size = nb := ⟨_, rfl⟩
          obtain ⟨w9, hw9⟩ : ∃ w9, w8.alloc (.cells (qv (gq q)) 23) = w9 := ⟨_, rfl⟩
          have e9 : Ext w8 w9 := by rw [← hw9]; exact (Ext.refl _).alloc _
          have HN9 : Hid (w9.heap[nb]? = some (.cells (qv (gq q)) 23 (0, 0))) := Lib.hid (by rw [← hw9, ← hnb]; exact heap_alloc_new _ _)
          have HX9 := Lib.hid (e9.heap HX8.out)
          have HZ9 := Lib.hid (e9.heap HZ8.out)
          have OW9 := Lib.hid (own_ext3 OW8.out e9)
          have HS9 : Hid ((fun v : World => Ext w v ∧ v.heap[ab]? = some (.cells t.cs 29 (0, 0))) w9) := Lib.hid ⟨HS8.out.1.trans e9, e9.heap HS8.out.2⟩
          have HSZ9 : Hid (xb + 1 ≤ w9.heap.size) := Lib.hid (Nat.le_trans HSZ8.out e9.size)
          refine plS_run (w' := w9) (.slice (some ⟨nb, 0, none⟩) 1 1) rfl rfl ?hv HS9.out ?_
          case hv =>
            obtain ⟨ie, hie, hsz⟩ := Option.map_eq_some_iff.1 qid_zero
            injection hsz with hsz hz
            rw [← hw9, ← hnb]
            refine exec_buildSlice 24 23 1 _ rfl _ ie (.agg #[.bool false, .int .i64 0, .int .i64 0]) (by kernel_rfl) hie hz (by rw [hsz]; omega) (by rw [hsz]; omega) ?_
            rw [hsz]
            kernel_rfl
          simp only [Act.put, List.setIfInBounds_toArray, List.set_cons_zero, List.set_cons_succ]
          clear hw9 hnb e9
          obtain ⟨v10, w10, hrun, own10, hk10, e10, hs10⟩ := push_qid OW9.out HN9.out (by omega) HS9.out.1 (Nat.le_succ_of_le HXB.out) HSZ9.out
          obtain ⟨A2, c2, rfl, _⟩ := seesQ_own own10 (by rw [List.length_append, List.length_map, List.length_take, List.length_singleton]; have := HQL.out; omega)
          have HX10 := Lib.hid (hk10 xb _ (by omega) HX9.out)
          have HZ10 := Lib.hid (hk10 (ab + 1) _ (by have := (Array.getElem?_eq_some_iff.1 HZS0.out).1; have := HXG.out; omega) HZ9.out)
          have HS10 : Hid ((fun v : World => Ext w v ∧ v.heap[ab]? = some (.cells t.cs 29 (0, 0))) w10) := Lib.hid ⟨e10, hk10 ab _ (by have := HXG.out; omega) HS9.out.2⟩
          have OW10 := Lib.hid own10
          have HSZ10 : Hid (xb + 1 ≤ w10.heap.size) := Lib.hid (Nat.le_trans HSZ9.out hs10)
          refine plS_run (w' := w10) (.slice A2 (j + 1) c2) rfl rfl (exec_app (.tmp 43) (.tmp 50) _ rfl _ _ rfl rfl _ _ hrun) HS10.out ?_; simp only [Act.put, List.setIfInBounds_toArray, List.set_cons_zero, List.set_cons_succ]
          clear own10 hk10 e10 hs10 hrun
          refine plS_val (v := ?_) rfl rfl HS10.out (fun w' hw' => ?_) ?_; rotate_left; (· skip; go_simp; try with_reducible rfl); simp only [Act.put, List.setIfInBounds_toArray, List.set_cons_zero, List.set_cons_succ]
          obtain ⟨w11, hw11⟩ : ∃ w11, w10.setCell ⟨xb, 10, none⟩ (.slice A2 (j + 1) c2) = w11 := ⟨_, rfl⟩
          have o11 : On2 xb xb w10 w11 := by rw [← hw11]; exact On2.set _ _ _ (.inl rfl)
          have HX11 : Hid (w11.heap[xb]? = some (.cells (mkq t A2 (j + 1) c2 ((t.ql.take (j + 1)).map gq)).cs 29 (0, 0))) := Lib.hid (by rw [← hw11]; exact set_blkC HX10.out 10 _)
          have HB11 := Lib.hid (o11.heap HS10.out.2 HNE.out.1 HNE.out.1)
          have HZ11 := Lib.hid (o11.heap HZ10.out HNE.out.2 HNE.out.2)
          have E11 := Lib.hid (o11.ext HS10.out.1 HXB.out HXB.out)
          have HTK : Hid ((t.ql.take (j + 1)).map gq = (t.ql.take j).map gq ++ [gq q]) := Lib.hid (by
            obtain ⟨hjl, hje⟩ := List.getElem?_eq_some_iff.1 HQJ.out
            rw [List.take_succ_eq_append_getElem hjl, hje, List.map_append, List.map_singleton])
          have OW11 : Hid (w11.ownsRow (xb + 1) 23 3 (.slice A2 (j + 1) c2) (j + 1) (((t.ql.take (j + 1)).map gq).flatMap qc)) := Lib.hid (by
            rw [HTK.out]
            exact own_on2 OW10.out o11 (fun e => by have := (OW10.out.lt _ e).1; omega))
          have HSZ11 : Hid (xb + 1 ≤ w11.heap.size) := Lib.hid (Nat.le_trans HSZ10.out o11.size)
          refine plS_void (w' := w11) rfl rfl (by
            have h9 : w10.cell? ⟨xb, 10, none⟩ = some (.slice A1 j c1) := (cell_of_row _ xb 10 _ _ _ HX10.out).trans rfl
            have h8 := blk_freeC HX10.out 10
            go_simp
            try exact hw11) ⟨E11.out, HB11.out⟩ ?_
          refine plS_done ?_
          clear hw11 o11
          go_wp2_with fail
          go_roundw
          case rel => exact ⟨j + 1, A2, c2, by omega, by omega, by go_num, HX11.out, OW11.out, HB11.out, HZ11.out, E11.out, HSZ11.out⟩
          case measure => simp [intOf]; omega
        · refine plS_call 29 #[.agg (qv q)] rfl rfl (by go_simp) ?_
          refine (good_qid q _ HQ9.out.1 HQ9.out.2).mono ?_
          rintro e w8 ⟨rfl, e8⟩
          have HX8 := Lib.hid (e8.heap (show wr.drew.heap[xb]? = _ from HX.out))
          have HZ8 := Lib.hid (e8.heap (show wr.drew.heap[ab + 1]? = _ from HZr.out))
          have OW8 := Lib.hid (own_ext3 OWN.out ((Ext.refl wr).drew.trans e8))
          have HS8 : Hid ((fun v : World => Ext w v ∧ v.heap[ab]? = some (.cells t.cs 29 (0, 0))) w8) := Lib.hid ⟨ER.out.trans ((Ext.refl wr).drew.trans e8), e8.heap HS0.out.2⟩
          have HSZ8 : Hid (xb + 1 ≤ w8.heap.size) := Lib.hid (Nat.le_trans HSZ.out e8.size)
          refine ⟨_, rfl, HS8.out, ?_⟩; simp only [Act.put, List.setIfInBounds_toArray, List.set_cons_zero, List.set_cons_succ]
          clear e8
          refine plS_fork ?_ ?_
          · refine plS_run (w' := w8) (.slice A1 j c1) rfl rfl (by have h9 : World.cell? w8 ⟨xb, 10, none⟩ = some (.slice A1 j c1) := (cell_of_row _ xb 10 _ _ _ HX8.out).trans rfl; go_simp; try rfl) HS8.out ?_; simp only [Act.put, List.setIfInBounds_toArray, List.set_cons_zero, List.set_cons_succ]
            obtain ⟨nb, hnb⟩ : ∃ nb, w8.heap.size = nb := ⟨_, rfl⟩
            obtain ⟨w9, hw9⟩ : ∃ w9, w8.alloc (.cells (qv (gq q)) 23) = w9 := ⟨_, rfl⟩
            have e9 : Ext w8 w9 := by rw [← hw9]; exact (Ext.refl _).alloc _
            have HN9 : Hid (w9.heap[nb]? = some (.cells (qv (gq q)) 23 (0, 0))) := Lib.hid (by rw [← hw9, ← hnb]; exact heap_alloc_new _ _)
            have HX9 := Lib.hid (e9.heap HX8.out)
            have HZ9 := Lib.hid (e9.heap HZ8.out)
            have OW9 := Lib.hid (own_ext3 OW8.out e9)
            have HS9 : Hid ((fun v : World => Ext w v ∧ v.heap[ab]? = some (.cells t.cs 29 (0, 0))) w9) := Lib.hid ⟨HS8.out.1.trans e9, e9.heap HS8.out.2⟩
            have HSZ9 : Hid (xb + 1 ≤ w9.heap.size) := Lib.hid (Nat.le_trans HSZ8.out e9.size)
            refine plS_run (w' := w9) (.slice (some ⟨nb, 0, none⟩) 1 1) rfl rfl ?hv HS9.out ?_
            case hv =>
              obtain ⟨ie, hie, hsz⟩ := Option.map_eq_some_iff.1 qid_zero
              injection hsz with hsz hz
              rw [← hw9, ← hnb]
              refine exec_buildSlice 24 23 1 _ rfl _ ie (.agg #[.bool false, .int .i64 0, .int .i64 0]) (by kernel_rfl) hie hz (by rw [hsz]; omega) (by rw [hsz]; omega) ?_
              rw [hsz]
              kernel_rfl
            simp only [Act.put, List.setIfInBounds_toArray, List.set_cons_zero, List.set_cons_succ]
            clear hw9 hnb e9
            obtain ⟨v10, w10, hrun, own10, hk10, e10, hs10⟩ := push_qid OW9.out HN9.out (by omega) HS9.out.1 (Nat.le_succ_of_le HXB.out) HSZ9.out
            obtain ⟨A2, c2, rfl, _⟩ := seesQ_own own10 (by rw [List.length_append, List.length_map, List.length_take, List.length_singleton]; have := HQL.out; omega)
            have HX10 := Lib.hid (hk10 xb _ (by omega) HX9.out)
            have HZ10 := Lib.hid (hk10 (ab + 1) _ (by have := (Array.getElem?_eq_some_iff.1 HZS0.out).1; have := HXG.out; omega) HZ9.out)
            have HS10 : Hid ((fun v : World => Ext w v ∧ v.heap[ab]? = some (.cells t.cs 29 (0, 0))) w10) := Lib.hid ⟨e10, hk10 ab _ (by have := HXG.out; omega) HS9.out.2⟩
            have OW10 := Lib.hid own10
            have HSZ10 : Hid (xb + 1 ≤ w10.heap.size) := Lib.hid (Nat.le_trans HSZ9.out hs10)
            refine plS_run (w' := w10) (.slice A2 (j + 1) c2) rfl rfl (exec_app (.tmp 43) (.tmp 50) _ rfl _ _ rfl rfl _ _ hrun) HS10.out ?_; simp only [Act.put, List.setIfInBounds_toArray, List.set_cons_zero, List.set_cons_succ]
            clear own10 hk10 e10 hs10 hrun
            refine plS_val (v := ?_) rfl rfl HS10.out (fun w' hw' => ?_) ?_; rotate_left; (· skip; go_simp; try with_reducible rfl); simp only [Act.put, List.setIfInBounds_toArray, List.set_cons_zero, List.set_cons_succ]
            obtain ⟨w11, hw11⟩ : ∃ w11, w10.setCell ⟨xb, 10, none⟩ (.slice A2 (j + 1) c2) = w11 := ⟨_, rfl⟩
            have o11 : On2 xb xb w10 w11 := by rw [← hw11]; exact On2.set _ _ _ (.inl rfl)
            have HX11 : Hid (w11.heap[xb]? = some (.cells (mkq t A2 (j + 1) c2 ((t.ql.take (j + 1)).map gq)).cs 29 (0, 0))) := Lib.hid (by rw [← hw11]; exact set_blkC HX10.out 10 _)
            have HB11 := Lib.hid (o11.heap HS10.out.2 HNE.out.1 HNE.out.1)
            have HZ11 := Lib.hid (o11.heap HZ10.out HNE.out.2 HNE.out.2)
            have E11 := Lib.hid (o11.ext HS10.out.1 HXB.out HXB.out)
            have HTK : Hid ((t.ql.take (j + 1)).map gq = (t.ql.take j).map gq ++ [gq q]) := Lib.hid (by
              obtain ⟨hjl, hje⟩ := List.getElem?_eq_some_iff.1 HQJ.out
              rw [List.take_succ_eq_append_getElem hjl, hje, List.map_append, List.map_singleton])
            have OW11 : Hid (w11.ownsRow (xb + 1) 23 3 (.slice A2 (j + 1) c2) (j + 1) (((t.ql.take (j + 1)).map gq).flatMap qc)) := Lib.hid (by
              rw [HTK.out]
              exact own_on2 OW10.out o11 (fun e => by have := (OW10.out.lt _ e).1; omega))
            have HSZ11 : Hid (xb + 1 ≤ w11.heap.size) := Lib.hid (Nat.le_trans HSZ10.out o11.size)
            refine plS_void (w' := w11) rfl rfl (by
              have h9 : w10.cell? ⟨xb, 10, none⟩ = some (.slice A1 j c1) := (cell_of_row _ xb 10 _ _ _ HX10.out).trans rfl
              have h8 := blk_freeC HX10.out 10
              go_simp
              try exact hw11) ⟨E11.out, HB11.out⟩ ?_
            refine plS_done ?_
            clear hw11 o11
            go_wp2_with fail
            go_roundw
            case rel => exact ⟨j + 1, A2, c2, by omega, by omega, by go_num, HX11.out, OW11.out, HB11.out, HZ11.out, E11.out, HSZ11.out⟩
            case measure => simp [intOf]; omega
          · obtain ⟨nb, hnb⟩ : ∃ nb, w8.heap.size = nb := ⟨_, rfl⟩
            obtain ⟨w9, hw9⟩ : ∃ w9, w8.alloc (.cells (qv (gq q)) 23) = w9 := ⟨_, rfl⟩
            have e9 : Ext w8 w9 := by rw [← hw9]; exact (Ext.refl _).alloc _
            have HN9 : Hid (w9.heap[nb]? = some (.cells (qv (gq q)) 23 (0, 0))) := Lib.hid (by rw [← hw9, ← hnb]; exact heap_alloc_new _ _)
            have HX9 := Lib.hid (e9.heap HX8.out)
            have HZ9 := Lib.hid (e9.heap HZ8.out)
            have OW9 := Lib.hid (own_ext3 OW8.out e9)
            have HS9 : Hid ((fun v : World => Ext w v ∧ v.heap[ab]? = some (.cells t.cs 29 (0, 0))) w9) := Lib.hid ⟨HS8.out.1.trans e9, e9.heap HS8.out.2⟩
            have HSZ9 : Hid (xb + 1 ≤ w9.heap.size) := Lib.hid (Nat.le_trans HSZ8.out e9.size)
            refine plS_run (w' := w9) (.slice (some ⟨nb, 0, none⟩) 1 1) rfl rfl ?hv HS9.out ?_
            case hv =>
              obtain ⟨ie, hie, hsz⟩ := Option.map_eq_some_iff.1 qid_zero
              injection hsz with hsz hz
              rw [← hw9, ← hnb]
              refine exec_buildSlice 24 23 1 _ rfl _ ie (.agg #[.bool false, .int .i64 0, .int .i64 0]) (by kernel_rfl) hie hz (by rw [hsz]; omega) (by rw [hsz]; omega) ?_
              rw [hsz]
              kernel_rfl
            simp only [Act.put, List.setIfInBounds_toArray, List.set_cons_zero, List.set_cons_succ]
            clear hw9 hnb e9
            refine plS_run (w' := w9) (.slice A1 j c1) rfl rfl (by have h9 : World.cell? w9 ⟨xb, 10, none⟩ = some (.slice A1 j c1) := (cell_of_row _ xb 10 _ _ _ HX9.out).trans rfl; go_simp; try rfl) HS9.out ?_; simp only [Act.put, List.setIfInBounds_toArray, List.set_cons_zero, List.set_cons_succ]
            obtain ⟨v10, w10, hrun, own10, hk10, e10, hs10⟩ := push_qid OW9.out HN9.out (by omega) HS9.out.1 (Nat.le_succ_of_le HXB.out) HSZ9.out
            obtain ⟨A2, c2, rfl, _⟩ := seesQ_own own10 (by rw [List.length_append, List.length_map, List.length_take, List.length_singleton]; have := HQL.out; omega)
            have HX10 := Lib.hid (hk10 xb _ (by omega) HX9.out)
            have HZ10 := Lib.hid (hk10 (ab + 1) _ (by have := (Array.getElem?_eq_some_iff.1 HZS0.out).1; have := HXG.out; omega) HZ9.out)
            have HS10 : Hid ((fun v : World => Ext w v ∧ v.heap[ab]? = some (.cells t.cs 29 (0, 0))) w10) := Lib.hid ⟨e10, hk10 ab _ (by have := HXG.out; omega) HS9.out.2⟩
            have OW10 := Lib.hid own10
            have HSZ10 : Hid (xb + 1 ≤ w10.heap.size) := Lib.hid (Nat.le_trans HSZ9.out hs10)
            refine plS_run (w' := w10) (.slice A2 (j + 1) c2) rfl rfl (exec_app (.tmp 43) (.tmp 50) _ rfl _ _ rfl rfl _ _ hrun) HS10.out ?_; simp only [Act.put, List.setIfInBounds_toArray, List.set_cons_zero, List.set_cons_succ]
            clear own10 hk10 e10 hs10 hrun
            refine plS_val (v := ?_) rfl rfl HS10.out (fun w' hw' => ?_) ?_; rotate_left; (· skip; go_simp; try with_reducible rfl); simp only [Act.put, List.setIfInBounds_toArray, List.set_cons_zero, List.set_cons_succ]
            obtain ⟨w11, hw11⟩ : ∃ w11, w10.setCell ⟨xb, 10, none⟩ (.slice A2 (j + 1) c2) = w11 := ⟨_, rfl⟩
            have o11 : On2 xb xb w10 w11 := by rw [← hw11]; exact On2.set _ _ _ (.inl rfl)
            have HX11 : Hid (w11.heap[xb]? = some (.cells (mkq t A2 (j + 1) c2 ((t.ql.take (j + 1)).map gq)).cs 29 (0, 0))) := Lib.hid (by rw [← hw11]; exact set_blkC HX10.out 10 _)
            have HB11 := Lib.hid (o11.heap HS10.out.2 HNE.out.1 HNE.out.1)
            have HZ11 := Lib.hid (o11.heap HZ10.out HNE.out.2 HNE.out.2)
            have E11 := Lib.hid (o11.ext HS10.out.1 HXB.out HXB.out)
            have HTK : Hid ((t.ql.take (j + 1)).map gq = (t.ql.take j).map gq ++ [gq q]) := Lib.hid (by
              obtain ⟨hjl, hje⟩ := List.getElem?_eq_some_iff.1 HQJ.out
              rw [List.take_succ_eq_append_getElem hjl, hje, List.map_append, List.map_singleton])
            have OW11 : Hid (w11.ownsRow (xb + 1) 23 3 (.slice A2 (j + 1) c2) (j + 1) (((t.ql.take (j + 1)).map gq).flatMap qc)) := Lib.hid (by
              rw [HTK.out]
              exact own_on2 OW10.out o11 (fun e => by have := (OW10.out.lt _ e).1; omega))
            have HSZ11 : Hid (xb + 1 ≤ w11.heap.size) := Lib.hid (Nat.le_trans HSZ10.out o11.size)
            refine plS_void (w' := w11) rfl rfl (by
              have h9 : w10.cell? ⟨xb, 10, none⟩ = some (.slice A1 j c1) := (cell_of_row _ xb 10 _ _ _ HX10.out).trans rfl
              have h8 := blk_freeC HX10.out 10
              go_simp
              try exact hw11) ⟨E11.out, HB11.out⟩ ?_
            refine plS_done ?_
            clear hw11 o11
            go_wp2_with fail
            go_roundw
            case rel => exact ⟨j + 1, A2, c2, by omega, by omega, by go_num, HX11.out, OW11.out, HB11.out, HZ11.out, E11.out, HSZ11.out⟩
            case measure => simp [intOf]; omega
      · have hjq : (t.ql.take j).map gq = (t.ql.take 8).map gq := by
          have h9 := HQL.out
          by_cases h8 : j = 8
          · rw [h8]
          · rw [List.take_of_length_le (by omega), List.take_of_length_le (by omega)]
        have HJQ := Lib.hid hjq
        have hcond : ¬ ((j : Int) < (t.qn : Int) ∧ (j : Int) < 8) := by omega
        clear hjq
        rw [HJQ.out] at OWN HX
        have hj9 : ((t.ql.take 8).map gq).length = j := by rw [← HJQ.out, List.length_map, List.length_take]; have := HQL.out; omega
        have HJ9 := Lib.hid hj9
        have y11 : wr.cell? ⟨ab, 11, none⟩ = some (.slice t.dA t.dn t.dk) := (cell_of_row _ ab 11 _ _ _ HBr.out).trans rfl
        have HDS : Hid (Sees wr t.dA t.dn t.dk (bs t.dl)) := Lib.hid (HOK.out.2.ext ER.out)
        have hex : (j : Int) < (t.qn : Int) → ¬ (j : Int) < 8 := by omega
        clear hcond hj9
        by_cases hj1 : (j : Int) < (t.qn : Int)
        · have hj2 : ¬ (j : Int) < 8 := hex hj1
          clear hex
          go_wp2_with fail
          refine (few_nat t.dA t.dn t.dk 30 30 (bs t.dl) _ HDS.out (fun u hu => bs_one t.dl u hu) (by omega) (by omega) rfl).mono ?_
          rintro e w8 ⟨v, rfl, own8, e8⟩
          obtain ⟨Ad, cd, rfl, see8⟩ := Sees.of_own own8
          rw [bs_take] at see8
          have HX8 := Lib.hid (e8.heap HX.out)
          have x11 : w8.cell? ⟨xb, 11, none⟩ = some (.slice none 0 0) := (cell_of_row _ xb 11 _ _ _ HX8.out).trans rfl
          have f11 := blk_freeC HX8.out 11
          obtain ⟨w9, hw9⟩ : ∃ w9, w8.setCell ⟨xb, 11, none⟩ (.slice Ad (min t.dn 30) cd) = w9 := ⟨_, rfl⟩
          have o9 : On2 xb xb w8 w9 := by rw [← hw9]; exact On2.set _ _ _ (.inl rfl)
          obtain ⟨u, hu⟩ : ∃ u, mkd (mkq t A1 j c1 ((t.ql.take 8).map gq)) Ad (min t.dn 30) cd (t.dl.take 30) = u := ⟨_, rfl⟩
          have HX9 : Hid (w9.heap[xb]? = some (.cells u.cs 29 (0, 0))) := Lib.hid (by rw [← hw9, ← hu]; exact set_blkC HX8.out 11 _)
          have HB9 := Lib.hid (o9.heap (e8.heap HBr.out) HNE.out.1 HNE.out.1)
          have HZ9 := Lib.hid (o9.heap (e8.heap HZr.out) HNE.out.2 HNE.out.2)
          have E9 := Lib.hid (o9.ext (ER.out.trans e8) HXB.out HXB.out)
          have OW9 : Hid (w9.ownsRow (xb + 1) 23 3 (.slice A1 j c1) j (((t.ql.take 8).map gq).flatMap qc)) := Lib.hid (own_on2 (own_ext3 OWN.out e8) o9 (fun e => by have := (OWN.out.lt _ e).1; omega))
          have SD9 : Hid (w9.ownsRow (xb + 1) 5 1 (.slice Ad (min t.dn 30) cd) (min t.dn 30) (bs (t.dl.take 30))) := Lib.hid (by rw [← bs_take]; exact own_mono3 (own_on2 own8 o9 (fun e => by have := (own8.lt _ e).1; have := HSZ.out; omega)) HSZ.out)
          have HU9 := Lib.hid hu
          clear own8 see8 e8 o9 hu
          go_wp2_with fail
          clear hw9
          have HS0 : Hid ((fun v : World => v.heap[ab]? = some (.cells t.cs 29 (0, 0))) w9.drew) := Lib.hid HB9.out
          refine wp_region_plS (fun v : World => v.heap[ab]? = some (.cells t.cs 29 (0, 0))) (.free 0 (.free 1 (.free 2 (.free 4 (.free 5 (.free 6 (.free 8 (.free 9 (.free 10 (.free 12 (.free 13 (.free 14 (.one 3 (.free 7 (.free 11 (.one 15 (.free 16 (.free 17 (.one 18 .nil))))))))))))))))))) (by kernel_rfl) (by kernel_rfl) (by kernel_rfl) (by kernel_rfl) ?_
          refine plS_val (v := ?_) rfl rfl HS0.out (fun w' hw' => ?_) ?_; rotate_left; (· skip; go_simp; try with_reducible rfl); simp only [Act.put, List.setIfInBounds_toArray, List.set_cons_zero, List.set_cons_succ]
          refine plS_val (v := ?_) rfl rfl HS0.out (fun w' hw' => ?_) ?_; rotate_left; (· skip; go_simp; try with_reducible rfl); simp only [Act.put, List.setIfInBounds_toArray, List.set_cons_zero, List.set_cons_succ]
          refine plS_val (v := .agg (qv t.s)) rfl rfl HS0.out (fun w' hw' => exec_loadSub 23 _ rfl ab 12 rfl 29 _ _ _ _ hw' HL12.out Try.underlying23 rfl (qid_info _)) ?_; simp only [Act.put, List.setIfInBounds_toArray, List.set_cons_zero, List.set_cons_succ]
          refine plS_val (v := ?_) rfl rfl HS0.out (fun w' hw' => ?_) ?_; rotate_left; (· skip; go_simp; try with_reducible rfl); simp only [Act.put, List.setIfInBounds_toArray, List.set_cons_zero, List.set_cons_succ]
          refine plS_val (v := ?_) rfl rfl HS0.out (fun w' hw' => ?_) ?_; rotate_left; (· skip; go_simp; try with_reducible rfl); simp only [Act.put, List.setIfInBounds_toArray, List.set_cons_zero, List.set_cons_succ]
          refine plS_val (v := ?_) rfl rfl HS0.out (fun w' hw' => ?_) ?_; rotate_left; (· have h9 : w'.cell? ⟨ab, 15, none⟩ = some (.int .i64 t.sm) := (cell_of_row w' ab 15 _ _ _ hw').trans rfl; go_simp; try with_reducible rfl); simp only [Act.put, List.setIfInBounds_toArray, List.set_cons_zero, List.set_cons_succ]
          refine plS_val (v := ?_) rfl rfl HS0.out (fun w' hw' => ?_) ?_; rotate_left; (· skip; go_simp; try with_reducible rfl); simp only [Act.put, List.setIfInBounds_toArray, List.set_cons_zero, List.set_cons_succ]
          refine plS_val (v := ?_) rfl rfl HS0.out (fun w' hw' => ?_) ?_; rotate_left; (· skip; go_simp; try with_reducible rfl); simp only [Act.put, List.setIfInBounds_toArray, List.set_cons_zero, List.set_cons_succ]
          refine plS_val (v := ?_) rfl rfl HS0.out (fun w' hw' => ?_) ?_; rotate_left; (· have h9 : w'.cell? ⟨ab, 16, none⟩ = some (.int .i64 t.sz) := (cell_of_row w' ab 16 _ _ _ hw').trans rfl; go_simp; try with_reducible rfl); simp only [Act.put, List.setIfInBounds_toArray, List.set_cons_zero, List.set_cons_succ]
          refine plS_val (v := ?_) rfl rfl HS0.out (fun w' hw' => ?_) ?_; rotate_left; (· skip; go_simp; try with_reducible rfl); simp only [Act.put, List.setIfInBounds_toArray, List.set_cons_zero, List.set_cons_succ]
          refine plS_val (v := ?_) rfl rfl HS0.out (fun w' hw' => ?_) ?_; rotate_left; (· skip; go_simp; try with_reducible rfl); simp only [Act.put, List.setIfInBounds_toArray, List.set_cons_zero, List.set_cons_succ]
          refine plS_val (v := ?_) rfl rfl HS0.out (fun w' hw' => ?_) ?_; rotate_left; (· have h9 : w'.cell? ⟨ab, 17, none⟩ = some (.string ⟨t.sn.toArray⟩) := (cell_of_row w' ab 17 _ _ _ hw').trans rfl; go_simp; try with_reducible rfl); simp only [Act.put, List.setIfInBounds_toArray, List.set_cons_zero, List.set_cons_succ]
          refine plS_call 29 #[.agg (qv t.s)] rfl rfl (by go_simp) ?_
          refine (good_qid t.s _ hr.out.s.1 hr.out.s.2).mono ?_
          rintro e w10 ⟨rfl, e10⟩
          have HS10 : Hid ((fun v : World => v.heap[ab]? = some (.cells t.cs 29 (0, 0))) w10) := Lib.hid (e10.heap HS0.out)
          have HX10 := Lib.hid (e10.heap (show w9.drew.heap[xb]? = _ from HX9.out))
          have HZ10 := Lib.hid (e10.heap (show w9.drew.heap[ab + 1]? = _ from HZ9.out))
          have E10 := Lib.hid (E9.out.drew.trans e10)
          have OW10 := Lib.hid (own_ext3 OW9.out ((Ext.refl w9).drew.trans e10))
          have SD10 := Lib.hid (own_ext3 SD9.out ((Ext.refl w9).drew.trans e10))
          refine ⟨_, rfl, HS10.out, ?_⟩; simp only [Act.put, List.setIfInBounds_toArray, List.set_cons_zero, List.set_cons_succ]
          clear e10
          refine plS_even 28 #[.int .i64 t.sm] (.int .i64 (aroundZ t.sm 4294967296)) rfl rfl HS10.out (fun w' hw' => by go_simp) (fun w' hw' => low_any t.sm w' hr.out.sm.1 hr.out.sm.2) ?_; simp only [Act.put, List.setIfInBounds_toArray, List.set_cons_zero, List.set_cons_succ]
          refine plS_even 30 #[.int .i64 t.sz] (.int .i64 (aroundZ t.sz 4611686018427387905)) rfl rfl HS10.out (fun w' hw' => by go_simp) (fun w' hw' => high_any t.sz w' hr.out.sz.1 hr.out.sz.2) ?_; simp only [Act.put, List.setIfInBounds_toArray, List.set_cons_zero, List.set_cons_succ]
          refine plS_call 26 #[.string ⟨t.sn.toArray⟩, .int .i64 40] rfl rfl (by go_simp) ?_
          refine (short_any t.sn 40 40 rfl _ hr.out.sn).mono ?_
          rintro e _ ⟨rfl, rfl⟩
          refine ⟨_, rfl, HS10.out, ?_⟩; simp only [Act.put, List.setIfInBounds_toArray, List.set_cons_zero, List.set_cons_succ]
          refine plS_val (v := .agg (sv (mks t u))) rfl rfl HS10.out (fun w' hw' => exec_build _ _ rfl _ (by kernel_rfl)) ?_; simp only [Act.put, List.setIfInBounds_toArray, List.set_cons_zero, List.set_cons_succ]
          refine plS_val (v := ?_) rfl rfl HS10.out (fun w' hw' => ?_) ?_; rotate_left; (· skip; go_simp; try with_reducible rfl); simp only [Act.put, List.setIfInBounds_toArray, List.set_cons_zero, List.set_cons_succ]
          obtain ⟨w11, hw11⟩ : ∃ w11, w10.setRow xb (mks t u).cs = w11 := ⟨_, rfl⟩
          have o11 : On2 xb xb w10 w11 := by rw [← hw11]; exact on2_row _ _ _
          have HX11 : Hid (w11.heap[xb]? = some (.cells (mks t u).cs 29 (0, 0))) := Lib.hid (by rw [← hw11]; exact setRow_heap _ xb _ _ _ _ HX10.out)
          have HB11 : Hid ((fun v : World => v.heap[ab]? = some (.cells t.cs 29 (0, 0))) w11) := Lib.hid (o11.heap HS10.out HNE.out.1 HNE.out.1)
          have HZ11 := Lib.hid (o11.heap HZ10.out HNE.out.2 HNE.out.2)
          have E11 := Lib.hid (o11.ext E10.out HXB.out HXB.out)
          have OW11 := Lib.hid (own_on2 OW10.out o11 (fun e => by have := (OW10.out.lt _ e).1; omega))
          have SD11 := Lib.hid (own_on2 SD10.out o11 (fun e => by have := (SD10.out.lt _ e).1; omega))
          refine plS_void (w' := w11) rfl rfl (by rw [← hw11]; exact exec_store_sub 27 (.tmp 74) (.tmp 73) rfl xb 12 (sv (mks t u)) u.cs (mks t u).cs rfl rfl 29 HX10.out (stat_info _) (by show 12 + 6 ≤ 18; omega) (sv_one _) rfl) HB11.out ?_
          refine plS_done ?_
          clear hw11 o11
          go_wp2_with (first | (with_reducible refine wpList_load_row rfl 29 (.tmp 3) rfl xb rfl _ _ _ _ HX11.out Try.underlying29 rfl (HI.out _) ?_) | fail)
          refine (own18 _ _).mono ?_
          rintro e w12 ⟨rfl, e12⟩
          have HZ12 := Lib.hid (e12.heap HZ11.out)
          have HG := Lib.hid (setRow_heap w12 (ab + 1) _ (ownT (mks t u)).cs _ _ HZ12.out)
          have EG := Lib.hid (below_setRow (E11.out.trans e12) (by have := HLT.out; omega : w.heap.size ≤ ab + 1) (ownT (mks t u)).cs)
          have oG : On2 (ab + 1) (ab + 1) w12 (w12.setRow (ab + 1) (ownT (mks t u)).cs) := on2_row _ _ _
          have OWG := Lib.hid (own_mono3 (own_on2 (own_ext3 OW11.out e12) oG (fun e => by have := (OW11.out.lt _ e).1; have := HXG.out; omega)) (Nat.le_succ_of_le HXB.out))
          have SDG := Lib.hid (own_mono3 (own_on2 (own_ext3 SD11.out e12) oG (fun e => by have := (SD11.out.lt _ e).1; have := HXG.out; omega)) (Nat.le_succ_of_le HXB.out))
          clear oG e12
          go_wp2_with (first | (with_reducible refine wpList_store_row rfl 29 (.tmp 2) (.tmp 76) rfl (ab + 1) _ rfl rfl _ _ HZ12.out (HI.out _) rfl (HU.out _) ?_) | fail)
          refine bodyPost_ret (results_cell_row rfl _ _ (ab + 1) _ _ (0, 0) _ rfl HG.out Try.underlying29 rfl (HI.out _)) rfl ?_
          exact ⟨A1, j, c1, Ad, _, cd, by rw [HU9.out], OWG.out, HJ9.out.symm, SDG.out, EG.out⟩
        · clear hex
          go_wp2_with fail
          refine (few_nat t.dA t.dn t.dk 30 30 (bs t.dl) _ HDS.out (fun u hu => bs_one t.dl u hu) (by omega) (by omega) rfl).mono ?_
          rintro e w8 ⟨v, rfl, own8, e8⟩
          obtain ⟨Ad, cd, rfl, see8⟩ := Sees.of_own own8
          rw [bs_take] at see8
          have HX8 := Lib.hid (e8.heap HX.out)
          have x11 : w8.cell? ⟨xb, 11, none⟩ = some (.slice none 0 0) := (cell_of_row _ xb 11 _ _ _ HX8.out).trans rfl
          have f11 := blk_freeC HX8.out 11
          obtain ⟨w9, hw9⟩ : ∃ w9, w8.setCell ⟨xb, 11, none⟩ (.slice Ad (min t.dn 30) cd) = w9 := ⟨_, rfl⟩
          have o9 : On2 xb xb w8 w9 := by rw [← hw9]; exact On2.set _ _ _ (.inl rfl)
          obtain ⟨u, hu⟩ : ∃ u, mkd (mkq t A1 j c1 ((t.ql.take 8).map gq)) Ad (min t.dn 30) cd (t.dl.take 30) = u := ⟨_, rfl⟩
          have HX9 : Hid (w9.heap[xb]? = some (.cells u.cs 29 (0, 0))) := Lib.hid (by rw [← hw9, ← hu]; exact set_blkC HX8.out 11 _)
          have HB9 := Lib.hid (o9.heap (e8.heap HBr.out) HNE.out.1 HNE.out.1)
          have HZ9 := Lib.hid (o9.heap (e8.heap HZr.out) HNE.out.2 HNE.out.2)
          have E9 := Lib.hid (o9.ext (ER.out.trans e8) HXB.out HXB.out)
          have OW9 : Hid (w9.ownsRow (xb + 1) 23 3 (.slice A1 j c1) j (((t.ql.take 8).map gq).flatMap qc)) := Lib.hid (own_on2 (own_ext3 OWN.out e8) o9 (fun e => by have := (OWN.out.lt _ e).1; omega))
          have SD9 : Hid (w9.ownsRow (xb + 1) 5 1 (.slice Ad (min t.dn 30) cd) (min t.dn 30) (bs (t.dl.take 30))) := Lib.hid (by rw [← bs_take]; exact own_mono3 (own_on2 own8 o9 (fun e => by have := (own8.lt _ e).1; have := HSZ.out; omega)) HSZ.out)
          have HU9 := Lib.hid hu
          clear own8 see8 e8 o9 hu
          go_wp2_with fail
          clear hw9
          have HS0 : Hid ((fun v : World => v.heap[ab]? = some (.cells t.cs 29 (0, 0))) w9.drew) := Lib.hid HB9.out
          refine wp_region_plS (fun v : World => v.heap[ab]? = some (.cells t.cs 29 (0, 0))) (.free 0 (.free 1 (.free 2 (.free 4 (.free 5 (.free 6 (.free 8 (.free 9 (.free 10 (.free 12 (.free 13 (.free 14 (.one 3 (.free 7 (.free 11 (.one 15 (.free 16 (.free 17 (.one 18 .nil))))))))))))))))))) (by kernel_rfl) (by kernel_rfl) (by kernel_rfl) (by kernel_rfl) ?_
          refine plS_val (v := ?_) rfl rfl HS0.out (fun w' hw' => ?_) ?_; rotate_left; (· skip; go_simp; try with_reducible rfl); simp only [Act.put, List.setIfInBounds_toArray, List.set_cons_zero, List.set_cons_succ]
          refine plS_val (v := ?_) rfl rfl HS0.out (fun w' hw' => ?_) ?_; rotate_left; (· skip; go_simp; try with_reducible rfl); simp only [Act.put, List.setIfInBounds_toArray, List.set_cons_zero, List.set_cons_succ]
          refine plS_val (v := .agg (qv t.s)) rfl rfl HS0.out (fun w' hw' => exec_loadSub 23 _ rfl ab 12 rfl 29 _ _ _ _ hw' HL12.out Try.underlying23 rfl (qid_info _)) ?_; simp only [Act.put, List.setIfInBounds_toArray, List.set_cons_zero, List.set_cons_succ]
          refine plS_val (v := ?_) rfl rfl HS0.out (fun w' hw' => ?_) ?_; rotate_left; (· skip; go_simp; try with_reducible rfl); simp only [Act.put, List.setIfInBounds_toArray, List.set_cons_zero, List.set_cons_succ]
          refine plS_val (v := ?_) rfl rfl HS0.out (fun w' hw' => ?_) ?_; rotate_left; (· skip; go_simp; try with_reducible rfl); simp only [Act.put, List.setIfInBounds_toArray, List.set_cons_zero, List.set_cons_succ]
          refine plS_val (v := ?_) rfl rfl HS0.out (fun w' hw' => ?_) ?_; rotate_left; (· have h9 : w'.cell? ⟨ab, 15, none⟩ = some (.int .i64 t.sm) := (cell_of_row w' ab 15 _ _ _ hw').trans rfl; go_simp; try with_reducible rfl); simp only [Act.put, List.setIfInBounds_toArray, List.set_cons_zero, List.set_cons_succ]
          refine plS_val (v := ?_) rfl rfl HS0.out (fun w' hw' => ?_) ?_; rotate_left; (· skip; go_simp; try with_reducible rfl); simp only [Act.put, List.setIfInBounds_toArray, List.set_cons_zero, List.set_cons_succ]
          refine plS_val (v := ?_) rfl rfl HS0.out (fun w' hw' => ?_) ?_; rotate_left; (· skip; go_simp; try with_reducible rfl); simp only [Act.put, List.setIfInBounds_toArray, List.set_cons_zero, List.set_cons_succ]
          refine plS_val (v := ?_) rfl rfl HS0.out (fun w' hw' => ?_) ?_; rotate_left; (· have h9 : w'.cell? ⟨ab, 16, none⟩ = some (.int .i64 t.sz) := (cell_of_row w' ab 16 _ _ _ hw').trans rfl; go_simp; try with_reducible rfl); simp only [Act.put, List.setIfInBounds_toArray, List.set_cons_zero, List.set_cons_succ]
          refine plS_val (v := ?_) rfl rfl HS0.out (fun w' hw' => ?_) ?_; rotate_left; (· skip; go_simp; try with_reducible rfl); simp only [Act.put, List.setIfInBounds_toArray, List.set_cons_zero, List.set_cons_succ]
          refine plS_val (v := ?_) rfl rfl HS0.out (fun w' hw' => ?_) ?_; rotate_left; (· skip; go_simp; try with_reducible rfl); simp only [Act.put, List.setIfInBounds_toArray, List.set_cons_zero, List.set_cons_succ]
          refine plS_val (v := ?_) rfl rfl HS0.out (fun w' hw' => ?_) ?_; rotate_left; (· have h9 : w'.cell? ⟨ab, 17, none⟩ = some (.string ⟨t.sn.toArray⟩) := (cell_of_row w' ab 17 _ _ _ hw').trans rfl; go_simp; try with_reducible rfl); simp only [Act.put, List.setIfInBounds_toArray, List.set_cons_zero, List.set_cons_succ]
          refine plS_call 29 #[.agg (qv t.s)] rfl rfl (by go_simp) ?_
          refine (good_qid t.s _ hr.out.s.1 hr.out.s.2).mono ?_
          rintro e w10 ⟨rfl, e10⟩
          have HS10 : Hid ((fun v : World => v.heap[ab]? = some (.cells t.cs 29 (0, 0))) w10) := Lib.hid (e10.heap HS0.out)
          have HX10 := Lib.hid (e10.heap (show w9.drew.heap[xb]? = _ from HX9.out))
          have HZ10 := Lib.hid (e10.heap (show w9.drew.heap[ab + 1]? = _ from HZ9.out))
          have E10 := Lib.hid (E9.out.drew.trans e10)
          have OW10 := Lib.hid (own_ext3 OW9.out ((Ext.refl w9).drew.trans e10))
          have SD10 := Lib.hid (own_ext3 SD9.out ((Ext.refl w9).drew.trans e10))
          refine ⟨_, rfl, HS10.out, ?_⟩; simp only [Act.put, List.setIfInBounds_toArray, List.set_cons_zero, List.set_cons_succ]
          clear e10
          refine plS_even 28 #[.int .i64 t.sm] (.int .i64 (aroundZ t.sm 4294967296)) rfl rfl HS10.out (fun w' hw' => by go_simp) (fun w' hw' => low_any t.sm w' hr.out.sm.1 hr.out.sm.2) ?_; simp only [Act.put, List.setIfInBounds_toArray, List.set_cons_zero, List.set_cons_succ]
          refine plS_even 30 #[.int .i64 t.sz] (.int .i64 (aroundZ t.sz 4611686018427387905)) rfl rfl HS10.out (fun w' hw' => by go_simp) (fun w' hw' => high_any t.sz w' hr.out.sz.1 hr.out.sz.2) ?_; simp only [Act.put, List.setIfInBounds_toArray, List.set_cons_zero, List.set_cons_succ]
          refine plS_call 26 #[.string ⟨t.sn.toArray⟩, .int .i64 40] rfl rfl (by go_simp) ?_
          refine (short_any t.sn 40 40 rfl _ hr.out.sn).mono ?_
          rintro e _ ⟨rfl, rfl⟩
          refine ⟨_, rfl, HS10.out, ?_⟩; simp only [Act.put, List.setIfInBounds_toArray, List.set_cons_zero, List.set_cons_succ]
          refine plS_val (v := .agg (sv (mks t u))) rfl rfl HS10.out (fun w' hw' => exec_build _ _ rfl _ (by kernel_rfl)) ?_; simp only [Act.put, List.setIfInBounds_toArray, List.set_cons_zero, List.set_cons_succ]
          refine plS_val (v := ?_) rfl rfl HS10.out (fun w' hw' => ?_) ?_; rotate_left; (· skip; go_simp; try with_reducible rfl); simp only [Act.put, List.setIfInBounds_toArray, List.set_cons_zero, List.set_cons_succ]
          obtain ⟨w11, hw11⟩ : ∃ w11, w10.setRow xb (mks t u).cs = w11 := ⟨_, rfl⟩
          have o11 : On2 xb xb w10 w11 := by rw [← hw11]; exact on2_row _ _ _
          have HX11 : Hid (w11.heap[xb]? = some (.cells (mks t u).cs 29 (0, 0))) := Lib.hid (by rw [← hw11]; exact setRow_heap _ xb _ _ _ _ HX10.out)
          have HB11 : Hid ((fun v : World => v.heap[ab]? = some (.cells t.cs 29 (0, 0))) w11) := Lib.hid (o11.heap HS10.out HNE.out.1 HNE.out.1)
          have HZ11 := Lib.hid (o11.heap HZ10.out HNE.out.2 HNE.out.2)
          have E11 := Lib.hid (o11.ext E10.out HXB.out HXB.out)
          have OW11 := Lib.hid (own_on2 OW10.out o11 (fun e => by have := (OW10.out.lt _ e).1; omega))
          have SD11 := Lib.hid (own_on2 SD10.out o11 (fun e => by have := (SD10.out.lt _ e).1; omega))
          refine plS_void (w' := w11) rfl rfl (by rw [← hw11]; exact exec_store_sub 27 (.tmp 74) (.tmp 73) rfl xb 12 (sv (mks t u)) u.cs (mks t u).cs rfl rfl 29 HX10.out (stat_info _) (by show 12 + 6 ≤ 18; omega) (sv_one _) rfl) HB11.out ?_
          refine plS_done ?_
          clear hw11 o11
          go_wp2_with (first | (with_reducible refine wpList_load_row rfl 29 (.tmp 3) rfl xb rfl _ _ _ _ HX11.out Try.underlying29 rfl (HI.out _) ?_) | fail)
          refine (own18 _ _).mono ?_
          rintro e w12 ⟨rfl, e12⟩
          have HZ12 := Lib.hid (e12.heap HZ11.out)
          have HG := Lib.hid (setRow_heap w12 (ab + 1) _ (ownT (mks t u)).cs _ _ HZ12.out)
          have EG := Lib.hid (below_setRow (E11.out.trans e12) (by have := HLT.out; omega : w.heap.size ≤ ab + 1) (ownT (mks t u)).cs)
          have oG : On2 (ab + 1) (ab + 1) w12 (w12.setRow (ab + 1) (ownT (mks t u)).cs) := on2_row _ _ _
          have OWG := Lib.hid (own_mono3 (own_on2 (own_ext3 OW11.out e12) oG (fun e => by have := (OW11.out.lt _ e).1; have := HXG.out; omega)) (Nat.le_succ_of_le HXB.out))
          have SDG := Lib.hid (own_mono3 (own_on2 (own_ext3 SD11.out e12) oG (fun e => by have := (SD11.out.lt _ e).1; have := HXG.out; omega)) (Nat.le_succ_of_le HXB.out))
          clear oG e12
          go_wp2_with (first | (with_reducible refine wpList_store_row rfl 29 (.tmp 2) (.tmp 76) rfl (ab + 1) _ rfl rfl _ _ HZ12.out (HI.out _) rfl (HU.out _) ?_) | fail)
          refine bodyPost_ret (results_cell_row rfl _ _ (ab + 1) _ _ (0, 0) _ rfl HG.out Try.underlying29 rfl (HI.out _)) rfl ?_
          exact ⟨A1, j, c1, Ad, _, cd, by rw [HU9.out], OWG.out, HJ9.out.symm, SDG.out, EG.out⟩
end Go.Proofs.Ytihiclnbbpablaa
