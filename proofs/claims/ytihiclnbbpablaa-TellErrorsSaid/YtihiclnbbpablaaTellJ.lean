/-
  Layer 18: an error's reply is read as it was.
-/
import Derived.Test.YtihiclnbbpablaaTellI
import Derived.Laws.ResultCell
import Derived.Laws.Tables
namespace Go.Proofs.Ytihiclnbbpablaa
open Go Go.RowKit
set_option linter.unusedVariables false
set_option linter.unusedSimpArgs false
/-- What the reader's struct is. -/
def RdB (w : World) (rb g : Nat) : Prop := w.heap[rb]? = some (.cells #[.pointer (some ⟨g, 0, none⟩), .int .i64 0, .bool false] 72 (0, 0))
theorem rdb_plain {w : World} {rb g : Nat} (h : RdB w rb g) : Plain w rb := by
  refine ⟨_, _, _, h, fun i x hx => ?_⟩
  have hm := Array.mem_of_getElem? hx
  simp at hm
theorem exec_store_row {P : Program} {o : Oper} {a : Act} {w : World} (ty : TypeId) (x y : Operand) (ho : o.op = .store ty x y)
    (g : Nat) (cells : Array Value) (hx : a.eval x = .pointer (some ⟨g, 0, none⟩)) (hy : a.eval y = .agg cells)
    (t : TypeId) (old : Array Value) (hg : w.heap[g]? = some (.cells old t (0, 0))) (hi : (P.info? ty).map (·.size) = some cells.size)
    (hold : old.size = cells.size) (h1 : cells.all (·.oneCell') = true) : (execOp a.eval o).run P w = .ok .skip (w.setRow g cells) := by
  unfold execOp
  simp only [ho, hx, hy, Instr.storeAt, Instr.sureAddr, Sem.run_bind, Sem.run_pure, Result.andThen_ok, run_storeVar_row w g t ty old cells hg hi hold h1]
theorem results_cell_row2 {P : Program} {fn : Func} {p u : Tmp} {ty : TypeId} (h : fn.results = #[.cell p ty, .tmp u]) (tmps : Array Value) (w : World) (g : Nat) (t : TypeId) (cs : Array Value) (fr : Nat × Nat) (d : TypeDesc)
    (hp : tmps.getD p undef = .pointer (some ⟨g, 0, none⟩)) (hg : w.heap[g]? = some (.cells cs t fr))
    (hu : P.underlying ty = some d) (hd : (match d with | .struct _ | .array _ _ => true | _ => false) = true) (hi : (P.info? ty).map (·.size) = some cs.size) :
    (results fn tmps).run P w = .ok (.tuple #[.agg cs, tmps.getD u undef]) w := by
  rw [results_cell_tmp h, hp]
  simp [asAddr, run_loadVar_row w g t ty cs fr d hg hu hd hi]
theorem fl_107 : fl 107 = [3] := rfl
set_option maxRecDepth 100000 in
set_option maxHeartbeats 4000000 in
theorem tread_err (Tg C : Nat) (hT : Tg < 65536) (hC : C < 65536) (A : Option Addr) (n c : Nat) (w : World) (hs : Sees w A n c (bs (lpk 107 Tg (le 2 C)))) :
    Calls Try.prog 20 #[.slice A n c] w fun e w' => e = .returned (.tuple #[.agg (TL.err Tg C).cs, .int .i64 0]) ∧ Ext w w' := by
  have hn : n = 9 := by rw [← hs.len, bs_length]; simp [lpk, le_length]
  subst hn
  obtain ⟨w1, hw1⟩ : ∃ w1, w.alloc (.cells (TL.zero 0 0).cs 29) = w1 := ⟨_, rfl⟩
  have hw1' : w.alloc (.cells #[.int .i64 0, .int .i64 0, .int .i64 0, .int .i64 0, .int .i64 0, .int .i64 0, .string ⟨#[]⟩, .bool false, .int .i64 0, .int .i64 0, .slice none 0 0, .slice none 0 0, .bool false, .int .i64 0, .int .i64 0, .int .i64 0, .int .i64 0, .string ⟨#[]⟩] 29) = w1 := hw1
  have e1 : Ext w w1 := by rw [← hw1]; exact (Ext.refl w).alloc _
  have hb1 : w1.heap[w.heap.size]? = some (.cells (TL.zero 0 0).cs 29 (0, 0)) := by rw [← hw1]; exact heap_alloc_new w _
  have HR := Lib.hid (lread_any A 9 c _ w1 (hs.ext e1) (by omega))
  have HI := Lib.hid (fun t => tl_info t)
  have HMAY := Lib.hid (may_err Tg C (by simp [bi]; omega) (by simp [bi]; omega))
  have hr0 : w.heap.size < w1.heap.size := (Array.getElem?_eq_some_iff.1 hb1).1
  have HB1 := Lib.hid hb1
  have E1 := Lib.hid e1
  clear hb1 e1 hs hw1
  go_enter Try.func20, Try.ntmps20
  go_wp2_with fail
  refine HR.out.mono ?_
  rintro e w2 ⟨g, rfl, hg, hrd, e2⟩
  obtain ⟨rb, hrb⟩ : ∃ rb, w2.heap.size = rb := ⟨_, rfl⟩
  obtain ⟨w3, hw3⟩ : ∃ w3, w2.alloc (.cells #[.pointer (some ⟨g, 0, none⟩), .int .i64 0, .bool false] 72) = w3 := ⟨_, rfl⟩
  have e3 : Ext w2 w3 := by rw [← hw3]; exact (Ext.refl w2).alloc _
  have hb3 : RdB w3 rb g := by rw [← hrb, ← hw3]; exact heap_alloc_new w2 _
  have hgl : g < rb := by rw [← hrb]; exact rdl_lt hrd
  have hs12 := e2.size
  have HB3 := Lib.hid hb3
  have HRD3 : Hid (Rdl w3 g 0 (le 4 9 ++ (le 1 107 ++ (le 2 Tg ++ (le 2 C ++ []))))) := Lib.hid (by
    have := hrd.ext e3
    simpa [lpk, le_length, List.append_assoc] using this)
  have HBR3 := Lib.hid (e3.heap (e2.heap HB1.out))
  have E3 := Lib.hid ((E1.out.trans e2).trans e3)
  have q0 := cell_of_row w3 rb 0 _ _ _ hb3
  simp at q0
  have hsz3 : w3.heap.size = rb + 1 := by rw [← hw3, ← hrb]; simp
  clear hb3 e2 e3 hrd HR HB1 E1
  go_wp2_with fail
  refine (lr_u32 g 0 9 _ w3 (by omega) HRD3.out).mono ?_
  rintro e w4 ⟨rfl, hrd4, o4⟩
  have HB4 : Hid (RdB w4 rb g) := Lib.hid (o4.heap HB3.out (by omega))
  have HBR4 : Hid (w4.drew.heap[w.heap.size]? = some (.cells (TL.zero 0 0).cs 29 (0, 0))) := Lib.hid (o4.heap HBR3.out (by omega))
  have E4 : Hid (Ext w w4.drew) := Lib.hid ((E3.out.onlL o4 (by omega)).drew)
  have HRD4 := Lib.hid (hrd4.ext (Ext.refl w4).drew)
  have hsz4 : rb < w4.heap.size := by have := o4.size; omega
  have HS4 : Hid (RdB w4.drew rb g) := Lib.hid HB4.out
  have hsz4d : rb < w4.drew.heap.size := hsz4
  clear hrd4 o4 q0 HB3 HBR3 E3 HRD3
  go_wp2_with fail
  refine wp_region_plS (fun w' => RdB w' rb g) (.free 0 (.free 1 (.free 2 (.free 3 (.free 6 (.free 7 (.free 8 (.free 9 (.fork 4 13 (.free 5 (.fork 10 13 (.free 11 (.free 12 (.one 13 (.one 14 .nil)))) (.one 10 (.free 11 (.free 12 (.one 14 .nil)))))) (.one 4 (.free 5 (.one 10 (.free 11 (.free 12 (.one 14 .nil))))))))))))))) (by kernel_rfl) (by kernel_rfl) (by kernel_rfl) (by kernel_rfl) ?_
  refine plS_val (v := ?_) rfl rfl HS4.out (fun w' hw' => ?_) ?_; rotate_left; (· have c0 := cell_of_row w' rb 0 _ _ _ hw'; simp at c0; go_simp; try with_reducible rfl); simp only [Act.put, List.setIfInBounds_toArray, List.set_cons_zero, List.set_cons_succ]
  refine plS_val (v := ?_) rfl rfl HS4.out (fun w' hw' => ?_) ?_; rotate_left; (· have c0 := cell_of_row w' rb 0 _ _ _ hw'; simp at c0; go_simp; try with_reducible rfl); simp only [Act.put, List.setIfInBounds_toArray, List.set_cons_zero, List.set_cons_succ]
  refine plS_val (v := ?_) rfl rfl HS4.out (fun w' hw' => ?_) ?_; rotate_left; (· have c0 := cell_of_row w' rb 0 _ _ _ hw'; simp at c0; go_simp; try with_reducible rfl); simp only [Act.put, List.setIfInBounds_toArray, List.set_cons_zero, List.set_cons_succ]
  refine plS_val (v := ?_) rfl rfl HS4.out (fun w' hw' => ?_) ?_; rotate_left; (· have c0 := cell_of_row w' rb 0 _ _ _ hw'; simp at c0; go_simp; try with_reducible rfl); simp only [Act.put, List.setIfInBounds_toArray, List.set_cons_zero, List.set_cons_succ]
  refine plS_val (v := ?_) rfl rfl HS4.out (fun w' hw' => ?_) ?_; rotate_left; (· have c0 := cell_of_row w' rb 0 _ _ _ hw'; simp at c0; go_simp; try with_reducible rfl); simp only [Act.put, List.setIfInBounds_toArray, List.set_cons_zero, List.set_cons_succ]
  refine plS_val (v := ?_) rfl rfl HS4.out (fun w' hw' => ?_) ?_; rotate_left; (· have c0 := cell_of_row w' rb 0 _ _ _ hw'; simp at c0; go_simp; try with_reducible rfl); simp only [Act.put, List.setIfInBounds_toArray, List.set_cons_zero, List.set_cons_succ]
  refine plS_val (v := ?_) rfl rfl HS4.out (fun w' hw' => ?_) ?_; rotate_left; (· have c0 := cell_of_row w' rb 0 _ _ _ hw'; simp at c0; go_simp; try with_reducible rfl); simp only [Act.put, List.setIfInBounds_toArray, List.set_cons_zero, List.set_cons_succ]
  refine plS_val (v := ?_) rfl rfl HS4.out (fun w' hw' => ?_) ?_; rotate_left; (· have c0 := cell_of_row w' rb 0 _ _ _ hw'; simp at c0; go_simp; try with_reducible rfl); simp only [Act.put, List.setIfInBounds_toArray, List.set_cons_zero, List.set_cons_succ]
  refine plS_fork ?_ ?_
  · refine plS_call 46 #[.pointer (some ⟨g, 0, none⟩)] rfl rfl (by go_simp) ?_
    refine (lr_u8 g 0 107 _ _ (by omega) HRD4.out).mono ?_
    rintro e w8 ⟨rfl, hrd8, o8⟩
    have HS8 : Hid (RdB w8 rb g) := Lib.hid (o8.heap HS4.out (by omega))
    have HBR8 := Lib.hid (o8.heap HBR4.out (by omega))
    have E8 : Hid (Ext w w8) := Lib.hid (E4.out.onlL o8 (by omega))
    have hz8 := o8.size
    have HRD8 := Lib.hid hrd8
    refine ⟨_, rfl, HS8.out, ?_⟩
    simp only [Act.put, List.setIfInBounds_toArray, List.set_cons_zero, List.set_cons_succ]
    refine plS_val (v := .int .i64 107) rfl rfl HS8.out (fun w' hw' => by go_simp; rfl) ?_
    simp only [Act.put, List.setIfInBounds_toArray, List.set_cons_zero, List.set_cons_succ]
    refine plS_fork ?_ ?_
    · refine plS_call 47 #[.pointer (some ⟨g, 0, none⟩)] rfl rfl (by go_simp) ?_
      refine (lr_u16 g 0 Tg _ _ hT hrd8).mono ?_
      rintro e w9 ⟨rfl, hrd9, o9⟩
      have HS9 : Hid (RdB w9 rb g) := Lib.hid (o9.heap HS8.out (by omega))
      have HBR9 := Lib.hid (o9.heap HBR8.out (by omega))
      have E9 : Hid (Ext w w9) := Lib.hid (E8.out.onlL o9 (by omega))
      have hz9 := o9.size
      have HRD9 := Lib.hid hrd9
      refine ⟨_, rfl, HS9.out, ?_⟩
      simp only [Act.put, List.setIfInBounds_toArray, List.set_cons_zero, List.set_cons_succ]
      refine plS_val (v := .int .i64 (Tg : Int)) rfl rfl HS9.out (fun w' hw' => by go_simp; rw [IntKind.wrap_i64]; omega) ?_
      simp only [Act.put, List.setIfInBounds_toArray, List.set_cons_zero, List.set_cons_succ]
      refine plS_val (v := .agg (TL.zero 107 Tg).cs) rfl rfl HS9.out (fun w' hw' => by go_simp; try rfl) ?_
      simp only [Act.put, List.setIfInBounds_toArray, List.set_cons_zero, List.set_cons_succ]
      obtain ⟨wa, hwa⟩ : ∃ W, (w9).alloc (.cells (TL.zero 0 0).cs 29) = W := ⟨_, rfl⟩
      obtain ⟨tb, htb⟩ : ∃ tb, (w9).heap.size = tb := ⟨_, rfl⟩
      have ea : Ext (w9) wa := by rw [← hwa]; exact (Ext.refl _).alloc _
      have HTB : Hid (wa.heap[tb]? = some (.cells (TL.zero 0 0).cs 29 (0, 0))) := Lib.hid (by rw [← hwa, ← htb]; exact heap_alloc_new _ _)
      have HSa : Hid (RdB wa rb g) := Lib.hid (ea.heap HS9.out)
      have HBRa := Lib.hid (ea.heap HBR9.out)
      have Ea : Hid (Ext w wa) := Lib.hid (E9.out.trans ea)
      have HRDa := Lib.hid (Rdl.ext hrd9 ea)
      have hza := ea.size
      have htbr : rb < tb := by rw [← htb]; omega
      refine plS_run (w' := wa) (.pointer (some ⟨tb, 0, none⟩)) rfl rfl (by rw [← htb]; go_simp; exact hwa) HSa.out ?_
      simp only [Act.put, List.setIfInBounds_toArray, List.set_cons_zero, List.set_cons_succ]
      obtain ⟨w5, hw5⟩ : ∃ W, (wa).setRow tb (TL.zero 107 Tg).cs = W := ⟨_, rfl⟩
      have hb5 : w5.heap[tb]? = some (.cells (TL.zero 107 Tg).cs 29 (0, 0)) := by rw [← hw5]; exact setRow_heap _ tb _ (TL.zero 107 Tg).cs _ _ HTB.out
      have ho5 : Onl tb (wa) w5 := by rw [← hw5]; exact onl_setRowT tb _ _
      have HS5 : Hid (RdB w5 rb g) := Lib.hid (ho5.heap HSa.out (by omega))
      have HBR5 := Lib.hid (ho5.heap HBRa.out (by omega))
      have HRD5 := Lib.hid (Rdl.onP HRDa.out (tl_plain HTB.out) ho5 (by omega))
      have E5 : Hid (Ext w w5) := Lib.hid (Ea.out.onlL ho5 (by omega))
      have hz5 : tb < w5.heap.size := (Array.getElem?_eq_some_iff.1 hb5).1
      refine plS_void (w' := w5) rfl rfl (by rw [← hw5]; exact exec_store_row 29 (.tmp 6) (.tmp 37) rfl tb (TL.zero 107 Tg).cs rfl rfl _ _ HTB.out (tl_info _) rfl (TL.one _)) HS5.out ?_
      simp only [Act.put, List.setIfInBounds_toArray, List.set_cons_zero, List.set_cons_succ]
      refine plS_done ?_
      have HB5 := Lib.hid hb5
      have x0 := cell_of_row w5 tb 0 _ _ _ hb5
      simp [TL.cs, TL.zero] at x0
      clear hb5 ho5 hw5
      have HF := Lib.hid (fields_any 107 w5)
      rw [fl_107, show fok 107 = true from rfl] at HF
      go_wp2_with fail
      refine HF.out.mono ?_
      rintro e w6 ⟨A6, rfl, see6, e6⟩
      have HS6 : Hid (RdB w6 rb g) := Lib.hid (e6.heap HS5.out)
      have HBR6 := Lib.hid (e6.heap HBR5.out)
      have HRD6 := Lib.hid (HRD5.out.ext e6)
      have E6 := Lib.hid (E5.out.trans e6)
      have HB6 := Lib.hid (e6.heap HB5.out)
      obtain ⟨b6, o6, u6, rfl, hu6, hc6, hb6⟩ := see6.at_ (k := 0) (by decide)
      have hu : u6 = .int .i64 3 := by simpa [fv] using hu6.symm
      subst hu
      have hz6 := e6.size
      rw [Nat.add_zero] at hc6
      clear hu6 see6 x0 HF HS5 HBR5 HRD5 E5 HB5 e6
      go_wp2_with fail
      go_loopw [55] (fun i wr => (i = .int .i64 0 ∧ w6 = wr) ∨ (i = .int .i64 1 ∧ RdB wr rb g ∧ Rdl wr g 0 [] ∧ wr.heap[w.heap.size]? = some (.cells (TL.zero 0 0).cs 29 (0, 0)) ∧ wr.heap[tb]? = some (.cells (TL.err Tg C).cs 29 (0, 0)) ∧ Ext w wr)) (fun i _ => 1 - (intOf i).toNat)
      case atStart => exact .inl ⟨rfl, rfl⟩
      case round =>
        rcases hrel with ⟨rfl, rfl⟩ | ⟨rfl, hs7, hr7, hbr7, hb7, e7⟩
        · have HI6 := Lib.hid (tl_info (TL.zero 107 Tg))
          go_wp2_with (first | (with_reducible refine wpList_load_row rfl 29 (.tmp 6) rfl tb rfl _ _ _ _ HB6.out Try.underlying29 rfl HI6.out ?_) | fail)
          refine (tread_3 (TL.zero 107 Tg) g rb C hC [] w6 HS6.out HRD6.out).mono ?_
          rintro e w7 ⟨rfl, hr7, o7⟩
          have hb7 := o7.heap HB6.out (by omega)
          have HB7 := Lib.hid hb7
          have HI7 := Lib.hid (tl_info (TL.err Tg C))
          have HS7 : Hid ((TL.zero 107 Tg).cs.size = (TL.err Tg C).cs.size) := Lib.hid rfl
          have HU7 := Lib.hid (TL.one (TL.err Tg C))
          have ho8 := onl_setRowT tb w7 (TL.err Tg C).cs
          have H8 : Hid (RdB (w7.setRow tb (TL.err Tg C).cs) rb g ∧ Rdl (w7.setRow tb (TL.err Tg C).cs) g 0 [] ∧ (w7.setRow tb (TL.err Tg C).cs).heap[w.heap.size]? = some (.cells (TL.zero 0 0).cs 29 (0, 0)) ∧ (w7.setRow tb (TL.err Tg C).cs).heap[tb]? = some (.cells (TL.err Tg C).cs 29 (0, 0)) ∧ Ext w (w7.setRow tb (TL.err Tg C).cs)) := Lib.hid
            ⟨ho8.heap (o7.heap HS6.out (by omega)) (by omega), hr7.onP (tl_plain hb7) ho8 (by omega), ho8.heap (o7.heap HBR6.out (by omega)) (by omega), setRow_heap w7 tb _ _ _ _ hb7, (E6.out.onlL o7 (by omega)).onlL ho8 (by omega)⟩
          clear hb7 ho8 hr7 o7 hc6
          go_wp2_with (first | (refine wpList_store_row rfl 29 (.tmp 6) (.tmp 62) rfl tb (TL.err Tg C).cs rfl rfl _ _ HB7.out HI7.out HS7.out HU7.out ?_) | fail)
          go_roundw
          case rel => exact .inr ⟨rfl, H8.out⟩
          case measure => simp [intOf]
        · have q0 := cell_of_row wr rb 0 _ _ _ hs7
          simp at q0
          have HS7 := Lib.hid hs7
          have HR7 := Lib.hid hr7
          have HBR7 := Lib.hid hbr7
          have HB7 := Lib.hid hb7
          have E7 := Lib.hid e7
          clear hs7 hr7 hbr7 hb7 e7 hc6
          go_wp2_with fail
          refine (lend_any g 0 wr HR7.out).mono ?_
          rintro e w8 ⟨rfl, rfl⟩
          go_wp2_with fail
          refine (keep0_any g rb wr HS7.out).mono ?_
          rintro e w9 ⟨rfl, hs9, o9⟩
          have q1 := cell_of_row w9 rb 1 _ _ _ hs9
          have q2 := cell_of_row w9 rb 2 _ _ _ hs9
          simp at q1 q2
          have HQ9 := Lib.hid (fun w' (h : Ext w9 w') => h.cell q1)
          have HBR9' := Lib.hid (o9.heap HBR7.out (by omega))
          have HB9 := Lib.hid (o9.heap HB7.out (by omega))
          have E9' := Lib.hid (E7.out.onlL o9 (by omega))
          have HIe := Lib.hid (tl_info (TL.err Tg C))
          clear q0 hs9 o9 HS7 HR7 HBR7 HB7 E7
          go_wp2_with (first | (refine wpList_load_row_w (by rfl) 29 (.tmp 6) rfl tb rfl _ _ _ _ HB9.out Try.underlying29 rfl HIe.out ?_) | fail)
          refine (tmay_any (TL.err Tg C) w9 (TL.err_ok _ _ _)).mono ?_
          rintro e w10 ⟨rfl, e10⟩
          rw [HMAY.out]
          have q1' := HQ9.out w10 e10
          have HBR10 := Lib.hid (e10.heap HBR9'.out)
          have HB10 := Lib.hid (e10.heap HB9.out)
          have HSz : Hid ((TL.zero 0 0).cs.size = (TL.err Tg C).cs.size) := Lib.hid rfl
          have HUe := Lib.hid (TL.one (TL.err Tg C))
          have HGe := Lib.hid (setRow_heap w10 w.heap.size _ (TL.err Tg C).cs _ _ HBR10.out)
          have EE := Lib.hid (below_setRow (E9'.out.trans e10) (Nat.le_refl _) (TL.err Tg C).cs)
          clear q1 q2 e10 HQ9
          go_wp2_with (first | (with_reducible refine wpList_load_row rfl 29 (.tmp 6) rfl tb rfl _ _ _ _ HB10.out Try.underlying29 rfl HIe.out ?_) | (with_reducible refine wpList_store_row rfl 29 (.tmp 2) (.tmp 92) rfl w.heap.size _ rfl rfl _ _ HBR10.out HIe.out HSz.out HUe.out ?_) | fail)
          refine bodyPost_ret (results_cell_row2 rfl _ _ w.heap.size _ _ (0, 0) _ rfl HGe.out Try.underlying29 rfl HIe.out) rfl ?_
          exact ⟨rfl, EE.out⟩
    · obtain ⟨wa, hwa⟩ : ∃ W, (w8).alloc (.cells (TL.zero 0 0).cs 29) = W := ⟨_, rfl⟩
      obtain ⟨tb, htb⟩ : ∃ tb, (w8).heap.size = tb := ⟨_, rfl⟩
      have ea : Ext (w8) wa := by rw [← hwa]; exact (Ext.refl _).alloc _
      have HTB : Hid (wa.heap[tb]? = some (.cells (TL.zero 0 0).cs 29 (0, 0))) := Lib.hid (by rw [← hwa, ← htb]; exact heap_alloc_new _ _)
      have HSa : Hid (RdB wa rb g) := Lib.hid (ea.heap HS8.out)
      have HBRa := Lib.hid (ea.heap HBR8.out)
      have Ea : Hid (Ext w wa) := Lib.hid (E8.out.trans ea)
      have HRDa := Lib.hid (Rdl.ext hrd8 ea)
      have hza := ea.size
      have htbr : rb < tb := by rw [← htb]; omega
      refine plS_run (w' := wa) (.pointer (some ⟨tb, 0, none⟩)) rfl rfl (by rw [← htb]; go_simp; exact hwa) HSa.out ?_
      simp only [Act.put, List.setIfInBounds_toArray, List.set_cons_zero, List.set_cons_succ]
      refine plS_call 47 #[.pointer (some ⟨g, 0, none⟩)] rfl rfl (by go_simp) ?_
      refine (lr_u16 g 0 Tg _ _ hT HRDa.out).mono ?_
      rintro e w9 ⟨rfl, hrd9, o9⟩
      have HS9 : Hid (RdB w9 rb g) := Lib.hid (o9.heap HSa.out (by omega))
      have HBR9 := Lib.hid (o9.heap HBRa.out (by omega))
      have E9 : Hid (Ext w w9) := Lib.hid (Ea.out.onlL o9 (by omega))
      have hz9 := o9.size
      have HTB9 := Lib.hid (o9.heap HTB.out (by omega))
      refine ⟨_, rfl, HS9.out, ?_⟩
      simp only [Act.put, List.setIfInBounds_toArray, List.set_cons_zero, List.set_cons_succ]
      refine plS_val (v := .int .i64 (Tg : Int)) rfl rfl HS9.out (fun w' hw' => by go_simp; rw [IntKind.wrap_i64]; omega) ?_
      simp only [Act.put, List.setIfInBounds_toArray, List.set_cons_zero, List.set_cons_succ]
      refine plS_val (v := .agg (TL.zero 107 Tg).cs) rfl rfl HS9.out (fun w' hw' => by go_simp; try rfl) ?_
      simp only [Act.put, List.setIfInBounds_toArray, List.set_cons_zero, List.set_cons_succ]
      obtain ⟨w5, hw5⟩ : ∃ W, (w9).setRow tb (TL.zero 107 Tg).cs = W := ⟨_, rfl⟩
      have hb5 : w5.heap[tb]? = some (.cells (TL.zero 107 Tg).cs 29 (0, 0)) := by rw [← hw5]; exact setRow_heap _ tb _ (TL.zero 107 Tg).cs _ _ HTB9.out
      have ho5 : Onl tb (w9) w5 := by rw [← hw5]; exact onl_setRowT tb _ _
      have HS5 : Hid (RdB w5 rb g) := Lib.hid (ho5.heap HS9.out (by omega))
      have HBR5 := Lib.hid (ho5.heap HBR9.out (by omega))
      have HRD5 := Lib.hid (Rdl.onP hrd9 (tl_plain HTB9.out) ho5 (by omega))
      have E5 : Hid (Ext w w5) := Lib.hid (E9.out.onlL ho5 (by omega))
      have hz5 : tb < w5.heap.size := (Array.getElem?_eq_some_iff.1 hb5).1
      refine plS_void (w' := w5) rfl rfl (by rw [← hw5]; exact exec_store_row 29 (.tmp 6) (.tmp 37) rfl tb (TL.zero 107 Tg).cs rfl rfl _ _ HTB9.out (tl_info _) rfl (TL.one _)) HS5.out ?_
      simp only [Act.put, List.setIfInBounds_toArray, List.set_cons_zero, List.set_cons_succ]
      refine plS_done ?_
      have HB5 := Lib.hid hb5
      have x0 := cell_of_row w5 tb 0 _ _ _ hb5
      simp [TL.cs, TL.zero] at x0
      clear hb5 ho5 hw5
      have HF := Lib.hid (fields_any 107 w5)
      rw [fl_107, show fok 107 = true from rfl] at HF
      go_wp2_with fail
      refine HF.out.mono ?_
      rintro e w6 ⟨A6, rfl, see6, e6⟩
      have HS6 : Hid (RdB w6 rb g) := Lib.hid (e6.heap HS5.out)
      have HBR6 := Lib.hid (e6.heap HBR5.out)
      have HRD6 := Lib.hid (HRD5.out.ext e6)
      have E6 := Lib.hid (E5.out.trans e6)
      have HB6 := Lib.hid (e6.heap HB5.out)
      obtain ⟨b6, o6, u6, rfl, hu6, hc6, hb6⟩ := see6.at_ (k := 0) (by decide)
      have hu : u6 = .int .i64 3 := by simpa [fv] using hu6.symm
      subst hu
      have hz6 := e6.size
      rw [Nat.add_zero] at hc6
      clear hu6 see6 x0 HF HS5 HBR5 HRD5 E5 HB5 e6
      go_wp2_with fail
      go_loopw [55] (fun i wr => (i = .int .i64 0 ∧ w6 = wr) ∨ (i = .int .i64 1 ∧ RdB wr rb g ∧ Rdl wr g 0 [] ∧ wr.heap[w.heap.size]? = some (.cells (TL.zero 0 0).cs 29 (0, 0)) ∧ wr.heap[tb]? = some (.cells (TL.err Tg C).cs 29 (0, 0)) ∧ Ext w wr)) (fun i _ => 1 - (intOf i).toNat)
      case atStart => exact .inl ⟨rfl, rfl⟩
      case round =>
        rcases hrel with ⟨rfl, rfl⟩ | ⟨rfl, hs7, hr7, hbr7, hb7, e7⟩
        · have HI6 := Lib.hid (tl_info (TL.zero 107 Tg))
          go_wp2_with (first | (with_reducible refine wpList_load_row rfl 29 (.tmp 6) rfl tb rfl _ _ _ _ HB6.out Try.underlying29 rfl HI6.out ?_) | fail)
          refine (tread_3 (TL.zero 107 Tg) g rb C hC [] w6 HS6.out HRD6.out).mono ?_
          rintro e w7 ⟨rfl, hr7, o7⟩
          have hb7 := o7.heap HB6.out (by omega)
          have HB7 := Lib.hid hb7
          have HI7 := Lib.hid (tl_info (TL.err Tg C))
          have HS7 : Hid ((TL.zero 107 Tg).cs.size = (TL.err Tg C).cs.size) := Lib.hid rfl
          have HU7 := Lib.hid (TL.one (TL.err Tg C))
          have ho8 := onl_setRowT tb w7 (TL.err Tg C).cs
          have H8 : Hid (RdB (w7.setRow tb (TL.err Tg C).cs) rb g ∧ Rdl (w7.setRow tb (TL.err Tg C).cs) g 0 [] ∧ (w7.setRow tb (TL.err Tg C).cs).heap[w.heap.size]? = some (.cells (TL.zero 0 0).cs 29 (0, 0)) ∧ (w7.setRow tb (TL.err Tg C).cs).heap[tb]? = some (.cells (TL.err Tg C).cs 29 (0, 0)) ∧ Ext w (w7.setRow tb (TL.err Tg C).cs)) := Lib.hid
            ⟨ho8.heap (o7.heap HS6.out (by omega)) (by omega), hr7.onP (tl_plain hb7) ho8 (by omega), ho8.heap (o7.heap HBR6.out (by omega)) (by omega), setRow_heap w7 tb _ _ _ _ hb7, (E6.out.onlL o7 (by omega)).onlL ho8 (by omega)⟩
          clear hb7 ho8 hr7 o7 hc6
          go_wp2_with (first | (refine wpList_store_row rfl 29 (.tmp 6) (.tmp 62) rfl tb (TL.err Tg C).cs rfl rfl _ _ HB7.out HI7.out HS7.out HU7.out ?_) | fail)
          go_roundw
          case rel => exact .inr ⟨rfl, H8.out⟩
          case measure => simp [intOf]
        · have q0 := cell_of_row wr rb 0 _ _ _ hs7
          simp at q0
          have HS7 := Lib.hid hs7
          have HR7 := Lib.hid hr7
          have HBR7 := Lib.hid hbr7
          have HB7 := Lib.hid hb7
          have E7 := Lib.hid e7
          clear hs7 hr7 hbr7 hb7 e7 hc6
          go_wp2_with fail
          refine (lend_any g 0 wr HR7.out).mono ?_
          rintro e w8 ⟨rfl, rfl⟩
          go_wp2_with fail
          refine (keep0_any g rb wr HS7.out).mono ?_
          rintro e w9 ⟨rfl, hs9, o9⟩
          have q1 := cell_of_row w9 rb 1 _ _ _ hs9
          have q2 := cell_of_row w9 rb 2 _ _ _ hs9
          simp at q1 q2
          have HQ9 := Lib.hid (fun w' (h : Ext w9 w') => h.cell q1)
          have HBR9' := Lib.hid (o9.heap HBR7.out (by omega))
          have HB9 := Lib.hid (o9.heap HB7.out (by omega))
          have E9' := Lib.hid (E7.out.onlL o9 (by omega))
          have HIe := Lib.hid (tl_info (TL.err Tg C))
          clear q0 hs9 o9 HS7 HR7 HBR7 HB7 E7
          go_wp2_with (first | (refine wpList_load_row_w (by rfl) 29 (.tmp 6) rfl tb rfl _ _ _ _ HB9.out Try.underlying29 rfl HIe.out ?_) | fail)
          refine (tmay_any (TL.err Tg C) w9 (TL.err_ok _ _ _)).mono ?_
          rintro e w10 ⟨rfl, e10⟩
          rw [HMAY.out]
          have q1' := HQ9.out w10 e10
          have HBR10 := Lib.hid (e10.heap HBR9'.out)
          have HB10 := Lib.hid (e10.heap HB9.out)
          have HSz : Hid ((TL.zero 0 0).cs.size = (TL.err Tg C).cs.size) := Lib.hid rfl
          have HUe := Lib.hid (TL.one (TL.err Tg C))
          have HGe := Lib.hid (setRow_heap w10 w.heap.size _ (TL.err Tg C).cs _ _ HBR10.out)
          have EE := Lib.hid (below_setRow (E9'.out.trans e10) (Nat.le_refl _) (TL.err Tg C).cs)
          clear q1 q2 e10 HQ9
          go_wp2_with (first | (with_reducible refine wpList_load_row rfl 29 (.tmp 6) rfl tb rfl _ _ _ _ HB10.out Try.underlying29 rfl HIe.out ?_) | (with_reducible refine wpList_store_row rfl 29 (.tmp 2) (.tmp 92) rfl w.heap.size _ rfl rfl _ _ HBR10.out HIe.out HSz.out HUe.out ?_) | fail)
          refine bodyPost_ret (results_cell_row2 rfl _ _ w.heap.size _ _ (0, 0) _ rfl HGe.out Try.underlying29 rfl HIe.out) rfl ?_
          exact ⟨rfl, EE.out⟩
  · obtain ⟨wa, hwa⟩ : ∃ W, (w4.drew).alloc (.cells (TL.zero 0 0).cs 29) = W := ⟨_, rfl⟩
    obtain ⟨tb, htb⟩ : ∃ tb, (w4.drew).heap.size = tb := ⟨_, rfl⟩
    have ea : Ext (w4.drew) wa := by rw [← hwa]; exact (Ext.refl _).alloc _
    have HTB : Hid (wa.heap[tb]? = some (.cells (TL.zero 0 0).cs 29 (0, 0))) := Lib.hid (by rw [← hwa, ← htb]; exact heap_alloc_new _ _)
    have HSa : Hid (RdB wa rb g) := Lib.hid (ea.heap HS4.out)
    have HBRa := Lib.hid (ea.heap HBR4.out)
    have Ea : Hid (Ext w wa) := Lib.hid (E4.out.trans ea)
    have HRDa := Lib.hid (Rdl.ext HRD4.out ea)
    have hza := ea.size
    have htbr : rb < tb := by rw [← htb]; omega
    refine plS_run (w' := wa) (.pointer (some ⟨tb, 0, none⟩)) rfl rfl (by rw [← htb]; go_simp; exact hwa) HSa.out ?_
    simp only [Act.put, List.setIfInBounds_toArray, List.set_cons_zero, List.set_cons_succ]
    refine plS_call 46 #[.pointer (some ⟨g, 0, none⟩)] rfl rfl (by go_simp) ?_
    refine (lr_u8 g 0 107 _ _ (by omega) HRDa.out).mono ?_
    rintro e w8 ⟨rfl, hrd8, o8⟩
    have HS8 : Hid (RdB w8 rb g) := Lib.hid (o8.heap HSa.out (by omega))
    have HBR8 := Lib.hid (o8.heap HBRa.out (by omega))
    have E8 : Hid (Ext w w8) := Lib.hid (Ea.out.onlL o8 (by omega))
    have hz8 := o8.size
    have HTB8 := Lib.hid (o8.heap HTB.out (by omega))
    refine ⟨_, rfl, HS8.out, ?_⟩
    simp only [Act.put, List.setIfInBounds_toArray, List.set_cons_zero, List.set_cons_succ]
    refine plS_val (v := .int .i64 107) rfl rfl HS8.out (fun w' hw' => by go_simp; rfl) ?_
    simp only [Act.put, List.setIfInBounds_toArray, List.set_cons_zero, List.set_cons_succ]
    refine plS_call 47 #[.pointer (some ⟨g, 0, none⟩)] rfl rfl (by go_simp) ?_
    refine (lr_u16 g 0 Tg _ _ hT hrd8).mono ?_
    rintro e w9 ⟨rfl, hrd9, o9⟩
    have HS9 : Hid (RdB w9 rb g) := Lib.hid (o9.heap HS8.out (by omega))
    have HBR9 := Lib.hid (o9.heap HBR8.out (by omega))
    have E9 : Hid (Ext w w9) := Lib.hid (E8.out.onlL o9 (by omega))
    have hz9 := o9.size
    have HTB9 := Lib.hid (o9.heap HTB8.out (by omega))
    refine ⟨_, rfl, HS9.out, ?_⟩
    simp only [Act.put, List.setIfInBounds_toArray, List.set_cons_zero, List.set_cons_succ]
    refine plS_val (v := .int .i64 (Tg : Int)) rfl rfl HS9.out (fun w' hw' => by go_simp; rw [IntKind.wrap_i64]; omega) ?_
    simp only [Act.put, List.setIfInBounds_toArray, List.set_cons_zero, List.set_cons_succ]
    refine plS_val (v := .agg (TL.zero 107 Tg).cs) rfl rfl HS9.out (fun w' hw' => by go_simp; try rfl) ?_
    simp only [Act.put, List.setIfInBounds_toArray, List.set_cons_zero, List.set_cons_succ]
    obtain ⟨w5, hw5⟩ : ∃ W, (w9).setRow tb (TL.zero 107 Tg).cs = W := ⟨_, rfl⟩
    have hb5 : w5.heap[tb]? = some (.cells (TL.zero 107 Tg).cs 29 (0, 0)) := by rw [← hw5]; exact setRow_heap _ tb _ (TL.zero 107 Tg).cs _ _ HTB9.out
    have ho5 : Onl tb (w9) w5 := by rw [← hw5]; exact onl_setRowT tb _ _
    have HS5 : Hid (RdB w5 rb g) := Lib.hid (ho5.heap HS9.out (by omega))
    have HBR5 := Lib.hid (ho5.heap HBR9.out (by omega))
    have HRD5 := Lib.hid (Rdl.onP hrd9 (tl_plain HTB9.out) ho5 (by omega))
    have E5 : Hid (Ext w w5) := Lib.hid (E9.out.onlL ho5 (by omega))
    have hz5 : tb < w5.heap.size := (Array.getElem?_eq_some_iff.1 hb5).1
    refine plS_void (w' := w5) rfl rfl (by rw [← hw5]; exact exec_store_row 29 (.tmp 6) (.tmp 37) rfl tb (TL.zero 107 Tg).cs rfl rfl _ _ HTB9.out (tl_info _) rfl (TL.one _)) HS5.out ?_
    simp only [Act.put, List.setIfInBounds_toArray, List.set_cons_zero, List.set_cons_succ]
    refine plS_done ?_
    have HB5 := Lib.hid hb5
    have x0 := cell_of_row w5 tb 0 _ _ _ hb5
    simp [TL.cs, TL.zero] at x0
    clear hb5 ho5 hw5
    have HF := Lib.hid (fields_any 107 w5)
    rw [fl_107, show fok 107 = true from rfl] at HF
    go_wp2_with fail
    refine HF.out.mono ?_
    rintro e w6 ⟨A6, rfl, see6, e6⟩
    have HS6 : Hid (RdB w6 rb g) := Lib.hid (e6.heap HS5.out)
    have HBR6 := Lib.hid (e6.heap HBR5.out)
    have HRD6 := Lib.hid (HRD5.out.ext e6)
    have E6 := Lib.hid (E5.out.trans e6)
    have HB6 := Lib.hid (e6.heap HB5.out)
    obtain ⟨b6, o6, u6, rfl, hu6, hc6, hb6⟩ := see6.at_ (k := 0) (by decide)
    have hu : u6 = .int .i64 3 := by simpa [fv] using hu6.symm
    subst hu
    have hz6 := e6.size
    rw [Nat.add_zero] at hc6
    clear hu6 see6 x0 HF HS5 HBR5 HRD5 E5 HB5 e6
    go_wp2_with fail
    go_loopw [55] (fun i wr => (i = .int .i64 0 ∧ w6 = wr) ∨ (i = .int .i64 1 ∧ RdB wr rb g ∧ Rdl wr g 0 [] ∧ wr.heap[w.heap.size]? = some (.cells (TL.zero 0 0).cs 29 (0, 0)) ∧ wr.heap[tb]? = some (.cells (TL.err Tg C).cs 29 (0, 0)) ∧ Ext w wr)) (fun i _ => 1 - (intOf i).toNat)
    case atStart => exact .inl ⟨rfl, rfl⟩
    case round =>
      rcases hrel with ⟨rfl, rfl⟩ | ⟨rfl, hs7, hr7, hbr7, hb7, e7⟩
      · have HI6 := Lib.hid (tl_info (TL.zero 107 Tg))
        go_wp2_with (first | (with_reducible refine wpList_load_row rfl 29 (.tmp 6) rfl tb rfl _ _ _ _ HB6.out Try.underlying29 rfl HI6.out ?_) | fail)
        refine (tread_3 (TL.zero 107 Tg) g rb C hC [] w6 HS6.out HRD6.out).mono ?_
        rintro e w7 ⟨rfl, hr7, o7⟩
        have hb7 := o7.heap HB6.out (by omega)
        have HB7 := Lib.hid hb7
        have HI7 := Lib.hid (tl_info (TL.err Tg C))
        have HS7 : Hid ((TL.zero 107 Tg).cs.size = (TL.err Tg C).cs.size) := Lib.hid rfl
        have HU7 := Lib.hid (TL.one (TL.err Tg C))
        have ho8 := onl_setRowT tb w7 (TL.err Tg C).cs
        have H8 : Hid (RdB (w7.setRow tb (TL.err Tg C).cs) rb g ∧ Rdl (w7.setRow tb (TL.err Tg C).cs) g 0 [] ∧ (w7.setRow tb (TL.err Tg C).cs).heap[w.heap.size]? = some (.cells (TL.zero 0 0).cs 29 (0, 0)) ∧ (w7.setRow tb (TL.err Tg C).cs).heap[tb]? = some (.cells (TL.err Tg C).cs 29 (0, 0)) ∧ Ext w (w7.setRow tb (TL.err Tg C).cs)) := Lib.hid
          ⟨ho8.heap (o7.heap HS6.out (by omega)) (by omega), hr7.onP (tl_plain hb7) ho8 (by omega), ho8.heap (o7.heap HBR6.out (by omega)) (by omega), setRow_heap w7 tb _ _ _ _ hb7, (E6.out.onlL o7 (by omega)).onlL ho8 (by omega)⟩
        clear hb7 ho8 hr7 o7 hc6
        go_wp2_with (first | (refine wpList_store_row rfl 29 (.tmp 6) (.tmp 62) rfl tb (TL.err Tg C).cs rfl rfl _ _ HB7.out HI7.out HS7.out HU7.out ?_) | fail)
        go_roundw
        case rel => exact .inr ⟨rfl, H8.out⟩
        case measure => simp [intOf]
      · have q0 := cell_of_row wr rb 0 _ _ _ hs7
        simp at q0
        have HS7 := Lib.hid hs7
        have HR7 := Lib.hid hr7
        have HBR7 := Lib.hid hbr7
        have HB7 := Lib.hid hb7
        have E7 := Lib.hid e7
        clear hs7 hr7 hbr7 hb7 e7 hc6
        go_wp2_with fail
        refine (lend_any g 0 wr HR7.out).mono ?_
        rintro e w8 ⟨rfl, rfl⟩
        go_wp2_with fail
        refine (keep0_any g rb wr HS7.out).mono ?_
        rintro e w9 ⟨rfl, hs9, o9⟩
        have q1 := cell_of_row w9 rb 1 _ _ _ hs9
        have q2 := cell_of_row w9 rb 2 _ _ _ hs9
        simp at q1 q2
        have HQ9 := Lib.hid (fun w' (h : Ext w9 w') => h.cell q1)
        have HBR9' := Lib.hid (o9.heap HBR7.out (by omega))
        have HB9 := Lib.hid (o9.heap HB7.out (by omega))
        have E9' := Lib.hid (E7.out.onlL o9 (by omega))
        have HIe := Lib.hid (tl_info (TL.err Tg C))
        clear q0 hs9 o9 HS7 HR7 HBR7 HB7 E7
        go_wp2_with (first | (refine wpList_load_row_w (by rfl) 29 (.tmp 6) rfl tb rfl _ _ _ _ HB9.out Try.underlying29 rfl HIe.out ?_) | fail)
        refine (tmay_any (TL.err Tg C) w9 (TL.err_ok _ _ _)).mono ?_
        rintro e w10 ⟨rfl, e10⟩
        rw [HMAY.out]
        have q1' := HQ9.out w10 e10
        have HBR10 := Lib.hid (e10.heap HBR9'.out)
        have HB10 := Lib.hid (e10.heap HB9.out)
        have HSz : Hid ((TL.zero 0 0).cs.size = (TL.err Tg C).cs.size) := Lib.hid rfl
        have HUe := Lib.hid (TL.one (TL.err Tg C))
        have HGe := Lib.hid (setRow_heap w10 w.heap.size _ (TL.err Tg C).cs _ _ HBR10.out)
        have EE := Lib.hid (below_setRow (E9'.out.trans e10) (Nat.le_refl _) (TL.err Tg C).cs)
        clear q1 q2 e10 HQ9
        go_wp2_with (first | (with_reducible refine wpList_load_row rfl 29 (.tmp 6) rfl tb rfl _ _ _ _ HB10.out Try.underlying29 rfl HIe.out ?_) | (with_reducible refine wpList_store_row rfl 29 (.tmp 2) (.tmp 92) rfl w.heap.size _ rfl rfl _ _ HBR10.out HIe.out HSz.out HUe.out ?_) | fail)
        refine bodyPost_ret (results_cell_row2 rfl _ _ w.heap.size _ _ (0, 0) _ rfl HGe.out Try.underlying29 rfl HIe.out) rfl ?_
        exact ⟨rfl, EE.out⟩
end Go.Proofs.Ytihiclnbbpablaa
