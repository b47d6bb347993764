/-
  Layer 18: what a type has of a reply, by the document.
-/
import Derived.Test.YtihiclnbbpablaaTelL
import Derived.Test.YtihiclnbbpablaaOn2
namespace Go.Proofs.Ytihiclnbbpablaa
open Go Go.RowKit
set_option linter.unusedVariables false
set_option linter.unusedSimpArgs false
def sv (t : TL) : Array Value := #[.bool t.s.1, .int .i64 t.s.2.1, .int .i64 t.s.2.2, .int .i64 t.sm, .int .i64 t.sz, .string ⟨t.sn.toArray⟩]
theorem stat_info (t : TL) : (Try.prog.info? 27).map (·.size) = some (sv t).size := by
  have h : (Try.prog.info? 27).map (·.size) = some 6 := by kernel_rfl
  rw [h]; rfl
theorem sv_one (t : TL) : (sv t).all (·.oneCell') = true := by simp [sv, Value.oneCell']
theorem wpList_store_sub {P : Program} {w : World} {ops : Array Oper} {rest : List Oper} {o : Oper} {a : Act} {Q : Exit → Act → World → Prop} (hgd : o.guard = none) (ty : TypeId) (x y : Operand) (ho : o.op = .store ty x y)
    (g off : Nat) (vs cur new : Array Value) (hx : a.eval x = .pointer (some ⟨g, off, none⟩)) (hy : a.eval y = .agg vs)
    (t : TypeId) (hg : w.heap[g]? = some (.cells cur t (0, 0))) (hi : (P.info? ty).map (·.size) = some vs.size)
    (hl : off + vs.size ≤ cur.size) (h1 : vs.all (·.oneCell') = true) (hn : (cur.toList.take off ++ vs.toList ++ cur.toList.drop (off + vs.size)).toArray = new)
    (h : wpList P ops Q rest (a.put o.dst undef) (w.setRow g new)) : wpList P ops Q (o :: rest) a w := by
  refine wpList_plain hgd fun K hK => ?_
  have hv := exec_store_sub (P := P) (w := w) (o := o) (a := a) ty x y ho g off vs cur new hx hy t hg hi hl h1 hn
  unfold Oper.wp
  rw [hv]
  exact hK _ _ h
theorem on2_row (w : World) (g : Nat) (cs : Array Value) : On2 g g w (w.setRow g cs) := ⟨rfl, rfl, rfl, by simp [World.setRow], fun k hk h1 _ => setRow_other _ _ _ _ h1⟩
def ownT (t : TL) : TL := ⟨t.ty, t.tg, if hasB (fld t.ty) 101 then t.cd else 0, if hasB (fld t.ty) 122 then t.ms else 0, if hasB (fld t.ty) 105 then t.io else 0, if hasB (fld t.ty) 99 then t.ct else 0, if hasB (fld t.ty) 122 then t.nm else [], if hasB (fld t.ty) 113 then t.q else (false, 0, 0), if hasB (fld t.ty) 108 then t.qA else none, if hasB (fld t.ty) 108 then t.qn else 0, if hasB (fld t.ty) 108 then t.qk else 0, if hasB (fld t.ty) 108 then t.ql else [], if hasB (fld t.ty) 100 then t.dA else none, if hasB (fld t.ty) 100 then t.dn else 0, if hasB (fld t.ty) 100 then t.dk else 0, if hasB (fld t.ty) 100 then t.dl else [], if hasB (fld t.ty) 115 then t.s else (false, 0, 0), if hasB (fld t.ty) 115 then t.sm else 0, if hasB (fld t.ty) 115 then t.sz else 0, if hasB (fld t.ty) 115 then t.sn else []⟩
set_option maxRecDepth 20000 in
set_option maxHeartbeats 4000000 in
theorem own_none (t : TL) (w : World) (hf : fld t.ty = []) : Calls Try.prog 31 #[.agg t.cs] w fun e w' => e = .returned (.agg (ownT t).cs) ∧ Ext w w' := by
  have HF := Lib.hid hf
  obtain ⟨w2, hw2⟩ : ∃ w2, (w.alloc (.cells t.cs 29)).alloc (.cells #[.int .i64 0, .int .i64 0, .int .i64 0, .int .i64 0, .int .i64 0, .int .i64 0, .string ⟨#[]⟩, .bool false, .int .i64 0, .int .i64 0, .slice none 0 0, .slice none 0 0, .bool false, .int .i64 0, .int .i64 0, .int .i64 0, .int .i64 0, .string ⟨#[]⟩] 29) = w2 := ⟨_, rfl⟩
  have e2 : Ext w w2 := by rw [← hw2]; exact ((Ext.refl w).alloc _).alloc _
  have hb : w2.heap[w.heap.size]? = some (.cells t.cs 29 (0, 0)) := by rw [← hw2]; exact ((Ext.refl _).alloc _).heap (heap_alloc_new w _)
  have hz : w2.heap[w.heap.size + 1]? = some (.cells #[.int .i64 0, .int .i64 0, .int .i64 0, .int .i64 0, .int .i64 0, .int .i64 0, .string ⟨#[]⟩, .bool false, .int .i64 0, .int .i64 0, .slice none 0 0, .slice none 0 0, .bool false, .int .i64 0, .int .i64 0, .int .i64 0, .int .i64 0, .string ⟨#[]⟩] 29 (0, 0)) := by rw [← hw2]; exact heap_alloc2_new w _ _
  obtain ⟨ab, hab⟩ : ∃ ab, w.heap.size = ab := ⟨_, rfl⟩
  obtain ⟨xb, hxb⟩ : ∃ xb, w2.heap.size = xb := ⟨_, rfl⟩
  rw [hab] at hb hz
  have hlt : ab + 1 < xb := by rw [← hxb]; exact (Array.getElem?_eq_some_iff.1 hz).1
  have c0 : w2.cell? ⟨ab, 0, none⟩ = some (.int .i64 t.ty) := (cell_of_row w2 ab 0 _ _ _ hb).trans rfl
  have c1 : w2.cell? ⟨ab, 1, none⟩ = some (.int .i64 t.tg) := (cell_of_row w2 ab 1 _ _ _ hb).trans rfl
  have HZ0 : Hid ((w2.alloc (.cells #[.int .i64 0, .int .i64 0, .int .i64 0, .int .i64 0, .int .i64 0, .int .i64 0, .string ⟨#[]⟩, .bool false, .int .i64 0, .int .i64 0, .slice none 0 0, .slice none 0 0, .bool false, .int .i64 0, .int .i64 0, .int .i64 0, .int .i64 0, .string ⟨#[]⟩] 29)).heap[xb]? = some (.cells #[.int .i64 0, .int .i64 0, .int .i64 0, .int .i64 0, .int .i64 0, .int .i64 0, .string ⟨#[]⟩, .bool false, .int .i64 0, .int .i64 0, .slice none 0 0, .slice none 0 0, .bool false, .int .i64 0, .int .i64 0, .int .i64 0, .int .i64 0, .string ⟨#[]⟩] 29 (0, 0))) := Lib.hid (by rw [← hxb]; exact heap_alloc_new w2 _)
  have HI := Lib.hid (tl_info (TL.zero t.ty t.tg))
  have HS : Hid ((#[.int .i64 0, .int .i64 0, .int .i64 0, .int .i64 0, .int .i64 0, .int .i64 0, .string ⟨#[]⟩, .bool false, .int .i64 0, .int .i64 0, .slice none 0 0, .slice none 0 0, .bool false, .int .i64 0, .int .i64 0, .int .i64 0, .int .i64 0, .string ⟨#[]⟩] : Array Value).size = (TL.zero t.ty t.tg).cs.size) := Lib.hid rfl
  have HU := Lib.hid (TL.one (TL.zero t.ty t.tg))
  have E3 : Hid (Ext w2 ((w2.alloc (.cells #[.int .i64 0, .int .i64 0, .int .i64 0, .int .i64 0, .int .i64 0, .int .i64 0, .string ⟨#[]⟩, .bool false, .int .i64 0, .int .i64 0, .slice none 0 0, .slice none 0 0, .bool false, .int .i64 0, .int .i64 0, .int .i64 0, .int .i64 0, .string ⟨#[]⟩] 29)).setRow xb (TL.zero t.ty t.tg).cs)) := Lib.hid (below_setRow ((Ext.refl w2).alloc _) (Nat.le_of_eq hxb) _)
  have HX3 := Lib.hid (setRow_heap _ xb _ (TL.zero t.ty t.tg).cs _ _ HZ0.out)
  have HB3 := Lib.hid (E3.out.heap hb)
  have HZ3 := Lib.hid (E3.out.heap hz)
  have E2 := Lib.hid e2
  clear hb hz e2 hf
  go_enter Try.func31, Try.ntmps31
  go_wp2_with (first | (with_reducible refine wpList_store_row rfl 29 (.tmp 4) (.tmp 10) rfl xb _ rfl rfl _ _ HZ0.out HI.out HS.out HU.out ?_) | fail)
  refine (has18 t.ty 122 _).mono ?_
  rintro e w4 ⟨rfl, e4⟩
  rw [HF.out, show hasB [] 122 = false from by decide]
  have HB0a := Lib.hid (e4.heap HB3.out)
  have HZ0a := Lib.hid (e4.heap HZ3.out)
  have HX0a := Lib.hid (e4.heap HX3.out)
  have HE0a : Hid (Ext w w4) := Lib.hid ((E2.out.trans E3.out).trans e4)
  clear e4
  go_wp2_with (first | fail)
  refine (has18 t.ty 113 _).mono ?_
  rintro e w5 ⟨rfl, e5⟩
  rw [HF.out, show hasB [] 113 = false from by decide]
  have HB1a := Lib.hid (e5.heap HB0a.out)
  have HZ1a := Lib.hid (e5.heap HZ0a.out)
  have HX1a := Lib.hid (e5.heap HX0a.out)
  have HE1a : Hid (Ext w w5) := Lib.hid (HE0a.out.trans e5)
  clear e5
  go_wp2_with (first | fail)
  refine (has18 t.ty 101 _).mono ?_
  rintro e w6 ⟨rfl, e6⟩
  rw [HF.out, show hasB [] 101 = false from by decide]
  have HB2a := Lib.hid (e6.heap HB1a.out)
  have HZ2a := Lib.hid (e6.heap HZ1a.out)
  have HX2a := Lib.hid (e6.heap HX1a.out)
  have HE2a : Hid (Ext w w6) := Lib.hid (HE1a.out.trans e6)
  clear e6
  go_wp2_with (first | fail)
  refine (has18 t.ty 108 _).mono ?_
  rintro e w7 ⟨rfl, e7⟩
  rw [HF.out, show hasB [] 108 = false from by decide]
  have HB3a := Lib.hid (e7.heap HB2a.out)
  have HZ3a := Lib.hid (e7.heap HZ2a.out)
  have HX3a := Lib.hid (e7.heap HX2a.out)
  have HE3a : Hid (Ext w w7) := Lib.hid (HE2a.out.trans e7)
  clear e7
  go_wp2_with (first | fail)
  refine (has18 t.ty 105 _).mono ?_
  rintro e w8 ⟨rfl, e8⟩
  rw [HF.out, show hasB [] 105 = false from by decide]
  have HB4a := Lib.hid (e8.heap HB3a.out)
  have HZ4a := Lib.hid (e8.heap HZ3a.out)
  have HX4a := Lib.hid (e8.heap HX3a.out)
  have HE4a : Hid (Ext w w8) := Lib.hid (HE3a.out.trans e8)
  clear e8
  go_wp2_with (first | fail)
  refine (has18 t.ty 100 _).mono ?_
  rintro e w9 ⟨rfl, e9⟩
  rw [HF.out, show hasB [] 100 = false from by decide]
  have HB5a := Lib.hid (e9.heap HB4a.out)
  have HZ5a := Lib.hid (e9.heap HZ4a.out)
  have HX5a := Lib.hid (e9.heap HX4a.out)
  have HE5a : Hid (Ext w w9) := Lib.hid (HE4a.out.trans e9)
  clear e9
  go_wp2_with (first | fail)
  refine (has18 t.ty 99 _).mono ?_
  rintro e w10 ⟨rfl, e10⟩
  rw [HF.out, show hasB [] 99 = false from by decide]
  have HB6a := Lib.hid (e10.heap HB5a.out)
  have HZ6a := Lib.hid (e10.heap HZ5a.out)
  have HX6a := Lib.hid (e10.heap HX5a.out)
  have HE6a : Hid (Ext w w10) := Lib.hid (HE5a.out.trans e10)
  clear e10
  go_wp2_with (first | fail)
  refine (has18 t.ty 115 _).mono ?_
  rintro e w11 ⟨rfl, e11⟩
  rw [HF.out, show hasB [] 115 = false from by decide]
  have HB7a := Lib.hid (e11.heap HB6a.out)
  have HZ7a := Lib.hid (e11.heap HZ6a.out)
  have HX7a := Lib.hid (e11.heap HX6a.out)
  have HE7a : Hid (Ext w w11) := Lib.hid (HE6a.out.trans e11)
  clear e11
  have HIc := Lib.hid (tl_info (TL.zero t.ty t.tg))
  have HSc : Hid ((#[.int .i64 0, .int .i64 0, .int .i64 0, .int .i64 0, .int .i64 0, .int .i64 0, .string ⟨#[]⟩, .bool false, .int .i64 0, .int .i64 0, .slice none 0 0, .slice none 0 0, .bool false, .int .i64 0, .int .i64 0, .int .i64 0, .int .i64 0, .string ⟨#[]⟩] : Array Value).size = (TL.cs (TL.zero t.ty t.tg)).size) := Lib.hid rfl
  have HUc := Lib.hid (TL.one (TL.zero t.ty t.tg))
  have HG := Lib.hid (setRow_heap w11 (ab + 1) _ (TL.cs (TL.zero t.ty t.tg)) _ _ HZ7a.out)
  have EG := Lib.hid (below_setRow HE7a.out (by omega : w.heap.size ≤ ab + 1) (TL.cs (TL.zero t.ty t.tg)))
  go_wp2_with (first | (with_reducible refine wpList_load_row rfl 29 (.tmp 4) rfl xb rfl _ _ _ _ HX7a.out Try.underlying29 rfl HIc.out ?_) | (with_reducible refine wpList_store_row rfl 29 (.tmp 2) (.tmp 54) rfl (ab + 1) _ rfl rfl _ _ HZ7a.out HIc.out HSc.out HUc.out ?_) | fail)
  refine bodyPost_ret (results_cell_row rfl _ _ (ab + 1) _ _ (0, 0) _ rfl HG.out Try.underlying29 rfl HIc.out) rfl ?_
  have ho : ownT t = (TL.zero t.ty t.tg) := by
    unfold ownT
    rw [HF.out]
    rfl
  rw [ho]
  exact ⟨rfl, EG.out⟩
set_option maxRecDepth 20000 in
set_option maxHeartbeats 4000000 in
theorem own_zn (t : TL) (w : World) (hf : fld t.ty = [122, 110]) : Calls Try.prog 31 #[.agg t.cs] w fun e w' => e = .returned (.agg (ownT t).cs) ∧ Ext w w' := by
  have HF := Lib.hid hf
  obtain ⟨w2, hw2⟩ : ∃ w2, (w.alloc (.cells t.cs 29)).alloc (.cells #[.int .i64 0, .int .i64 0, .int .i64 0, .int .i64 0, .int .i64 0, .int .i64 0, .string ⟨#[]⟩, .bool false, .int .i64 0, .int .i64 0, .slice none 0 0, .slice none 0 0, .bool false, .int .i64 0, .int .i64 0, .int .i64 0, .int .i64 0, .string ⟨#[]⟩] 29) = w2 := ⟨_, rfl⟩
  have e2 : Ext w w2 := by rw [← hw2]; exact ((Ext.refl w).alloc _).alloc _
  have hb : w2.heap[w.heap.size]? = some (.cells t.cs 29 (0, 0)) := by rw [← hw2]; exact ((Ext.refl _).alloc _).heap (heap_alloc_new w _)
  have hz : w2.heap[w.heap.size + 1]? = some (.cells #[.int .i64 0, .int .i64 0, .int .i64 0, .int .i64 0, .int .i64 0, .int .i64 0, .string ⟨#[]⟩, .bool false, .int .i64 0, .int .i64 0, .slice none 0 0, .slice none 0 0, .bool false, .int .i64 0, .int .i64 0, .int .i64 0, .int .i64 0, .string ⟨#[]⟩] 29 (0, 0)) := by rw [← hw2]; exact heap_alloc2_new w _ _
  obtain ⟨ab, hab⟩ : ∃ ab, w.heap.size = ab := ⟨_, rfl⟩
  obtain ⟨xb, hxb⟩ : ∃ xb, w2.heap.size = xb := ⟨_, rfl⟩
  rw [hab] at hb hz
  have hlt : ab + 1 < xb := by rw [← hxb]; exact (Array.getElem?_eq_some_iff.1 hz).1
  have c0 : w2.cell? ⟨ab, 0, none⟩ = some (.int .i64 t.ty) := (cell_of_row w2 ab 0 _ _ _ hb).trans rfl
  have c1 : w2.cell? ⟨ab, 1, none⟩ = some (.int .i64 t.tg) := (cell_of_row w2 ab 1 _ _ _ hb).trans rfl
  have HZ0 : Hid ((w2.alloc (.cells #[.int .i64 0, .int .i64 0, .int .i64 0, .int .i64 0, .int .i64 0, .int .i64 0, .string ⟨#[]⟩, .bool false, .int .i64 0, .int .i64 0, .slice none 0 0, .slice none 0 0, .bool false, .int .i64 0, .int .i64 0, .int .i64 0, .int .i64 0, .string ⟨#[]⟩] 29)).heap[xb]? = some (.cells #[.int .i64 0, .int .i64 0, .int .i64 0, .int .i64 0, .int .i64 0, .int .i64 0, .string ⟨#[]⟩, .bool false, .int .i64 0, .int .i64 0, .slice none 0 0, .slice none 0 0, .bool false, .int .i64 0, .int .i64 0, .int .i64 0, .int .i64 0, .string ⟨#[]⟩] 29 (0, 0))) := Lib.hid (by rw [← hxb]; exact heap_alloc_new w2 _)
  have HI := Lib.hid (tl_info (TL.zero t.ty t.tg))
  have HS : Hid ((#[.int .i64 0, .int .i64 0, .int .i64 0, .int .i64 0, .int .i64 0, .int .i64 0, .string ⟨#[]⟩, .bool false, .int .i64 0, .int .i64 0, .slice none 0 0, .slice none 0 0, .bool false, .int .i64 0, .int .i64 0, .int .i64 0, .int .i64 0, .string ⟨#[]⟩] : Array Value).size = (TL.zero t.ty t.tg).cs.size) := Lib.hid rfl
  have HU := Lib.hid (TL.one (TL.zero t.ty t.tg))
  have E3 : Hid (Ext w2 ((w2.alloc (.cells #[.int .i64 0, .int .i64 0, .int .i64 0, .int .i64 0, .int .i64 0, .int .i64 0, .string ⟨#[]⟩, .bool false, .int .i64 0, .int .i64 0, .slice none 0 0, .slice none 0 0, .bool false, .int .i64 0, .int .i64 0, .int .i64 0, .int .i64 0, .string ⟨#[]⟩] 29)).setRow xb (TL.zero t.ty t.tg).cs)) := Lib.hid (below_setRow ((Ext.refl w2).alloc _) (Nat.le_of_eq hxb) _)
  have HX3 := Lib.hid (setRow_heap _ xb _ (TL.zero t.ty t.tg).cs _ _ HZ0.out)
  have HB3 := Lib.hid (E3.out.heap hb)
  have HZ3 := Lib.hid (E3.out.heap hz)
  have E2 := Lib.hid e2
  clear hb hz e2 hf
  go_enter Try.func31, Try.ntmps31
  go_wp2_with (first | (with_reducible refine wpList_store_row rfl 29 (.tmp 4) (.tmp 10) rfl xb _ rfl rfl _ _ HZ0.out HI.out HS.out HU.out ?_) | fail)
  refine (has18 t.ty 122 _).mono ?_
  rintro e w4 ⟨rfl, e4⟩
  rw [HF.out, show hasB [122, 110] 122 = true from by decide]
  have HB0a := Lib.hid (e4.heap HB3.out)
  have HZ0a := Lib.hid (e4.heap HZ3.out)
  have HX0a := Lib.hid (e4.heap HX3.out)
  have HE0a : Hid (Ext w w4) := Lib.hid ((E2.out.trans E3.out).trans e4)
  clear e4
  have y0b : w4.cell? ⟨ab, 3, none⟩ = some (.int .i64 t.ms) := (cell_of_row _ ab 3 _ _ _ HB0a.out).trans rfl
  obtain ⟨o0b, z0b⟩ : ∃ o, w4.cell? ⟨xb, 3, none⟩ = some o := ⟨_, (cell_of_row _ xb 3 _ _ _ HX0a.out).trans rfl⟩
  have fr0b := blk_freeC HX0a.out 3
  have HO0b : Hid (On2 xb xb w4 (w4.setCell ⟨xb, 3, none⟩ (.int .i64 t.ms))) := Lib.hid (On2.set _ _ _ (.inl rfl))
  have HB0b := Lib.hid (HO0b.out.heap HB0a.out (by omega) (by omega))
  have HZ0b := Lib.hid (HO0b.out.heap HZ0a.out (by omega) (by omega))
  have HX0b : Hid ((w4.setCell ⟨xb, 3, none⟩ (.int .i64 t.ms)).heap[xb]? = some (.cells (TL.cs ({ (TL.zero t.ty t.tg : TL) with ms := t.ms })) 29 (0, 0))) := Lib.hid (set_blkC HX0a.out 3 _)
  have HE0b : Hid (Ext w (w4.setCell ⟨xb, 3, none⟩ (.int .i64 t.ms))) := Lib.hid (HO0b.out.ext HE0a.out (by omega) (by omega))
  have y0c : (w4.setCell ⟨xb, 3, none⟩ (.int .i64 t.ms)).cell? ⟨ab, 6, none⟩ = some (.string ⟨t.nm.toArray⟩) := (cell_of_row _ ab 6 _ _ _ HB0b.out).trans rfl
  obtain ⟨o0c, z0c⟩ : ∃ o, (w4.setCell ⟨xb, 3, none⟩ (.int .i64 t.ms)).cell? ⟨xb, 6, none⟩ = some o := ⟨_, (cell_of_row _ xb 6 _ _ _ HX0b.out).trans rfl⟩
  have fr0c := blk_freeC HX0b.out 6
  have HO0c : Hid (On2 xb xb (w4.setCell ⟨xb, 3, none⟩ (.int .i64 t.ms)) ((w4.setCell ⟨xb, 3, none⟩ (.int .i64 t.ms)).setCell ⟨xb, 6, none⟩ (.string ⟨t.nm.toArray⟩))) := Lib.hid (On2.set _ _ _ (.inl rfl))
  have HB0c := Lib.hid (HO0c.out.heap HB0b.out (by omega) (by omega))
  have HZ0c := Lib.hid (HO0c.out.heap HZ0b.out (by omega) (by omega))
  have HX0c : Hid (((w4.setCell ⟨xb, 3, none⟩ (.int .i64 t.ms)).setCell ⟨xb, 6, none⟩ (.string ⟨t.nm.toArray⟩)).heap[xb]? = some (.cells (TL.cs ({ ({ (TL.zero t.ty t.tg : TL) with ms := t.ms } : TL) with nm := t.nm })) 29 (0, 0))) := Lib.hid (set_blkC HX0b.out 6 _)
  have HE0c : Hid (Ext w ((w4.setCell ⟨xb, 3, none⟩ (.int .i64 t.ms)).setCell ⟨xb, 6, none⟩ (.string ⟨t.nm.toArray⟩))) := Lib.hid (HO0c.out.ext HE0b.out (by omega) (by omega))
  go_wp2_with (first | fail)
  clear y0b z0b fr0b
  clear y0c z0c fr0c
  refine (has18 t.ty 113 _).mono ?_
  rintro e w5 ⟨rfl, e5⟩
  rw [HF.out, show hasB [122, 110] 113 = false from by decide]
  have HB1a := Lib.hid (e5.heap HB0c.out)
  have HZ1a := Lib.hid (e5.heap HZ0c.out)
  have HX1a := Lib.hid (e5.heap HX0c.out)
  have HE1a : Hid (Ext w w5) := Lib.hid (HE0c.out.trans e5)
  clear e5
  go_wp2_with (first | fail)
  refine (has18 t.ty 101 _).mono ?_
  rintro e w6 ⟨rfl, e6⟩
  rw [HF.out, show hasB [122, 110] 101 = false from by decide]
  have HB2a := Lib.hid (e6.heap HB1a.out)
  have HZ2a := Lib.hid (e6.heap HZ1a.out)
  have HX2a := Lib.hid (e6.heap HX1a.out)
  have HE2a : Hid (Ext w w6) := Lib.hid (HE1a.out.trans e6)
  clear e6
  go_wp2_with (first | fail)
  refine (has18 t.ty 108 _).mono ?_
  rintro e w7 ⟨rfl, e7⟩
  rw [HF.out, show hasB [122, 110] 108 = false from by decide]
  have HB3a := Lib.hid (e7.heap HB2a.out)
  have HZ3a := Lib.hid (e7.heap HZ2a.out)
  have HX3a := Lib.hid (e7.heap HX2a.out)
  have HE3a : Hid (Ext w w7) := Lib.hid (HE2a.out.trans e7)
  clear e7
  go_wp2_with (first | fail)
  refine (has18 t.ty 105 _).mono ?_
  rintro e w8 ⟨rfl, e8⟩
  rw [HF.out, show hasB [122, 110] 105 = false from by decide]
  have HB4a := Lib.hid (e8.heap HB3a.out)
  have HZ4a := Lib.hid (e8.heap HZ3a.out)
  have HX4a := Lib.hid (e8.heap HX3a.out)
  have HE4a : Hid (Ext w w8) := Lib.hid (HE3a.out.trans e8)
  clear e8
  go_wp2_with (first | fail)
  refine (has18 t.ty 100 _).mono ?_
  rintro e w9 ⟨rfl, e9⟩
  rw [HF.out, show hasB [122, 110] 100 = false from by decide]
  have HB5a := Lib.hid (e9.heap HB4a.out)
  have HZ5a := Lib.hid (e9.heap HZ4a.out)
  have HX5a := Lib.hid (e9.heap HX4a.out)
  have HE5a : Hid (Ext w w9) := Lib.hid (HE4a.out.trans e9)
  clear e9
  go_wp2_with (first | fail)
  refine (has18 t.ty 99 _).mono ?_
  rintro e w10 ⟨rfl, e10⟩
  rw [HF.out, show hasB [122, 110] 99 = false from by decide]
  have HB6a := Lib.hid (e10.heap HB5a.out)
  have HZ6a := Lib.hid (e10.heap HZ5a.out)
  have HX6a := Lib.hid (e10.heap HX5a.out)
  have HE6a : Hid (Ext w w10) := Lib.hid (HE5a.out.trans e10)
  clear e10
  go_wp2_with (first | fail)
  refine (has18 t.ty 115 _).mono ?_
  rintro e w11 ⟨rfl, e11⟩
  rw [HF.out, show hasB [122, 110] 115 = false from by decide]
  have HB7a := Lib.hid (e11.heap HB6a.out)
  have HZ7a := Lib.hid (e11.heap HZ6a.out)
  have HX7a := Lib.hid (e11.heap HX6a.out)
  have HE7a : Hid (Ext w w11) := Lib.hid (HE6a.out.trans e11)
  clear e11
  have HIc := Lib.hid (tl_info ({ ({ (TL.zero t.ty t.tg : TL) with ms := t.ms } : TL) with nm := t.nm }))
  have HSc : Hid ((#[.int .i64 0, .int .i64 0, .int .i64 0, .int .i64 0, .int .i64 0, .int .i64 0, .string ⟨#[]⟩, .bool false, .int .i64 0, .int .i64 0, .slice none 0 0, .slice none 0 0, .bool false, .int .i64 0, .int .i64 0, .int .i64 0, .int .i64 0, .string ⟨#[]⟩] : Array Value).size = (TL.cs ({ ({ (TL.zero t.ty t.tg : TL) with ms := t.ms } : TL) with nm := t.nm })).size) := Lib.hid rfl
  have HUc := Lib.hid (TL.one ({ ({ (TL.zero t.ty t.tg : TL) with ms := t.ms } : TL) with nm := t.nm }))
  have HG := Lib.hid (setRow_heap w11 (ab + 1) _ (TL.cs ({ ({ (TL.zero t.ty t.tg : TL) with ms := t.ms } : TL) with nm := t.nm })) _ _ HZ7a.out)
  have EG := Lib.hid (below_setRow HE7a.out (by omega : w.heap.size ≤ ab + 1) (TL.cs ({ ({ (TL.zero t.ty t.tg : TL) with ms := t.ms } : TL) with nm := t.nm })))
  go_wp2_with (first | (with_reducible refine wpList_load_row rfl 29 (.tmp 4) rfl xb rfl _ _ _ _ HX7a.out Try.underlying29 rfl HIc.out ?_) | (with_reducible refine wpList_store_row rfl 29 (.tmp 2) (.tmp 54) rfl (ab + 1) _ rfl rfl _ _ HZ7a.out HIc.out HSc.out HUc.out ?_) | fail)
  refine bodyPost_ret (results_cell_row rfl _ _ (ab + 1) _ _ (0, 0) _ rfl HG.out Try.underlying29 rfl HIc.out) rfl ?_
  have ho : ownT t = ({ ({ (TL.zero t.ty t.tg : TL) with ms := t.ms } : TL) with nm := t.nm }) := by
    unfold ownT
    rw [HF.out]
    rfl
  rw [ho]
  exact ⟨rfl, EG.out⟩
set_option maxRecDepth 20000 in
set_option maxHeartbeats 4000000 in
theorem own_q (t : TL) (w : World) (hf : fld t.ty = [113]) : Calls Try.prog 31 #[.agg t.cs] w fun e w' => e = .returned (.agg (ownT t).cs) ∧ Ext w w' := by
  have HF := Lib.hid hf
  obtain ⟨w2, hw2⟩ : ∃ w2, (w.alloc (.cells t.cs 29)).alloc (.cells #[.int .i64 0, .int .i64 0, .int .i64 0, .int .i64 0, .int .i64 0, .int .i64 0, .string ⟨#[]⟩, .bool false, .int .i64 0, .int .i64 0, .slice none 0 0, .slice none 0 0, .bool false, .int .i64 0, .int .i64 0, .int .i64 0, .int .i64 0, .string ⟨#[]⟩] 29) = w2 := ⟨_, rfl⟩
  have e2 : Ext w w2 := by rw [← hw2]; exact ((Ext.refl w).alloc _).alloc _
  have hb : w2.heap[w.heap.size]? = some (.cells t.cs 29 (0, 0)) := by rw [← hw2]; exact ((Ext.refl _).alloc _).heap (heap_alloc_new w _)
  have hz : w2.heap[w.heap.size + 1]? = some (.cells #[.int .i64 0, .int .i64 0, .int .i64 0, .int .i64 0, .int .i64 0, .int .i64 0, .string ⟨#[]⟩, .bool false, .int .i64 0, .int .i64 0, .slice none 0 0, .slice none 0 0, .bool false, .int .i64 0, .int .i64 0, .int .i64 0, .int .i64 0, .string ⟨#[]⟩] 29 (0, 0)) := by rw [← hw2]; exact heap_alloc2_new w _ _
  obtain ⟨ab, hab⟩ : ∃ ab, w.heap.size = ab := ⟨_, rfl⟩
  obtain ⟨xb, hxb⟩ : ∃ xb, w2.heap.size = xb := ⟨_, rfl⟩
  rw [hab] at hb hz
  have hlt : ab + 1 < xb := by rw [← hxb]; exact (Array.getElem?_eq_some_iff.1 hz).1
  have c0 : w2.cell? ⟨ab, 0, none⟩ = some (.int .i64 t.ty) := (cell_of_row w2 ab 0 _ _ _ hb).trans rfl
  have c1 : w2.cell? ⟨ab, 1, none⟩ = some (.int .i64 t.tg) := (cell_of_row w2 ab 1 _ _ _ hb).trans rfl
  have HZ0 : Hid ((w2.alloc (.cells #[.int .i64 0, .int .i64 0, .int .i64 0, .int .i64 0, .int .i64 0, .int .i64 0, .string ⟨#[]⟩, .bool false, .int .i64 0, .int .i64 0, .slice none 0 0, .slice none 0 0, .bool false, .int .i64 0, .int .i64 0, .int .i64 0, .int .i64 0, .string ⟨#[]⟩] 29)).heap[xb]? = some (.cells #[.int .i64 0, .int .i64 0, .int .i64 0, .int .i64 0, .int .i64 0, .int .i64 0, .string ⟨#[]⟩, .bool false, .int .i64 0, .int .i64 0, .slice none 0 0, .slice none 0 0, .bool false, .int .i64 0, .int .i64 0, .int .i64 0, .int .i64 0, .string ⟨#[]⟩] 29 (0, 0))) := Lib.hid (by rw [← hxb]; exact heap_alloc_new w2 _)
  have HI := Lib.hid (tl_info (TL.zero t.ty t.tg))
  have HS : Hid ((#[.int .i64 0, .int .i64 0, .int .i64 0, .int .i64 0, .int .i64 0, .int .i64 0, .string ⟨#[]⟩, .bool false, .int .i64 0, .int .i64 0, .slice none 0 0, .slice none 0 0, .bool false, .int .i64 0, .int .i64 0, .int .i64 0, .int .i64 0, .string ⟨#[]⟩] : Array Value).size = (TL.zero t.ty t.tg).cs.size) := Lib.hid rfl
  have HU := Lib.hid (TL.one (TL.zero t.ty t.tg))
  have E3 : Hid (Ext w2 ((w2.alloc (.cells #[.int .i64 0, .int .i64 0, .int .i64 0, .int .i64 0, .int .i64 0, .int .i64 0, .string ⟨#[]⟩, .bool false, .int .i64 0, .int .i64 0, .slice none 0 0, .slice none 0 0, .bool false, .int .i64 0, .int .i64 0, .int .i64 0, .int .i64 0, .string ⟨#[]⟩] 29)).setRow xb (TL.zero t.ty t.tg).cs)) := Lib.hid (below_setRow ((Ext.refl w2).alloc _) (Nat.le_of_eq hxb) _)
  have HX3 := Lib.hid (setRow_heap _ xb _ (TL.zero t.ty t.tg).cs _ _ HZ0.out)
  have HB3 := Lib.hid (E3.out.heap hb)
  have HZ3 := Lib.hid (E3.out.heap hz)
  have E2 := Lib.hid e2
  clear hb hz e2 hf
  go_enter Try.func31, Try.ntmps31
  go_wp2_with (first | (with_reducible refine wpList_store_row rfl 29 (.tmp 4) (.tmp 10) rfl xb _ rfl rfl _ _ HZ0.out HI.out HS.out HU.out ?_) | fail)
  refine (has18 t.ty 122 _).mono ?_
  rintro e w4 ⟨rfl, e4⟩
  rw [HF.out, show hasB [113] 122 = false from by decide]
  have HB0a := Lib.hid (e4.heap HB3.out)
  have HZ0a := Lib.hid (e4.heap HZ3.out)
  have HX0a := Lib.hid (e4.heap HX3.out)
  have HE0a : Hid (Ext w w4) := Lib.hid ((E2.out.trans E3.out).trans e4)
  clear e4
  go_wp2_with (first | fail)
  refine (has18 t.ty 113 _).mono ?_
  rintro e w5 ⟨rfl, e5⟩
  rw [HF.out, show hasB [113] 113 = true from by decide]
  have HB1a := Lib.hid (e5.heap HB0a.out)
  have HZ1a := Lib.hid (e5.heap HZ0a.out)
  have HX1a := Lib.hid (e5.heap HX0a.out)
  have HE1a : Hid (Ext w w5) := Lib.hid (HE0a.out.trans e5)
  clear e5
  have HSL1b : Hid (7 + ((qv t.q) : Array Value).size ≤ (TL.cs (TL.zero t.ty t.tg)).size) := Lib.hid (by show 7 + 3 ≤ 18; omega)
  have HNN1b : Hid (((TL.cs (TL.zero t.ty t.tg)).toList.take 7 ++ ((qv t.q) : Array Value).toList ++ (TL.cs (TL.zero t.ty t.tg)).toList.drop (7 + ((qv t.q) : Array Value).size)).toArray = TL.cs ({ (TL.zero t.ty t.tg : TL) with q := t.q })) := Lib.hid rfl
  have HL1b : Hid (∀ j v, (qv t.q)[j]? = some v → t.cs[7 + j]? = some v) := Lib.hid (fun j v h => by
    have hj : j < 3 := (Array.getElem?_eq_some_iff.1 h).1
    match j, hj with
    | 0, _ => exact h
    | 1, _ => exact h
    | 2, _ => exact h
    | n + 3, h9 => omega)
  have HO1b : Hid (On2 xb xb w5 (w5.setRow xb (TL.cs ({ (TL.zero t.ty t.tg : TL) with q := t.q })))) := Lib.hid (on2_row _ _ _)
  have HB1b := Lib.hid (HO1b.out.heap HB1a.out (by omega) (by omega))
  have HZ1b := Lib.hid (HO1b.out.heap HZ1a.out (by omega) (by omega))
  have HX1b : Hid ((w5.setRow xb (TL.cs ({ (TL.zero t.ty t.tg : TL) with q := t.q }))).heap[xb]? = some (.cells (TL.cs ({ (TL.zero t.ty t.tg : TL) with q := t.q })) 29 (0, 0))) := Lib.hid (setRow_heap _ xb _ _ _ _ HX1a.out)
  have HE1b : Hid (Ext w (w5.setRow xb (TL.cs ({ (TL.zero t.ty t.tg : TL) with q := t.q })))) := Lib.hid (HO1b.out.ext HE1a.out (by omega) (by omega))
  go_wp2_with (first | (with_reducible refine wpList_load_sub rfl 23 (.tmp 21) rfl ab 7 rfl 29 _ _ _ _ HB1a.out HL1b.out Try.underlying23 rfl (qid_info t.q) ?_) | (with_reducible refine wpList_store_sub rfl 23 (.tmp 23) (.tmp 22) rfl xb 7 _ _ _ rfl rfl 29 HX1a.out (qid_info t.q) HSL1b.out (qv_one t.q) HNN1b.out ?_) | fail)
  refine (has18 t.ty 101 _).mono ?_
  rintro e w6 ⟨rfl, e6⟩
  rw [HF.out, show hasB [113] 101 = false from by decide]
  have HB2a := Lib.hid (e6.heap HB1b.out)
  have HZ2a := Lib.hid (e6.heap HZ1b.out)
  have HX2a := Lib.hid (e6.heap HX1b.out)
  have HE2a : Hid (Ext w w6) := Lib.hid (HE1b.out.trans e6)
  clear e6
  go_wp2_with (first | fail)
  refine (has18 t.ty 108 _).mono ?_
  rintro e w7 ⟨rfl, e7⟩
  rw [HF.out, show hasB [113] 108 = false from by decide]
  have HB3a := Lib.hid (e7.heap HB2a.out)
  have HZ3a := Lib.hid (e7.heap HZ2a.out)
  have HX3a := Lib.hid (e7.heap HX2a.out)
  have HE3a : Hid (Ext w w7) := Lib.hid (HE2a.out.trans e7)
  clear e7
  go_wp2_with (first | fail)
  refine (has18 t.ty 105 _).mono ?_
  rintro e w8 ⟨rfl, e8⟩
  rw [HF.out, show hasB [113] 105 = false from by decide]
  have HB4a := Lib.hid (e8.heap HB3a.out)
  have HZ4a := Lib.hid (e8.heap HZ3a.out)
  have HX4a := Lib.hid (e8.heap HX3a.out)
  have HE4a : Hid (Ext w w8) := Lib.hid (HE3a.out.trans e8)
  clear e8
  go_wp2_with (first | fail)
  refine (has18 t.ty 100 _).mono ?_
  rintro e w9 ⟨rfl, e9⟩
  rw [HF.out, show hasB [113] 100 = false from by decide]
  have HB5a := Lib.hid (e9.heap HB4a.out)
  have HZ5a := Lib.hid (e9.heap HZ4a.out)
  have HX5a := Lib.hid (e9.heap HX4a.out)
  have HE5a : Hid (Ext w w9) := Lib.hid (HE4a.out.trans e9)
  clear e9
  go_wp2_with (first | fail)
  refine (has18 t.ty 99 _).mono ?_
  rintro e w10 ⟨rfl, e10⟩
  rw [HF.out, show hasB [113] 99 = false from by decide]
  have HB6a := Lib.hid (e10.heap HB5a.out)
  have HZ6a := Lib.hid (e10.heap HZ5a.out)
  have HX6a := Lib.hid (e10.heap HX5a.out)
  have HE6a : Hid (Ext w w10) := Lib.hid (HE5a.out.trans e10)
  clear e10
  go_wp2_with (first | fail)
  refine (has18 t.ty 115 _).mono ?_
  rintro e w11 ⟨rfl, e11⟩
  rw [HF.out, show hasB [113] 115 = false from by decide]
  have HB7a := Lib.hid (e11.heap HB6a.out)
  have HZ7a := Lib.hid (e11.heap HZ6a.out)
  have HX7a := Lib.hid (e11.heap HX6a.out)
  have HE7a : Hid (Ext w w11) := Lib.hid (HE6a.out.trans e11)
  clear e11
  have HIc := Lib.hid (tl_info ({ (TL.zero t.ty t.tg : TL) with q := t.q }))
  have HSc : Hid ((#[.int .i64 0, .int .i64 0, .int .i64 0, .int .i64 0, .int .i64 0, .int .i64 0, .string ⟨#[]⟩, .bool false, .int .i64 0, .int .i64 0, .slice none 0 0, .slice none 0 0, .bool false, .int .i64 0, .int .i64 0, .int .i64 0, .int .i64 0, .string ⟨#[]⟩] : Array Value).size = (TL.cs ({ (TL.zero t.ty t.tg : TL) with q := t.q })).size) := Lib.hid rfl
  have HUc := Lib.hid (TL.one ({ (TL.zero t.ty t.tg : TL) with q := t.q }))
  have HG := Lib.hid (setRow_heap w11 (ab + 1) _ (TL.cs ({ (TL.zero t.ty t.tg : TL) with q := t.q })) _ _ HZ7a.out)
  have EG := Lib.hid (below_setRow HE7a.out (by omega : w.heap.size ≤ ab + 1) (TL.cs ({ (TL.zero t.ty t.tg : TL) with q := t.q })))
  go_wp2_with (first | (with_reducible refine wpList_load_row rfl 29 (.tmp 4) rfl xb rfl _ _ _ _ HX7a.out Try.underlying29 rfl HIc.out ?_) | (with_reducible refine wpList_store_row rfl 29 (.tmp 2) (.tmp 54) rfl (ab + 1) _ rfl rfl _ _ HZ7a.out HIc.out HSc.out HUc.out ?_) | fail)
  refine bodyPost_ret (results_cell_row rfl _ _ (ab + 1) _ _ (0, 0) _ rfl HG.out Try.underlying29 rfl HIc.out) rfl ?_
  have ho : ownT t = ({ (TL.zero t.ty t.tg : TL) with q := t.q }) := by
    unfold ownT
    rw [HF.out]
    rfl
  rw [ho]
  exact ⟨rfl, EG.out⟩
set_option maxRecDepth 20000 in
set_option maxHeartbeats 4000000 in
theorem own_e (t : TL) (w : World) (hf : fld t.ty = [101]) : Calls Try.prog 31 #[.agg t.cs] w fun e w' => e = .returned (.agg (ownT t).cs) ∧ Ext w w' := by
  have HF := Lib.hid hf
  obtain ⟨w2, hw2⟩ : ∃ w2, (w.alloc (.cells t.cs 29)).alloc (.cells #[.int .i64 0, .int .i64 0, .int .i64 0, .int .i64 0, .int .i64 0, .int .i64 0, .string ⟨#[]⟩, .bool false, .int .i64 0, .int .i64 0, .slice none 0 0, .slice none 0 0, .bool false, .int .i64 0, .int .i64 0, .int .i64 0, .int .i64 0, .string ⟨#[]⟩] 29) = w2 := ⟨_, rfl⟩
  have e2 : Ext w w2 := by rw [← hw2]; exact ((Ext.refl w).alloc _).alloc _
  have hb : w2.heap[w.heap.size]? = some (.cells t.cs 29 (0, 0)) := by rw [← hw2]; exact ((Ext.refl _).alloc _).heap (heap_alloc_new w _)
  have hz : w2.heap[w.heap.size + 1]? = some (.cells #[.int .i64 0, .int .i64 0, .int .i64 0, .int .i64 0, .int .i64 0, .int .i64 0, .string ⟨#[]⟩, .bool false, .int .i64 0, .int .i64 0, .slice none 0 0, .slice none 0 0, .bool false, .int .i64 0, .int .i64 0, .int .i64 0, .int .i64 0, .string ⟨#[]⟩] 29 (0, 0)) := by rw [← hw2]; exact heap_alloc2_new w _ _
  obtain ⟨ab, hab⟩ : ∃ ab, w.heap.size = ab := ⟨_, rfl⟩
  obtain ⟨xb, hxb⟩ : ∃ xb, w2.heap.size = xb := ⟨_, rfl⟩
  rw [hab] at hb hz
  have hlt : ab + 1 < xb := by rw [← hxb]; exact (Array.getElem?_eq_some_iff.1 hz).1
  have c0 : w2.cell? ⟨ab, 0, none⟩ = some (.int .i64 t.ty) := (cell_of_row w2 ab 0 _ _ _ hb).trans rfl
  have c1 : w2.cell? ⟨ab, 1, none⟩ = some (.int .i64 t.tg) := (cell_of_row w2 ab 1 _ _ _ hb).trans rfl
  have HZ0 : Hid ((w2.alloc (.cells #[.int .i64 0, .int .i64 0, .int .i64 0, .int .i64 0, .int .i64 0, .int .i64 0, .string ⟨#[]⟩, .bool false, .int .i64 0, .int .i64 0, .slice none 0 0, .slice none 0 0, .bool false, .int .i64 0, .int .i64 0, .int .i64 0, .int .i64 0, .string ⟨#[]⟩] 29)).heap[xb]? = some (.cells #[.int .i64 0, .int .i64 0, .int .i64 0, .int .i64 0, .int .i64 0, .int .i64 0, .string ⟨#[]⟩, .bool false, .int .i64 0, .int .i64 0, .slice none 0 0, .slice none 0 0, .bool false, .int .i64 0, .int .i64 0, .int .i64 0, .int .i64 0, .string ⟨#[]⟩] 29 (0, 0))) := Lib.hid (by rw [← hxb]; exact heap_alloc_new w2 _)
  have HI := Lib.hid (tl_info (TL.zero t.ty t.tg))
  have HS : Hid ((#[.int .i64 0, .int .i64 0, .int .i64 0, .int .i64 0, .int .i64 0, .int .i64 0, .string ⟨#[]⟩, .bool false, .int .i64 0, .int .i64 0, .slice none 0 0, .slice none 0 0, .bool false, .int .i64 0, .int .i64 0, .int .i64 0, .int .i64 0, .string ⟨#[]⟩] : Array Value).size = (TL.zero t.ty t.tg).cs.size) := Lib.hid rfl
  have HU := Lib.hid (TL.one (TL.zero t.ty t.tg))
  have E3 : Hid (Ext w2 ((w2.alloc (.cells #[.int .i64 0, .int .i64 0, .int .i64 0, .int .i64 0, .int .i64 0, .int .i64 0, .string ⟨#[]⟩, .bool false, .int .i64 0, .int .i64 0, .slice none 0 0, .slice none 0 0, .bool false, .int .i64 0, .int .i64 0, .int .i64 0, .int .i64 0, .string ⟨#[]⟩] 29)).setRow xb (TL.zero t.ty t.tg).cs)) := Lib.hid (below_setRow ((Ext.refl w2).alloc _) (Nat.le_of_eq hxb) _)
  have HX3 := Lib.hid (setRow_heap _ xb _ (TL.zero t.ty t.tg).cs _ _ HZ0.out)
  have HB3 := Lib.hid (E3.out.heap hb)
  have HZ3 := Lib.hid (E3.out.heap hz)
  have E2 := Lib.hid e2
  clear hb hz e2 hf
  go_enter Try.func31, Try.ntmps31
  go_wp2_with (first | (with_reducible refine wpList_store_row rfl 29 (.tmp 4) (.tmp 10) rfl xb _ rfl rfl _ _ HZ0.out HI.out HS.out HU.out ?_) | fail)
  refine (has18 t.ty 122 _).mono ?_
  rintro e w4 ⟨rfl, e4⟩
  rw [HF.out, show hasB [101] 122 = false from by decide]
  have HB0a := Lib.hid (e4.heap HB3.out)
  have HZ0a := Lib.hid (e4.heap HZ3.out)
  have HX0a := Lib.hid (e4.heap HX3.out)
  have HE0a : Hid (Ext w w4) := Lib.hid ((E2.out.trans E3.out).trans e4)
  clear e4
  go_wp2_with (first | fail)
  refine (has18 t.ty 113 _).mono ?_
  rintro e w5 ⟨rfl, e5⟩
  rw [HF.out, show hasB [101] 113 = false from by decide]
  have HB1a := Lib.hid (e5.heap HB0a.out)
  have HZ1a := Lib.hid (e5.heap HZ0a.out)
  have HX1a := Lib.hid (e5.heap HX0a.out)
  have HE1a : Hid (Ext w w5) := Lib.hid (HE0a.out.trans e5)
  clear e5
  go_wp2_with (first | fail)
  refine (has18 t.ty 101 _).mono ?_
  rintro e w6 ⟨rfl, e6⟩
  rw [HF.out, show hasB [101] 101 = true from by decide]
  have HB2a := Lib.hid (e6.heap HB1a.out)
  have HZ2a := Lib.hid (e6.heap HZ1a.out)
  have HX2a := Lib.hid (e6.heap HX1a.out)
  have HE2a : Hid (Ext w w6) := Lib.hid (HE1a.out.trans e6)
  clear e6
  have y2b : w6.cell? ⟨ab, 2, none⟩ = some (.int .i64 t.cd) := (cell_of_row _ ab 2 _ _ _ HB2a.out).trans rfl
  obtain ⟨o2b, z2b⟩ : ∃ o, w6.cell? ⟨xb, 2, none⟩ = some o := ⟨_, (cell_of_row _ xb 2 _ _ _ HX2a.out).trans rfl⟩
  have fr2b := blk_freeC HX2a.out 2
  have HO2b : Hid (On2 xb xb w6 (w6.setCell ⟨xb, 2, none⟩ (.int .i64 t.cd))) := Lib.hid (On2.set _ _ _ (.inl rfl))
  have HB2b := Lib.hid (HO2b.out.heap HB2a.out (by omega) (by omega))
  have HZ2b := Lib.hid (HO2b.out.heap HZ2a.out (by omega) (by omega))
  have HX2b : Hid ((w6.setCell ⟨xb, 2, none⟩ (.int .i64 t.cd)).heap[xb]? = some (.cells (TL.cs ({ (TL.zero t.ty t.tg : TL) with cd := t.cd })) 29 (0, 0))) := Lib.hid (set_blkC HX2a.out 2 _)
  have HE2b : Hid (Ext w (w6.setCell ⟨xb, 2, none⟩ (.int .i64 t.cd))) := Lib.hid (HO2b.out.ext HE2a.out (by omega) (by omega))
  go_wp2_with (first | fail)
  clear y2b z2b fr2b
  refine (has18 t.ty 108 _).mono ?_
  rintro e w7 ⟨rfl, e7⟩
  rw [HF.out, show hasB [101] 108 = false from by decide]
  have HB3a := Lib.hid (e7.heap HB2b.out)
  have HZ3a := Lib.hid (e7.heap HZ2b.out)
  have HX3a := Lib.hid (e7.heap HX2b.out)
  have HE3a : Hid (Ext w w7) := Lib.hid (HE2b.out.trans e7)
  clear e7
  go_wp2_with (first | fail)
  refine (has18 t.ty 105 _).mono ?_
  rintro e w8 ⟨rfl, e8⟩
  rw [HF.out, show hasB [101] 105 = false from by decide]
  have HB4a := Lib.hid (e8.heap HB3a.out)
  have HZ4a := Lib.hid (e8.heap HZ3a.out)
  have HX4a := Lib.hid (e8.heap HX3a.out)
  have HE4a : Hid (Ext w w8) := Lib.hid (HE3a.out.trans e8)
  clear e8
  go_wp2_with (first | fail)
  refine (has18 t.ty 100 _).mono ?_
  rintro e w9 ⟨rfl, e9⟩
  rw [HF.out, show hasB [101] 100 = false from by decide]
  have HB5a := Lib.hid (e9.heap HB4a.out)
  have HZ5a := Lib.hid (e9.heap HZ4a.out)
  have HX5a := Lib.hid (e9.heap HX4a.out)
  have HE5a : Hid (Ext w w9) := Lib.hid (HE4a.out.trans e9)
  clear e9
  go_wp2_with (first | fail)
  refine (has18 t.ty 99 _).mono ?_
  rintro e w10 ⟨rfl, e10⟩
  rw [HF.out, show hasB [101] 99 = false from by decide]
  have HB6a := Lib.hid (e10.heap HB5a.out)
  have HZ6a := Lib.hid (e10.heap HZ5a.out)
  have HX6a := Lib.hid (e10.heap HX5a.out)
  have HE6a : Hid (Ext w w10) := Lib.hid (HE5a.out.trans e10)
  clear e10
  go_wp2_with (first | fail)
  refine (has18 t.ty 115 _).mono ?_
  rintro e w11 ⟨rfl, e11⟩
  rw [HF.out, show hasB [101] 115 = false from by decide]
  have HB7a := Lib.hid (e11.heap HB6a.out)
  have HZ7a := Lib.hid (e11.heap HZ6a.out)
  have HX7a := Lib.hid (e11.heap HX6a.out)
  have HE7a : Hid (Ext w w11) := Lib.hid (HE6a.out.trans e11)
  clear e11
  have HIc := Lib.hid (tl_info ({ (TL.zero t.ty t.tg : TL) with cd := t.cd }))
  have HSc : Hid ((#[.int .i64 0, .int .i64 0, .int .i64 0, .int .i64 0, .int .i64 0, .int .i64 0, .string ⟨#[]⟩, .bool false, .int .i64 0, .int .i64 0, .slice none 0 0, .slice none 0 0, .bool false, .int .i64 0, .int .i64 0, .int .i64 0, .int .i64 0, .string ⟨#[]⟩] : Array Value).size = (TL.cs ({ (TL.zero t.ty t.tg : TL) with cd := t.cd })).size) := Lib.hid rfl
  have HUc := Lib.hid (TL.one ({ (TL.zero t.ty t.tg : TL) with cd := t.cd }))
  have HG := Lib.hid (setRow_heap w11 (ab + 1) _ (TL.cs ({ (TL.zero t.ty t.tg : TL) with cd := t.cd })) _ _ HZ7a.out)
  have EG := Lib.hid (below_setRow HE7a.out (by omega : w.heap.size ≤ ab + 1) (TL.cs ({ (TL.zero t.ty t.tg : TL) with cd := t.cd })))
  go_wp2_with (first | (with_reducible refine wpList_load_row rfl 29 (.tmp 4) rfl xb rfl _ _ _ _ HX7a.out Try.underlying29 rfl HIc.out ?_) | (with_reducible refine wpList_store_row rfl 29 (.tmp 2) (.tmp 54) rfl (ab + 1) _ rfl rfl _ _ HZ7a.out HIc.out HSc.out HUc.out ?_) | fail)
  refine bodyPost_ret (results_cell_row rfl _ _ (ab + 1) _ _ (0, 0) _ rfl HG.out Try.underlying29 rfl HIc.out) rfl ?_
  have ho : ownT t = ({ (TL.zero t.ty t.tg : TL) with cd := t.cd }) := by
    unfold ownT
    rw [HF.out]
    rfl
  rw [ho]
  exact ⟨rfl, EG.out⟩
set_option maxRecDepth 20000 in
set_option maxHeartbeats 4000000 in
theorem own_dash (t : TL) (w : World) (hf : fld t.ty = [45]) : Calls Try.prog 31 #[.agg t.cs] w fun e w' => e = .returned (.agg (ownT t).cs) ∧ Ext w w' := by
  have HF := Lib.hid hf
  obtain ⟨w2, hw2⟩ : ∃ w2, (w.alloc (.cells t.cs 29)).alloc (.cells #[.int .i64 0, .int .i64 0, .int .i64 0, .int .i64 0, .int .i64 0, .int .i64 0, .string ⟨#[]⟩, .bool false, .int .i64 0, .int .i64 0, .slice none 0 0, .slice none 0 0, .bool false, .int .i64 0, .int .i64 0, .int .i64 0, .int .i64 0, .string ⟨#[]⟩] 29) = w2 := ⟨_, rfl⟩
  have e2 : Ext w w2 := by rw [← hw2]; exact ((Ext.refl w).alloc _).alloc _
  have hb : w2.heap[w.heap.size]? = some (.cells t.cs 29 (0, 0)) := by rw [← hw2]; exact ((Ext.refl _).alloc _).heap (heap_alloc_new w _)
  have hz : w2.heap[w.heap.size + 1]? = some (.cells #[.int .i64 0, .int .i64 0, .int .i64 0, .int .i64 0, .int .i64 0, .int .i64 0, .string ⟨#[]⟩, .bool false, .int .i64 0, .int .i64 0, .slice none 0 0, .slice none 0 0, .bool false, .int .i64 0, .int .i64 0, .int .i64 0, .int .i64 0, .string ⟨#[]⟩] 29 (0, 0)) := by rw [← hw2]; exact heap_alloc2_new w _ _
  obtain ⟨ab, hab⟩ : ∃ ab, w.heap.size = ab := ⟨_, rfl⟩
  obtain ⟨xb, hxb⟩ : ∃ xb, w2.heap.size = xb := ⟨_, rfl⟩
  rw [hab] at hb hz
  have hlt : ab + 1 < xb := by rw [← hxb]; exact (Array.getElem?_eq_some_iff.1 hz).1
  have c0 : w2.cell? ⟨ab, 0, none⟩ = some (.int .i64 t.ty) := (cell_of_row w2 ab 0 _ _ _ hb).trans rfl
  have c1 : w2.cell? ⟨ab, 1, none⟩ = some (.int .i64 t.tg) := (cell_of_row w2 ab 1 _ _ _ hb).trans rfl
  have HZ0 : Hid ((w2.alloc (.cells #[.int .i64 0, .int .i64 0, .int .i64 0, .int .i64 0, .int .i64 0, .int .i64 0, .string ⟨#[]⟩, .bool false, .int .i64 0, .int .i64 0, .slice none 0 0, .slice none 0 0, .bool false, .int .i64 0, .int .i64 0, .int .i64 0, .int .i64 0, .string ⟨#[]⟩] 29)).heap[xb]? = some (.cells #[.int .i64 0, .int .i64 0, .int .i64 0, .int .i64 0, .int .i64 0, .int .i64 0, .string ⟨#[]⟩, .bool false, .int .i64 0, .int .i64 0, .slice none 0 0, .slice none 0 0, .bool false, .int .i64 0, .int .i64 0, .int .i64 0, .int .i64 0, .string ⟨#[]⟩] 29 (0, 0))) := Lib.hid (by rw [← hxb]; exact heap_alloc_new w2 _)
  have HI := Lib.hid (tl_info (TL.zero t.ty t.tg))
  have HS : Hid ((#[.int .i64 0, .int .i64 0, .int .i64 0, .int .i64 0, .int .i64 0, .int .i64 0, .string ⟨#[]⟩, .bool false, .int .i64 0, .int .i64 0, .slice none 0 0, .slice none 0 0, .bool false, .int .i64 0, .int .i64 0, .int .i64 0, .int .i64 0, .string ⟨#[]⟩] : Array Value).size = (TL.zero t.ty t.tg).cs.size) := Lib.hid rfl
  have HU := Lib.hid (TL.one (TL.zero t.ty t.tg))
  have E3 : Hid (Ext w2 ((w2.alloc (.cells #[.int .i64 0, .int .i64 0, .int .i64 0, .int .i64 0, .int .i64 0, .int .i64 0, .string ⟨#[]⟩, .bool false, .int .i64 0, .int .i64 0, .slice none 0 0, .slice none 0 0, .bool false, .int .i64 0, .int .i64 0, .int .i64 0, .int .i64 0, .string ⟨#[]⟩] 29)).setRow xb (TL.zero t.ty t.tg).cs)) := Lib.hid (below_setRow ((Ext.refl w2).alloc _) (Nat.le_of_eq hxb) _)
  have HX3 := Lib.hid (setRow_heap _ xb _ (TL.zero t.ty t.tg).cs _ _ HZ0.out)
  have HB3 := Lib.hid (E3.out.heap hb)
  have HZ3 := Lib.hid (E3.out.heap hz)
  have E2 := Lib.hid e2
  clear hb hz e2 hf
  go_enter Try.func31, Try.ntmps31
  go_wp2_with (first | (with_reducible refine wpList_store_row rfl 29 (.tmp 4) (.tmp 10) rfl xb _ rfl rfl _ _ HZ0.out HI.out HS.out HU.out ?_) | fail)
  refine (has18 t.ty 122 _).mono ?_
  rintro e w4 ⟨rfl, e4⟩
  rw [HF.out, show hasB [45] 122 = false from by decide]
  have HB0a := Lib.hid (e4.heap HB3.out)
  have HZ0a := Lib.hid (e4.heap HZ3.out)
  have HX0a := Lib.hid (e4.heap HX3.out)
  have HE0a : Hid (Ext w w4) := Lib.hid ((E2.out.trans E3.out).trans e4)
  clear e4
  go_wp2_with (first | fail)
  refine (has18 t.ty 113 _).mono ?_
  rintro e w5 ⟨rfl, e5⟩
  rw [HF.out, show hasB [45] 113 = false from by decide]
  have HB1a := Lib.hid (e5.heap HB0a.out)
  have HZ1a := Lib.hid (e5.heap HZ0a.out)
  have HX1a := Lib.hid (e5.heap HX0a.out)
  have HE1a : Hid (Ext w w5) := Lib.hid (HE0a.out.trans e5)
  clear e5
  go_wp2_with (first | fail)
  refine (has18 t.ty 101 _).mono ?_
  rintro e w6 ⟨rfl, e6⟩
  rw [HF.out, show hasB [45] 101 = false from by decide]
  have HB2a := Lib.hid (e6.heap HB1a.out)
  have HZ2a := Lib.hid (e6.heap HZ1a.out)
  have HX2a := Lib.hid (e6.heap HX1a.out)
  have HE2a : Hid (Ext w w6) := Lib.hid (HE1a.out.trans e6)
  clear e6
  go_wp2_with (first | fail)
  refine (has18 t.ty 108 _).mono ?_
  rintro e w7 ⟨rfl, e7⟩
  rw [HF.out, show hasB [45] 108 = false from by decide]
  have HB3a := Lib.hid (e7.heap HB2a.out)
  have HZ3a := Lib.hid (e7.heap HZ2a.out)
  have HX3a := Lib.hid (e7.heap HX2a.out)
  have HE3a : Hid (Ext w w7) := Lib.hid (HE2a.out.trans e7)
  clear e7
  go_wp2_with (first | fail)
  refine (has18 t.ty 105 _).mono ?_
  rintro e w8 ⟨rfl, e8⟩
  rw [HF.out, show hasB [45] 105 = false from by decide]
  have HB4a := Lib.hid (e8.heap HB3a.out)
  have HZ4a := Lib.hid (e8.heap HZ3a.out)
  have HX4a := Lib.hid (e8.heap HX3a.out)
  have HE4a : Hid (Ext w w8) := Lib.hid (HE3a.out.trans e8)
  clear e8
  go_wp2_with (first | fail)
  refine (has18 t.ty 100 _).mono ?_
  rintro e w9 ⟨rfl, e9⟩
  rw [HF.out, show hasB [45] 100 = false from by decide]
  have HB5a := Lib.hid (e9.heap HB4a.out)
  have HZ5a := Lib.hid (e9.heap HZ4a.out)
  have HX5a := Lib.hid (e9.heap HX4a.out)
  have HE5a : Hid (Ext w w9) := Lib.hid (HE4a.out.trans e9)
  clear e9
  go_wp2_with (first | fail)
  refine (has18 t.ty 99 _).mono ?_
  rintro e w10 ⟨rfl, e10⟩
  rw [HF.out, show hasB [45] 99 = false from by decide]
  have HB6a := Lib.hid (e10.heap HB5a.out)
  have HZ6a := Lib.hid (e10.heap HZ5a.out)
  have HX6a := Lib.hid (e10.heap HX5a.out)
  have HE6a : Hid (Ext w w10) := Lib.hid (HE5a.out.trans e10)
  clear e10
  go_wp2_with (first | fail)
  refine (has18 t.ty 115 _).mono ?_
  rintro e w11 ⟨rfl, e11⟩
  rw [HF.out, show hasB [45] 115 = false from by decide]
  have HB7a := Lib.hid (e11.heap HB6a.out)
  have HZ7a := Lib.hid (e11.heap HZ6a.out)
  have HX7a := Lib.hid (e11.heap HX6a.out)
  have HE7a : Hid (Ext w w11) := Lib.hid (HE6a.out.trans e11)
  clear e11
  have HIc := Lib.hid (tl_info (TL.zero t.ty t.tg))
  have HSc : Hid ((#[.int .i64 0, .int .i64 0, .int .i64 0, .int .i64 0, .int .i64 0, .int .i64 0, .string ⟨#[]⟩, .bool false, .int .i64 0, .int .i64 0, .slice none 0 0, .slice none 0 0, .bool false, .int .i64 0, .int .i64 0, .int .i64 0, .int .i64 0, .string ⟨#[]⟩] : Array Value).size = (TL.cs (TL.zero t.ty t.tg)).size) := Lib.hid rfl
  have HUc := Lib.hid (TL.one (TL.zero t.ty t.tg))
  have HG := Lib.hid (setRow_heap w11 (ab + 1) _ (TL.cs (TL.zero t.ty t.tg)) _ _ HZ7a.out)
  have EG := Lib.hid (below_setRow HE7a.out (by omega : w.heap.size ≤ ab + 1) (TL.cs (TL.zero t.ty t.tg)))
  go_wp2_with (first | (with_reducible refine wpList_load_row rfl 29 (.tmp 4) rfl xb rfl _ _ _ _ HX7a.out Try.underlying29 rfl HIc.out ?_) | (with_reducible refine wpList_store_row rfl 29 (.tmp 2) (.tmp 54) rfl (ab + 1) _ rfl rfl _ _ HZ7a.out HIc.out HSc.out HUc.out ?_) | fail)
  refine bodyPost_ret (results_cell_row rfl _ _ (ab + 1) _ _ (0, 0) _ rfl HG.out Try.underlying29 rfl HIc.out) rfl ?_
  have ho : ownT t = (TL.zero t.ty t.tg) := by
    unfold ownT
    rw [HF.out]
    rfl
  rw [ho]
  exact ⟨rfl, EG.out⟩
set_option maxRecDepth 20000 in
set_option maxHeartbeats 4000000 in
theorem own_l (t : TL) (w : World) (hf : fld t.ty = [108]) : Calls Try.prog 31 #[.agg t.cs] w fun e w' => e = .returned (.agg (ownT t).cs) ∧ Ext w w' := by
  have HF := Lib.hid hf
  obtain ⟨w2, hw2⟩ : ∃ w2, (w.alloc (.cells t.cs 29)).alloc (.cells #[.int .i64 0, .int .i64 0, .int .i64 0, .int .i64 0, .int .i64 0, .int .i64 0, .string ⟨#[]⟩, .bool false, .int .i64 0, .int .i64 0, .slice none 0 0, .slice none 0 0, .bool false, .int .i64 0, .int .i64 0, .int .i64 0, .int .i64 0, .string ⟨#[]⟩] 29) = w2 := ⟨_, rfl⟩
  have e2 : Ext w w2 := by rw [← hw2]; exact ((Ext.refl w).alloc _).alloc _
  have hb : w2.heap[w.heap.size]? = some (.cells t.cs 29 (0, 0)) := by rw [← hw2]; exact ((Ext.refl _).alloc _).heap (heap_alloc_new w _)
  have hz : w2.heap[w.heap.size + 1]? = some (.cells #[.int .i64 0, .int .i64 0, .int .i64 0, .int .i64 0, .int .i64 0, .int .i64 0, .string ⟨#[]⟩, .bool false, .int .i64 0, .int .i64 0, .slice none 0 0, .slice none 0 0, .bool false, .int .i64 0, .int .i64 0, .int .i64 0, .int .i64 0, .string ⟨#[]⟩] 29 (0, 0)) := by rw [← hw2]; exact heap_alloc2_new w _ _
  obtain ⟨ab, hab⟩ : ∃ ab, w.heap.size = ab := ⟨_, rfl⟩
  obtain ⟨xb, hxb⟩ : ∃ xb, w2.heap.size = xb := ⟨_, rfl⟩
  rw [hab] at hb hz
  have hlt : ab + 1 < xb := by rw [← hxb]; exact (Array.getElem?_eq_some_iff.1 hz).1
  have c0 : w2.cell? ⟨ab, 0, none⟩ = some (.int .i64 t.ty) := (cell_of_row w2 ab 0 _ _ _ hb).trans rfl
  have c1 : w2.cell? ⟨ab, 1, none⟩ = some (.int .i64 t.tg) := (cell_of_row w2 ab 1 _ _ _ hb).trans rfl
  have HZ0 : Hid ((w2.alloc (.cells #[.int .i64 0, .int .i64 0, .int .i64 0, .int .i64 0, .int .i64 0, .int .i64 0, .string ⟨#[]⟩, .bool false, .int .i64 0, .int .i64 0, .slice none 0 0, .slice none 0 0, .bool false, .int .i64 0, .int .i64 0, .int .i64 0, .int .i64 0, .string ⟨#[]⟩] 29)).heap[xb]? = some (.cells #[.int .i64 0, .int .i64 0, .int .i64 0, .int .i64 0, .int .i64 0, .int .i64 0, .string ⟨#[]⟩, .bool false, .int .i64 0, .int .i64 0, .slice none 0 0, .slice none 0 0, .bool false, .int .i64 0, .int .i64 0, .int .i64 0, .int .i64 0, .string ⟨#[]⟩] 29 (0, 0))) := Lib.hid (by rw [← hxb]; exact heap_alloc_new w2 _)
  have HI := Lib.hid (tl_info (TL.zero t.ty t.tg))
  have HS : Hid ((#[.int .i64 0, .int .i64 0, .int .i64 0, .int .i64 0, .int .i64 0, .int .i64 0, .string ⟨#[]⟩, .bool false, .int .i64 0, .int .i64 0, .slice none 0 0, .slice none 0 0, .bool false, .int .i64 0, .int .i64 0, .int .i64 0, .int .i64 0, .string ⟨#[]⟩] : Array Value).size = (TL.zero t.ty t.tg).cs.size) := Lib.hid rfl
  have HU := Lib.hid (TL.one (TL.zero t.ty t.tg))
  have E3 : Hid (Ext w2 ((w2.alloc (.cells #[.int .i64 0, .int .i64 0, .int .i64 0, .int .i64 0, .int .i64 0, .int .i64 0, .string ⟨#[]⟩, .bool false, .int .i64 0, .int .i64 0, .slice none 0 0, .slice none 0 0, .bool false, .int .i64 0, .int .i64 0, .int .i64 0, .int .i64 0, .string ⟨#[]⟩] 29)).setRow xb (TL.zero t.ty t.tg).cs)) := Lib.hid (below_setRow ((Ext.refl w2).alloc _) (Nat.le_of_eq hxb) _)
  have HX3 := Lib.hid (setRow_heap _ xb _ (TL.zero t.ty t.tg).cs _ _ HZ0.out)
  have HB3 := Lib.hid (E3.out.heap hb)
  have HZ3 := Lib.hid (E3.out.heap hz)
  have E2 := Lib.hid e2
  clear hb hz e2 hf
  go_enter Try.func31, Try.ntmps31
  go_wp2_with (first | (with_reducible refine wpList_store_row rfl 29 (.tmp 4) (.tmp 10) rfl xb _ rfl rfl _ _ HZ0.out HI.out HS.out HU.out ?_) | fail)
  refine (has18 t.ty 122 _).mono ?_
  rintro e w4 ⟨rfl, e4⟩
  rw [HF.out, show hasB [108] 122 = false from by decide]
  have HB0a := Lib.hid (e4.heap HB3.out)
  have HZ0a := Lib.hid (e4.heap HZ3.out)
  have HX0a := Lib.hid (e4.heap HX3.out)
  have HE0a : Hid (Ext w w4) := Lib.hid ((E2.out.trans E3.out).trans e4)
  clear e4
  go_wp2_with (first | fail)
  refine (has18 t.ty 113 _).mono ?_
  rintro e w5 ⟨rfl, e5⟩
  rw [HF.out, show hasB [108] 113 = false from by decide]
  have HB1a := Lib.hid (e5.heap HB0a.out)
  have HZ1a := Lib.hid (e5.heap HZ0a.out)
  have HX1a := Lib.hid (e5.heap HX0a.out)
  have HE1a : Hid (Ext w w5) := Lib.hid (HE0a.out.trans e5)
  clear e5
  go_wp2_with (first | fail)
  refine (has18 t.ty 101 _).mono ?_
  rintro e w6 ⟨rfl, e6⟩
  rw [HF.out, show hasB [108] 101 = false from by decide]
  have HB2a := Lib.hid (e6.heap HB1a.out)
  have HZ2a := Lib.hid (e6.heap HZ1a.out)
  have HX2a := Lib.hid (e6.heap HX1a.out)
  have HE2a : Hid (Ext w w6) := Lib.hid (HE1a.out.trans e6)
  clear e6
  go_wp2_with (first | fail)
  refine (has18 t.ty 108 _).mono ?_
  rintro e w7 ⟨rfl, e7⟩
  rw [HF.out, show hasB [108] 108 = true from by decide]
  have HB3a := Lib.hid (e7.heap HB2a.out)
  have HZ3a := Lib.hid (e7.heap HZ2a.out)
  have HX3a := Lib.hid (e7.heap HX2a.out)
  have HE3a : Hid (Ext w w7) := Lib.hid (HE2a.out.trans e7)
  clear e7
  have y3b : w7.cell? ⟨ab, 10, none⟩ = some (.slice t.qA t.qn t.qk) := (cell_of_row _ ab 10 _ _ _ HB3a.out).trans rfl
  obtain ⟨o3b, z3b⟩ : ∃ o, w7.cell? ⟨xb, 10, none⟩ = some o := ⟨_, (cell_of_row _ xb 10 _ _ _ HX3a.out).trans rfl⟩
  have fr3b := blk_freeC HX3a.out 10
  have HO3b : Hid (On2 xb xb w7 (w7.setCell ⟨xb, 10, none⟩ (.slice t.qA t.qn t.qk))) := Lib.hid (On2.set _ _ _ (.inl rfl))
  have HB3b := Lib.hid (HO3b.out.heap HB3a.out (by omega) (by omega))
  have HZ3b := Lib.hid (HO3b.out.heap HZ3a.out (by omega) (by omega))
  have HX3b : Hid ((w7.setCell ⟨xb, 10, none⟩ (.slice t.qA t.qn t.qk)).heap[xb]? = some (.cells (TL.cs ({ (TL.zero t.ty t.tg : TL) with qA := t.qA, qn := t.qn, qk := t.qk, ql := t.ql })) 29 (0, 0))) := Lib.hid (set_blkC HX3a.out 10 _)
  have HE3b : Hid (Ext w (w7.setCell ⟨xb, 10, none⟩ (.slice t.qA t.qn t.qk))) := Lib.hid (HO3b.out.ext HE3a.out (by omega) (by omega))
  go_wp2_with (first | fail)
  clear y3b z3b fr3b
  refine (has18 t.ty 105 _).mono ?_
  rintro e w8 ⟨rfl, e8⟩
  rw [HF.out, show hasB [108] 105 = false from by decide]
  have HB4a := Lib.hid (e8.heap HB3b.out)
  have HZ4a := Lib.hid (e8.heap HZ3b.out)
  have HX4a := Lib.hid (e8.heap HX3b.out)
  have HE4a : Hid (Ext w w8) := Lib.hid (HE3b.out.trans e8)
  clear e8
  go_wp2_with (first | fail)
  refine (has18 t.ty 100 _).mono ?_
  rintro e w9 ⟨rfl, e9⟩
  rw [HF.out, show hasB [108] 100 = false from by decide]
  have HB5a := Lib.hid (e9.heap HB4a.out)
  have HZ5a := Lib.hid (e9.heap HZ4a.out)
  have HX5a := Lib.hid (e9.heap HX4a.out)
  have HE5a : Hid (Ext w w9) := Lib.hid (HE4a.out.trans e9)
  clear e9
  go_wp2_with (first | fail)
  refine (has18 t.ty 99 _).mono ?_
  rintro e w10 ⟨rfl, e10⟩
  rw [HF.out, show hasB [108] 99 = false from by decide]
  have HB6a := Lib.hid (e10.heap HB5a.out)
  have HZ6a := Lib.hid (e10.heap HZ5a.out)
  have HX6a := Lib.hid (e10.heap HX5a.out)
  have HE6a : Hid (Ext w w10) := Lib.hid (HE5a.out.trans e10)
  clear e10
  go_wp2_with (first | fail)
  refine (has18 t.ty 115 _).mono ?_
  rintro e w11 ⟨rfl, e11⟩
  rw [HF.out, show hasB [108] 115 = false from by decide]
  have HB7a := Lib.hid (e11.heap HB6a.out)
  have HZ7a := Lib.hid (e11.heap HZ6a.out)
  have HX7a := Lib.hid (e11.heap HX6a.out)
  have HE7a : Hid (Ext w w11) := Lib.hid (HE6a.out.trans e11)
  clear e11
  have HIc := Lib.hid (tl_info ({ (TL.zero t.ty t.tg : TL) with qA := t.qA, qn := t.qn, qk := t.qk, ql := t.ql }))
  have HSc : Hid ((#[.int .i64 0, .int .i64 0, .int .i64 0, .int .i64 0, .int .i64 0, .int .i64 0, .string ⟨#[]⟩, .bool false, .int .i64 0, .int .i64 0, .slice none 0 0, .slice none 0 0, .bool false, .int .i64 0, .int .i64 0, .int .i64 0, .int .i64 0, .string ⟨#[]⟩] : Array Value).size = (TL.cs ({ (TL.zero t.ty t.tg : TL) with qA := t.qA, qn := t.qn, qk := t.qk, ql := t.ql })).size) := Lib.hid rfl
  have HUc := Lib.hid (TL.one ({ (TL.zero t.ty t.tg : TL) with qA := t.qA, qn := t.qn, qk := t.qk, ql := t.ql }))
  have HG := Lib.hid (setRow_heap w11 (ab + 1) _ (TL.cs ({ (TL.zero t.ty t.tg : TL) with qA := t.qA, qn := t.qn, qk := t.qk, ql := t.ql })) _ _ HZ7a.out)
  have EG := Lib.hid (below_setRow HE7a.out (by omega : w.heap.size ≤ ab + 1) (TL.cs ({ (TL.zero t.ty t.tg : TL) with qA := t.qA, qn := t.qn, qk := t.qk, ql := t.ql })))
  go_wp2_with (first | (with_reducible refine wpList_load_row rfl 29 (.tmp 4) rfl xb rfl _ _ _ _ HX7a.out Try.underlying29 rfl HIc.out ?_) | (with_reducible refine wpList_store_row rfl 29 (.tmp 2) (.tmp 54) rfl (ab + 1) _ rfl rfl _ _ HZ7a.out HIc.out HSc.out HUc.out ?_) | fail)
  refine bodyPost_ret (results_cell_row rfl _ _ (ab + 1) _ _ (0, 0) _ rfl HG.out Try.underlying29 rfl HIc.out) rfl ?_
  have ho : ownT t = ({ (TL.zero t.ty t.tg : TL) with qA := t.qA, qn := t.qn, qk := t.qk, ql := t.ql }) := by
    unfold ownT
    rw [HF.out]
    rfl
  rw [ho]
  exact ⟨rfl, EG.out⟩
set_option maxRecDepth 20000 in
set_option maxHeartbeats 4000000 in
theorem own_qi (t : TL) (w : World) (hf : fld t.ty = [113, 105]) : Calls Try.prog 31 #[.agg t.cs] w fun e w' => e = .returned (.agg (ownT t).cs) ∧ Ext w w' := by
  have HF := Lib.hid hf
  obtain ⟨w2, hw2⟩ : ∃ w2, (w.alloc (.cells t.cs 29)).alloc (.cells #[.int .i64 0, .int .i64 0, .int .i64 0, .int .i64 0, .int .i64 0, .int .i64 0, .string ⟨#[]⟩, .bool false, .int .i64 0, .int .i64 0, .slice none 0 0, .slice none 0 0, .bool false, .int .i64 0, .int .i64 0, .int .i64 0, .int .i64 0, .string ⟨#[]⟩] 29) = w2 := ⟨_, rfl⟩
  have e2 : Ext w w2 := by rw [← hw2]; exact ((Ext.refl w).alloc _).alloc _
  have hb : w2.heap[w.heap.size]? = some (.cells t.cs 29 (0, 0)) := by rw [← hw2]; exact ((Ext.refl _).alloc _).heap (heap_alloc_new w _)
  have hz : w2.heap[w.heap.size + 1]? = some (.cells #[.int .i64 0, .int .i64 0, .int .i64 0, .int .i64 0, .int .i64 0, .int .i64 0, .string ⟨#[]⟩, .bool false, .int .i64 0, .int .i64 0, .slice none 0 0, .slice none 0 0, .bool false, .int .i64 0, .int .i64 0, .int .i64 0, .int .i64 0, .string ⟨#[]⟩] 29 (0, 0)) := by rw [← hw2]; exact heap_alloc2_new w _ _
  obtain ⟨ab, hab⟩ : ∃ ab, w.heap.size = ab := ⟨_, rfl⟩
  obtain ⟨xb, hxb⟩ : ∃ xb, w2.heap.size = xb := ⟨_, rfl⟩
  rw [hab] at hb hz
  have hlt : ab + 1 < xb := by rw [← hxb]; exact (Array.getElem?_eq_some_iff.1 hz).1
  have c0 : w2.cell? ⟨ab, 0, none⟩ = some (.int .i64 t.ty) := (cell_of_row w2 ab 0 _ _ _ hb).trans rfl
  have c1 : w2.cell? ⟨ab, 1, none⟩ = some (.int .i64 t.tg) := (cell_of_row w2 ab 1 _ _ _ hb).trans rfl
  have HZ0 : Hid ((w2.alloc (.cells #[.int .i64 0, .int .i64 0, .int .i64 0, .int .i64 0, .int .i64 0, .int .i64 0, .string ⟨#[]⟩, .bool false, .int .i64 0, .int .i64 0, .slice none 0 0, .slice none 0 0, .bool false, .int .i64 0, .int .i64 0, .int .i64 0, .int .i64 0, .string ⟨#[]⟩] 29)).heap[xb]? = some (.cells #[.int .i64 0, .int .i64 0, .int .i64 0, .int .i64 0, .int .i64 0, .int .i64 0, .string ⟨#[]⟩, .bool false, .int .i64 0, .int .i64 0, .slice none 0 0, .slice none 0 0, .bool false, .int .i64 0, .int .i64 0, .int .i64 0, .int .i64 0, .string ⟨#[]⟩] 29 (0, 0))) := Lib.hid (by rw [← hxb]; exact heap_alloc_new w2 _)
  have HI := Lib.hid (tl_info (TL.zero t.ty t.tg))
  have HS : Hid ((#[.int .i64 0, .int .i64 0, .int .i64 0, .int .i64 0, .int .i64 0, .int .i64 0, .string ⟨#[]⟩, .bool false, .int .i64 0, .int .i64 0, .slice none 0 0, .slice none 0 0, .bool false, .int .i64 0, .int .i64 0, .int .i64 0, .int .i64 0, .string ⟨#[]⟩] : Array Value).size = (TL.zero t.ty t.tg).cs.size) := Lib.hid rfl
  have HU := Lib.hid (TL.one (TL.zero t.ty t.tg))
  have E3 : Hid (Ext w2 ((w2.alloc (.cells #[.int .i64 0, .int .i64 0, .int .i64 0, .int .i64 0, .int .i64 0, .int .i64 0, .string ⟨#[]⟩, .bool false, .int .i64 0, .int .i64 0, .slice none 0 0, .slice none 0 0, .bool false, .int .i64 0, .int .i64 0, .int .i64 0, .int .i64 0, .string ⟨#[]⟩] 29)).setRow xb (TL.zero t.ty t.tg).cs)) := Lib.hid (below_setRow ((Ext.refl w2).alloc _) (Nat.le_of_eq hxb) _)
  have HX3 := Lib.hid (setRow_heap _ xb _ (TL.zero t.ty t.tg).cs _ _ HZ0.out)
  have HB3 := Lib.hid (E3.out.heap hb)
  have HZ3 := Lib.hid (E3.out.heap hz)
  have E2 := Lib.hid e2
  clear hb hz e2 hf
  go_enter Try.func31, Try.ntmps31
  go_wp2_with (first | (with_reducible refine wpList_store_row rfl 29 (.tmp 4) (.tmp 10) rfl xb _ rfl rfl _ _ HZ0.out HI.out HS.out HU.out ?_) | fail)
  refine (has18 t.ty 122 _).mono ?_
  rintro e w4 ⟨rfl, e4⟩
  rw [HF.out, show hasB [113, 105] 122 = false from by decide]
  have HB0a := Lib.hid (e4.heap HB3.out)
  have HZ0a := Lib.hid (e4.heap HZ3.out)
  have HX0a := Lib.hid (e4.heap HX3.out)
  have HE0a : Hid (Ext w w4) := Lib.hid ((E2.out.trans E3.out).trans e4)
  clear e4
  go_wp2_with (first | fail)
  refine (has18 t.ty 113 _).mono ?_
  rintro e w5 ⟨rfl, e5⟩
  rw [HF.out, show hasB [113, 105] 113 = true from by decide]
  have HB1a := Lib.hid (e5.heap HB0a.out)
  have HZ1a := Lib.hid (e5.heap HZ0a.out)
  have HX1a := Lib.hid (e5.heap HX0a.out)
  have HE1a : Hid (Ext w w5) := Lib.hid (HE0a.out.trans e5)
  clear e5
  have HSL1b : Hid (7 + ((qv t.q) : Array Value).size ≤ (TL.cs (TL.zero t.ty t.tg)).size) := Lib.hid (by show 7 + 3 ≤ 18; omega)
  have HNN1b : Hid (((TL.cs (TL.zero t.ty t.tg)).toList.take 7 ++ ((qv t.q) : Array Value).toList ++ (TL.cs (TL.zero t.ty t.tg)).toList.drop (7 + ((qv t.q) : Array Value).size)).toArray = TL.cs ({ (TL.zero t.ty t.tg : TL) with q := t.q })) := Lib.hid rfl
  have HL1b : Hid (∀ j v, (qv t.q)[j]? = some v → t.cs[7 + j]? = some v) := Lib.hid (fun j v h => by
    have hj : j < 3 := (Array.getElem?_eq_some_iff.1 h).1
    match j, hj with
    | 0, _ => exact h
    | 1, _ => exact h
    | 2, _ => exact h
    | n + 3, h9 => omega)
  have HO1b : Hid (On2 xb xb w5 (w5.setRow xb (TL.cs ({ (TL.zero t.ty t.tg : TL) with q := t.q })))) := Lib.hid (on2_row _ _ _)
  have HB1b := Lib.hid (HO1b.out.heap HB1a.out (by omega) (by omega))
  have HZ1b := Lib.hid (HO1b.out.heap HZ1a.out (by omega) (by omega))
  have HX1b : Hid ((w5.setRow xb (TL.cs ({ (TL.zero t.ty t.tg : TL) with q := t.q }))).heap[xb]? = some (.cells (TL.cs ({ (TL.zero t.ty t.tg : TL) with q := t.q })) 29 (0, 0))) := Lib.hid (setRow_heap _ xb _ _ _ _ HX1a.out)
  have HE1b : Hid (Ext w (w5.setRow xb (TL.cs ({ (TL.zero t.ty t.tg : TL) with q := t.q })))) := Lib.hid (HO1b.out.ext HE1a.out (by omega) (by omega))
  go_wp2_with (first | (with_reducible refine wpList_load_sub rfl 23 (.tmp 21) rfl ab 7 rfl 29 _ _ _ _ HB1a.out HL1b.out Try.underlying23 rfl (qid_info t.q) ?_) | (with_reducible refine wpList_store_sub rfl 23 (.tmp 23) (.tmp 22) rfl xb 7 _ _ _ rfl rfl 29 HX1a.out (qid_info t.q) HSL1b.out (qv_one t.q) HNN1b.out ?_) | fail)
  refine (has18 t.ty 101 _).mono ?_
  rintro e w6 ⟨rfl, e6⟩
  rw [HF.out, show hasB [113, 105] 101 = false from by decide]
  have HB2a := Lib.hid (e6.heap HB1b.out)
  have HZ2a := Lib.hid (e6.heap HZ1b.out)
  have HX2a := Lib.hid (e6.heap HX1b.out)
  have HE2a : Hid (Ext w w6) := Lib.hid (HE1b.out.trans e6)
  clear e6
  go_wp2_with (first | fail)
  refine (has18 t.ty 108 _).mono ?_
  rintro e w7 ⟨rfl, e7⟩
  rw [HF.out, show hasB [113, 105] 108 = false from by decide]
  have HB3a := Lib.hid (e7.heap HB2a.out)
  have HZ3a := Lib.hid (e7.heap HZ2a.out)
  have HX3a := Lib.hid (e7.heap HX2a.out)
  have HE3a : Hid (Ext w w7) := Lib.hid (HE2a.out.trans e7)
  clear e7
  go_wp2_with (first | fail)
  refine (has18 t.ty 105 _).mono ?_
  rintro e w8 ⟨rfl, e8⟩
  rw [HF.out, show hasB [113, 105] 105 = true from by decide]
  have HB4a := Lib.hid (e8.heap HB3a.out)
  have HZ4a := Lib.hid (e8.heap HZ3a.out)
  have HX4a := Lib.hid (e8.heap HX3a.out)
  have HE4a : Hid (Ext w w8) := Lib.hid (HE3a.out.trans e8)
  clear e8
  have y4b : w8.cell? ⟨ab, 4, none⟩ = some (.int .i64 t.io) := (cell_of_row _ ab 4 _ _ _ HB4a.out).trans rfl
  obtain ⟨o4b, z4b⟩ : ∃ o, w8.cell? ⟨xb, 4, none⟩ = some o := ⟨_, (cell_of_row _ xb 4 _ _ _ HX4a.out).trans rfl⟩
  have fr4b := blk_freeC HX4a.out 4
  have HO4b : Hid (On2 xb xb w8 (w8.setCell ⟨xb, 4, none⟩ (.int .i64 t.io))) := Lib.hid (On2.set _ _ _ (.inl rfl))
  have HB4b := Lib.hid (HO4b.out.heap HB4a.out (by omega) (by omega))
  have HZ4b := Lib.hid (HO4b.out.heap HZ4a.out (by omega) (by omega))
  have HX4b : Hid ((w8.setCell ⟨xb, 4, none⟩ (.int .i64 t.io)).heap[xb]? = some (.cells (TL.cs ({ ({ (TL.zero t.ty t.tg : TL) with q := t.q } : TL) with io := t.io })) 29 (0, 0))) := Lib.hid (set_blkC HX4a.out 4 _)
  have HE4b : Hid (Ext w (w8.setCell ⟨xb, 4, none⟩ (.int .i64 t.io))) := Lib.hid (HO4b.out.ext HE4a.out (by omega) (by omega))
  go_wp2_with (first | fail)
  clear y4b z4b fr4b
  refine (has18 t.ty 100 _).mono ?_
  rintro e w9 ⟨rfl, e9⟩
  rw [HF.out, show hasB [113, 105] 100 = false from by decide]
  have HB5a := Lib.hid (e9.heap HB4b.out)
  have HZ5a := Lib.hid (e9.heap HZ4b.out)
  have HX5a := Lib.hid (e9.heap HX4b.out)
  have HE5a : Hid (Ext w w9) := Lib.hid (HE4b.out.trans e9)
  clear e9
  go_wp2_with (first | fail)
  refine (has18 t.ty 99 _).mono ?_
  rintro e w10 ⟨rfl, e10⟩
  rw [HF.out, show hasB [113, 105] 99 = false from by decide]
  have HB6a := Lib.hid (e10.heap HB5a.out)
  have HZ6a := Lib.hid (e10.heap HZ5a.out)
  have HX6a := Lib.hid (e10.heap HX5a.out)
  have HE6a : Hid (Ext w w10) := Lib.hid (HE5a.out.trans e10)
  clear e10
  go_wp2_with (first | fail)
  refine (has18 t.ty 115 _).mono ?_
  rintro e w11 ⟨rfl, e11⟩
  rw [HF.out, show hasB [113, 105] 115 = false from by decide]
  have HB7a := Lib.hid (e11.heap HB6a.out)
  have HZ7a := Lib.hid (e11.heap HZ6a.out)
  have HX7a := Lib.hid (e11.heap HX6a.out)
  have HE7a : Hid (Ext w w11) := Lib.hid (HE6a.out.trans e11)
  clear e11
  have HIc := Lib.hid (tl_info ({ ({ (TL.zero t.ty t.tg : TL) with q := t.q } : TL) with io := t.io }))
  have HSc : Hid ((#[.int .i64 0, .int .i64 0, .int .i64 0, .int .i64 0, .int .i64 0, .int .i64 0, .string ⟨#[]⟩, .bool false, .int .i64 0, .int .i64 0, .slice none 0 0, .slice none 0 0, .bool false, .int .i64 0, .int .i64 0, .int .i64 0, .int .i64 0, .string ⟨#[]⟩] : Array Value).size = (TL.cs ({ ({ (TL.zero t.ty t.tg : TL) with q := t.q } : TL) with io := t.io })).size) := Lib.hid rfl
  have HUc := Lib.hid (TL.one ({ ({ (TL.zero t.ty t.tg : TL) with q := t.q } : TL) with io := t.io }))
  have HG := Lib.hid (setRow_heap w11 (ab + 1) _ (TL.cs ({ ({ (TL.zero t.ty t.tg : TL) with q := t.q } : TL) with io := t.io })) _ _ HZ7a.out)
  have EG := Lib.hid (below_setRow HE7a.out (by omega : w.heap.size ≤ ab + 1) (TL.cs ({ ({ (TL.zero t.ty t.tg : TL) with q := t.q } : TL) with io := t.io })))
  go_wp2_with (first | (with_reducible refine wpList_load_row rfl 29 (.tmp 4) rfl xb rfl _ _ _ _ HX7a.out Try.underlying29 rfl HIc.out ?_) | (with_reducible refine wpList_store_row rfl 29 (.tmp 2) (.tmp 54) rfl (ab + 1) _ rfl rfl _ _ HZ7a.out HIc.out HSc.out HUc.out ?_) | fail)
  refine bodyPost_ret (results_cell_row rfl _ _ (ab + 1) _ _ (0, 0) _ rfl HG.out Try.underlying29 rfl HIc.out) rfl ?_
  have ho : ownT t = ({ ({ (TL.zero t.ty t.tg : TL) with q := t.q } : TL) with io := t.io }) := by
    unfold ownT
    rw [HF.out]
    rfl
  rw [ho]
  exact ⟨rfl, EG.out⟩
set_option maxRecDepth 20000 in
set_option maxHeartbeats 4000000 in
theorem own_d (t : TL) (w : World) (hf : fld t.ty = [100]) : Calls Try.prog 31 #[.agg t.cs] w fun e w' => e = .returned (.agg (ownT t).cs) ∧ Ext w w' := by
  have HF := Lib.hid hf
  obtain ⟨w2, hw2⟩ : ∃ w2, (w.alloc (.cells t.cs 29)).alloc (.cells #[.int .i64 0, .int .i64 0, .int .i64 0, .int .i64 0, .int .i64 0, .int .i64 0, .string ⟨#[]⟩, .bool false, .int .i64 0, .int .i64 0, .slice none 0 0, .slice none 0 0, .bool false, .int .i64 0, .int .i64 0, .int .i64 0, .int .i64 0, .string ⟨#[]⟩] 29) = w2 := ⟨_, rfl⟩
  have e2 : Ext w w2 := by rw [← hw2]; exact ((Ext.refl w).alloc _).alloc _
  have hb : w2.heap[w.heap.size]? = some (.cells t.cs 29 (0, 0)) := by rw [← hw2]; exact ((Ext.refl _).alloc _).heap (heap_alloc_new w _)
  have hz : w2.heap[w.heap.size + 1]? = some (.cells #[.int .i64 0, .int .i64 0, .int .i64 0, .int .i64 0, .int .i64 0, .int .i64 0, .string ⟨#[]⟩, .bool false, .int .i64 0, .int .i64 0, .slice none 0 0, .slice none 0 0, .bool false, .int .i64 0, .int .i64 0, .int .i64 0, .int .i64 0, .string ⟨#[]⟩] 29 (0, 0)) := by rw [← hw2]; exact heap_alloc2_new w _ _
  obtain ⟨ab, hab⟩ : ∃ ab, w.heap.size = ab := ⟨_, rfl⟩
  obtain ⟨xb, hxb⟩ : ∃ xb, w2.heap.size = xb := ⟨_, rfl⟩
  rw [hab] at hb hz
  have hlt : ab + 1 < xb := by rw [← hxb]; exact (Array.getElem?_eq_some_iff.1 hz).1
  have c0 : w2.cell? ⟨ab, 0, none⟩ = some (.int .i64 t.ty) := (cell_of_row w2 ab 0 _ _ _ hb).trans rfl
  have c1 : w2.cell? ⟨ab, 1, none⟩ = some (.int .i64 t.tg) := (cell_of_row w2 ab 1 _ _ _ hb).trans rfl
  have HZ0 : Hid ((w2.alloc (.cells #[.int .i64 0, .int .i64 0, .int .i64 0, .int .i64 0, .int .i64 0, .int .i64 0, .string ⟨#[]⟩, .bool false, .int .i64 0, .int .i64 0, .slice none 0 0, .slice none 0 0, .bool false, .int .i64 0, .int .i64 0, .int .i64 0, .int .i64 0, .string ⟨#[]⟩] 29)).heap[xb]? = some (.cells #[.int .i64 0, .int .i64 0, .int .i64 0, .int .i64 0, .int .i64 0, .int .i64 0, .string ⟨#[]⟩, .bool false, .int .i64 0, .int .i64 0, .slice none 0 0, .slice none 0 0, .bool false, .int .i64 0, .int .i64 0, .int .i64 0, .int .i64 0, .string ⟨#[]⟩] 29 (0, 0))) := Lib.hid (by rw [← hxb]; exact heap_alloc_new w2 _)
  have HI := Lib.hid (tl_info (TL.zero t.ty t.tg))
  have HS : Hid ((#[.int .i64 0, .int .i64 0, .int .i64 0, .int .i64 0, .int .i64 0, .int .i64 0, .string ⟨#[]⟩, .bool false, .int .i64 0, .int .i64 0, .slice none 0 0, .slice none 0 0, .bool false, .int .i64 0, .int .i64 0, .int .i64 0, .int .i64 0, .string ⟨#[]⟩] : Array Value).size = (TL.zero t.ty t.tg).cs.size) := Lib.hid rfl
  have HU := Lib.hid (TL.one (TL.zero t.ty t.tg))
  have E3 : Hid (Ext w2 ((w2.alloc (.cells #[.int .i64 0, .int .i64 0, .int .i64 0, .int .i64 0, .int .i64 0, .int .i64 0, .string ⟨#[]⟩, .bool false, .int .i64 0, .int .i64 0, .slice none 0 0, .slice none 0 0, .bool false, .int .i64 0, .int .i64 0, .int .i64 0, .int .i64 0, .string ⟨#[]⟩] 29)).setRow xb (TL.zero t.ty t.tg).cs)) := Lib.hid (below_setRow ((Ext.refl w2).alloc _) (Nat.le_of_eq hxb) _)
  have HX3 := Lib.hid (setRow_heap _ xb _ (TL.zero t.ty t.tg).cs _ _ HZ0.out)
  have HB3 := Lib.hid (E3.out.heap hb)
  have HZ3 := Lib.hid (E3.out.heap hz)
  have E2 := Lib.hid e2
  clear hb hz e2 hf
  go_enter Try.func31, Try.ntmps31
  go_wp2_with (first | (with_reducible refine wpList_store_row rfl 29 (.tmp 4) (.tmp 10) rfl xb _ rfl rfl _ _ HZ0.out HI.out HS.out HU.out ?_) | fail)
  refine (has18 t.ty 122 _).mono ?_
  rintro e w4 ⟨rfl, e4⟩
  rw [HF.out, show hasB [100] 122 = false from by decide]
  have HB0a := Lib.hid (e4.heap HB3.out)
  have HZ0a := Lib.hid (e4.heap HZ3.out)
  have HX0a := Lib.hid (e4.heap HX3.out)
  have HE0a : Hid (Ext w w4) := Lib.hid ((E2.out.trans E3.out).trans e4)
  clear e4
  go_wp2_with (first | fail)
  refine (has18 t.ty 113 _).mono ?_
  rintro e w5 ⟨rfl, e5⟩
  rw [HF.out, show hasB [100] 113 = false from by decide]
  have HB1a := Lib.hid (e5.heap HB0a.out)
  have HZ1a := Lib.hid (e5.heap HZ0a.out)
  have HX1a := Lib.hid (e5.heap HX0a.out)
  have HE1a : Hid (Ext w w5) := Lib.hid (HE0a.out.trans e5)
  clear e5
  go_wp2_with (first | fail)
  refine (has18 t.ty 101 _).mono ?_
  rintro e w6 ⟨rfl, e6⟩
  rw [HF.out, show hasB [100] 101 = false from by decide]
  have HB2a := Lib.hid (e6.heap HB1a.out)
  have HZ2a := Lib.hid (e6.heap HZ1a.out)
  have HX2a := Lib.hid (e6.heap HX1a.out)
  have HE2a : Hid (Ext w w6) := Lib.hid (HE1a.out.trans e6)
  clear e6
  go_wp2_with (first | fail)
  refine (has18 t.ty 108 _).mono ?_
  rintro e w7 ⟨rfl, e7⟩
  rw [HF.out, show hasB [100] 108 = false from by decide]
  have HB3a := Lib.hid (e7.heap HB2a.out)
  have HZ3a := Lib.hid (e7.heap HZ2a.out)
  have HX3a := Lib.hid (e7.heap HX2a.out)
  have HE3a : Hid (Ext w w7) := Lib.hid (HE2a.out.trans e7)
  clear e7
  go_wp2_with (first | fail)
  refine (has18 t.ty 105 _).mono ?_
  rintro e w8 ⟨rfl, e8⟩
  rw [HF.out, show hasB [100] 105 = false from by decide]
  have HB4a := Lib.hid (e8.heap HB3a.out)
  have HZ4a := Lib.hid (e8.heap HZ3a.out)
  have HX4a := Lib.hid (e8.heap HX3a.out)
  have HE4a : Hid (Ext w w8) := Lib.hid (HE3a.out.trans e8)
  clear e8
  go_wp2_with (first | fail)
  refine (has18 t.ty 100 _).mono ?_
  rintro e w9 ⟨rfl, e9⟩
  rw [HF.out, show hasB [100] 100 = true from by decide]
  have HB5a := Lib.hid (e9.heap HB4a.out)
  have HZ5a := Lib.hid (e9.heap HZ4a.out)
  have HX5a := Lib.hid (e9.heap HX4a.out)
  have HE5a : Hid (Ext w w9) := Lib.hid (HE4a.out.trans e9)
  clear e9
  have y5b : w9.cell? ⟨ab, 11, none⟩ = some (.slice t.dA t.dn t.dk) := (cell_of_row _ ab 11 _ _ _ HB5a.out).trans rfl
  obtain ⟨o5b, z5b⟩ : ∃ o, w9.cell? ⟨xb, 11, none⟩ = some o := ⟨_, (cell_of_row _ xb 11 _ _ _ HX5a.out).trans rfl⟩
  have fr5b := blk_freeC HX5a.out 11
  have HO5b : Hid (On2 xb xb w9 (w9.setCell ⟨xb, 11, none⟩ (.slice t.dA t.dn t.dk))) := Lib.hid (On2.set _ _ _ (.inl rfl))
  have HB5b := Lib.hid (HO5b.out.heap HB5a.out (by omega) (by omega))
  have HZ5b := Lib.hid (HO5b.out.heap HZ5a.out (by omega) (by omega))
  have HX5b : Hid ((w9.setCell ⟨xb, 11, none⟩ (.slice t.dA t.dn t.dk)).heap[xb]? = some (.cells (TL.cs ({ (TL.zero t.ty t.tg : TL) with dA := t.dA, dn := t.dn, dk := t.dk, dl := t.dl })) 29 (0, 0))) := Lib.hid (set_blkC HX5a.out 11 _)
  have HE5b : Hid (Ext w (w9.setCell ⟨xb, 11, none⟩ (.slice t.dA t.dn t.dk))) := Lib.hid (HO5b.out.ext HE5a.out (by omega) (by omega))
  go_wp2_with (first | fail)
  clear y5b z5b fr5b
  refine (has18 t.ty 99 _).mono ?_
  rintro e w10 ⟨rfl, e10⟩
  rw [HF.out, show hasB [100] 99 = false from by decide]
  have HB6a := Lib.hid (e10.heap HB5b.out)
  have HZ6a := Lib.hid (e10.heap HZ5b.out)
  have HX6a := Lib.hid (e10.heap HX5b.out)
  have HE6a : Hid (Ext w w10) := Lib.hid (HE5b.out.trans e10)
  clear e10
  go_wp2_with (first | fail)
  refine (has18 t.ty 115 _).mono ?_
  rintro e w11 ⟨rfl, e11⟩
  rw [HF.out, show hasB [100] 115 = false from by decide]
  have HB7a := Lib.hid (e11.heap HB6a.out)
  have HZ7a := Lib.hid (e11.heap HZ6a.out)
  have HX7a := Lib.hid (e11.heap HX6a.out)
  have HE7a : Hid (Ext w w11) := Lib.hid (HE6a.out.trans e11)
  clear e11
  have HIc := Lib.hid (tl_info ({ (TL.zero t.ty t.tg : TL) with dA := t.dA, dn := t.dn, dk := t.dk, dl := t.dl }))
  have HSc : Hid ((#[.int .i64 0, .int .i64 0, .int .i64 0, .int .i64 0, .int .i64 0, .int .i64 0, .string ⟨#[]⟩, .bool false, .int .i64 0, .int .i64 0, .slice none 0 0, .slice none 0 0, .bool false, .int .i64 0, .int .i64 0, .int .i64 0, .int .i64 0, .string ⟨#[]⟩] : Array Value).size = (TL.cs ({ (TL.zero t.ty t.tg : TL) with dA := t.dA, dn := t.dn, dk := t.dk, dl := t.dl })).size) := Lib.hid rfl
  have HUc := Lib.hid (TL.one ({ (TL.zero t.ty t.tg : TL) with dA := t.dA, dn := t.dn, dk := t.dk, dl := t.dl }))
  have HG := Lib.hid (setRow_heap w11 (ab + 1) _ (TL.cs ({ (TL.zero t.ty t.tg : TL) with dA := t.dA, dn := t.dn, dk := t.dk, dl := t.dl })) _ _ HZ7a.out)
  have EG := Lib.hid (below_setRow HE7a.out (by omega : w.heap.size ≤ ab + 1) (TL.cs ({ (TL.zero t.ty t.tg : TL) with dA := t.dA, dn := t.dn, dk := t.dk, dl := t.dl })))
  go_wp2_with (first | (with_reducible refine wpList_load_row rfl 29 (.tmp 4) rfl xb rfl _ _ _ _ HX7a.out Try.underlying29 rfl HIc.out ?_) | (with_reducible refine wpList_store_row rfl 29 (.tmp 2) (.tmp 54) rfl (ab + 1) _ rfl rfl _ _ HZ7a.out HIc.out HSc.out HUc.out ?_) | fail)
  refine bodyPost_ret (results_cell_row rfl _ _ (ab + 1) _ _ (0, 0) _ rfl HG.out Try.underlying29 rfl HIc.out) rfl ?_
  have ho : ownT t = ({ (TL.zero t.ty t.tg : TL) with dA := t.dA, dn := t.dn, dk := t.dk, dl := t.dl }) := by
    unfold ownT
    rw [HF.out]
    rfl
  rw [ho]
  exact ⟨rfl, EG.out⟩
set_option maxRecDepth 20000 in
set_option maxHeartbeats 4000000 in
theorem own_c (t : TL) (w : World) (hf : fld t.ty = [99]) : Calls Try.prog 31 #[.agg t.cs] w fun e w' => e = .returned (.agg (ownT t).cs) ∧ Ext w w' := by
  have HF := Lib.hid hf
  obtain ⟨w2, hw2⟩ : ∃ w2, (w.alloc (.cells t.cs 29)).alloc (.cells #[.int .i64 0, .int .i64 0, .int .i64 0, .int .i64 0, .int .i64 0, .int .i64 0, .string ⟨#[]⟩, .bool false, .int .i64 0, .int .i64 0, .slice none 0 0, .slice none 0 0, .bool false, .int .i64 0, .int .i64 0, .int .i64 0, .int .i64 0, .string ⟨#[]⟩] 29) = w2 := ⟨_, rfl⟩
  have e2 : Ext w w2 := by rw [← hw2]; exact ((Ext.refl w).alloc _).alloc _
  have hb : w2.heap[w.heap.size]? = some (.cells t.cs 29 (0, 0)) := by rw [← hw2]; exact ((Ext.refl _).alloc _).heap (heap_alloc_new w _)
  have hz : w2.heap[w.heap.size + 1]? = some (.cells #[.int .i64 0, .int .i64 0, .int .i64 0, .int .i64 0, .int .i64 0, .int .i64 0, .string ⟨#[]⟩, .bool false, .int .i64 0, .int .i64 0, .slice none 0 0, .slice none 0 0, .bool false, .int .i64 0, .int .i64 0, .int .i64 0, .int .i64 0, .string ⟨#[]⟩] 29 (0, 0)) := by rw [← hw2]; exact heap_alloc2_new w _ _
  obtain ⟨ab, hab⟩ : ∃ ab, w.heap.size = ab := ⟨_, rfl⟩
  obtain ⟨xb, hxb⟩ : ∃ xb, w2.heap.size = xb := ⟨_, rfl⟩
  rw [hab] at hb hz
  have hlt : ab + 1 < xb := by rw [← hxb]; exact (Array.getElem?_eq_some_iff.1 hz).1
  have c0 : w2.cell? ⟨ab, 0, none⟩ = some (.int .i64 t.ty) := (cell_of_row w2 ab 0 _ _ _ hb).trans rfl
  have c1 : w2.cell? ⟨ab, 1, none⟩ = some (.int .i64 t.tg) := (cell_of_row w2 ab 1 _ _ _ hb).trans rfl
  have HZ0 : Hid ((w2.alloc (.cells #[.int .i64 0, .int .i64 0, .int .i64 0, .int .i64 0, .int .i64 0, .int .i64 0, .string ⟨#[]⟩, .bool false, .int .i64 0, .int .i64 0, .slice none 0 0, .slice none 0 0, .bool false, .int .i64 0, .int .i64 0, .int .i64 0, .int .i64 0, .string ⟨#[]⟩] 29)).heap[xb]? = some (.cells #[.int .i64 0, .int .i64 0, .int .i64 0, .int .i64 0, .int .i64 0, .int .i64 0, .string ⟨#[]⟩, .bool false, .int .i64 0, .int .i64 0, .slice none 0 0, .slice none 0 0, .bool false, .int .i64 0, .int .i64 0, .int .i64 0, .int .i64 0, .string ⟨#[]⟩] 29 (0, 0))) := Lib.hid (by rw [← hxb]; exact heap_alloc_new w2 _)
  have HI := Lib.hid (tl_info (TL.zero t.ty t.tg))
  have HS : Hid ((#[.int .i64 0, .int .i64 0, .int .i64 0, .int .i64 0, .int .i64 0, .int .i64 0, .string ⟨#[]⟩, .bool false, .int .i64 0, .int .i64 0, .slice none 0 0, .slice none 0 0, .bool false, .int .i64 0, .int .i64 0, .int .i64 0, .int .i64 0, .string ⟨#[]⟩] : Array Value).size = (TL.zero t.ty t.tg).cs.size) := Lib.hid rfl
  have HU := Lib.hid (TL.one (TL.zero t.ty t.tg))
  have E3 : Hid (Ext w2 ((w2.alloc (.cells #[.int .i64 0, .int .i64 0, .int .i64 0, .int .i64 0, .int .i64 0, .int .i64 0, .string ⟨#[]⟩, .bool false, .int .i64 0, .int .i64 0, .slice none 0 0, .slice none 0 0, .bool false, .int .i64 0, .int .i64 0, .int .i64 0, .int .i64 0, .string ⟨#[]⟩] 29)).setRow xb (TL.zero t.ty t.tg).cs)) := Lib.hid (below_setRow ((Ext.refl w2).alloc _) (Nat.le_of_eq hxb) _)
  have HX3 := Lib.hid (setRow_heap _ xb _ (TL.zero t.ty t.tg).cs _ _ HZ0.out)
  have HB3 := Lib.hid (E3.out.heap hb)
  have HZ3 := Lib.hid (E3.out.heap hz)
  have E2 := Lib.hid e2
  clear hb hz e2 hf
  go_enter Try.func31, Try.ntmps31
  go_wp2_with (first | (with_reducible refine wpList_store_row rfl 29 (.tmp 4) (.tmp 10) rfl xb _ rfl rfl _ _ HZ0.out HI.out HS.out HU.out ?_) | fail)
  refine (has18 t.ty 122 _).mono ?_
  rintro e w4 ⟨rfl, e4⟩
  rw [HF.out, show hasB [99] 122 = false from by decide]
  have HB0a := Lib.hid (e4.heap HB3.out)
  have HZ0a := Lib.hid (e4.heap HZ3.out)
  have HX0a := Lib.hid (e4.heap HX3.out)
  have HE0a : Hid (Ext w w4) := Lib.hid ((E2.out.trans E3.out).trans e4)
  clear e4
  go_wp2_with (first | fail)
  refine (has18 t.ty 113 _).mono ?_
  rintro e w5 ⟨rfl, e5⟩
  rw [HF.out, show hasB [99] 113 = false from by decide]
  have HB1a := Lib.hid (e5.heap HB0a.out)
  have HZ1a := Lib.hid (e5.heap HZ0a.out)
  have HX1a := Lib.hid (e5.heap HX0a.out)
  have HE1a : Hid (Ext w w5) := Lib.hid (HE0a.out.trans e5)
  clear e5
  go_wp2_with (first | fail)
  refine (has18 t.ty 101 _).mono ?_
  rintro e w6 ⟨rfl, e6⟩
  rw [HF.out, show hasB [99] 101 = false from by decide]
  have HB2a := Lib.hid (e6.heap HB1a.out)
  have HZ2a := Lib.hid (e6.heap HZ1a.out)
  have HX2a := Lib.hid (e6.heap HX1a.out)
  have HE2a : Hid (Ext w w6) := Lib.hid (HE1a.out.trans e6)
  clear e6
  go_wp2_with (first | fail)
  refine (has18 t.ty 108 _).mono ?_
  rintro e w7 ⟨rfl, e7⟩
  rw [HF.out, show hasB [99] 108 = false from by decide]
  have HB3a := Lib.hid (e7.heap HB2a.out)
  have HZ3a := Lib.hid (e7.heap HZ2a.out)
  have HX3a := Lib.hid (e7.heap HX2a.out)
  have HE3a : Hid (Ext w w7) := Lib.hid (HE2a.out.trans e7)
  clear e7
  go_wp2_with (first | fail)
  refine (has18 t.ty 105 _).mono ?_
  rintro e w8 ⟨rfl, e8⟩
  rw [HF.out, show hasB [99] 105 = false from by decide]
  have HB4a := Lib.hid (e8.heap HB3a.out)
  have HZ4a := Lib.hid (e8.heap HZ3a.out)
  have HX4a := Lib.hid (e8.heap HX3a.out)
  have HE4a : Hid (Ext w w8) := Lib.hid (HE3a.out.trans e8)
  clear e8
  go_wp2_with (first | fail)
  refine (has18 t.ty 100 _).mono ?_
  rintro e w9 ⟨rfl, e9⟩
  rw [HF.out, show hasB [99] 100 = false from by decide]
  have HB5a := Lib.hid (e9.heap HB4a.out)
  have HZ5a := Lib.hid (e9.heap HZ4a.out)
  have HX5a := Lib.hid (e9.heap HX4a.out)
  have HE5a : Hid (Ext w w9) := Lib.hid (HE4a.out.trans e9)
  clear e9
  go_wp2_with (first | fail)
  refine (has18 t.ty 99 _).mono ?_
  rintro e w10 ⟨rfl, e10⟩
  rw [HF.out, show hasB [99] 99 = true from by decide]
  have HB6a := Lib.hid (e10.heap HB5a.out)
  have HZ6a := Lib.hid (e10.heap HZ5a.out)
  have HX6a := Lib.hid (e10.heap HX5a.out)
  have HE6a : Hid (Ext w w10) := Lib.hid (HE5a.out.trans e10)
  clear e10
  have y6b : w10.cell? ⟨ab, 5, none⟩ = some (.int .i64 t.ct) := (cell_of_row _ ab 5 _ _ _ HB6a.out).trans rfl
  obtain ⟨o6b, z6b⟩ : ∃ o, w10.cell? ⟨xb, 5, none⟩ = some o := ⟨_, (cell_of_row _ xb 5 _ _ _ HX6a.out).trans rfl⟩
  have fr6b := blk_freeC HX6a.out 5
  have HO6b : Hid (On2 xb xb w10 (w10.setCell ⟨xb, 5, none⟩ (.int .i64 t.ct))) := Lib.hid (On2.set _ _ _ (.inl rfl))
  have HB6b := Lib.hid (HO6b.out.heap HB6a.out (by omega) (by omega))
  have HZ6b := Lib.hid (HO6b.out.heap HZ6a.out (by omega) (by omega))
  have HX6b : Hid ((w10.setCell ⟨xb, 5, none⟩ (.int .i64 t.ct)).heap[xb]? = some (.cells (TL.cs ({ (TL.zero t.ty t.tg : TL) with ct := t.ct })) 29 (0, 0))) := Lib.hid (set_blkC HX6a.out 5 _)
  have HE6b : Hid (Ext w (w10.setCell ⟨xb, 5, none⟩ (.int .i64 t.ct))) := Lib.hid (HO6b.out.ext HE6a.out (by omega) (by omega))
  go_wp2_with (first | fail)
  clear y6b z6b fr6b
  refine (has18 t.ty 115 _).mono ?_
  rintro e w11 ⟨rfl, e11⟩
  rw [HF.out, show hasB [99] 115 = false from by decide]
  have HB7a := Lib.hid (e11.heap HB6b.out)
  have HZ7a := Lib.hid (e11.heap HZ6b.out)
  have HX7a := Lib.hid (e11.heap HX6b.out)
  have HE7a : Hid (Ext w w11) := Lib.hid (HE6b.out.trans e11)
  clear e11
  have HIc := Lib.hid (tl_info ({ (TL.zero t.ty t.tg : TL) with ct := t.ct }))
  have HSc : Hid ((#[.int .i64 0, .int .i64 0, .int .i64 0, .int .i64 0, .int .i64 0, .int .i64 0, .string ⟨#[]⟩, .bool false, .int .i64 0, .int .i64 0, .slice none 0 0, .slice none 0 0, .bool false, .int .i64 0, .int .i64 0, .int .i64 0, .int .i64 0, .string ⟨#[]⟩] : Array Value).size = (TL.cs ({ (TL.zero t.ty t.tg : TL) with ct := t.ct })).size) := Lib.hid rfl
  have HUc := Lib.hid (TL.one ({ (TL.zero t.ty t.tg : TL) with ct := t.ct }))
  have HG := Lib.hid (setRow_heap w11 (ab + 1) _ (TL.cs ({ (TL.zero t.ty t.tg : TL) with ct := t.ct })) _ _ HZ7a.out)
  have EG := Lib.hid (below_setRow HE7a.out (by omega : w.heap.size ≤ ab + 1) (TL.cs ({ (TL.zero t.ty t.tg : TL) with ct := t.ct })))
  go_wp2_with (first | (with_reducible refine wpList_load_row rfl 29 (.tmp 4) rfl xb rfl _ _ _ _ HX7a.out Try.underlying29 rfl HIc.out ?_) | (with_reducible refine wpList_store_row rfl 29 (.tmp 2) (.tmp 54) rfl (ab + 1) _ rfl rfl _ _ HZ7a.out HIc.out HSc.out HUc.out ?_) | fail)
  refine bodyPost_ret (results_cell_row rfl _ _ (ab + 1) _ _ (0, 0) _ rfl HG.out Try.underlying29 rfl HIc.out) rfl ?_
  have ho : ownT t = ({ (TL.zero t.ty t.tg : TL) with ct := t.ct }) := by
    unfold ownT
    rw [HF.out]
    rfl
  rw [ho]
  exact ⟨rfl, EG.out⟩
set_option maxRecDepth 20000 in
set_option maxHeartbeats 4000000 in
theorem own_s (t : TL) (w : World) (hf : fld t.ty = [115]) : Calls Try.prog 31 #[.agg t.cs] w fun e w' => e = .returned (.agg (ownT t).cs) ∧ Ext w w' := by
  have HF := Lib.hid hf
  obtain ⟨w2, hw2⟩ : ∃ w2, (w.alloc (.cells t.cs 29)).alloc (.cells #[.int .i64 0, .int .i64 0, .int .i64 0, .int .i64 0, .int .i64 0, .int .i64 0, .string ⟨#[]⟩, .bool false, .int .i64 0, .int .i64 0, .slice none 0 0, .slice none 0 0, .bool false, .int .i64 0, .int .i64 0, .int .i64 0, .int .i64 0, .string ⟨#[]⟩] 29) = w2 := ⟨_, rfl⟩
  have e2 : Ext w w2 := by rw [← hw2]; exact ((Ext.refl w).alloc _).alloc _
  have hb : w2.heap[w.heap.size]? = some (.cells t.cs 29 (0, 0)) := by rw [← hw2]; exact ((Ext.refl _).alloc _).heap (heap_alloc_new w _)
  have hz : w2.heap[w.heap.size + 1]? = some (.cells #[.int .i64 0, .int .i64 0, .int .i64 0, .int .i64 0, .int .i64 0, .int .i64 0, .string ⟨#[]⟩, .bool false, .int .i64 0, .int .i64 0, .slice none 0 0, .slice none 0 0, .bool false, .int .i64 0, .int .i64 0, .int .i64 0, .int .i64 0, .string ⟨#[]⟩] 29 (0, 0)) := by rw [← hw2]; exact heap_alloc2_new w _ _
  obtain ⟨ab, hab⟩ : ∃ ab, w.heap.size = ab := ⟨_, rfl⟩
  obtain ⟨xb, hxb⟩ : ∃ xb, w2.heap.size = xb := ⟨_, rfl⟩
  rw [hab] at hb hz
  have hlt : ab + 1 < xb := by rw [← hxb]; exact (Array.getElem?_eq_some_iff.1 hz).1
  have c0 : w2.cell? ⟨ab, 0, none⟩ = some (.int .i64 t.ty) := (cell_of_row w2 ab 0 _ _ _ hb).trans rfl
  have c1 : w2.cell? ⟨ab, 1, none⟩ = some (.int .i64 t.tg) := (cell_of_row w2 ab 1 _ _ _ hb).trans rfl
  have HZ0 : Hid ((w2.alloc (.cells #[.int .i64 0, .int .i64 0, .int .i64 0, .int .i64 0, .int .i64 0, .int .i64 0, .string ⟨#[]⟩, .bool false, .int .i64 0, .int .i64 0, .slice none 0 0, .slice none 0 0, .bool false, .int .i64 0, .int .i64 0, .int .i64 0, .int .i64 0, .string ⟨#[]⟩] 29)).heap[xb]? = some (.cells #[.int .i64 0, .int .i64 0, .int .i64 0, .int .i64 0, .int .i64 0, .int .i64 0, .string ⟨#[]⟩, .bool false, .int .i64 0, .int .i64 0, .slice none 0 0, .slice none 0 0, .bool false, .int .i64 0, .int .i64 0, .int .i64 0, .int .i64 0, .string ⟨#[]⟩] 29 (0, 0))) := Lib.hid (by rw [← hxb]; exact heap_alloc_new w2 _)
  have HI := Lib.hid (tl_info (TL.zero t.ty t.tg))
  have HS : Hid ((#[.int .i64 0, .int .i64 0, .int .i64 0, .int .i64 0, .int .i64 0, .int .i64 0, .string ⟨#[]⟩, .bool false, .int .i64 0, .int .i64 0, .slice none 0 0, .slice none 0 0, .bool false, .int .i64 0, .int .i64 0, .int .i64 0, .int .i64 0, .string ⟨#[]⟩] : Array Value).size = (TL.zero t.ty t.tg).cs.size) := Lib.hid rfl
  have HU := Lib.hid (TL.one (TL.zero t.ty t.tg))
  have E3 : Hid (Ext w2 ((w2.alloc (.cells #[.int .i64 0, .int .i64 0, .int .i64 0, .int .i64 0, .int .i64 0, .int .i64 0, .string ⟨#[]⟩, .bool false, .int .i64 0, .int .i64 0, .slice none 0 0, .slice none 0 0, .bool false, .int .i64 0, .int .i64 0, .int .i64 0, .int .i64 0, .string ⟨#[]⟩] 29)).setRow xb (TL.zero t.ty t.tg).cs)) := Lib.hid (below_setRow ((Ext.refl w2).alloc _) (Nat.le_of_eq hxb) _)
  have HX3 := Lib.hid (setRow_heap _ xb _ (TL.zero t.ty t.tg).cs _ _ HZ0.out)
  have HB3 := Lib.hid (E3.out.heap hb)
  have HZ3 := Lib.hid (E3.out.heap hz)
  have E2 := Lib.hid e2
  clear hb hz e2 hf
  go_enter Try.func31, Try.ntmps31
  go_wp2_with (first | (with_reducible refine wpList_store_row rfl 29 (.tmp 4) (.tmp 10) rfl xb _ rfl rfl _ _ HZ0.out HI.out HS.out HU.out ?_) | fail)
  refine (has18 t.ty 122 _).mono ?_
  rintro e w4 ⟨rfl, e4⟩
  rw [HF.out, show hasB [115] 122 = false from by decide]
  have HB0a := Lib.hid (e4.heap HB3.out)
  have HZ0a := Lib.hid (e4.heap HZ3.out)
  have HX0a := Lib.hid (e4.heap HX3.out)
  have HE0a : Hid (Ext w w4) := Lib.hid ((E2.out.trans E3.out).trans e4)
  clear e4
  go_wp2_with (first | fail)
  refine (has18 t.ty 113 _).mono ?_
  rintro e w5 ⟨rfl, e5⟩
  rw [HF.out, show hasB [115] 113 = false from by decide]
  have HB1a := Lib.hid (e5.heap HB0a.out)
  have HZ1a := Lib.hid (e5.heap HZ0a.out)
  have HX1a := Lib.hid (e5.heap HX0a.out)
  have HE1a : Hid (Ext w w5) := Lib.hid (HE0a.out.trans e5)
  clear e5
  go_wp2_with (first | fail)
  refine (has18 t.ty 101 _).mono ?_
  rintro e w6 ⟨rfl, e6⟩
  rw [HF.out, show hasB [115] 101 = false from by decide]
  have HB2a := Lib.hid (e6.heap HB1a.out)
  have HZ2a := Lib.hid (e6.heap HZ1a.out)
  have HX2a := Lib.hid (e6.heap HX1a.out)
  have HE2a : Hid (Ext w w6) := Lib.hid (HE1a.out.trans e6)
  clear e6
  go_wp2_with (first | fail)
  refine (has18 t.ty 108 _).mono ?_
  rintro e w7 ⟨rfl, e7⟩
  rw [HF.out, show hasB [115] 108 = false from by decide]
  have HB3a := Lib.hid (e7.heap HB2a.out)
  have HZ3a := Lib.hid (e7.heap HZ2a.out)
  have HX3a := Lib.hid (e7.heap HX2a.out)
  have HE3a : Hid (Ext w w7) := Lib.hid (HE2a.out.trans e7)
  clear e7
  go_wp2_with (first | fail)
  refine (has18 t.ty 105 _).mono ?_
  rintro e w8 ⟨rfl, e8⟩
  rw [HF.out, show hasB [115] 105 = false from by decide]
  have HB4a := Lib.hid (e8.heap HB3a.out)
  have HZ4a := Lib.hid (e8.heap HZ3a.out)
  have HX4a := Lib.hid (e8.heap HX3a.out)
  have HE4a : Hid (Ext w w8) := Lib.hid (HE3a.out.trans e8)
  clear e8
  go_wp2_with (first | fail)
  refine (has18 t.ty 100 _).mono ?_
  rintro e w9 ⟨rfl, e9⟩
  rw [HF.out, show hasB [115] 100 = false from by decide]
  have HB5a := Lib.hid (e9.heap HB4a.out)
  have HZ5a := Lib.hid (e9.heap HZ4a.out)
  have HX5a := Lib.hid (e9.heap HX4a.out)
  have HE5a : Hid (Ext w w9) := Lib.hid (HE4a.out.trans e9)
  clear e9
  go_wp2_with (first | fail)
  refine (has18 t.ty 99 _).mono ?_
  rintro e w10 ⟨rfl, e10⟩
  rw [HF.out, show hasB [115] 99 = false from by decide]
  have HB6a := Lib.hid (e10.heap HB5a.out)
  have HZ6a := Lib.hid (e10.heap HZ5a.out)
  have HX6a := Lib.hid (e10.heap HX5a.out)
  have HE6a : Hid (Ext w w10) := Lib.hid (HE5a.out.trans e10)
  clear e10
  go_wp2_with (first | fail)
  refine (has18 t.ty 115 _).mono ?_
  rintro e w11 ⟨rfl, e11⟩
  rw [HF.out, show hasB [115] 115 = true from by decide]
  have HB7a := Lib.hid (e11.heap HB6a.out)
  have HZ7a := Lib.hid (e11.heap HZ6a.out)
  have HX7a := Lib.hid (e11.heap HX6a.out)
  have HE7a : Hid (Ext w w11) := Lib.hid (HE6a.out.trans e11)
  clear e11
  have HSL7b : Hid (12 + ((sv t) : Array Value).size ≤ (TL.cs (TL.zero t.ty t.tg)).size) := Lib.hid (by show 12 + 6 ≤ 18; omega)
  have HNN7b : Hid (((TL.cs (TL.zero t.ty t.tg)).toList.take 12 ++ ((sv t) : Array Value).toList ++ (TL.cs (TL.zero t.ty t.tg)).toList.drop (12 + ((sv t) : Array Value).size)).toArray = TL.cs ({ (TL.zero t.ty t.tg : TL) with s := t.s, sm := t.sm, sz := t.sz, sn := t.sn })) := Lib.hid rfl
  have HL7b : Hid (∀ j v, (sv t)[j]? = some v → t.cs[12 + j]? = some v) := Lib.hid (fun j v h => by
    have hj : j < 6 := (Array.getElem?_eq_some_iff.1 h).1
    match j, hj with
    | 0, _ => exact h
    | 1, _ => exact h
    | 2, _ => exact h
    | 3, _ => exact h
    | 4, _ => exact h
    | 5, _ => exact h
    | n + 6, h9 => omega)
  have HO7b : Hid (On2 xb xb w11 (w11.setRow xb (TL.cs ({ (TL.zero t.ty t.tg : TL) with s := t.s, sm := t.sm, sz := t.sz, sn := t.sn })))) := Lib.hid (on2_row _ _ _)
  have HB7b := Lib.hid (HO7b.out.heap HB7a.out (by omega) (by omega))
  have HZ7b := Lib.hid (HO7b.out.heap HZ7a.out (by omega) (by omega))
  have HX7b : Hid ((w11.setRow xb (TL.cs ({ (TL.zero t.ty t.tg : TL) with s := t.s, sm := t.sm, sz := t.sz, sn := t.sn }))).heap[xb]? = some (.cells (TL.cs ({ (TL.zero t.ty t.tg : TL) with s := t.s, sm := t.sm, sz := t.sz, sn := t.sn })) 29 (0, 0))) := Lib.hid (setRow_heap _ xb _ _ _ _ HX7a.out)
  have HE7b : Hid (Ext w (w11.setRow xb (TL.cs ({ (TL.zero t.ty t.tg : TL) with s := t.s, sm := t.sm, sz := t.sz, sn := t.sn })))) := Lib.hid (HO7b.out.ext HE7a.out (by omega) (by omega))
  have HIc := Lib.hid (tl_info ({ (TL.zero t.ty t.tg : TL) with s := t.s, sm := t.sm, sz := t.sz, sn := t.sn }))
  have HSc : Hid ((#[.int .i64 0, .int .i64 0, .int .i64 0, .int .i64 0, .int .i64 0, .int .i64 0, .string ⟨#[]⟩, .bool false, .int .i64 0, .int .i64 0, .slice none 0 0, .slice none 0 0, .bool false, .int .i64 0, .int .i64 0, .int .i64 0, .int .i64 0, .string ⟨#[]⟩] : Array Value).size = (TL.cs ({ (TL.zero t.ty t.tg : TL) with s := t.s, sm := t.sm, sz := t.sz, sn := t.sn })).size) := Lib.hid rfl
  have HUc := Lib.hid (TL.one ({ (TL.zero t.ty t.tg : TL) with s := t.s, sm := t.sm, sz := t.sz, sn := t.sn }))
  have HG := Lib.hid (setRow_heap (w11.setRow xb (TL.cs ({ (TL.zero t.ty t.tg : TL) with s := t.s, sm := t.sm, sz := t.sz, sn := t.sn }))) (ab + 1) _ (TL.cs ({ (TL.zero t.ty t.tg : TL) with s := t.s, sm := t.sm, sz := t.sz, sn := t.sn })) _ _ HZ7b.out)
  have EG := Lib.hid (below_setRow HE7b.out (by omega : w.heap.size ≤ ab + 1) (TL.cs ({ (TL.zero t.ty t.tg : TL) with s := t.s, sm := t.sm, sz := t.sz, sn := t.sn })))
  go_wp2_with (first | (with_reducible refine wpList_load_sub rfl 27 (.tmp 51) rfl ab 12 rfl 29 _ _ _ _ HB7a.out HL7b.out Try.underlying27 rfl (stat_info t) ?_) | (with_reducible refine wpList_store_sub rfl 27 (.tmp 53) (.tmp 52) rfl xb 12 _ _ _ rfl rfl 29 HX7a.out (stat_info t) HSL7b.out (sv_one t) HNN7b.out ?_) | (with_reducible refine wpList_load_row rfl 29 (.tmp 4) rfl xb rfl _ _ _ _ HX7b.out Try.underlying29 rfl HIc.out ?_) | (with_reducible refine wpList_store_row rfl 29 (.tmp 2) (.tmp 54) rfl (ab + 1) _ rfl rfl _ _ HZ7b.out HIc.out HSc.out HUc.out ?_) | fail)
  refine bodyPost_ret (results_cell_row rfl _ _ (ab + 1) _ _ (0, 0) _ rfl HG.out Try.underlying29 rfl HIc.out) rfl ?_
  have ho : ownT t = ({ (TL.zero t.ty t.tg : TL) with s := t.s, sm := t.sm, sz := t.sz, sn := t.sn }) := by
    unfold ownT
    rw [HF.out]
    rfl
  rw [ho]
  exact ⟨rfl, EG.out⟩
theorem own18 (t : TL) (w : World) : Calls Try.prog 31 #[.agg t.cs] w fun e w' => e = .returned (.agg (ownT t).cs) ∧ Ext w w' := by
  by_cases n101 : t.ty = 101
  · exact own_zn t w (by rw [n101]; rfl)
  by_cases n105 : t.ty = 105
  · exact own_q t w (by rw [n105]; rfl)
  by_cases n107 : t.ty = 107
  · exact own_e t w (by rw [n107]; rfl)
  by_cases n109 : t.ty = 109
  · exact own_dash t w (by rw [n109]; rfl)
  by_cases n111 : t.ty = 111
  · exact own_l t w (by rw [n111]; rfl)
  by_cases n113 : t.ty = 113
  · exact own_qi t w (by rw [n113]; rfl)
  by_cases n115 : t.ty = 115
  · exact own_qi t w (by rw [n115]; rfl)
  by_cases n117 : t.ty = 117
  · exact own_d t w (by rw [n117]; rfl)
  by_cases n119 : t.ty = 119
  · exact own_c t w (by rw [n119]; rfl)
  by_cases n121 : t.ty = 121
  · exact own_dash t w (by rw [n121]; rfl)
  by_cases n123 : t.ty = 123
  · exact own_dash t w (by rw [n123]; rfl)
  by_cases n125 : t.ty = 125
  · exact own_s t w (by rw [n125]; rfl)
  by_cases n127 : t.ty = 127
  · exact own_dash t w (by rw [n127]; rfl)
  exact own_none t w (by simp only [fld, n101, n105, n107, n109, n111, n113, n115, n117, n119, n121, n123, n125, n127, if_false])
end Go.Proofs.Ytihiclnbbpablaa
