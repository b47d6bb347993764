/-
  Layer 22: a request that is picked.
-/
import Derived.Test.YtnbeeglomciieaaTagD
import Derived.Laws.CopyRow
namespace Go.Proofs.Ytnbeeglomciieaa
open Go Go.RowKit
set_option linter.unusedVariables false
set_option linter.unusedSimpArgs false
theorem run_copy_rows {P : Program} (w : World) (dT sT ty elem : TypeId) (g o dLen dCap : Nat) (a : Addr) (sLen sCap : Nat) (cur : Array Value) (t : TypeId) (cs : List Value) (sz n : Nat)
    (hu : P.underlying dT = some (.slice elem)) (hs : (P.info? elem).map (·.size) = some sz)
    (hg : w.heap[g]? = some (.cells cur t (0, 0))) (hmin : Nat.min sLen dLen = n) (hn : cs.length = n * sz)
    (hsrc : ∀ j v, cs[j]? = some v → w.cell? (a.add j) = some v) (hfit : o + cs.length ≤ cur.size) (h1 : ∀ v ∈ cs, v.oneCell' = true) :
    (Builtin.copy_ #[dT, sT] ty #[.slice (some ⟨g, o, none⟩) dLen dCap, .slice (some a) sLen sCap]).run P w =
      .ok (goInt n) (w.setRow g (cur.toList.take o ++ cs ++ cur.toList.drop (o + cs.length)).toArray) := by
  have hl := run_loadCells_list (P := P) w a cs hsrc
  have hst := run_storeCells_at P g o t cs 0 cur w hg (by simpa using hfit) h1
  cases hq : P.info? elem with
  | none => simp [hq] at hs
  | some i =>
    have hi : i.size = sz := by simpa [hq] using hs
    simp [Builtin.copy_, run_underlying hu, Builtin.lenOf, Builtin.firstCells, sizeOf, typeInfo, hq, hi, hmin, ← hn, hl, hst]
theorem exec_copy {P : Program} {o : Oper} {a : Act} {w w' : World} {r : Value} (d s : Operand) (t : TypeId)
    (ho : o.op = .call { callee := .builtin .copy, args := #[d, s], argTypes := #[t, t] }) (v u : Value) (hd : a.eval d = v) (hs : a.eval s = u)
    (hrun : (Builtin.copy_ #[t, t] o.type #[v, u]).run P w = .ok r w') : (execOp a.eval o).run P w = .ok (.value r) w' := by
  simp [execOp, ho, resolve, invoke, builtin, hd, hs, hrun, Result.andThen]
theorem results_cell_row2 {P : Program} {fn : Func} {p u : Tmp} {ty : TypeId} (h : fn.results = #[.cell p ty, .tmp u]) (tmps : Array Value) (w : World) (g : Nat) (t : TypeId) (cs : Array Value) (fr : Nat × Nat) (d : TypeDesc)
    (hp : tmps.getD p undef = .pointer (some ⟨g, 0, none⟩)) (hg : w.heap[g]? = some (.cells cs t fr))
    (hu : P.underlying ty = some d) (hd : (match d with | .struct _ | .array _ _ => true | _ => false) = true) (hi : (P.info? ty).map (·.size) = some cs.size) :
    (results fn tmps).run P w = .ok (.tuple #[.agg cs, tmps.getD u undef]) w := by
  rw [results_cell_tmp h, hp]
  simp [asAddr, run_loadVar_row w g t ty cs fr d hg hu hd hi]
theorem tg_slice2 (tb l n : Nat) (hl : l ≤ n) (hn : n ≤ 8) (w : World) : (Instr.sliceAt 58 (.pointer (some ⟨tb, 2, none⟩)) (some (.int .i64 (l : Int))) (some (.int .i64 (n : Int))) none).run Try.prog w = .ok (.slice (some (if 8 = l then ⟨tb, 2, none⟩ else ⟨tb, 2 + l * 14, none⟩)) (n - l) (8 - l)) w := by
  have ha : Try.prog.arrayLen 58 = 8 := by kernel_rfl
  have he : Try.prog.elem 58 = 32 := by kernel_rfl
  have ht : Try.prog.underlying 58 = some (.array (Try.prog.arrayLen 58) (Try.prog.elem 58)) := by rw [ha, he]; exact Try.underlying58
  have hs : (sizeOf 32).run Try.prog w = .ok 14 w := by
    have h := ak_info (0, 0)
    cases hq : Try.prog.info? 32 with
    | none => rw [hq] at h; cases h
    | some i =>
      rw [hq] at h
      have h2 : i.size = 14 := by simpa [akA, ak] using h
      simp [sizeOf, typeInfo, hq, h2]
  rw [run_sliceAt_array_lh w _ _ ht .i64 .i64 (l : Int) (n : Int) (by omega) (by omega) (by rw [ha]; omega), he, hs, ha]
  simp [slicedAt, addr_add, Result.andThen]
/-- The cells: where a request stands, another one is put. -/
theorem tgc_put (most nn : Int) (M R : List (Int × Int)) (z p : Int × Int) :
    ((tgc most nn (M ++ z :: R)).toList.take (2 + 14 * M.length) ++ (akA p).toList ++ (tgc most nn (M ++ z :: R)).toList.drop (2 + 14 * M.length + (akA p).size)).toArray = tgc most nn (M ++ p :: R) := by
  have h3 : (tgc most nn (M ++ z :: R)).toList = (.int .i64 most :: .int .i64 nn :: M.flatMap ak) ++ (ak z ++ R.flatMap ak) := by
    simp [tgc, List.flatMap_append, List.flatMap_cons]
  have h4 : (.int .i64 most :: .int .i64 nn :: M.flatMap ak : List Value).length = 2 + 14 * M.length := by
    rw [List.length_cons, List.length_cons, aks_len]; omega
  have h5 : (akA p).size = 14 := rfl
  rw [h3, h5]
  rw [List.take_left' h4, ← List.append_assoc, List.drop_left' (by rw [List.length_append, h4, ak_len])]
  simp [tgc, akA, List.flatMap_append, List.flatMap_cons]
/-- The requests behind one are moved up. -/
theorem tgc_copy (most nn : Int) (A B C Z : List (Int × Int)) (q z : Int × Int) (h : q :: B = C ++ [z]) :
    ((tgc most nn (A ++ q :: B ++ Z)).toList.take (2 + A.length * 14) ++ B.flatMap ak ++ (tgc most nn (A ++ q :: B ++ Z)).toList.drop (2 + A.length * 14 + (B.flatMap ak).length)).toArray = tgc most nn (A ++ B ++ z :: Z) := by
  have hBC : B.length = C.length := by
    have := congrArg List.length h
    simp at this
    exact this
  have h3 : (tgc most nn (A ++ q :: B ++ Z)).toList = (.int .i64 most :: .int .i64 nn :: A.flatMap ak) ++ (C.flatMap ak ++ (ak z ++ Z.flatMap ak)) := by
    rw [List.append_assoc, show q :: B ++ Z = C ++ ([z] ++ Z) from by rw [← List.append_assoc, ← h]]
    simp [tgc, List.flatMap_append, List.flatMap_cons]
  have h4 : (.int .i64 most :: .int .i64 nn :: A.flatMap ak : List Value).length = 2 + A.length * 14 := by
    rw [List.length_cons, List.length_cons, aks_len]; omega
  rw [h3]
  rw [List.take_left' h4, ← List.append_assoc (.int .i64 most :: .int .i64 nn :: A.flatMap ak), List.drop_left' (by rw [List.length_append, h4, aks_len, aks_len, hBC])]
  simp [tgc, List.flatMap_append, List.flatMap_cons]
theorem snoc (q : Int × Int) : ∀ B : List (Int × Int), ∃ C z, q :: B = C ++ [z] := fun B => ⟨(q :: B).dropLast, (q :: B).getLast (by simp), (List.dropLast_concat_getLast (by simp)).symm⟩
set_option maxRecDepth 20000 in
set_option maxHeartbeats 4000000 in
theorem tpick_ok (tb most : Nat) (A B : List (Int × Int)) (q : Int × Int) (w : World) (h : TagT w tb most (A ++ q :: B)) :
    Calls Try.prog 11 #[.pointer (some ⟨tb, 0, none⟩), .int .i64 (A.length : Int)] w fun e w' => e = .returned (.tuple #[.agg (akA q), .int .i64 0]) ∧ TagT w' tb most (A ++ B) ∧ OnT tb w w' := by
  obtain ⟨n, hn⟩ : ∃ n, (A ++ q :: B).length = n := ⟨_, rfl⟩
  have hn2 : n = A.length + B.length + 1 := by rw [← hn, List.length_append, List.length_cons]; omega
  obtain ⟨h1, h2, hm8⟩ := h
  rw [hn] at h1 h2
  have hn8 : n ≤ 8 := by omega
  have htl : tb < w.heap.size := (Array.getElem?_eq_some_iff.1 h1).1
  obtain ⟨C, z, hCz⟩ := snoc q B
  obtain ⟨Z, hZ⟩ : ∃ Z, List.replicate (8 - n) ((0, 0) : Int × Int) = Z := ⟨_, rfl⟩
  have hpad : pad (A ++ q :: B) = A ++ q :: B ++ Z := by unfold pad; rw [hn, hZ]
  have hpad2 : pad (A ++ B) = A ++ B ++ (0, 0) :: Z := by
    unfold pad
    rw [List.length_append, show 8 - (A.length + B.length) = (8 - n) + 1 from by omega, List.replicate_succ, hZ]
  have hPL : (A ++ q :: B ++ Z).length = 8 := by rw [← hpad]; exact pad_len _ (by rw [hn]; exact hn8)
  rw [hpad] at h1
  obtain ⟨w1, hw1⟩ : ∃ w1, w.alloc (.cells #[.int .i64 0, .int .i64 0, .int .i64 0, .int .i64 0, .int .i64 0, .int .i64 0, .int .i64 0, .int .i64 0, .int .i64 0, .int .i64 0, .string ⟨#[]⟩, .slice none 0 0, .int .i64 0, .slice none 0 0] 32) = w1 := ⟨_, rfl⟩
  have e1 : Ext w w1 := by rw [← hw1]; exact (Ext.refl w).alloc _
  have hb1 : w1.heap[w.heap.size]? = some (.cells (akA (0, 0)) 32 (0, 0)) := by rw [← hw1]; exact heap_alloc_new w _
  have ht1 := e1.heap h1
  have hsz1 : w1.heap.size = w.heap.size + 1 := by rw [← hw1]; simp
  have HSUB : Hid (∀ j v, (akA q)[j]? = some v → (tgc most n (A ++ q :: B ++ Z))[2 + 14 * A.length + j]? = some v) := Lib.hid (tgc_sub most n _ A.length q (by rw [List.append_assoc, List.getElem?_append_right (Nat.le_refl _)]; simp))
  have HI := Lib.hid ak_info
  have HU := Lib.hid ak_one
  have c1 := (cell_of_row w1 tb 1 _ _ _ ht1).trans (show _ = some (.int .i64 (n : Int)) from rfl)
  -- the request's own block
  obtain ⟨w2, hw2⟩ : ∃ w2, w1.alloc (.cells #[.int .i64 0, .int .i64 0, .int .i64 0, .int .i64 0, .int .i64 0, .int .i64 0, .int .i64 0, .int .i64 0, .int .i64 0, .int .i64 0, .string ⟨#[]⟩, .slice none 0 0, .int .i64 0, .slice none 0 0] 32) = w2 := ⟨_, rfl⟩
  have hz2 : w2.heap[(w.heap.size + 1)]? = some (.cells #[.int .i64 0, .int .i64 0, .int .i64 0, .int .i64 0, .int .i64 0, .int .i64 0, .int .i64 0, .int .i64 0, .int .i64 0, .int .i64 0, .string ⟨#[]⟩, .slice none 0 0, .int .i64 0, .slice none 0 0] 32 (0, 0)) := by rw [← hw2]; rw [← hsz1]; exact heap_alloc_new w1 _
  have e2 : Ext w1 w2 := by rw [← hw2]; exact (Ext.refl w1).alloc _
  obtain ⟨w3, hw3⟩ : ∃ w3, w2.setRow (w.heap.size + 1) (akA q) = w3 := ⟨_, rfl⟩
  have hq3 : w3.heap[(w.heap.size + 1)]? = some (.cells (akA q) 32 (0, 0)) := by rw [← hw3]; exact setRow_heap _ _ _ _ _ _ hz2
  have o3 : OnT (w.heap.size + 1) w2 w3 := by rw [← hw3]; exact OnT.row _ _
  have e3 : Ext w1 w3 := o3.ext e2 (by omega)
  have HT1 := Lib.hid ht1
  have HZ2 := Lib.hid hz2
  have HT3 := Lib.hid (e3.heap ht1)
  have HB3 := Lib.hid (e3.heap hb1)
  have HQ3 := Lib.hid hq3
  have E3 := Lib.hid (e1.trans e3)
  have HS3 : Hid ((#[.int .i64 0, .int .i64 0, .int .i64 0, .int .i64 0, .int .i64 0, .int .i64 0, .int .i64 0, .int .i64 0, .int .i64 0, .int .i64 0, .string ⟨#[]⟩, .slice none 0 0, .int .i64 0, .slice none 0 0] : Array Value).size = (akA q).size) := Lib.hid rfl
  have HN2 := Lib.hid hn2
  have HSZ1 := Lib.hid hsz1
  have HCZ := Lib.hid hCz
  have hAn : A.length + 1 ≤ n := by omega
  have hk8 : (A.length : Int) < 8 := by omega
  have hkn : ¬ (n : Int) ≤ (A.length : Int) := by omega
  have hk0 : ¬ (A.length : Int) < 0 := by omega
  clear hz2 hq3 o3 e3 e2 ht1 hb1 e1 h1 hn2 hn hpad hZ hCz
  go_enter Try.func11, Try.ntmps11
  go_wp2_with (first | (refine wpList_load_sub rfl 32 (.tmp 22) rfl tb (2 + 14 * A.length) (by first | rfl | exact congrArg (fun n => Value.pointer (some ⟨tb, n, none⟩)) (by omega)) _ _ _ _ _ HT1.out HSUB.out Try.underlying32 rfl (HI.out q) ?_) | (refine wpList_store_row rfl 32 (.tmp 6) (.tmp 23) rfl (w.heap.size + 1) (akA q) rfl rfl _ _ HZ2.out (HI.out q) HS3.out (HU.out q) ?_) | fail)
  have hs1 := tg_slice2 tb A.length n (by omega) hn8
  have hs2 := tg_slice2 tb (A.length + 1) n (by omega) hn8
  rw [if_neg (by omega)] at hs1
  rw [show ((A.length + 1 : Nat) : Int) = (A.length : Int) + 1 from by omega] at hs2
  obtain ⟨a2, ha2⟩ : ∃ a2 : Addr, (if 8 = A.length + 1 then ⟨tb, 2, none⟩ else ⟨tb, 2 + (A.length + 1) * 14, none⟩) = a2 := ⟨_, rfl⟩
  rw [ha2] at hs2
  have hwr : IntKind.i64.wrap ((A.length : Int) + 1) = ((A.length : Int) + 1) := by rw [IntKind.wrap_i64]; omega
  have HS4 : Hid ((fun w' : World => w'.cell? ⟨tb, 1, none⟩ = some (.int .i64 (n : Int))) w3.drew) := Lib.hid ((cell_of_row w3.drew tb 1 _ _ _ (show w3.drew.heap[tb]? = _ from HT3.out)).trans rfl)
  refine wp_region_plS (fun w' : World => w'.cell? ⟨tb, 1, none⟩ = some (.int .i64 (n : Int))) (.free 0 (.free 1 (.free 2 (.free 3 (.free 4 (.free 5 (.free 6 (.free 7 (.free 8 (.free 9 (.free 10 (.free 11 (.free 12 (.free 13 (.free 14 (.free 15 (.free 16 (.free 17 (.free 18 (.one 19 .nil)))))))))))))))))))) (by kernel_rfl) (by kernel_rfl) (by kernel_rfl) (by kernel_rfl) ?_
  refine plS_val (v := ?_) rfl rfl HS4.out (fun w' hw' => ?_) ?_; rotate_left; (· have q1 := hw'; go_simp; try with_reducible rfl); simp only [Act.put, List.setIfInBounds_toArray, List.set_cons_zero, List.set_cons_succ]
  refine plS_val (v := ?_) rfl rfl HS4.out (fun w' hw' => ?_) ?_; rotate_left; (· have q1 := hw'; go_simp; try with_reducible rfl); simp only [Act.put, List.setIfInBounds_toArray, List.set_cons_zero, List.set_cons_succ]
  refine plS_val (v := ?_) rfl rfl HS4.out (fun w' hw' => ?_) ?_; rotate_left; (· have q1 := hw'; go_simp; try with_reducible rfl); simp only [Act.put, List.setIfInBounds_toArray, List.set_cons_zero, List.set_cons_succ]
  refine plS_val (v := ?_) rfl rfl HS4.out (fun w' hw' => ?_) ?_; rotate_left; (· have q1 := hw'; go_simp; try with_reducible rfl); simp only [Act.put, List.setIfInBounds_toArray, List.set_cons_zero, List.set_cons_succ]
  refine plS_val (v := ?_) rfl rfl HS4.out (fun w' hw' => ?_) ?_; rotate_left; (· have q1 := hw'; go_simp; try with_reducible rfl); simp only [Act.put, List.setIfInBounds_toArray, List.set_cons_zero, List.set_cons_succ]
  refine plS_val (v := ?_) rfl rfl HS4.out (fun w' hw' => ?_) ?_; rotate_left; (· have q1 := hw'; go_simp; try with_reducible rfl); simp only [Act.put, List.setIfInBounds_toArray, List.set_cons_zero, List.set_cons_succ]
  refine plS_val (v := ?_) rfl rfl HS4.out (fun w' hw' => ?_) ?_; rotate_left; (· have q1 := hw'; go_simp; try with_reducible rfl); simp only [Act.put, List.setIfInBounds_toArray, List.set_cons_zero, List.set_cons_succ]
  refine plS_val (v := ?_) rfl rfl HS4.out (fun w' hw' => ?_) ?_; rotate_left; (· have q1 := hw'; go_simp; try with_reducible rfl); simp only [Act.put, List.setIfInBounds_toArray, List.set_cons_zero, List.set_cons_succ]
  refine plS_val (v := ?_) rfl rfl HS4.out (fun w' hw' => ?_) ?_; rotate_left; (· have q1 := hw'; go_simp; try with_reducible rfl); simp only [Act.put, List.setIfInBounds_toArray, List.set_cons_zero, List.set_cons_succ]
  refine plS_val (v := ?_) rfl rfl HS4.out (fun w' hw' => ?_) ?_; rotate_left; (· have q1 := hw'; go_simp; try with_reducible rfl); simp only [Act.put, List.setIfInBounds_toArray, List.set_cons_zero, List.set_cons_succ]
  refine plS_val (v := ?_) rfl rfl HS4.out (fun w' hw' => ?_) ?_; rotate_left; (· have q1 := hw'; go_simp; try with_reducible rfl); simp only [Act.put, List.setIfInBounds_toArray, List.set_cons_zero, List.set_cons_succ]
  refine plS_val (v := ?_) rfl rfl HS4.out (fun w' hw' => ?_) ?_; rotate_left; (· have q1 := hw'; go_simp; try with_reducible rfl); simp only [Act.put, List.setIfInBounds_toArray, List.set_cons_zero, List.set_cons_succ]
  refine plS_val (v := ?_) rfl rfl HS4.out (fun w' hw' => ?_) ?_; rotate_left; (· have q1 := hw'; go_simp; try with_reducible rfl); simp only [Act.put, List.setIfInBounds_toArray, List.set_cons_zero, List.set_cons_succ]
  refine plS_val (v := ?_) rfl rfl HS4.out (fun w' hw' => ?_) ?_; rotate_left; (· have q1 := hw'; go_simp; try with_reducible rfl); simp only [Act.put, List.setIfInBounds_toArray, List.set_cons_zero, List.set_cons_succ]
  refine plS_val (v := ?_) rfl rfl HS4.out (fun w' hw' => ?_) ?_; rotate_left; (· have q1 := hw'; go_simp; try with_reducible rfl); simp only [Act.put, List.setIfInBounds_toArray, List.set_cons_zero, List.set_cons_succ]
  refine plS_val (v := ?_) rfl rfl HS4.out (fun w' hw' => ?_) ?_; rotate_left; (· have q1 := hw'; go_simp; try with_reducible rfl); simp only [Act.put, List.setIfInBounds_toArray, List.set_cons_zero, List.set_cons_succ]
  refine plS_val (v := ?_) rfl rfl HS4.out (fun w' hw' => ?_) ?_; rotate_left; (· have q1 := hw'; go_simp; try with_reducible rfl); simp only [Act.put, List.setIfInBounds_toArray, List.set_cons_zero, List.set_cons_succ]
  refine plS_val (v := ?_) rfl rfl HS4.out (fun w' hw' => ?_) ?_; rotate_left; (· have q1 := hw'; go_simp; try with_reducible rfl); simp only [Act.put, List.setIfInBounds_toArray, List.set_cons_zero, List.set_cons_succ]
  refine plS_val (v := ?_) rfl rfl HS4.out (fun w' hw' => ?_) ?_; rotate_left; (· have q1 := hw'; go_simp; try with_reducible rfl); simp only [Act.put, List.setIfInBounds_toArray, List.set_cons_zero, List.set_cons_succ]
  have hmin : Nat.min (n - (A.length + 1)) (n - A.length) = B.length := by
    have := HN2.out
    show min (n - (A.length + 1)) (n - A.length) = B.length
    omega
  have hbl : (B.flatMap ak).length = B.length * 14 := by rw [aks_len]; omega
  have hrun := run_copy_rows (P := Try.prog) w3.drew 28 28 3 32 tb (2 + A.length * 14) (n - A.length) (8 - A.length) a2 (n - (A.length + 1)) (8 - (A.length + 1)) (tgc most n (A ++ q :: B ++ Z)) 60 (B.flatMap ak) 14 B.length
    Try.underlying28 (HI.out (0, 0)) (show w3.drew.heap[tb]? = _ from HT3.out) hmin hbl (fun j v hv => by
      have hjl : j < B.length * 14 := by have := (List.getElem?_eq_some_iff.1 hv).1; omega
      have h8 : ¬ 8 = A.length + 1 := by have := HN2.out; omega
      rw [← ha2, if_neg h8, addr_add, cell_of_row w3.drew tb _ _ _ _ (show w3.drew.heap[tb]? = _ from HT3.out)]
      show (Array.mk (_ :: _ :: (A ++ q :: B ++ Z).flatMap ak))[2 + (A.length + 1) * 14 + j]? = some v
      rw [List.getElem?_toArray, show 2 + (A.length + 1) * 14 + j = ((A.length + 1) * 14 + j) + 1 + 1 from by omega]
      simp only [List.getElem?_cons_succ]
      rw [show A ++ q :: B ++ Z = (A ++ [q]) ++ (B ++ Z) from by simp, List.flatMap_append, List.getElem?_append_right (by rw [aks_len, List.length_append, List.length_singleton]; omega), aks_len, List.length_append, List.length_singleton, show (A.length + 1) * 14 + j - 14 * (A.length + 1) = j from by omega, List.flatMap_append, List.getElem?_append_left (by omega)]
      exact hv) (by rw [tgc_size _ _ _ hPL, hbl]; have := HN2.out; omega) (fun v hv => by
      obtain ⟨p, _, hp⟩ := List.mem_flatMap.1 hv
      exact (Array.all_eq_true_iff_forall_mem.1 (ak_one p)) v (by simpa [akA] using hp))
  rw [tgc_copy most n A B C Z q z HCZ.out] at hrun
  obtain ⟨w4, hw4⟩ : ∃ w4, w3.drew.setRow tb (tgc most n (A ++ B ++ z :: Z)) = w4 := ⟨_, rfl⟩
  rw [hw4] at hrun
  have ht4 : w4.heap[tb]? = some (.cells (tgc most n (A ++ B ++ z :: Z)) 60 (0, 0)) := by rw [← hw4]; exact setRow_heap _ _ _ _ _ _ HT3.out
  have HT4 := Lib.hid ht4
  have HB4 : Hid (w4.heap[w.heap.size]? = some (.cells (akA (0, 0)) 32 (0, 0))) := Lib.hid (by rw [← hw4]; exact (setRow_other _ _ _ _ (by omega)).trans HB3.out)
  have HQ4 : Hid (w4.heap[w.heap.size + 1]? = some (.cells (akA q) 32 (0, 0))) := Lib.hid (by rw [← hw4]; exact (setRow_other _ _ _ _ (by omega)).trans HQ3.out)
  have O4 : Hid (OnT tb w w4) := Lib.hid (by rw [← hw4]; exact (OnT.of_ext E3.out.drew).trans (OnT.row _ _))
  refine plS_run (w' := w4) (goInt B.length) rfl rfl (exec_copy (.tmp 32) (.tmp 42) 28 rfl _ _ rfl rfl hrun) ((cell_of_row w4 tb 1 _ _ _ ht4).trans rfl) ?_
  simp only [Act.put, List.setIfInBounds_toArray, List.set_cons_zero, List.set_cons_succ]
  refine plS_done ?_
  clear hrun hs1 hs2 HT3 HB3 HQ3 HS4 hw4
  have c4 := (cell_of_row w4 tb 1 _ _ _ ht4).trans (show _ = some (.int .i64 (n : Int)) from rfl)
  have fr4 := blk_freeT ht4 1
  obtain ⟨w5, hw5⟩ : ∃ w5, w4.setCell ⟨tb, 1, none⟩ (.int .i64 ((n : Int) - 1)) = w5 := ⟨_, rfl⟩
  have ht5 : w5.heap[tb]? = some (.cells (tgc most ((n : Int) - 1) (A ++ B ++ z :: Z)) 60 (0, 0)) := by rw [← hw5, set_blkT ht4 1 _]; rfl
  have HT5 := Lib.hid ht5
  have HB5 : Hid (w5.heap[w.heap.size]? = some (.cells (akA (0, 0)) 32 (0, 0))) := Lib.hid (by rw [← hw5]; exact (heap_setCell_other _ _ _ _ (by simp; omega)).trans HB4.out)
  have HQ5 : Hid (w5.heap[w.heap.size + 1]? = some (.cells (akA q) 32 (0, 0))) := Lib.hid (by rw [← hw5]; exact (heap_setCell_other _ _ _ _ (by simp; omega)).trans HQ4.out)
  have O5 : Hid (OnT tb w w5) := Lib.hid (by rw [← hw5]; exact O4.out.trans (OnT.set _ 1 _))
  clear ht4 ht5 HT4 HB4 HQ4 O4
  go_wp2_with fail
  have hn1 : ((n : Int) - 1) = ((A ++ B).length : Int) := by have := HN2.out; rw [List.length_append]; omega
  have HS6 : Hid ((fun w' : World => w'.cell? ⟨tb, 1, none⟩ = some (.int .i64 ((A ++ B).length : Int))) w5.drew) := Lib.hid ((cell_of_row w5.drew tb 1 _ _ _ (show w5.drew.heap[tb]? = _ from HT5.out)).trans (by rw [← hn1]; rfl))
  have hidx : ((A ++ B).length : Int) < 8 := by have := HN2.out; rw [List.length_append]; omega
  generalize hM : A ++ B = M at *
  refine wp_region_plS (fun w' : World => w'.cell? ⟨tb, 1, none⟩ = some (.int .i64 (M.length : Int))) (.free 0 (.free 1 (.free 2 (.free 3 (.free 4 (.free 5 (.free 6 (.free 7 (.free 8 (.one 9 .nil)))))))))) (by kernel_rfl) (by kernel_rfl) (by kernel_rfl) (by kernel_rfl) ?_
  refine plS_val (v := ?_) rfl rfl HS6.out (fun w' hw' => ?_) ?_; rotate_left; (· have q1 := hw'; go_simp; try with_reducible rfl); simp only [Act.put, List.setIfInBounds_toArray, List.set_cons_zero, List.set_cons_succ]
  refine plS_val (v := ?_) rfl rfl HS6.out (fun w' hw' => ?_) ?_; rotate_left; (· have q1 := hw'; go_simp; try with_reducible rfl); simp only [Act.put, List.setIfInBounds_toArray, List.set_cons_zero, List.set_cons_succ]
  refine plS_val (v := ?_) rfl rfl HS6.out (fun w' hw' => ?_) ?_; rotate_left; (· have q1 := hw'; go_simp; try with_reducible rfl); simp only [Act.put, List.setIfInBounds_toArray, List.set_cons_zero, List.set_cons_succ]
  refine plS_val (v := ?_) rfl rfl HS6.out (fun w' hw' => ?_) ?_; rotate_left; (· have q1 := hw'; go_simp; try with_reducible rfl); simp only [Act.put, List.setIfInBounds_toArray, List.set_cons_zero, List.set_cons_succ]
  refine plS_val (v := ?_) rfl rfl HS6.out (fun w' hw' => ?_) ?_; rotate_left; (· have q1 := hw'; go_simp; try with_reducible rfl); simp only [Act.put, List.setIfInBounds_toArray, List.set_cons_zero, List.set_cons_succ]
  refine plS_val (v := ?_) rfl rfl HS6.out (fun w' hw' => ?_) ?_; rotate_left; (· have q1 := hw'; go_simp; try with_reducible rfl); simp only [Act.put, List.setIfInBounds_toArray, List.set_cons_zero, List.set_cons_succ]
  refine plS_val (v := ?_) rfl rfl HS6.out (fun w' hw' => ?_) ?_; rotate_left; (· have q1 := hw'; go_simp; try with_reducible rfl); simp only [Act.put, List.setIfInBounds_toArray, List.set_cons_zero, List.set_cons_succ]
  refine plS_val (v := ?_) rfl rfl HS6.out (fun w' hw' => ?_) ?_; rotate_left; (· have q1 := hw'; go_simp; try with_reducible rfl); simp only [Act.put, List.setIfInBounds_toArray, List.set_cons_zero, List.set_cons_succ]
  refine plS_val (v := ?_) rfl rfl HS6.out (fun w' hw' => ?_) ?_; rotate_left; (· have q1 := hw'; go_simp; try with_reducible rfl); simp only [Act.put, List.setIfInBounds_toArray, List.set_cons_zero, List.set_cons_succ]
  obtain ⟨w6, hw6⟩ : ∃ w6, w5.drew.setRow tb (tgc most ((n : Int) - 1) (M ++ (0, 0) :: Z)) = w6 := ⟨_, rfl⟩
  have ht6 : w6.heap[tb]? = some (.cells (tgc most ((n : Int) - 1) (M ++ (0, 0) :: Z)) 60 (0, 0)) := by rw [← hw6]; exact setRow_heap _ _ _ _ _ _ HT5.out
  have HB6 : Hid (w6.heap[w.heap.size]? = some (.cells (akA (0, 0)) 32 (0, 0))) := Lib.hid (by rw [← hw6]; exact (setRow_other _ _ _ _ (by omega)).trans HB5.out)
  have HQ6 : Hid (w6.heap[w.heap.size + 1]? = some (.cells (akA q) 32 (0, 0))) := Lib.hid (by rw [← hw6]; exact (setRow_other _ _ _ _ (by omega)).trans HQ5.out)
  have O6 : Hid (OnT tb w w6) := Lib.hid (by rw [← hw6]; exact (O5.out.trans (OnT.of_ext (Ext.refl w5).drew)).trans (OnT.row _ _))
  have hsz6 : 2 + 14 * M.length + 14 ≤ (tgc most ((n : Int) - 1) (M ++ z :: Z)).size := by
    have h9 := congrArg List.length hpad2
    rw [tgc_size _ _ _ (by
      have hp := pad_len M (by omega)
      rw [h9] at hp
      simpa using hp)]
    omega
  refine plS_void (w' := w6) rfl rfl (by rw [← hw6]; exact exec_store_sub 32 (.tmp 59) (.tmp 56) rfl tb (2 + 14 * M.length) (akA (0, 0)) _ _ (by first | rfl | exact congrArg (fun n => Value.pointer (some ⟨tb, n, none⟩)) (by omega)) rfl _ HT5.out (HI.out (0, 0)) hsz6 (HU.out (0, 0)) (tgc_put _ _ _ _ _ _)) ((cell_of_row w6 tb 1 _ _ _ ht6).trans (by rw [← hn1]; rfl)) ?_
  simp only [Act.put, List.setIfInBounds_toArray, List.set_cons_zero, List.set_cons_succ]
  refine plS_done ?_
  have HT7 : Hid (w6.heap[tb]? = some (.cells (tgc most (M.length : Int) (pad M)) 60 (0, 0))) := Lib.hid (by rw [hpad2, ← hn1]; exact ht6)
  have HG := Lib.hid (setRow_heap w6 w.heap.size _ (akA q) _ _ HB6.out)
  have HF7 : Hid (TagT (w6.setRow w.heap.size (akA q)) tb most M ∧ OnT tb w (w6.setRow w.heap.size (akA q))) := Lib.hid ⟨⟨(setRow_other _ _ _ _ (by omega)).trans HT7.out, by have := hidx; omega, hm8⟩, O6.out.new (Nat.le_refl _) (OnT.row _ _)⟩
  have HSZ7 : Hid ((akA (0, 0)).size = (akA q).size) := Lib.hid rfl
  clear ht6 hw6 hw5 HT5 HB5 HQ5 O5 HS6 c4 fr4 hsz6
  go_wp2_with (first | (with_reducible refine wpList_load_row rfl 32 (.tmp 6) rfl (w.heap.size + 1) rfl _ _ _ _ HQ6.out Try.underlying32 rfl (HI.out q) ?_) | (with_reducible refine wpList_store_row rfl 32 (.tmp 4) (.tmp 60) rfl w.heap.size _ rfl rfl _ _ HB6.out (HI.out q) HSZ7.out (HU.out q) ?_) | fail)
  refine bodyPost_ret (results_cell_row2 rfl _ _ w.heap.size _ _ (0, 0) _ rfl HG.out Try.underlying32 rfl (HI.out q)) rfl ?_
  exact ⟨rfl, by rw [hM]; exact HF7.out.1, HF7.out.2⟩
end Go.Proofs.Ytnbeeglomciieaa
