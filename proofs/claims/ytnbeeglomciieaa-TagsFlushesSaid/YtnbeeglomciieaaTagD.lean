/-
  Layer 22: a new set of requests; whether a tag waits; a request that is put.
-/
import Derived.Test.YtnbeeglomciieaaTagC
import Derived.Lib.SliceRun
namespace Go.Proofs.Ytnbeeglomciieaa
open Go Go.RowKit
set_option linter.unusedVariables false
set_option linter.unusedSimpArgs false
/-- All blocks but one are as they were. -/
def OnT (g : Nat) (w w' : World) : Prop := w.grownBy w' (some g)
theorem OnT.refl (g : Nat) (w : World) : OnT g w w := ⟨rfl, rfl, rfl, Nat.le_refl _, fun _ _ _ => rfl⟩
theorem OnT.trans {g : Nat} {a b c : World} (h : OnT g a b) (k : OnT g b c) : OnT g a c := World.grownBy.trans h k
theorem OnT.of_ext {g : Nat} {a b : World} (h : Ext a b) : OnT g a b := ⟨h.os, h.tape, h.output, h.size, fun k hk _ => h.block k hk⟩
theorem OnT.ext {g : Nat} {a b c : World} (h : Ext a b) (k : OnT g b c) (hg : a.heap.size ≤ g) : Ext a c :=
  ⟨k.os.trans h.os, k.tape.trans h.tape, k.output.trans h.output, Nat.le_trans h.size k.size, fun i hi => (k.block i (Nat.lt_of_lt_of_le hi h.size) (fun e => by injection e; omega)).trans (h.block i hi)⟩
theorem OnT.set {g : Nat} (w : World) (i : Nat) (v : Value) : OnT g w (w.setCell ⟨g, i, none⟩ v) :=
  ⟨rfl, rfl, rfl, by simp [World.setCell], fun k hk hne => Below.heap_setCell w ⟨g, i, none⟩ v k (fun e => hne (by rw [e]))⟩
theorem OnT.row {g : Nat} (w : World) (cs : Array Value) : OnT g w (w.setRow g cs) :=
  ⟨rfl, rfl, rfl, by simp [World.setRow], fun k hk hne => setRow_other w g k _ (fun e => hne (by rw [e]))⟩
theorem OnT.new {g k : Nat} {a b c : World} (h : OnT g a b) (hk : a.heap.size ≤ k) (h2 : OnT k b c) : OnT g a c :=
  ⟨h2.os.trans h.os, h2.tape.trans h.tape, h2.output.trans h.output, Nat.le_trans h.size h2.size, fun j hj hne => (h2.block j (Nat.lt_of_lt_of_le hj h.size) (fun e => by injection e; omega)).trans (h.block j hj hne)⟩
theorem set_blkT {w : World} {g : Nat} {cs : Array Value} {t : TypeId} {fr : Nat × Nat} (h : w.heap[g]? = some (.cells cs t fr)) (i : Nat) (v : Value) :
    (w.setCell ⟨g, i, none⟩ v).heap[g]? = some (.cells (cs.setIfInBounds i v) t fr) := by
  simp [World.setCell, Array.getElem?_modify, h]
theorem blk_freeT {w : World} {g : Nat} {cs : Array Value} {t : TypeId} (h : w.heap[g]? = some (.cells cs t (0, 0))) (i : Nat) : w.frozen? ⟨g, i, none⟩ = false := by
  simp [World.frozen?, h]
set_option maxRecDepth 20000 in
theorem tnew_ok (n : Nat) (h1 : 1 ≤ n) (h8 : n ≤ 8) (w : World) : Calls Try.prog 9 #[.int .i64 (n : Int)] w fun e w' => ∃ tb, e = .returned (.tuple #[.pointer (some ⟨tb, 0, none⟩), .int .i64 0]) ∧ TagT w' tb n [] ∧ w.heap.size ≤ tb ∧ Ext w w' := by
  have hz : ∀ w, (zeroValue 60).run Try.prog w = .ok (.agg #[.int .i64 0, .int .i64 0, .int .i64 0, .int .i64 0, .int .i64 0, .int .i64 0, .int .i64 0, .int .i64 0, .int .i64 0, .int .i64 0, .int .i64 0, .int .i64 0, .string ⟨#[]⟩, .slice none 0 0, .int .i64 0, .slice none 0 0, .int .i64 0, .int .i64 0, .int .i64 0, .int .i64 0, .int .i64 0, .int .i64 0, .int .i64 0, .int .i64 0, .int .i64 0, .int .i64 0, .string ⟨#[]⟩, .slice none 0 0, .int .i64 0, .slice none 0 0, .int .i64 0, .int .i64 0, .int .i64 0, .int .i64 0, .int .i64 0, .int .i64 0, .int .i64 0, .int .i64 0, .int .i64 0, .int .i64 0, .string ⟨#[]⟩, .slice none 0 0, .int .i64 0, .slice none 0 0, .int .i64 0, .int .i64 0, .int .i64 0, .int .i64 0, .int .i64 0, .int .i64 0, .int .i64 0, .int .i64 0, .int .i64 0, .int .i64 0, .string ⟨#[]⟩, .slice none 0 0, .int .i64 0, .slice none 0 0, .int .i64 0, .int .i64 0, .int .i64 0, .int .i64 0, .int .i64 0, .int .i64 0, .int .i64 0, .int .i64 0, .int .i64 0, .int .i64 0, .string ⟨#[]⟩, .slice none 0 0, .int .i64 0, .slice none 0 0, .int .i64 0, .int .i64 0, .int .i64 0, .int .i64 0, .int .i64 0, .int .i64 0, .int .i64 0, .int .i64 0, .int .i64 0, .int .i64 0, .string ⟨#[]⟩, .slice none 0 0, .int .i64 0, .slice none 0 0, .int .i64 0, .int .i64 0, .int .i64 0, .int .i64 0, .int .i64 0, .int .i64 0, .int .i64 0, .int .i64 0, .int .i64 0, .int .i64 0, .string ⟨#[]⟩, .slice none 0 0, .int .i64 0, .slice none 0 0, .int .i64 0, .int .i64 0, .int .i64 0, .int .i64 0, .int .i64 0, .int .i64 0, .int .i64 0, .int .i64 0, .int .i64 0, .int .i64 0, .string ⟨#[]⟩, .slice none 0 0, .int .i64 0, .slice none 0 0]) w := fun w => by kernel_rfl
  have g1 : ¬ (n : Int) < 1 := by omega
  have g8 : ¬ 8 < (n : Int) := by omega
  go_enter Try.func9, Try.ntmps9
  go_wp2_with fail
  go_ret2
  exact ⟨w.heap.size, rfl, ⟨heap_alloc_new w (.cells (tgc n 0 (pad [])) 60), by simp, h8⟩, Nat.le_refl _, (Ext.refl w).alloc _⟩
theorem tnew_no (n : Int) (h : n < 1 ∨ 8 < n) (h0 : -9223372036854775808 ≤ n) (h9 : n ≤ 9223372036854775807) (w : World) : Calls Try.prog 9 #[.int .i64 n] w fun e w' => e = .returned (.tuple #[.pointer none, .int .i64 1]) ∧ Ext w w' := by
  rcases h with h | h
  · go_enter Try.func9, Try.ntmps9
    go_wp2_with fail
    go_ret2
    exact ⟨rfl, Ext.refl w⟩
  · have hn : ¬ n < 1 := by omega
    go_enter Try.func9, Try.ntmps9
    go_wp2_with fail
    go_ret2
    exact ⟨rfl, Ext.refl w⟩
def hasT (L : List (Int × Int)) (tag : Int) : Bool := (L.findIdx? fun p => p.2 == tag).isSome
theorem thas_any (tb most : Nat) (L : List (Int × Int)) (tag : Int) (w : World) (h : TagT w tb most L) :
    Calls Try.prog 19 #[.pointer (some ⟨tb, 0, none⟩), .int .i64 tag] w fun e w' => e = .returned (.bool (hasT L tag)) ∧ Ext w w' := by
  have HF := Lib.hid (tfind_any tb most L tag w h)
  clear h
  rcases hh : L.findIdx? (fun p => p.2 == tag) with _ | k
  · have hf : fndV L tag = .tuple #[.int .i64 0, .iface 25 (.int .i64 6)] := by unfold fndV; rw [hh]
    have hr : hasT L tag = false := by unfold hasT; rw [hh]; rfl
    rw [hf] at HF
    rw [hr]
    clear hf hr hh
    go_enter Try.func19, Try.ntmps19
    go_wp2_with fail
    refine HF.out.mono ?_
    rintro e w1 ⟨rfl, e1⟩
    go_wp2_with fail
    refine (eis_same 6 _).mono ?_
    rintro e w2 ⟨rfl, e2⟩
    go_wp2_with fail
    go_ret
    exact ⟨rfl, e1.trans e2⟩
  · have hf : fndV L tag = .tuple #[.int .i64 (k : Int), .nilIface] := by unfold fndV; rw [hh]
    have hr : hasT L tag = true := by unfold hasT; rw [hh]; rfl
    rw [hf] at HF
    rw [hr]
    clear hf hr hh
    go_enter Try.func19, Try.ntmps19
    go_wp2_with fail
    refine HF.out.mono ?_
    rintro e w1 ⟨rfl, e1⟩
    go_wp2_with fail
    refine (eis_nil 6 _).mono ?_
    rintro e w2 ⟨rfl, e2⟩
    go_wp2_with fail
    go_ret
    exact ⟨rfl, e1.trans e2⟩
set_option maxRecDepth 100000 in
theorem clone1_nil (w : World) : Calls Try.prog 27 #[.slice none 0 0] w fun e w' => e = .returned (.slice none 0 0) ∧ w = w' := by
  have he := Go.Lib.run_eql_slice_nil (P := Try.prog) w 29 9 none 0 0 0 0 Try.underlying29
  go_enter Try.func27, Try.ntmps27
  go_wp2
  go_ret
  exact ⟨rfl, rfl⟩
set_option maxRecDepth 100000 in
theorem clone2_nil (w : World) : Calls Try.prog 28 #[.slice none 0 0] w fun e w' => e = .returned (.slice none 0 0) ∧ w = w' := by
  have he := Go.Lib.run_eql_slice_nil (P := Try.prog) w 30 5 none 0 0 0 0 Try.underlying30
  go_enter Try.func28, Try.ntmps28
  go_wp2
  go_ret
  exact ⟨rfl, rfl⟩
theorem tgc_store (most nn : Int) (L : List (Int × Int)) (p : Int × Int) (h : L.length < 8) :
    ((tgc most nn (pad L)).toList.take (2 + 14 * L.length) ++ (akA p).toList ++ (tgc most nn (pad L)).toList.drop (2 + 14 * L.length + (akA p).size)).toArray = tgc most nn (pad (L ++ [p])) := by
  have h1 : pad L = L ++ ((0, 0) :: List.replicate (7 - L.length) (0, 0)) := by
    unfold pad
    rw [show 8 - L.length = (7 - L.length) + 1 from by omega, List.replicate_succ]
  have h2 : pad (L ++ [p]) = L ++ (p :: List.replicate (7 - L.length) (0, 0)) := by
    unfold pad
    rw [List.length_append, List.length_singleton, show 8 - (L.length + 1) = 7 - L.length from by omega]
    simp
  have h3 : (tgc most nn (pad L)).toList = (.int .i64 most :: .int .i64 nn :: L.flatMap ak) ++ (ak (0, 0) ++ (List.replicate (7 - L.length) ((0, 0) : Int × Int)).flatMap ak) := by
    rw [h1]
    simp [tgc, List.flatMap_append, List.flatMap_cons]
  have h4 : (.int .i64 most :: .int .i64 nn :: L.flatMap ak : List Value).length = 2 + 14 * L.length := by
    rw [List.length_cons, List.length_cons, aks_len]; omega
  have h5 : (akA p).size = 14 := rfl
  rw [h3, h5, h2]
  rw [List.take_left' h4, ← List.append_assoc, List.drop_left' (by rw [List.length_append, h4, ak_len])]
  simp [tgc, akA, List.flatMap_append, List.flatMap_cons]
theorem exec_load_row {P : Program} {o : Oper} {a : Act} {w : World} (ty : TypeId) (x : Operand) (ho : o.op = .load ty x)
    (g : Nat) (hx : a.eval x = .pointer (some ⟨g, 0, none⟩)) (t : TypeId) (cs : Array Value) (fr : Nat × Nat) (d : TypeDesc) (hg : w.heap[g]? = some (.cells cs t fr))
    (hu : P.underlying ty = some d) (hd : (match d with | .struct _ | .array _ _ => true | _ => false) = true) (hi : (P.info? ty).map (·.size) = some cs.size) :
    (execOp a.eval o).run P w = .ok (.value (.agg cs)) w := by
  unfold execOp
  simp only [ho, hx, Instr.loadAt, Instr.sureAddr, Sem.run_bind, Sem.run_pure, Result.andThen_ok, run_loadVar_row w g t ty cs fr d hg hu hd hi]
def PrT (w0 w' : World) (tb ab most : Nat) (L : List (Int × Int)) (p : Int × Int) : Prop := w'.heap[tb]? = some (.cells (tgc most L.length (pad L)) 60 (0, 0)) ∧ w'.heap[ab]? = some (.cells (akA p) 32 (0, 0))
set_option maxRecDepth 20000 in
set_option maxHeartbeats 2000000 in
theorem tput_twice (tb most : Nat) (L : List (Int × Int)) (p : Int × Int) (w : World) (h : TagT w tb most L) (hh : hasT L p.2 = true) :
    Calls Try.prog 17 #[.pointer (some ⟨tb, 0, none⟩), .agg (akA p)] w fun e w' => e = .returned (.int .i64 7) ∧ Ext w w' := by
  have hL8 : L.length ≤ 8 := Nat.le_trans h.2.1 h.2.2
  have hLm := h.2.1
  have hm8 := h.2.2
  have htl : tb < w.heap.size := (Array.getElem?_eq_some_iff.1 h.1).1
  obtain ⟨w1, hw1⟩ : ∃ w1, w.alloc (.cells (akA p) 32) = w1 := ⟨_, rfl⟩
  have e1 : Ext w w1 := by rw [← hw1]; exact (Ext.refl w).alloc _
  have hb : w1.heap[w.heap.size]? = some (.cells (akA p) 32 (0, 0)) := by rw [← hw1]; exact heap_alloc_new w _
  have x1 := cell_of_row w1 w.heap.size 1 _ _ _ hb
  simp [akA, ak] at x1
  have HH := Lib.hid (thas_any tb most L p.2 w1 (h.ext e1))
  rw [hh] at HH
  have HT := Lib.hid (h.ext e1)
  have HB := Lib.hid hb
  have E1 := Lib.hid e1
  clear h hb e1 hh
  go_enter Try.func17, Try.ntmps17
  go_wp2_with fail
  refine HH.out.mono ?_
  rintro e w2 ⟨rfl, e2⟩
  have HT2 := Lib.hid (HT.out.ext e2)
  have HB2 := Lib.hid (e2.heap HB.out)
  have E2 := Lib.hid (E1.out.trans e2)
  clear e2 HT HB E1 HH x1
  go_wp2_with fail
  go_ret
  exact ⟨rfl, E2.out⟩
set_option maxRecDepth 20000 in
set_option maxHeartbeats 2000000 in
theorem tput_full (tb most : Nat) (L : List (Int × Int)) (p : Int × Int) (w : World) (h : TagT w tb most L) (hh : hasT L p.2 = false) (hf : L.length = most) :
    Calls Try.prog 17 #[.pointer (some ⟨tb, 0, none⟩), .agg (akA p)] w fun e w' => e = .returned (.int .i64 5) ∧ Ext w w' := by
  have hL8 : L.length ≤ 8 := Nat.le_trans h.2.1 h.2.2
  have hLm := h.2.1
  have hm8 := h.2.2
  have htl : tb < w.heap.size := (Array.getElem?_eq_some_iff.1 h.1).1
  obtain ⟨w1, hw1⟩ : ∃ w1, w.alloc (.cells (akA p) 32) = w1 := ⟨_, rfl⟩
  have e1 : Ext w w1 := by rw [← hw1]; exact (Ext.refl w).alloc _
  have hb : w1.heap[w.heap.size]? = some (.cells (akA p) 32 (0, 0)) := by rw [← hw1]; exact heap_alloc_new w _
  have x1 := cell_of_row w1 w.heap.size 1 _ _ _ hb
  simp [akA, ak] at x1
  have HH := Lib.hid (thas_any tb most L p.2 w1 (h.ext e1))
  rw [hh] at HH
  have HT := Lib.hid (h.ext e1)
  have HB := Lib.hid hb
  have E1 := Lib.hid e1
  clear h hb e1 hh
  go_enter Try.func17, Try.ntmps17
  go_wp2_with fail
  refine HH.out.mono ?_
  rintro e w2 ⟨rfl, e2⟩
  have HT2 := Lib.hid (HT.out.ext e2)
  have HB2 := Lib.hid (e2.heap HB.out)
  have E2 := Lib.hid (E1.out.trans e2)
  clear e2 HT HB E1 HH x1
  have HC : Hid (∀ w', Ext w2.drew w' → w'.cell? ⟨tb, 0, none⟩ = some (.int .i64 (most : Int)) ∧ w'.cell? ⟨tb, 1, none⟩ = some (.int .i64 (L.length : Int))) := Lib.hid fun w' he => by
    have hh := he.heap (show w2.drew.heap[tb]? = _ from HT2.out.1)
    exact ⟨(cell_of_row w' tb 0 _ _ _ hh).trans rfl, (cell_of_row w' tb 1 _ _ _ hh).trans rfl⟩
  go_wp2_with fail
  refine wp_region_pl (.free 0 (.free 1 (.free 2 (.free 3 (.free 4 (.free 5 (.free 6 (.free 7 (.free 8 .nil))))))))) (by kernel_rfl) (by kernel_rfl) (by kernel_rfl) (by kernel_rfl) ?_
  refine pl_val (v := ?_) rfl rfl (fun w' hw' => ?_) ?_; rotate_left; (· have c1 := HC.out w' hw'; have c0 := c1.1; have c2 := c1.2; go_simp; try with_reducible rfl); simp only [Act.put, List.setIfInBounds_toArray, List.set_cons_zero, List.set_cons_succ]
  refine pl_val (v := ?_) rfl rfl (fun w' hw' => ?_) ?_; rotate_left; (· have c1 := HC.out w' hw'; have c0 := c1.1; have c2 := c1.2; go_simp; try with_reducible rfl); simp only [Act.put, List.setIfInBounds_toArray, List.set_cons_zero, List.set_cons_succ]
  refine pl_val (v := ?_) rfl rfl (fun w' hw' => ?_) ?_; rotate_left; (· have c1 := HC.out w' hw'; have c0 := c1.1; have c2 := c1.2; go_simp; try with_reducible rfl); simp only [Act.put, List.setIfInBounds_toArray, List.set_cons_zero, List.set_cons_succ]
  refine pl_val (v := ?_) rfl rfl (fun w' hw' => ?_) ?_; rotate_left; (· have c1 := HC.out w' hw'; have c0 := c1.1; have c2 := c1.2; go_simp; try with_reducible rfl); simp only [Act.put, List.setIfInBounds_toArray, List.set_cons_zero, List.set_cons_succ]
  refine pl_val (v := ?_) rfl rfl (fun w' hw' => ?_) ?_; rotate_left; (· have c1 := HC.out w' hw'; have c0 := c1.1; have c2 := c1.2; go_simp; try with_reducible rfl); simp only [Act.put, List.setIfInBounds_toArray, List.set_cons_zero, List.set_cons_succ]
  refine pl_val (v := ?_) rfl rfl (fun w' hw' => ?_) ?_; rotate_left; (· have c1 := HC.out w' hw'; have c0 := c1.1; have c2 := c1.2; go_simp; try with_reducible rfl); simp only [Act.put, List.setIfInBounds_toArray, List.set_cons_zero, List.set_cons_succ]
  refine pl_val (v := ?_) rfl rfl (fun w' hw' => ?_) ?_; rotate_left; (· have c1 := HC.out w' hw'; have c0 := c1.1; have c2 := c1.2; go_simp; try with_reducible rfl); simp only [Act.put, List.setIfInBounds_toArray, List.set_cons_zero, List.set_cons_succ]
  refine pl_val (v := ?_) rfl rfl (fun w' hw' => ?_) ?_; rotate_left; (· have c1 := HC.out w' hw'; have c0 := c1.1; have c2 := c1.2; go_simp; try with_reducible rfl); simp only [Act.put, List.setIfInBounds_toArray, List.set_cons_zero, List.set_cons_succ]
  refine pl_val (v := .bool true) rfl rfl (fun w' hw' => by
    go_simp
    first | done | omega | simp [hf] | simpa using hf) ?_
  simp only [Act.put, List.setIfInBounds_toArray, List.set_cons_zero, List.set_cons_succ]
  refine pl_done ?_
  clear HC
  go_wp2_with fail
  go_ret
  exact ⟨rfl, E2.out.drew⟩
set_option maxRecDepth 20000 in
set_option maxHeartbeats 2000000 in
theorem tput_ok (tb most : Nat) (L : List (Int × Int)) (p : Int × Int) (w : World) (h : TagT w tb most L) (hh : hasT L p.2 = false) (hf : L.length < most) :
    Calls Try.prog 17 #[.pointer (some ⟨tb, 0, none⟩), .agg (akA p)] w fun e w' => e = .returned (.int .i64 0) ∧ TagT w' tb most (L ++ [p]) ∧ OnT tb w w' := by
  have hL8 : L.length ≤ 8 := Nat.le_trans h.2.1 h.2.2
  have hLm := h.2.1
  have hm8 := h.2.2
  have htl : tb < w.heap.size := (Array.getElem?_eq_some_iff.1 h.1).1
  obtain ⟨w1, hw1⟩ : ∃ w1, w.alloc (.cells (akA p) 32) = w1 := ⟨_, rfl⟩
  have e1 : Ext w w1 := by rw [← hw1]; exact (Ext.refl w).alloc _
  have hb : w1.heap[w.heap.size]? = some (.cells (akA p) 32 (0, 0)) := by rw [← hw1]; exact heap_alloc_new w _
  have x1 := cell_of_row w1 w.heap.size 1 _ _ _ hb
  simp [akA, ak] at x1
  have HH := Lib.hid (thas_any tb most L p.2 w1 (h.ext e1))
  rw [hh] at HH
  have HT := Lib.hid (h.ext e1)
  have HB := Lib.hid hb
  have E1 := Lib.hid e1
  clear h hb e1 hh
  go_enter Try.func17, Try.ntmps17
  go_wp2_with fail
  refine HH.out.mono ?_
  rintro e w2 ⟨rfl, e2⟩
  have HT2 := Lib.hid (HT.out.ext e2)
  have HB2 := Lib.hid (e2.heap HB.out)
  have E2 := Lib.hid (E1.out.trans e2)
  clear e2 HT HB E1 HH x1
  have HC : Hid (∀ w', Ext w2.drew w' → w'.cell? ⟨tb, 0, none⟩ = some (.int .i64 (most : Int)) ∧ w'.cell? ⟨tb, 1, none⟩ = some (.int .i64 (L.length : Int))) := Lib.hid fun w' he => by
    have hh := he.heap (show w2.drew.heap[tb]? = _ from HT2.out.1)
    exact ⟨(cell_of_row w' tb 0 _ _ _ hh).trans rfl, (cell_of_row w' tb 1 _ _ _ hh).trans rfl⟩
  go_wp2_with fail
  refine wp_region_pl (.free 0 (.free 1 (.free 2 (.free 3 (.free 4 (.free 5 (.free 6 (.free 7 (.free 8 .nil))))))))) (by kernel_rfl) (by kernel_rfl) (by kernel_rfl) (by kernel_rfl) ?_
  refine pl_val (v := ?_) rfl rfl (fun w' hw' => ?_) ?_; rotate_left; (· have c1 := HC.out w' hw'; have c0 := c1.1; have c2 := c1.2; go_simp; try with_reducible rfl); simp only [Act.put, List.setIfInBounds_toArray, List.set_cons_zero, List.set_cons_succ]
  refine pl_val (v := ?_) rfl rfl (fun w' hw' => ?_) ?_; rotate_left; (· have c1 := HC.out w' hw'; have c0 := c1.1; have c2 := c1.2; go_simp; try with_reducible rfl); simp only [Act.put, List.setIfInBounds_toArray, List.set_cons_zero, List.set_cons_succ]
  refine pl_val (v := ?_) rfl rfl (fun w' hw' => ?_) ?_; rotate_left; (· have c1 := HC.out w' hw'; have c0 := c1.1; have c2 := c1.2; go_simp; try with_reducible rfl); simp only [Act.put, List.setIfInBounds_toArray, List.set_cons_zero, List.set_cons_succ]
  refine pl_val (v := ?_) rfl rfl (fun w' hw' => ?_) ?_; rotate_left; (· have c1 := HC.out w' hw'; have c0 := c1.1; have c2 := c1.2; go_simp; try with_reducible rfl); simp only [Act.put, List.setIfInBounds_toArray, List.set_cons_zero, List.set_cons_succ]
  refine pl_val (v := ?_) rfl rfl (fun w' hw' => ?_) ?_; rotate_left; (· have c1 := HC.out w' hw'; have c0 := c1.1; have c2 := c1.2; go_simp; try with_reducible rfl); simp only [Act.put, List.setIfInBounds_toArray, List.set_cons_zero, List.set_cons_succ]
  refine pl_val (v := ?_) rfl rfl (fun w' hw' => ?_) ?_; rotate_left; (· have c1 := HC.out w' hw'; have c0 := c1.1; have c2 := c1.2; go_simp; try with_reducible rfl); simp only [Act.put, List.setIfInBounds_toArray, List.set_cons_zero, List.set_cons_succ]
  refine pl_val (v := ?_) rfl rfl (fun w' hw' => ?_) ?_; rotate_left; (· have c1 := HC.out w' hw'; have c0 := c1.1; have c2 := c1.2; go_simp; try with_reducible rfl); simp only [Act.put, List.setIfInBounds_toArray, List.set_cons_zero, List.set_cons_succ]
  refine pl_val (v := ?_) rfl rfl (fun w' hw' => ?_) ?_; rotate_left; (· have c1 := HC.out w' hw'; have c0 := c1.1; have c2 := c1.2; go_simp; try with_reducible rfl); simp only [Act.put, List.setIfInBounds_toArray, List.set_cons_zero, List.set_cons_succ]
  have hf' : ¬ (most : Int) ≤ (L.length : Int) := by omega
  refine pl_val (v := .bool false) rfl rfl (fun w' hw' => by
    go_simp
    first | done | omega | simp [hf'] | simpa using hf') ?_
  simp only [Act.put, List.setIfInBounds_toArray, List.set_cons_zero, List.set_cons_succ]
  refine pl_done ?_
  clear HC
  have hpr : PrT w w2.drew tb w.heap.size most L p := ⟨HT2.out.1, HB2.out⟩
  have HP := Lib.hid (show PrT w w2.drew.drew tb w.heap.size most L p from hpr)
  clear hpr
  go_wp2_with fail
  refine wp_region_plS (fun w' => PrT w w' tb w.heap.size most L p) (.free 0 (.free 1 (.free 3 (.free 4 (.one 2 (.free 6 (.one 5 (.one 7 (.free 8 (.one 9 .nil)))))))))) (by kernel_rfl) (by kernel_rfl) (by kernel_rfl) (by kernel_rfl) ?_
  refine plS_val (v := ?_) rfl rfl HP.out (fun w' hw' => ?_) ?_; rotate_left; (· have q1 := cell_of_row w' w.heap.size 11 _ _ _ hw'.2; have q2 := cell_of_row w' w.heap.size 13 _ _ _ hw'.2; simp [akA, ak] at q1 q2; go_simp; try with_reducible rfl); simp only [Act.put, List.setIfInBounds_toArray, List.set_cons_zero, List.set_cons_succ]
  refine plS_val (v := ?_) rfl rfl HP.out (fun w' hw' => ?_) ?_; rotate_left; (· have q1 := cell_of_row w' w.heap.size 11 _ _ _ hw'.2; have q2 := cell_of_row w' w.heap.size 13 _ _ _ hw'.2; simp [akA, ak] at q1 q2; go_simp; try with_reducible rfl); simp only [Act.put, List.setIfInBounds_toArray, List.set_cons_zero, List.set_cons_succ]
  refine plS_val (v := ?_) rfl rfl HP.out (fun w' hw' => ?_) ?_; rotate_left; (· have q1 := cell_of_row w' w.heap.size 11 _ _ _ hw'.2; have q2 := cell_of_row w' w.heap.size 13 _ _ _ hw'.2; simp [akA, ak] at q1 q2; go_simp; try with_reducible rfl); simp only [Act.put, List.setIfInBounds_toArray, List.set_cons_zero, List.set_cons_succ]
  refine plS_val (v := ?_) rfl rfl HP.out (fun w' hw' => ?_) ?_; rotate_left; (· have q1 := cell_of_row w' w.heap.size 11 _ _ _ hw'.2; have q2 := cell_of_row w' w.heap.size 13 _ _ _ hw'.2; simp [akA, ak] at q1 q2; go_simp; try with_reducible rfl); simp only [Act.put, List.setIfInBounds_toArray, List.set_cons_zero, List.set_cons_succ]
  refine plS_call 27 #[.slice none 0 0] rfl rfl (by go_simp) ?_
  refine (clone1_nil _).mono ?_
  rintro e w3 ⟨rfl, rfl⟩
  refine ⟨_, rfl, HP.out, ?_⟩
  simp only [Act.put, List.setIfInBounds_toArray, List.set_cons_zero, List.set_cons_succ]
  refine plS_val (v := ?_) rfl rfl HP.out (fun w' hw' => ?_) ?_; rotate_left; (· have q1 := cell_of_row w' w.heap.size 11 _ _ _ hw'.2; have q2 := cell_of_row w' w.heap.size 13 _ _ _ hw'.2; simp [akA, ak] at q1 q2; go_simp; try with_reducible rfl); simp only [Act.put, List.setIfInBounds_toArray, List.set_cons_zero, List.set_cons_succ]
  refine plS_call 28 #[.slice none 0 0] rfl rfl (by go_simp) ?_
  refine (clone2_nil _).mono ?_
  rintro e w3 ⟨rfl, rfl⟩
  refine ⟨_, rfl, HP.out, ?_⟩
  simp only [Act.put, List.setIfInBounds_toArray, List.set_cons_zero, List.set_cons_succ]
  obtain ⟨w3, hw3⟩ : ∃ w3, w2.drew.drew = w3 := ⟨_, rfl⟩
  rw [hw3] at HP ⊢
  have E3 : Hid (Ext w w3) := Lib.hid (by rw [← hw3]; exact E2.out.drew.drew)
  have fr1 := blk_freeT HP.out.2 11
  have q1 := cell_of_row w3 w.heap.size 11 _ _ _ HP.out.2
  simp [akA, ak] at q1
  have hp4 : PrT w (w3.setCell ⟨w.heap.size, 11, none⟩ (.slice none 0 0)) tb w.heap.size most L p := ⟨(heap_setCell_other _ _ _ _ (by simp; omega)).trans HP.out.1, (set_blkT HP.out.2 11 _).trans rfl⟩
  have HP4 := Lib.hid hp4
  refine plS_void (w' := w3.setCell ⟨w.heap.size, 11, none⟩ (.slice none 0 0)) rfl rfl (by go_simp; try rfl) HP4.out ?_
  simp only [Act.put, List.setIfInBounds_toArray, List.set_cons_zero, List.set_cons_succ]
  refine plS_val (v := ?_) rfl rfl HP4.out (fun w' hw' => ?_) ?_; rotate_left; (· have q1 := cell_of_row w' w.heap.size 11 _ _ _ hw'.2; have q2 := cell_of_row w' w.heap.size 13 _ _ _ hw'.2; simp [akA, ak] at q1 q2; go_simp; try with_reducible rfl); simp only [Act.put, List.setIfInBounds_toArray, List.set_cons_zero, List.set_cons_succ]
  obtain ⟨w4, hw4⟩ : ∃ w4, w3.setCell ⟨w.heap.size, 11, none⟩ (.slice none 0 0) = w4 := ⟨_, rfl⟩
  rw [hw4] at HP4 ⊢
  have E4 : Hid (Ext w w4) := Lib.hid (by rw [← hw4]; exact E3.out.setCell (Nat.le_refl _) _)
  have fr2 := blk_freeT HP4.out.2 13
  have q2 := cell_of_row w4 w.heap.size 13 _ _ _ HP4.out.2
  simp [akA, ak] at q2
  have hp5 : PrT w (w4.setCell ⟨w.heap.size, 13, none⟩ (.slice none 0 0)) tb w.heap.size most L p := ⟨(heap_setCell_other _ _ _ _ (by simp; omega)).trans HP4.out.1, (set_blkT HP4.out.2 13 _).trans rfl⟩
  have HP5 := Lib.hid hp5
  refine plS_void (w' := w4.setCell ⟨w.heap.size, 13, none⟩ (.slice none 0 0)) rfl rfl (by go_simp; try rfl) HP5.out ?_
  simp only [Act.put, List.setIfInBounds_toArray, List.set_cons_zero, List.set_cons_succ]
  refine plS_done ?_
  obtain ⟨w5, hw5⟩ : ∃ w5, w4.setCell ⟨w.heap.size, 13, none⟩ (.slice none 0 0) = w5 := ⟨_, rfl⟩
  rw [hw5] at HP5 ⊢
  have E5 : Hid (Ext w w5) := Lib.hid (by rw [← hw5]; exact E4.out.setCell (Nat.le_refl _) _)
  clear q1 q2 fr1 fr2 hp4 hp5 HP4 HP E3 E4 hw3 hw4 hw5
  go_wp2_with fail
  have HP6 := Lib.hid (show PrT w w5.drew tb w.heap.size most L p from HP5.out)
  have HI := Lib.hid (ak_info p)
  have hidx : (L.length : Int) < 8 := by omega
  have HU := Lib.hid (ak_one p)
  have HS6 : Hid ((fun w' : World => w'.cell? ⟨tb, 1, none⟩ = some (.int .i64 (L.length : Int)) ∧ w'.heap[w.heap.size]? = some (.cells (akA p) 32 (0, 0))) w5.drew) := Lib.hid ⟨(cell_of_row w5.drew tb 1 _ _ _ HP6.out.1).trans rfl, HP6.out.2⟩
  refine wp_region_plS (fun w' : World => w'.cell? ⟨tb, 1, none⟩ = some (.int .i64 (L.length : Int)) ∧ w'.heap[w.heap.size]? = some (.cells (akA p) 32 (0, 0))) (.free 0 (.free 1 (.free 2 (.free 3 (.free 4 (.free 5 (.free 6 (.free 7 (.free 8 (.one 9 .nil)))))))))) (by kernel_rfl) (by kernel_rfl) (by kernel_rfl) (by kernel_rfl) ?_
  refine plS_val (v := ?_) rfl rfl HS6.out (fun w' hw' => ?_) ?_; rotate_left; (· have q1 := hw'.1; go_simp; try with_reducible rfl); simp only [Act.put, List.setIfInBounds_toArray, List.set_cons_zero, List.set_cons_succ]
  refine plS_val (v := ?_) rfl rfl HS6.out (fun w' hw' => ?_) ?_; rotate_left; (· have q1 := hw'.1; go_simp; try with_reducible rfl); simp only [Act.put, List.setIfInBounds_toArray, List.set_cons_zero, List.set_cons_succ]
  refine plS_val (v := ?_) rfl rfl HS6.out (fun w' hw' => ?_) ?_; rotate_left; (· have q1 := hw'.1; go_simp; try with_reducible rfl); simp only [Act.put, List.setIfInBounds_toArray, List.set_cons_zero, List.set_cons_succ]
  refine plS_val (v := ?_) rfl rfl HS6.out (fun w' hw' => ?_) ?_; rotate_left; (· have q1 := hw'.1; go_simp; try with_reducible rfl); simp only [Act.put, List.setIfInBounds_toArray, List.set_cons_zero, List.set_cons_succ]
  refine plS_val (v := ?_) rfl rfl HS6.out (fun w' hw' => ?_) ?_; rotate_left; (· have q1 := hw'.1; go_simp; try with_reducible rfl); simp only [Act.put, List.setIfInBounds_toArray, List.set_cons_zero, List.set_cons_succ]
  refine plS_val (v := .agg (akA p)) rfl rfl HS6.out (fun w' hw' => exec_load_row 32 (.tmp 3) rfl w.heap.size rfl _ _ _ _ hw'.2 Try.underlying32 rfl HI.out) ?_
  simp only [Act.put, List.setIfInBounds_toArray, List.set_cons_zero, List.set_cons_succ]
  refine plS_val (v := ?_) rfl rfl HS6.out (fun w' hw' => ?_) ?_; rotate_left; (· have q1 := hw'.1; go_simp; try with_reducible rfl); simp only [Act.put, List.setIfInBounds_toArray, List.set_cons_zero, List.set_cons_succ]
  refine plS_val (v := ?_) rfl rfl HS6.out (fun w' hw' => ?_) ?_; rotate_left; (· have q1 := hw'.1; go_simp; try with_reducible rfl); simp only [Act.put, List.setIfInBounds_toArray, List.set_cons_zero, List.set_cons_succ]
  refine plS_val (v := ?_) rfl rfl HS6.out (fun w' hw' => ?_) ?_; rotate_left; (· have q1 := hw'.1; go_simp; try with_reducible rfl); simp only [Act.put, List.setIfInBounds_toArray, List.set_cons_zero, List.set_cons_succ]
  obtain ⟨w6, hw6⟩ : ∃ w6, w5.drew.setRow tb (tgc most L.length (pad (L ++ [p]))) = w6 := ⟨_, rfl⟩
  have hb6 : w6.heap[tb]? = some (.cells (tgc most L.length (pad (L ++ [p]))) 60 (0, 0)) := by rw [← hw6]; exact setRow_heap _ _ _ _ _ _ HP6.out.1
  have HS7 : Hid ((fun w' : World => w'.cell? ⟨tb, 1, none⟩ = some (.int .i64 (L.length : Int)) ∧ w'.heap[w.heap.size]? = some (.cells (akA p) 32 (0, 0))) w6) := Lib.hid ⟨(cell_of_row w6 tb 1 _ _ _ hb6).trans rfl, by rw [← hw6]; exact (setRow_other _ _ _ _ (by omega)).trans HP6.out.2⟩
  have O6 : Hid (OnT tb w w6) := Lib.hid (by rw [← hw6]; exact (OnT.of_ext E5.out.drew).trans (OnT.row _ _))
  refine plS_void (w' := w6) rfl rfl (by rw [← hw6]; exact exec_store_sub 32 (.tmp 34) (.tmp 31) rfl tb (2 + 14 * L.length) (akA p) _ _ (by first | rfl | exact congrArg (fun n => Value.pointer (some ⟨tb, n, none⟩)) (by omega)) rfl _ HP6.out.1 HI.out (by rw [tgc_size _ _ _ (pad_len L hL8)]; show 2 + 14 * L.length + 14 ≤ 114; omega) HU.out (tgc_store _ _ _ _ (by omega))) HS7.out ?_
  simp only [Act.put, List.setIfInBounds_toArray, List.set_cons_zero, List.set_cons_succ]
  refine plS_done ?_
  have c1 := (cell_of_row w6 tb 1 _ _ _ hb6).trans (show _ = some (.int .i64 (L.length : Int)) from rfl)
  have fr := blk_freeT hb6 1
  have HT7 : Hid (TagT (w6.setCell ⟨tb, 1, none⟩ (.int .i64 ((L.length : Int) + 1))) tb most (L ++ [p])) := Lib.hid ⟨by
    rw [set_blkT hb6 1 _, List.length_append, List.length_singleton]
    rfl, by rw [List.length_append, List.length_singleton]; omega, hm8⟩
  have O7 : Hid (OnT tb w (w6.setCell ⟨tb, 1, none⟩ (.int .i64 ((L.length : Int) + 1)))) := Lib.hid (O6.out.trans (OnT.set _ 1 _))
  clear hb6 hw6 HS7 HP6 HP5 E5 HS6
  go_wp2_with fail
  go_ret
  exact ⟨rfl, HT7.out, O7.out⟩
end Go.Proofs.Ytnbeeglomciieaa
