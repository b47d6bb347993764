/-
  What came in: structs by value with texts, data and rows inside, opened.
-/
import Derived.Test.YtihiclnbbpablaaBytes
import Derived.Test.YtihiclnbbpablaaProg
import Derived.ChangeSlices
import Derived.WalkKit
import Derived.ProofKit
import Derived.OpenShut
import Derived.ShutString
import Derived.Deep.Grids
namespace Go.Proofs.Ytihiclnbbpablaa
open Go Go.WideShapes Go.RowKit Go.ChangeAt Go.ChangeShapes
set_option linter.unusedVariables false
set_option linter.unusedSimpArgs false
/-- A row of values of sz cells each, one behind the other. -/
def SeesK (sz : Nat) (w : World) (A : Option Addr) (n c : Nat) (xs : List Value) : Prop :=
  xs.length = n * sz ∧ n ≤ c ∧ c ≤ maxLen ∧ (A = none → c = 0) ∧ (0 < n → ∃ b off, A = some ⟨b, off, none⟩ ∧ ∀ j u, xs[j]? = some u → w.cell? ⟨b, off + j, none⟩ = some u)
theorem SeesK.nil (sz : Nat) (w : World) : SeesK sz w none 0 0 [] := ⟨by simp, Nat.le_refl _, Nat.zero_le _, fun _ => rfl, fun h => by omega⟩
theorem SeesK.ext {sz : Nat} {w w' : World} {A : Option Addr} {n c : Nat} {xs : List Value} (h : SeesK sz w A n c xs) (he : Ext w w') : SeesK sz w' A n c xs :=
  ⟨h.1, h.2.1, h.2.2.1, h.2.2.2.1, fun hn => by obtain ⟨b, off, e, hc⟩ := h.2.2.2.2 hn; exact ⟨b, off, e, fun j u hu => he.cell (hc j u hu)⟩⟩
section
variable {H : Type} {enc : TypeId × Value → H} {W : World} {b0 : Nat} {hd : Bool}
theorem leaf_bytes {T e : TypeId} {fuel : Nat} {c : Value} {y : DataW H × List MemPlace} (ht : Try.prog.underlying T = some (.slice e)) (he : Try.prog.underlying e = some (.int .u8)) (hc : Try.prog.cellsOf e = 1)
    (h : DataW.trod enc Try.prog W b0 (fun _ => true) hd fuel T [c] = some y) : ∃ A n cp l, c = .slice A n cp ∧ Sees W A n cp (bs l) := by
  rcases open_ints ht he hc h with ⟨hcs, _⟩ | ⟨x, l, cp, zs, hcs, _, hl, hm, hz, _, hcell, hwz⟩
  · simp at hcs
    exact ⟨none, 0, 0, [], hcs, Sees.nil W⟩
  · simp at hcs
    obtain ⟨l', hs⟩ := sees_bytes (.inr ⟨_, rfl, hl, hm, by simpa using hz, hcell, hwz⟩)
    exact ⟨_, _, _, l', hcs, hs⟩
theorem flat_get {sz : Nat} (hsz : 0 < sz) (f : Nat → List Value) (hf : ∀ i, (f i).length = sz) : ∀ (n j : Nat), ((List.range n).flatMap f)[j]? = if j / sz < n then (f (j / sz))[j % sz]? else none
  | 0, j => by simp
  | n + 1, j => by
    have hl : ((List.range n).flatMap f).length = n * sz := by simp [List.length_flatMap, hf, List.map_const']
    have ih := flat_get hsz f hf n j
    rw [List.range_succ, List.flatMap_append]
    simp only [List.flatMap_singleton]
    by_cases h : j < n * sz
    · have h1 : j / sz < n := (Nat.div_lt_iff_lt_mul hsz).2 h
      rw [List.getElem?_append_left (by omega), ih, if_pos h1, if_pos (by omega)]
    · have h2 : n ≤ j / sz := (Nat.le_div_iff_mul_le hsz).2 (by omega)
      rw [List.getElem?_append_right (by omega), hl]
      by_cases h3 : j / sz < n + 1
      · have h4 : j / sz = n := by omega
        have h5 : j % sz = j - n * sz := by
          have := Nat.div_add_mod j sz
          rw [h4, Nat.mul_comm] at this
          omega
        rw [if_pos h3, h4, h5]
      · rw [if_neg h3]
        have h6 : (n + 1) * sz ≤ j := (Nat.le_div_iff_mul_le hsz).1 (by omega)
        rw [Nat.succ_mul] at h6
        exact List.getElem?_eq_none (by rw [hf]; omega)
theorem leaf_rows {T e : TypeId} {sz fuel : Nat} {c : Value} {y : DataW H × List MemPlace} (hsz : 0 < sz) (R : List Value → Prop) (ht : Try.prog.underlying T = some (.slice e)) (hc : Try.prog.cellsOf e = sz)
    (he : ∀ (f : Nat) cs x, cs.length = sz → DataW.trod enc Try.prog W b0 (fun _ => true) hd f e cs = some x → R cs)
    (h : DataW.trod enc Try.prog W b0 (fun _ => true) hd fuel T [c] = some y) : ∃ A n cp, ∃ rs : List (List Value), c = .slice A n cp ∧ rs.length = n ∧ SeesK sz W A n cp (rs.flatMap id) ∧ ∀ r ∈ rs, r.length = sz ∧ R r := by
  rcases DataW.trod_slice ht h with ⟨hcs, _⟩ | ⟨a, len, cap, elems, rest, n, _, hcs, _, hb, hl, hm, hlen, hel, _, _⟩
  · simp at hcs
    exact ⟨none, 0, 0, [], hcs, rfl, SeesK.nil sz W, by simp⟩
  · simp at hcs
    rw [hc] at hel
    have each : ∀ i, i < len → ∃ cs, W.cells? b0 (a.add (i * sz)) sz = some cs ∧ R cs := by
      intro i hi
      have h1 := hel i hi
      rw [List.getElem?_eq_getElem (by omega)] at h1
      rw [Option.bind_eq_some_iff] at h1
      obtain ⟨cs, h2, h3⟩ := h1
      exact ⟨cs, h2, he _ _ _ (World.cells?_some h2).2.1 h3⟩
    let f : Nat → List Value := fun i => if h : i < len then (each i h).choose else List.replicate sz default
    have f1 : ∀ i, i < len → W.cells? b0 (a.add (i * sz)) sz = some (f i) ∧ R (f i) := by
      intro i hi
      have := (each i hi).choose_spec
      simp only [f, dif_pos hi]
      exact this
    have f2 : ∀ i, (f i).length = sz := by
      intro i
      by_cases hi : i < len
      · exact (World.cells?_some (f1 i hi).1).2.1
      · simp only [f, dif_neg hi, List.length_replicate]
    refine ⟨some a, len, cap, (List.range len).map f, hcs, by simp, ⟨?_, hl, hm, nofun, fun hn => ?_⟩, ?_⟩
    · simp [List.flatMap_map, List.length_flatMap, f2, List.map_const']
    · obtain ⟨b, off, spot⟩ := a
      have h0 := (World.cells?_some (f1 0 hn).1).2.2 0 hsz
      rw [List.getElem?_eq_getElem (by rw [f2]; exact hsz)] at h0
      have hspot : spot = none := by simpa [Addr.add] using World.cell?_spot h0
      subst hspot
      refine ⟨b, off, rfl, fun j u hu => ?_⟩
      rw [List.flatMap_map] at hu
      rw [show (List.range len).flatMap (fun x => id (f x)) = (List.range len).flatMap f from rfl, flat_get hsz f f2] at hu
      split at hu
      · rename_i hj
        have h1 := (World.cells?_some (f1 _ hj).1).2.2 (j % sz) (Nat.mod_lt _ hsz)
        rw [addr_add, addr_add, hu] at h1
        have := Nat.div_add_mod j sz
        rw [Nat.mul_comm] at this
        rw [← h1, Nat.add_assoc, this]
      · cases hu
    · intro r hr
      obtain ⟨i, hi, rfl⟩ := List.mem_map.1 hr
      exact ⟨f2 i, (f1 i (by simpa using hi)).2⟩
end
theorem list_of3 {α : Type} (l : List α) (h : l.length = 3) : ∃ x0 x1 x2 : α, l = [x0, x1, x2] := by
  match l, h with
  | [x0, x1, x2], _ => exact ⟨x0, x1, x2, rfl⟩
def Le_qid (W : World) (cs : List Value) : Prop := ∃ (z0 : Bool) (z1 : Int) (z2 : Int), cs = [.bool z0, .int .i64 z1, .int .i64 z2] ∧ (Lit.int .i64 z1).wf = true ∧ (Lit.int .i64 z2).wf = true
set_option maxRecDepth 20000 in
set_option maxHeartbeats 1000000 in
theorem leafs_qid {H : Type} {enc : TypeId × Value → H} {W : World} {b0 fuel : Nat} {hd : Bool} {cs : List Value} {x : DataW H × List MemPlace} (hsz : cs.length = 3) (hf : DataW.trod enc Try.prog W b0 (fun _ => true) hd fuel 23 cs = some x) : Le_qid W cs := by
  have hc0 : Try.prog.cellsOf 4 = 1 := by kernel_rfl
  have hc1 : Try.prog.cellsOf 3 = 1 := by kernel_rfl
  have hc2 : Try.prog.cellsOf 23 = 3 := by kernel_rfl
  obtain ⟨c0, c1, c2, rfl⟩ := list_of3 cs hsz
  obtain ⟨xs, n, _, hx, _, hlen, hg⟩ := DataW.trod_struct Try.underlying23 hf
  obtain ⟨y_0, y_1, y_2, rfl⟩ := list_of3 xs (by simpa using hlen)
  have g_0 := hg 0 _ rfl
  have g_1 := hg 1 _ rfl
  have g_2 := hg 2 _ rfl
  simp [hc0, hc1, hc2] at g_0 g_1 g_2
  clear hg hlen hx
  obtain ⟨z0, ef_0, ey_0⟩ := DataW.trod_bool Try.underlying4 g_0
  simp at ef_0
  subst ef_0 ey_0
  obtain ⟨z1, ef_1, ey_1, wz1⟩ := DataW.trod_int Try.underlying3 g_1
  simp at ef_1
  subst ef_1 ey_1
  obtain ⟨z2, ef_2, ey_2, wz2⟩ := DataW.trod_int Try.underlying3 g_2
  simp at ef_2
  subst ef_2 ey_2
  exact ⟨z0, z1, z2, rfl, wz1, wz2⟩
/-- A value of this type that came in. -/
def Is_qid (W : World) (v : Value) : Prop := ∃ cs : List Value, v = .agg ⟨cs⟩ ∧ Le_qid W cs
set_option maxRecDepth 20000 in
theorem is_qid {H : Type} {enc : TypeId × Value → H} {W : World} {r : Reach} {b b0 : Nat} {hd : Bool} {v : Value} {d : DataW H} {p : List MemPlace} (hv : Value.okWide Try.prog W r b 23 v) (h : DataW.Trod enc Try.prog W b0 (fun _ => true) hd 23 v d p) : Is_qid W v := by
  have hc : Try.prog.cellsOf 23 = 3 := by kernel_rfl
  obtain ⟨cs, rfl, hsz⟩ := Go.WideShapes.okWide_struct Try.underlying23 hv
  obtain ⟨l⟩ := cs
  obtain ⟨fuel, hf⟩ := h
  exact ⟨l, rfl, leafs_qid (by simpa [hc] using hsz) (by simpa only [Value.cells] using hf)⟩
theorem list_of4 {α : Type} (l : List α) (h : l.length = 4) : ∃ x0 x1 x2 x3 : α, l = [x0, x1, x2, x3] := by
  match l, h with
  | [x0, x1, x2, x3], _ => exact ⟨x0, x1, x2, x3, rfl⟩
theorem list_of11 {α : Type} (l : List α) (h : l.length = 11) : ∃ x0 x1 x2 x3 x4 x5 x6 x7 x8 x9 x10 : α, l = [x0, x1, x2, x3, x4, x5, x6, x7, x8, x9, x10] := by
  match l, h with
  | [x0, x1, x2, x3, x4, x5, x6, x7, x8, x9, x10], _ => exact ⟨x0, x1, x2, x3, x4, x5, x6, x7, x8, x9, x10, rfl⟩
theorem list_of18 {α : Type} (l : List α) (h : l.length = 18) : ∃ x0 x1 x2 x3 x4 x5 x6 x7 x8 x9 x10 x11 x12 x13 x14 x15 x16 x17 : α, l = [x0, x1, x2, x3, x4, x5, x6, x7, x8, x9, x10, x11, x12, x13, x14, x15, x16, x17] := by
  match l, h with
  | [x0, x1, x2, x3, x4, x5, x6, x7, x8, x9, x10, x11, x12, x13, x14, x15, x16, x17], _ => exact ⟨x0, x1, x2, x3, x4, x5, x6, x7, x8, x9, x10, x11, x12, x13, x14, x15, x16, x17, rfl⟩
def Le_tell (W : World) (cs : List Value) : Prop := ∃ (z0 : Int) (z1 : Int) (z2 : Int) (z3 : Int) (z4 : Int) (z5 : Int) (z6 : ByteArray) (z7 : Bool) (z8 : Int) (z9 : Int) (A10 : Option Addr) (n10 c10 : Nat) (r10 : List (List Value)) (A11 : Option Addr) (n11 c11 : Nat) (l11 : List UInt8) (z12 : Bool) (z13 : Int) (z14 : Int) (z15 : Int) (z16 : Int) (z17 : ByteArray), cs = [.int .i64 z0, .int .i64 z1, .int .i64 z2, .int .i64 z3, .int .i64 z4, .int .i64 z5, .string z6, .bool z7, .int .i64 z8, .int .i64 z9, .slice A10 n10 c10, .slice A11 n11 c11, .bool z12, .int .i64 z13, .int .i64 z14, .int .i64 z15, .int .i64 z16, .string z17] ∧ (Lit.int .i64 z0).wf = true ∧ (Lit.int .i64 z1).wf = true ∧ (Lit.int .i64 z2).wf = true ∧ (Lit.int .i64 z3).wf = true ∧ (Lit.int .i64 z4).wf = true ∧ (Lit.int .i64 z5).wf = true ∧ z6.size ≤ maxLen ∧ (Lit.int .i64 z8).wf = true ∧ (Lit.int .i64 z9).wf = true ∧ (r10.length = n10 ∧ SeesK 3 W A10 n10 c10 (r10.flatMap id) ∧ ∀ r ∈ r10, r.length = 3 ∧ Le_qid W r) ∧ Sees W A11 n11 c11 (bs l11) ∧ (Lit.int .i64 z13).wf = true ∧ (Lit.int .i64 z14).wf = true ∧ (Lit.int .i64 z15).wf = true ∧ (Lit.int .i64 z16).wf = true ∧ z17.size ≤ maxLen
set_option maxRecDepth 20000 in
set_option maxHeartbeats 1000000 in
theorem leafs_tell {H : Type} {enc : TypeId × Value → H} {W : World} {b0 fuel : Nat} {hd : Bool} {cs : List Value} {x : DataW H × List MemPlace} (hsz : cs.length = 18) (hf : DataW.trod enc Try.prog W b0 (fun _ => true) hd fuel 29 cs = some x) : Le_tell W cs := by
  have hc0 : Try.prog.cellsOf 3 = 1 := by kernel_rfl
  have hc1 : Try.prog.cellsOf 9 = 1 := by kernel_rfl
  have hc2 : Try.prog.cellsOf 23 = 3 := by kernel_rfl
  have hc3 : Try.prog.cellsOf 4 = 1 := by kernel_rfl
  have hc4 : Try.prog.cellsOf 24 = 1 := by kernel_rfl
  have hc5 : Try.prog.cellsOf 25 = 1 := by kernel_rfl
  have hc6 : Try.prog.cellsOf 27 = 6 := by kernel_rfl
  have hc7 : Try.prog.cellsOf 29 = 18 := by kernel_rfl
  obtain ⟨c0, c1, c2, c3, c4, c5, c6, c7, c8, c9, c10, c11, c12, c13, c14, c15, c16, c17, rfl⟩ := list_of18 cs hsz
  obtain ⟨xs, n, _, hx, _, hlen, hg⟩ := DataW.trod_struct Try.underlying29 hf
  obtain ⟨y_0, y_1, y_2, y_3, y_4, y_5, y_6, y_7, y_8, y_9, y_10, rfl⟩ := list_of11 xs (by simpa using hlen)
  have g_0 := hg 0 _ rfl
  have g_1 := hg 1 _ rfl
  have g_2 := hg 2 _ rfl
  have g_3 := hg 3 _ rfl
  have g_4 := hg 4 _ rfl
  have g_5 := hg 5 _ rfl
  have g_6 := hg 6 _ rfl
  have g_7 := hg 7 _ rfl
  have g_8 := hg 8 _ rfl
  have g_9 := hg 9 _ rfl
  have g_10 := hg 10 _ rfl
  simp [hc0, hc1, hc2, hc3, hc4, hc5, hc6, hc7] at g_0 g_1 g_2 g_3 g_4 g_5 g_6 g_7 g_8 g_9 g_10
  clear hg hlen hx
  obtain ⟨z0, ef_0, ey_0, wz0⟩ := DataW.trod_int Try.underlying3 g_0
  simp at ef_0
  subst ef_0 ey_0
  obtain ⟨z1, ef_1, ey_1, wz1⟩ := DataW.trod_int Try.underlying3 g_1
  simp at ef_1
  subst ef_1 ey_1
  obtain ⟨z2, ef_2, ey_2, wz2⟩ := DataW.trod_int Try.underlying3 g_2
  simp at ef_2
  subst ef_2 ey_2
  obtain ⟨z3, ef_3, ey_3, wz3⟩ := DataW.trod_int Try.underlying3 g_3
  simp at ef_3
  subst ef_3 ey_3
  obtain ⟨z4, ef_4, ey_4, wz4⟩ := DataW.trod_int Try.underlying3 g_4
  simp at ef_4
  subst ef_4 ey_4
  obtain ⟨z5, ef_5, ey_5, wz5⟩ := DataW.trod_int Try.underlying3 g_5
  simp at ef_5
  subst ef_5 ey_5
  obtain ⟨z6, ef_6, ey_6, wz6⟩ := DataW.trod_string Try.underlying9 g_6
  simp at ef_6
  subst ef_6 ey_6
  obtain ⟨xs_7, n_7, _, hx_7, _, hlen_7, hg_7⟩ := DataW.trod_struct Try.underlying23 g_7
  obtain ⟨y_7_0, y_7_1, y_7_2, rfl⟩ := list_of3 xs_7 (by simpa using hlen_7)
  have g_7_0 := hg_7 0 _ rfl
  have g_7_1 := hg_7 1 _ rfl
  have g_7_2 := hg_7 2 _ rfl
  simp [hc0, hc1, hc2, hc3, hc4, hc5, hc6, hc7] at g_7_0 g_7_1 g_7_2
  clear hg_7 hlen_7 hx_7
  obtain ⟨z7, ef_7_0, ey_7_0⟩ := DataW.trod_bool Try.underlying4 g_7_0
  simp at ef_7_0
  subst ef_7_0 ey_7_0
  obtain ⟨z8, ef_7_1, ey_7_1, wz8⟩ := DataW.trod_int Try.underlying3 g_7_1
  simp at ef_7_1
  subst ef_7_1 ey_7_1
  obtain ⟨z9, ef_7_2, ey_7_2, wz9⟩ := DataW.trod_int Try.underlying3 g_7_2
  simp at ef_7_2
  subst ef_7_2 ey_7_2
  obtain ⟨A10, n10, c10, r10, ef_8, wz10⟩ := leaf_rows (by decide) (Le_qid W) Try.underlying24 (by kernel_rfl) (fun f cs x hl h => leafs_qid hl h) g_8
  subst ef_8
  obtain ⟨A11, n11, c11, l11, ef_9, wz11⟩ := leaf_bytes Try.underlying25 Try.underlying5 (by kernel_rfl) g_9
  subst ef_9
  obtain ⟨xs_10, n_10, _, hx_10, _, hlen_10, hg_10⟩ := DataW.trod_struct Try.underlying27 g_10
  obtain ⟨y_10_0, y_10_1, y_10_2, y_10_3, rfl⟩ := list_of4 xs_10 (by simpa using hlen_10)
  have g_10_0 := hg_10 0 _ rfl
  have g_10_1 := hg_10 1 _ rfl
  have g_10_2 := hg_10 2 _ rfl
  have g_10_3 := hg_10 3 _ rfl
  simp [hc0, hc1, hc2, hc3, hc4, hc5, hc6, hc7] at g_10_0 g_10_1 g_10_2 g_10_3
  clear hg_10 hlen_10 hx_10
  obtain ⟨xs_10_0, n_10_0, _, hx_10_0, _, hlen_10_0, hg_10_0⟩ := DataW.trod_struct Try.underlying23 g_10_0
  obtain ⟨y_10_0_0, y_10_0_1, y_10_0_2, rfl⟩ := list_of3 xs_10_0 (by simpa using hlen_10_0)
  have g_10_0_0 := hg_10_0 0 _ rfl
  have g_10_0_1 := hg_10_0 1 _ rfl
  have g_10_0_2 := hg_10_0 2 _ rfl
  simp [hc0, hc1, hc2, hc3, hc4, hc5, hc6, hc7] at g_10_0_0 g_10_0_1 g_10_0_2
  clear hg_10_0 hlen_10_0 hx_10_0
  obtain ⟨z12, ef_10_0_0, ey_10_0_0⟩ := DataW.trod_bool Try.underlying4 g_10_0_0
  simp at ef_10_0_0
  subst ef_10_0_0 ey_10_0_0
  obtain ⟨z13, ef_10_0_1, ey_10_0_1, wz13⟩ := DataW.trod_int Try.underlying3 g_10_0_1
  simp at ef_10_0_1
  subst ef_10_0_1 ey_10_0_1
  obtain ⟨z14, ef_10_0_2, ey_10_0_2, wz14⟩ := DataW.trod_int Try.underlying3 g_10_0_2
  simp at ef_10_0_2
  subst ef_10_0_2 ey_10_0_2
  obtain ⟨z15, ef_10_1, ey_10_1, wz15⟩ := DataW.trod_int Try.underlying3 g_10_1
  simp at ef_10_1
  subst ef_10_1 ey_10_1
  obtain ⟨z16, ef_10_2, ey_10_2, wz16⟩ := DataW.trod_int Try.underlying3 g_10_2
  simp at ef_10_2
  subst ef_10_2 ey_10_2
  obtain ⟨z17, ef_10_3, ey_10_3, wz17⟩ := DataW.trod_string Try.underlying9 g_10_3
  simp at ef_10_3
  subst ef_10_3 ey_10_3
  exact ⟨z0, z1, z2, z3, z4, z5, z6, z7, z8, z9, A10, n10, c10, r10, A11, n11, c11, l11, z12, z13, z14, z15, z16, z17, rfl, wz0, wz1, wz2, wz3, wz4, wz5, wz6, wz8, wz9, wz10, wz11, wz13, wz14, wz15, wz16, wz17⟩
/-- A value of this type that came in. -/
def Is_tell (W : World) (v : Value) : Prop := ∃ cs : List Value, v = .agg ⟨cs⟩ ∧ Le_tell W cs
set_option maxRecDepth 20000 in
theorem is_tell {H : Type} {enc : TypeId × Value → H} {W : World} {r : Reach} {b b0 : Nat} {hd : Bool} {v : Value} {d : DataW H} {p : List MemPlace} (hv : Value.okWide Try.prog W r b 29 v) (h : DataW.Trod enc Try.prog W b0 (fun _ => true) hd 29 v d p) : Is_tell W v := by
  have hc : Try.prog.cellsOf 29 = 18 := by kernel_rfl
  obtain ⟨cs, rfl, hsz⟩ := Go.WideShapes.okWide_struct Try.underlying29 hv
  obtain ⟨l⟩ := cs
  obtain ⟨fuel, hf⟩ := h
  exact ⟨l, rfl, leafs_tell (by simpa [hc] using hsz) (by simpa only [Value.cells] using hf)⟩
end Go.Proofs.Ytihiclnbbpablaa
