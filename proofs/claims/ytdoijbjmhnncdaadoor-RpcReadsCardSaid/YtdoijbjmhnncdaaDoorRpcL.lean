/-
  Layer 6: the document's Read.
-/
import Derived.Test.YtdoijbjmhnncdaaDoorRpcK
import Derived.Test.YtdoijbjmhnncdaaDoorPln
namespace Go.Proofs.YtdoijbjmhnncdaaDoor
open Go Go.RowKit
set_option linter.unusedVariables false
set_option linter.unusedSimpArgs false
theorem infoX : (Tryd.prog.info? 39).map (·.size) = some 6 := by kernel_rfl
theorem nn_pos (b : List UInt8) (j : Nat) : 0 ≤ nn b j := by
  unfold nn num4
  omega
def XRes (w : World) (b : List UInt8) (e : Ending) (w' : World) : Prop := Ext w w' ∧ match (rd4 b).2.2 with
  | some (x, a) => e = .returned (.agg #[.bool false, .int .u32 0, .int .u32 0, .string ⟨#[]⟩, .int .i64 x, .int .i64 a])
  | none => e = .returned (.agg #[.bool (rdR b), .int .u32 (numN b), .int .u32 (numN (rd3 b).2.1), .string ⟨(b.drop (rdA b)).toArray⟩, .int .i64 0, .int .i64 (-1)])
theorem xres_bad {w w' : World} {b : List UInt8} {x a : Int} (h : (rd4 b).2.2 = some (x, a)) (he : Ext w w') : XRes w b (.returned (.agg #[.bool false, .int .u32 0, .int .u32 0, .string ⟨#[]⟩, .int .i64 x, .int .i64 a])) w' := by
  refine ⟨he, ?_⟩
  rw [h]
theorem set6 {w : World} {g : Nat} {t : TypeId} {x0 x1 x2 x3 x4 x5 : Value} (h : w.heap[g]? = some (.cells #[x0, x1, x2, x3, x4, x5] t (0, 0))) (v0 v1 v2 v3 v4 v5 : Value) :
    ((((((w.setCell ⟨g, 0, none⟩ v0).setCell ⟨g, 1, none⟩ v1).setCell ⟨g, 2, none⟩ v2).setCell ⟨g, 3, none⟩ v3).setCell ⟨g, 4, none⟩ v4).setCell ⟨g, 5, none⟩ v5).heap[g]? = some (.cells #[v0, v1, v2, v3, v4, v5] t (0, 0)) := by
  have h1 := set_blk h 0 v0
  have h2 := set_blk h1 1 v1
  have h3 := set_blk h2 2 v2
  have h4 := set_blk h3 3 v3
  have h5 := set_blk h4 4 v4
  have h6 := set_blk h5 5 v5
  simpa using h6
theorem set6_ext {a w : World} {g : Nat} (h : Ext a w) (hg : a.heap.size ≤ g) (v0 v1 v2 v3 v4 v5 : Value) :
    Ext a ((((((w.setCell ⟨g, 0, none⟩ v0).setCell ⟨g, 1, none⟩ v1).setCell ⟨g, 2, none⟩ v2).setCell ⟨g, 3, none⟩ v3).setCell ⟨g, 4, none⟩ v4).setCell ⟨g, 5, none⟩ v5) :=
  (((((((Kp.of_ext (X := fun k => k < a.heap.size) h).set g 0 v0 (by omega)).set g 1 v1 (by omega)).set g 2 v2 (by omega)).set g 3 v3 (by omega)).set g 4 v4 (by omega)).set g 5 v5 (by omega)).to_ext (fun k hk => hk)
/-- What the document's Read keeps from round to round. -/
def RelX (w : World) (b : List UInt8) (A : Option Addr) (n c rb base : Nat) (lv : Value) (i m : Nat) (wr : World) : Prop :=
  InvX b i m ∧ 4 * i ≤ b.length ∧ OwnU wr base lv i (nn b) ∧ wr.heap[rb]? = some (.cells #[.slice A n c, .int .i64 ((4 * i : Nat) : Int), .int .i64 0] 66 (0, 0)) ∧
    wr.heap[w.heap.size]? = some (.cells #[.bool false, .int .u32 0, .int .u32 0, .string ⟨#[]⟩, .int .i64 0, .int .i64 0] 39 (0, 0)) ∧ Ext w wr ∧ base ≤ wr.heap.size
theorem RelX.alloc {w wr : World} {b : List UInt8} {A : Option Addr} {n c rb base i m : Nat} {lv : Value} (h : RelX w b A n c rb base lv i m wr) (o : Obj) : RelX w b A n c rb base lv i m (wr.alloc o) := by
  obtain ⟨h1, h2, h3, h4, h5, h6, h7⟩ := h
  have e := (Ext.refl wr).alloc o
  exact ⟨h1, h2, h3.heap fun k _ _ hk => Below.heap_alloc _ _ _ (by omega), e.heap h4, e.heap h5, h6.trans e, Nat.le_trans h7 e.size⟩
/-- A number more. -/
theorem RelX.push {w wr w4 : World} {b : List UInt8} {A : Option Addr} {n c rb base i m : Nat} {lv : Value} (h : RelX w b A n c rb base lv i m wr) (hrb : w.heap.size < rb) (hrb2 : rb < base) (hl : 4 * i + 4 ≤ b.length) (hi : i ≤ 10)
    (hrow : w4.heap[rb]? = some (.cells #[.slice A n c, .int .i64 ((4 * i + 4 : Nat) : Int), .int .i64 0] 66 (0, 0))) (ho : Onl rb wr w4) :
    ∃ A5 c5 w5, (Builtin.append_ #[55, 55] 55 #[lv, .slice (some ⟨w4.heap.size, 0, none⟩) 1 1]).run Tryd.prog (w4.alloc (.cells #[.int .u32 (nn b i)] 23)) = .ok (.slice A5 (i + 1) c5) w5 ∧
      (∀ m', InvX b (i + 1) m' → RelX w b A n c rb base (.slice A5 (i + 1) c5) (i + 1) m' w5) ∧
      w5.heap[w.heap.size]? = some (.cells #[.bool false, .int .u32 0, .int .u32 0, .string ⟨#[]⟩, .int .i64 0, .int .i64 0] 39 (0, 0)) ∧ Ext w w5 := by
  obtain ⟨h1, h2, h3, h4, h5, h6, h7⟩ := h
  have hs4 := ho.size
  have h34 : OwnU w4 base lv i (nn b) := h3.heap fun k _ hk hk2 => ho.block k hk2 (fun q => by injection q with q; omega)
  obtain ⟨v', w5, hrun, hown5, hg5, _⟩ := h34.push (by omega) (by omega) (nn b i) rfl
  obtain ⟨A5, c5, rfl⟩ := hown5.shape
  have hk5 : Kp (fun k => k < base) w4 w5 := ((Kp.refl _ w4).alloc _).grown hg5 (fun k hk q => by have := (h34.lt k hk).1; omega)
  have e4 : Ext w w4 := h6.onl ho (by omega)
  have e5 : Ext w w5 := ((Kp.of_ext (X := fun k => k < w.heap.size) e4).trans (hk5.mono fun k hk => by omega)).to_ext fun k hk => hk
  have h05 := hk5.heap (ho.heap h5 (by omega)) (show w.heap.size < base by omega)
  refine ⟨A5, c5, w5, hrun, fun m' hm => ⟨hm, by omega, hown5, ?_, h05, e5, by have := hk5.size; omega⟩, h05, e5⟩
  rw [show 4 * (i + 1) = 4 * i + 4 from by omega]
  exact hk5.heap hrow hrb2
set_option maxRecDepth 20000 in
set_option maxHeartbeats 2000000 in
theorem xread_any (A : Option Addr) (n c : Nat) (b : List UInt8) (w : World) (hs : Sees w A n c (bs b)) (hn : n ≤ 1000) :
    Calls Tryd.prog 11 #[.slice A n c] w (XRes w b) := by
  have hbl := hs.len
  rw [bs_length] at hbl
  have hle := hs.le
  have hmx := hs.max
  unfold maxLen at hmx
  have HS := Lib.hid hs
  have HZ := Lib.hid infoX
  clear hs
  obtain ⟨w1, hw1⟩ : ∃ w1, w.alloc (.cells #[.bool false, .int .u32 0, .int .u32 0, .string ⟨#[]⟩, .int .i64 0, .int .i64 0] 39) = w1 := ⟨_, rfl⟩
  have e1 : Ext w w1 := by rw [← hw1]; exact (Ext.refl w).alloc _
  have hb1 : w1.heap[w.heap.size]? = some (.cells #[.bool false, .int .u32 0, .int .u32 0, .string ⟨#[]⟩, .int .i64 0, .int .i64 0] 39 (0, 0)) := by rw [← hw1]; exact heap_alloc_new w _
  have hsz1 : w1.heap.size = w.heap.size + 1 := by rw [← hw1]; simp
  obtain ⟨w2, hw2⟩ : ∃ w2, w1.alloc (.cells #[.slice A n c, .int .i64 0, .int .i64 0] 66) = w2 := ⟨_, rfl⟩
  obtain ⟨rb, hrb⟩ : ∃ rb, w1.heap.size = rb := ⟨_, rfl⟩
  have e2 : Ext w1 w2 := by rw [← hw2]; exact (Ext.refl w1).alloc _
  have hsz2 : w2.heap.size = rb + 1 := by rw [← hw2, ← hrb]; simp
  have hrbw : w.heap.size < rb := by omega
  have HR2 : Hid (RelX w b A n c rb (rb + 1) (.slice none 0 0) 0 2 w2) := Lib.hid ⟨trivial, by omega, OwnU.nil _ _ _, by rw [← hw2, ← hrb]; exact heap_alloc_new w1 _, e2.heap hb1, e1.trans e2, by omega⟩
  clear e1 hb1 e2 hsz1
  go_enter Tryd.func11, Tryd.ntmps11
  go_wp2_with fail
  clear hw1 hw2 hrb hsz2
  go_loopw [4, 5, 6] (fun lv mv iv wr => ∃ (i m : Nat) (iz mz : Int), iz = (i : Int) ∧ mz = (m : Int) ∧ iv = .int .i64 iz ∧ mv = .int .i64 mz ∧ RelX w b A n c rb (rb + 1) lv i m wr) (fun _ _ iv _ => 6 - (intOf iv).toNat)
  case atStart => exact ⟨0, 2, 0, 2, rfl, rfl, rfl, rfl, HR2.out⟩
  case round =>
    obtain ⟨i, m, iz, mz, hiz, hmz, rfl, rfl, hrel⟩ := hrel
    have HREL := Lib.hid hrel
    have hcs := hrel.1.cases
    obtain ⟨Al, cl, rfl⟩ := hrel.2.2.1.shape
    have hil : 4 * i ≤ b.length := hrel.2.1
    clear hrel HR2
    rcases hcs with ⟨rfl, rfl⟩ | ⟨rfl, rfl⟩ | ⟨rfl, rfl⟩ | ⟨rfl, rfl⟩ | ⟨rfl, rfl⟩ | ⟨rfl, rfl⟩ | ⟨rfl, rfl⟩ | ⟨rfl, rfl⟩ | ⟨rfl, rfl⟩ | ⟨rfl, rfl⟩
    · obtain rfl : iz = 0 := by omega
      obtain rfl : mz = 2 := by omega
      clear hiz hmz
      have hrow := HREL.out.2.2.2.1
      by_cases hl : 4 * 0 + 4 ≤ b.length
      · have HU := Lib.hid (ru32_row rb A n c (4 * 0) b wr hrow (HS.out.ext HREL.out.2.2.2.2.2.1) (by omega))
        rw [show num4 (b.drop (4 * 0)) = nn b 0 from rfl] at HU
        clear hrow
        go_wp2_with fail
        refine HU.out.mono ?_
        rintro e w4 ⟨rfl, hrow4, ho4⟩
        have c2 := cell_of_row w4 rb 2 _ _ _ hrow4
        simp at c2
        obtain ⟨A5, c5, w5, hrun5, hrel5, hr05⟩ := HREL.out.push hrbw (Nat.lt_succ_self _) hl (by omega) hrow4 ho4
        obtain ⟨x, hx⟩ : ∃ x, nn b 0 = x := ⟨_, rfl⟩
        have hx0 : 0 ≤ x := hx ▸ nn_pos b 0
        rw [hx] at hrun5
        have HREL5 := Lib.hid hrel5
        have HX := Lib.hid hx
        have EX := Lib.hid hr05.2
        have HR0 := Lib.hid (hr05.1)
        have z0 := cell_of_row _ w.heap.size 0 _ _ _ HR0.out
        have z1 := cell_of_row _ w.heap.size 1 _ _ _ HR0.out
        have z2 := cell_of_row _ w.heap.size 2 _ _ _ HR0.out
        have z3 := cell_of_row _ w.heap.size 3 _ _ _ HR0.out
        have z4 := cell_of_row _ w.heap.size 4 _ _ _ HR0.out
        have z5 := cell_of_row _ w.heap.size 5 _ _ _ HR0.out
        simp at z0 z1 z2 z3 z4 z5
        have p0 := Lib.frozen_of_heap HR0.out 0
        have p1 := Lib.frozen_of_heap HR0.out 1
        have p2 := Lib.frozen_of_heap HR0.out 2
        have p3 := Lib.frozen_of_heap HR0.out 3
        have p4 := Lib.frozen_of_heap HR0.out 4
        have p5 := Lib.frozen_of_heap HR0.out 5
        clear hrel5 hrow4 ho4 HU hr05 hx
        try rw [HX.out]
        go_wp2_with (first | (at_builtin; refine wpList_append_run rfl (.tmp 27) (.tmp 29) _ rfl _ _ rfl rfl _ w5 hrun5 ?_) | fail)
        go_roundw
        case rel => exact ⟨1, 2, 1, 2, rfl, rfl, rfl, rfl, (HREL5.out 2 (i0_ok hl))⟩
        case measure => simp [intOf]
      · have hrf : Rfr wr rb 0 (b.drop (4 * 0)) := ⟨A, n, c, b, 4 * 0, hrow, HS.out.ext HREL.out.2.2.2.2.2.1, by omega, fun _ => rfl, fun q => absurd rfl q⟩
        have HU := Lib.hid (ru32_few rb 0 _ wr hrf (dr_few hl))
        clear hrow hrf
        go_wp2_with fail
        refine HU.out.mono ?_
        rintro e w4 ⟨rfl, hr4, ho4⟩
        have c2 := hr4.err.1
        rw [show ferr 0 3 = 3 from rfl] at c2
        have EX := Lib.hid (HREL.out.2.2.2.2.2.1.onl ho4 (by omega))
        have HR0 := Lib.hid (ho4.heap HREL.out.2.2.2.2.1 (by omega))
        have z0 := cell_of_row _ w.heap.size 0 _ _ _ HR0.out
        have z1 := cell_of_row _ w.heap.size 1 _ _ _ HR0.out
        have z2 := cell_of_row _ w.heap.size 2 _ _ _ HR0.out
        have z3 := cell_of_row _ w.heap.size 3 _ _ _ HR0.out
        have z4 := cell_of_row _ w.heap.size 4 _ _ _ HR0.out
        have z5 := cell_of_row _ w.heap.size 5 _ _ _ HR0.out
        simp at z0 z1 z2 z3 z4 z5
        have p0 := Lib.frozen_of_heap HR0.out 0
        have p1 := Lib.frozen_of_heap HR0.out 1
        have p2 := Lib.frozen_of_heap HR0.out 2
        have p3 := Lib.frozen_of_heap HR0.out 3
        have p4 := Lib.frozen_of_heap HR0.out 4
        have p5 := Lib.frozen_of_heap HR0.out 5
        clear hr4 ho4 HU
        go_wp2_with fail
        refine bodyPost_ret (results_cell_row rfl _ _ w.heap.size _ _ (0, 0) _ rfl (set6 HR0.out _ _ _ _ _ _) Tryd.underlying39 rfl HZ.out) rfl ?_
        exact xres_bad (i0_few hl) (set6_ext EX.out (Nat.le_refl _) _ _ _ _ _ _)
    · obtain rfl : iz = 1 := by omega
      obtain rfl : mz = 2 := by omega
      clear hiz hmz
      have hrow := HREL.out.2.2.2.1
      by_cases hl : 4 * 1 + 4 ≤ b.length
      · have HU := Lib.hid (ru32_row rb A n c (4 * 1) b wr hrow (HS.out.ext HREL.out.2.2.2.2.2.1) (by omega))
        rw [show num4 (b.drop (4 * 1)) = nn b 1 from rfl] at HU
        clear hrow
        go_wp2_with fail
        refine HU.out.mono ?_
        rintro e w4 ⟨rfl, hrow4, ho4⟩
        have c2 := cell_of_row w4 rb 2 _ _ _ hrow4
        simp at c2
        obtain ⟨A5, c5, w5, hrun5, hrel5, hr05⟩ := HREL.out.push hrbw (Nat.lt_succ_self _) hl (by omega) hrow4 ho4
        obtain ⟨x, hx⟩ : ∃ x, nn b 1 = x := ⟨_, rfl⟩
        have hx0 : 0 ≤ x := hx ▸ nn_pos b 1
        rw [hx] at hrun5
        have HREL5 := Lib.hid hrel5
        have HX := Lib.hid hx
        have EX := Lib.hid hr05.2
        have HR0 := Lib.hid (hr05.1)
        have z0 := cell_of_row _ w.heap.size 0 _ _ _ HR0.out
        have z1 := cell_of_row _ w.heap.size 1 _ _ _ HR0.out
        have z2 := cell_of_row _ w.heap.size 2 _ _ _ HR0.out
        have z3 := cell_of_row _ w.heap.size 3 _ _ _ HR0.out
        have z4 := cell_of_row _ w.heap.size 4 _ _ _ HR0.out
        have z5 := cell_of_row _ w.heap.size 5 _ _ _ HR0.out
        simp at z0 z1 z2 z3 z4 z5
        have p0 := Lib.frozen_of_heap HR0.out 0
        have p1 := Lib.frozen_of_heap HR0.out 1
        have p2 := Lib.frozen_of_heap HR0.out 2
        have p3 := Lib.frozen_of_heap HR0.out 3
        have p4 := Lib.frozen_of_heap HR0.out 4
        have p5 := Lib.frozen_of_heap HR0.out 5
        clear hrel5 hrow4 ho4 HU hr05 hx
        try rw [HX.out]
        by_cases h1 : x = 1
        · subst h1
          go_wp2_with (first | (at_builtin; refine wpList_append_run rfl (.tmp 27) (.tmp 29) _ rfl _ _ rfl rfl _ w5 hrun5 ?_) | fail)
          go_roundw
          case rel => exact ⟨2, 4, 2, 4, rfl, rfl, rfl, rfl, (HREL5.out 4 (i1_reply HREL.out.1 hl HX.out))⟩
          case measure => simp [intOf]
        · have hq : (x == 1) = false := by simpa using h1
          by_cases h0 : x = 0
          · subst h0
            clear hq
            go_wp2_with (first | (at_builtin; refine wpList_append_run rfl (.tmp 27) (.tmp 29) _ rfl _ _ rfl rfl _ w5 hrun5 ?_) | fail)
            go_roundw
            case rel => exact ⟨2, 6, 2, 6, rfl, rfl, rfl, rfl, (HREL5.out 6 (i1_call HREL.out.1 hl HX.out))⟩
            case measure => simp [intOf]
          · have hq2 : 1 < x := by omega
            have HF := Lib.hid (i1_no HREL.out.1 hl (by rw [HX.out]; simp [h0, h1]))
            go_wp2_with (first | (at_builtin; refine wpList_append_run rfl (.tmp 27) (.tmp 29) _ rfl _ _ rfl rfl _ w5 hrun5 ?_) | fail)
            refine bodyPost_ret (results_cell_row rfl _ _ w.heap.size _ _ (0, 0) _ rfl (set6 HR0.out _ _ _ _ _ _) Tryd.underlying39 rfl HZ.out) rfl ?_
            exact xres_bad HF.out (set6_ext EX.out (Nat.le_refl _) _ _ _ _ _ _)
      · have hrf : Rfr wr rb 0 (b.drop (4 * 1)) := ⟨A, n, c, b, 4 * 1, hrow, HS.out.ext HREL.out.2.2.2.2.2.1, by omega, fun _ => rfl, fun q => absurd rfl q⟩
        have HU := Lib.hid (ru32_few rb 0 _ wr hrf (dr_few hl))
        clear hrow hrf
        go_wp2_with fail
        refine HU.out.mono ?_
        rintro e w4 ⟨rfl, hr4, ho4⟩
        have c2 := hr4.err.1
        rw [show ferr 0 3 = 3 from rfl] at c2
        have EX := Lib.hid (HREL.out.2.2.2.2.2.1.onl ho4 (by omega))
        have HR0 := Lib.hid (ho4.heap HREL.out.2.2.2.2.1 (by omega))
        have z0 := cell_of_row _ w.heap.size 0 _ _ _ HR0.out
        have z1 := cell_of_row _ w.heap.size 1 _ _ _ HR0.out
        have z2 := cell_of_row _ w.heap.size 2 _ _ _ HR0.out
        have z3 := cell_of_row _ w.heap.size 3 _ _ _ HR0.out
        have z4 := cell_of_row _ w.heap.size 4 _ _ _ HR0.out
        have z5 := cell_of_row _ w.heap.size 5 _ _ _ HR0.out
        simp at z0 z1 z2 z3 z4 z5
        have p0 := Lib.frozen_of_heap HR0.out 0
        have p1 := Lib.frozen_of_heap HR0.out 1
        have p2 := Lib.frozen_of_heap HR0.out 2
        have p3 := Lib.frozen_of_heap HR0.out 3
        have p4 := Lib.frozen_of_heap HR0.out 4
        have p5 := Lib.frozen_of_heap HR0.out 5
        clear hr4 ho4 HU
        go_wp2_with fail
        refine bodyPost_ret (results_cell_row rfl _ _ w.heap.size _ _ (0, 0) _ rfl (set6 HR0.out _ _ _ _ _ _) Tryd.underlying39 rfl HZ.out) rfl ?_
        exact xres_bad (i1_few HREL.out.1 hl) (set6_ext EX.out (Nat.le_refl _) _ _ _ _ _ _)
    · obtain rfl : iz = 2 := by omega
      obtain rfl : mz = 4 := by omega
      clear hiz hmz
      have hrow := HREL.out.2.2.2.1
      by_cases hl : 4 * 2 + 4 ≤ b.length
      · have HU := Lib.hid (ru32_row rb A n c (4 * 2) b wr hrow (HS.out.ext HREL.out.2.2.2.2.2.1) (by omega))
        rw [show num4 (b.drop (4 * 2)) = nn b 2 from rfl] at HU
        clear hrow
        go_wp2_with fail
        refine HU.out.mono ?_
        rintro e w4 ⟨rfl, hrow4, ho4⟩
        have c2 := cell_of_row w4 rb 2 _ _ _ hrow4
        simp at c2
        obtain ⟨A5, c5, w5, hrun5, hrel5, hr05⟩ := HREL.out.push hrbw (Nat.lt_succ_self _) hl (by omega) hrow4 ho4
        obtain ⟨x, hx⟩ : ∃ x, nn b 2 = x := ⟨_, rfl⟩
        have hx0 : 0 ≤ x := hx ▸ nn_pos b 2
        rw [hx] at hrun5
        have HREL5 := Lib.hid hrel5
        have HX := Lib.hid hx
        have EX := Lib.hid hr05.2
        have HR0 := Lib.hid (hr05.1)
        have z0 := cell_of_row _ w.heap.size 0 _ _ _ HR0.out
        have z1 := cell_of_row _ w.heap.size 1 _ _ _ HR0.out
        have z2 := cell_of_row _ w.heap.size 2 _ _ _ HR0.out
        have z3 := cell_of_row _ w.heap.size 3 _ _ _ HR0.out
        have z4 := cell_of_row _ w.heap.size 4 _ _ _ HR0.out
        have z5 := cell_of_row _ w.heap.size 5 _ _ _ HR0.out
        simp at z0 z1 z2 z3 z4 z5
        have p0 := Lib.frozen_of_heap HR0.out 0
        have p1 := Lib.frozen_of_heap HR0.out 1
        have p2 := Lib.frozen_of_heap HR0.out 2
        have p3 := Lib.frozen_of_heap HR0.out 3
        have p4 := Lib.frozen_of_heap HR0.out 4
        have p5 := Lib.frozen_of_heap HR0.out 5
        clear hrel5 hrow4 ho4 HU hr05 hx
        try rw [HX.out]
        by_cases h0 : x = 0
        · subst h0
          go_wp2_with (first | (at_builtin; refine wpList_append_run rfl (.tmp 27) (.tmp 29) _ rfl _ _ rfl rfl _ w5 hrun5 ?_) | fail)
          go_roundw
          case rel => exact ⟨3, 4, 3, 4, rfl, rfl, rfl, rfl, (HREL5.out 4 (r2_ok HREL.out.1 hl (by rw [HX.out]; simp)))⟩
          case measure => simp [intOf]
        · have hq : (x == 0) = false := by simpa using h0
          have HF := Lib.hid (r2_no HREL.out.1 hl (by rw [HX.out]; simp [h0]))
          go_wp2_with (first | (at_builtin; refine wpList_append_run rfl (.tmp 27) (.tmp 29) _ rfl _ _ rfl rfl _ w5 hrun5 ?_) | fail)
          refine bodyPost_ret (results_cell_row rfl _ _ w.heap.size _ _ (0, 0) _ rfl (set6 HR0.out _ _ _ _ _ _) Tryd.underlying39 rfl HZ.out) rfl ?_
          exact xres_bad HF.out (set6_ext EX.out (Nat.le_refl _) _ _ _ _ _ _)
      · have hrf : Rfr wr rb 0 (b.drop (4 * 2)) := ⟨A, n, c, b, 4 * 2, hrow, HS.out.ext HREL.out.2.2.2.2.2.1, by omega, fun _ => rfl, fun q => absurd rfl q⟩
        have HU := Lib.hid (ru32_few rb 0 _ wr hrf (dr_few hl))
        clear hrow hrf
        go_wp2_with fail
        refine HU.out.mono ?_
        rintro e w4 ⟨rfl, hr4, ho4⟩
        have c2 := hr4.err.1
        rw [show ferr 0 3 = 3 from rfl] at c2
        have EX := Lib.hid (HREL.out.2.2.2.2.2.1.onl ho4 (by omega))
        have HR0 := Lib.hid (ho4.heap HREL.out.2.2.2.2.1 (by omega))
        have z0 := cell_of_row _ w.heap.size 0 _ _ _ HR0.out
        have z1 := cell_of_row _ w.heap.size 1 _ _ _ HR0.out
        have z2 := cell_of_row _ w.heap.size 2 _ _ _ HR0.out
        have z3 := cell_of_row _ w.heap.size 3 _ _ _ HR0.out
        have z4 := cell_of_row _ w.heap.size 4 _ _ _ HR0.out
        have z5 := cell_of_row _ w.heap.size 5 _ _ _ HR0.out
        simp at z0 z1 z2 z3 z4 z5
        have p0 := Lib.frozen_of_heap HR0.out 0
        have p1 := Lib.frozen_of_heap HR0.out 1
        have p2 := Lib.frozen_of_heap HR0.out 2
        have p3 := Lib.frozen_of_heap HR0.out 3
        have p4 := Lib.frozen_of_heap HR0.out 4
        have p5 := Lib.frozen_of_heap HR0.out 5
        clear hr4 ho4 HU
        go_wp2_with fail
        refine bodyPost_ret (results_cell_row rfl _ _ w.heap.size _ _ (0, 0) _ rfl (set6 HR0.out _ _ _ _ _ _) Tryd.underlying39 rfl HZ.out) rfl ?_
        exact xres_bad (r2_few HREL.out.1 hl) (set6_ext EX.out (Nat.le_refl _) _ _ _ _ _ _)
    · obtain rfl : iz = 3 := by omega
      obtain rfl : mz = 4 := by omega
      clear hiz hmz
      have hrow := HREL.out.2.2.2.1
      by_cases hl : 4 * 3 + 4 ≤ b.length
      · have HU := Lib.hid (ru32_row rb A n c (4 * 3) b wr hrow (HS.out.ext HREL.out.2.2.2.2.2.1) (by omega))
        rw [show num4 (b.drop (4 * 3)) = nn b 3 from rfl] at HU
        clear hrow
        go_wp2_with fail
        refine HU.out.mono ?_
        rintro e w4 ⟨rfl, hrow4, ho4⟩
        have c2 := cell_of_row w4 rb 2 _ _ _ hrow4
        simp at c2
        obtain ⟨A5, c5, w5, hrun5, hrel5, hr05⟩ := HREL.out.push hrbw (Nat.lt_succ_self _) hl (by omega) hrow4 ho4
        obtain ⟨x, hx⟩ : ∃ x, nn b 3 = x := ⟨_, rfl⟩
        have hx0 : 0 ≤ x := hx ▸ nn_pos b 3
        rw [hx] at hrun5
        have HREL5 := Lib.hid hrel5
        have HX := Lib.hid hx
        have EX := Lib.hid hr05.2
        have HR0 := Lib.hid (hr05.1)
        have z0 := cell_of_row _ w.heap.size 0 _ _ _ HR0.out
        have z1 := cell_of_row _ w.heap.size 1 _ _ _ HR0.out
        have z2 := cell_of_row _ w.heap.size 2 _ _ _ HR0.out
        have z3 := cell_of_row _ w.heap.size 3 _ _ _ HR0.out
        have z4 := cell_of_row _ w.heap.size 4 _ _ _ HR0.out
        have z5 := cell_of_row _ w.heap.size 5 _ _ _ HR0.out
        simp at z0 z1 z2 z3 z4 z5
        have p0 := Lib.frozen_of_heap HR0.out 0
        have p1 := Lib.frozen_of_heap HR0.out 1
        have p2 := Lib.frozen_of_heap HR0.out 2
        have p3 := Lib.frozen_of_heap HR0.out 3
        have p4 := Lib.frozen_of_heap HR0.out 4
        have p5 := Lib.frozen_of_heap HR0.out 5
        clear hrel5 hrow4 ho4 HU hr05 hx
        try rw [HX.out]
        go_wp2_with (first | (at_builtin; refine wpList_append_run rfl (.tmp 27) (.tmp 29) _ rfl _ _ rfl rfl _ w5 hrun5 ?_) | fail)
        go_roundw
        case rel => exact ⟨4, 4, 4, 4, rfl, rfl, rfl, rfl, (HREL5.out 4 (r3_ok HREL.out.1 hl))⟩
        case measure => simp [intOf]
      · have hrf : Rfr wr rb 0 (b.drop (4 * 3)) := ⟨A, n, c, b, 4 * 3, hrow, HS.out.ext HREL.out.2.2.2.2.2.1, by omega, fun _ => rfl, fun q => absurd rfl q⟩
        have HU := Lib.hid (ru32_few rb 0 _ wr hrf (dr_few hl))
        clear hrow hrf
        go_wp2_with fail
        refine HU.out.mono ?_
        rintro e w4 ⟨rfl, hr4, ho4⟩
        have c2 := hr4.err.1
        rw [show ferr 0 3 = 3 from rfl] at c2
        have EX := Lib.hid (HREL.out.2.2.2.2.2.1.onl ho4 (by omega))
        have HR0 := Lib.hid (ho4.heap HREL.out.2.2.2.2.1 (by omega))
        have z0 := cell_of_row _ w.heap.size 0 _ _ _ HR0.out
        have z1 := cell_of_row _ w.heap.size 1 _ _ _ HR0.out
        have z2 := cell_of_row _ w.heap.size 2 _ _ _ HR0.out
        have z3 := cell_of_row _ w.heap.size 3 _ _ _ HR0.out
        have z4 := cell_of_row _ w.heap.size 4 _ _ _ HR0.out
        have z5 := cell_of_row _ w.heap.size 5 _ _ _ HR0.out
        simp at z0 z1 z2 z3 z4 z5
        have p0 := Lib.frozen_of_heap HR0.out 0
        have p1 := Lib.frozen_of_heap HR0.out 1
        have p2 := Lib.frozen_of_heap HR0.out 2
        have p3 := Lib.frozen_of_heap HR0.out 3
        have p4 := Lib.frozen_of_heap HR0.out 4
        have p5 := Lib.frozen_of_heap HR0.out 5
        clear hr4 ho4 HU
        go_wp2_with fail
        refine bodyPost_ret (results_cell_row rfl _ _ w.heap.size _ _ (0, 0) _ rfl (set6 HR0.out _ _ _ _ _ _) Tryd.underlying39 rfl HZ.out) rfl ?_
        exact xres_bad (r3_few HREL.out.1 hl) (set6_ext EX.out (Nat.le_refl _) _ _ _ _ _ _)
    · obtain ⟨i1, i2, i3⟩ := (show rdR b = true ∧ rd3 b = (0, b.drop (4 * 3), none) ∧ rd4 b = (0, b.drop (4 * 4), none) from HREL.out.1)
      have HFIN : Hid ((rd4 b).2.2 = none ∧ rdR b = true ∧ numN b = nn b 0 ∧ numN (rd3 b).2.1 = nn b 3 ∧ rdA b = 16) := Lib.hid ⟨by rw [i3], i1, (dr_nums (i := 0) (b := b) (by omega)).2.2, by rw [i2]; exact (dr_nums (by omega)).2.2, by rw [rdA, i1]; rfl⟩
      clear i1 i2 i3
      obtain rfl : iz = mz := by omega
      have hq4 : (iz == 4) = true := by rw [hmz]; rfl
      obtain ⟨K, hK0⟩ : ∃ K : Nat, K = 16 := ⟨_, rfl⟩
      have hm4 : 4 * iz = (K : Int) := by omega
      have hsub : iz - 1 = 3 := by omega
      have hm0 : 0 ≤ iz := by omega
      have hm6 : iz ≤ 6 := by omega
      have hKn : K ≤ n := by omega
      have hwJ : IntKind.i64.wrap 3 = 3 := by decide
      have hwK : IntKind.i64.wrap (K : Int) = (K : Int) := by rw [hK0]; decide
      have HK0 := Lib.hid hK0
      obtain ⟨g, cap, hv, hbg, hc0⟩ := HREL.out.2.2.1.at_ 0 (by omega)
      obtain ⟨g', cap', hv', _, hcJ⟩ := HREL.out.2.2.1.at_ 3 (by omega)
      injection hv with q1 q2 q3
      subst q1 q3
      injection hv' with q1 q2 q3
      injection q1 with q1
      injection q1 with q1
      subst q1
      have hgr : ¬ g = w.heap.size := by omega
      have HC0 := Lib.hid hc0
      have HCJ := Lib.hid hcJ
      obtain ⟨A', hsd, hA'⟩ := bdropR HS.out K hKn
      obtain ⟨N, hN⟩ : ∃ N, N = n - K := ⟨_, rfl⟩
      rw [← hN] at hsd
      have HFAR : Hid (∀ a, A' = some a → 0 < N → ¬ a.block = w.heap.size) := Lib.hid fun a ha hN0 => by
        obtain ⟨bb, off, u, hA, _, _, hlt⟩ := hsd.at_ hN0
        rw [hA] at ha
        injection ha with ha
        subst ha
        simp only
        omega
      obtain ⟨wd, hwd⟩ : ∃ wd, wr.drew = wd := ⟨_, rfl⟩
      have SD : Hid (Kp (fun k => ¬ k = w.heap.size) wr wd) := Lib.hid (by rw [← hwd]; exact (Kp.refl _ wr).drew)
      have EX := Lib.hid HREL.out.2.2.2.2.2.1
      have HSD := Lib.hid (hsd.ext EX.out)
      have HRD : Hid (wd.heap[w.heap.size]? = some (.cells #[.bool false, .int .u32 0, .int .u32 0, .string ⟨#[]⟩, .int .i64 0, .int .i64 0] 39 (0, 0))) := Lib.hid (by rw [← hwd]; exact (Ext.refl wr).drew.heap HREL.out.2.2.2.2.1)
      have EXD : Hid (Ext w wd) := Lib.hid (by rw [← hwd]; exact EX.out.drew)
      have HR0 := Lib.hid (HRD.out)
      have z0 := cell_of_row _ w.heap.size 0 _ _ _ HR0.out
      have z1 := cell_of_row _ w.heap.size 1 _ _ _ HR0.out
      have z2 := cell_of_row _ w.heap.size 2 _ _ _ HR0.out
      have z3 := cell_of_row _ w.heap.size 3 _ _ _ HR0.out
      have z4 := cell_of_row _ w.heap.size 4 _ _ _ HR0.out
      have z5 := cell_of_row _ w.heap.size 5 _ _ _ HR0.out
      simp at z0 z1 z2 z3 z4 z5
      have p0 := Lib.frozen_of_heap HR0.out 0
      have p1 := Lib.frozen_of_heap HR0.out 1
      have p2 := Lib.frozen_of_heap HR0.out 2
      have p3 := Lib.frozen_of_heap HR0.out 3
      have p4 := Lib.frozen_of_heap HR0.out 4
      have p5 := Lib.frozen_of_heap HR0.out 5
      have SE : Kp (fun k => ¬ k = w.heap.size) wr ((((((wd.setCell ⟨w.heap.size, 0, none⟩ (.bool true)).setCell ⟨w.heap.size, 1, none⟩ (.int .u32 (nn b 0))).setCell ⟨w.heap.size, 2, none⟩ (.int .u32 (nn b 3))).setCell ⟨w.heap.size, 3, none⟩ (.string ⟨(b.drop K).toArray⟩)).setCell ⟨w.heap.size, 4, none⟩ (.int .i64 0)).setCell ⟨w.heap.size, 5, none⟩ (.int .i64 (-1))) := ((((((SD.out.set w.heap.size 0 _ (by simp)).set w.heap.size 1 _ (by simp)).set w.heap.size 2 _ (by simp)).set w.heap.size 3 _ (by simp)).set w.heap.size 4 _ (by simp)).set w.heap.size 5 _ (by simp))
      have SEH := Lib.hid SE
      clear SE hsd hcJ hc0 hK0 hmz hiz hbg HREL
      by_cases hck : c = K
      · rw [if_pos hck] at hA'
        have hck0 : c - K = 0 := by omega
        rw [hck0] at HSD
        clear hck0
        subst hN hA'
        go_wp2_with fail
        refine wp_region_plS (Kp (fun k => ¬ k = w.heap.size) wr) (.free 0 (.free 1 (.free 2 (.free 3 (.free 4 (.free 5 (.free 6 (.free 7 (.free 8 (.free 9 (.free 10 (.free 11 (.free 12 (.free 13 (.free 14 (.free 15 (.free 16 (.one 17 .nil)))))))))))))))))) (by kernel_rfl) (by kernel_rfl) (by kernel_rfl) (by kernel_rfl) ?_
        rw [hwd]
        refine plS_val (v := ?_) rfl rfl SD.out (fun w' hw' => ?_) ?_; rotate_left; (· skip; go_simp; try with_reducible rfl); simp only [Act.put, List.setIfInBounds_toArray, List.set_cons_zero, List.set_cons_succ]
        refine plS_val (v := ?_) rfl rfl SD.out (fun w' hw' => ?_) ?_; rotate_left; (· skip; go_simp; try with_reducible rfl); simp only [Act.put, List.setIfInBounds_toArray, List.set_cons_zero, List.set_cons_succ]
        refine plS_val (v := ?_) rfl rfl SD.out (fun w' hw' => ?_) ?_; rotate_left; (· skip; go_simp; try with_reducible rfl); simp only [Act.put, List.setIfInBounds_toArray, List.set_cons_zero, List.set_cons_succ]
        refine plS_val (v := ?_) rfl rfl SD.out (fun w' hw' => ?_) ?_; rotate_left; (· skip; go_simp; try with_reducible rfl); simp only [Act.put, List.setIfInBounds_toArray, List.set_cons_zero, List.set_cons_succ]
        refine plS_val (v := ?_) rfl rfl SD.out (fun w' hw' => ?_) ?_; rotate_left; (· have v0 := hw'.cell HC0.out hgr; go_simp; try with_reducible rfl); simp only [Act.put, List.setIfInBounds_toArray, List.set_cons_zero, List.set_cons_succ]
        refine plS_val (v := ?_) rfl rfl SD.out (fun w' hw' => ?_) ?_; rotate_left; (· skip; go_simp; try with_reducible rfl); simp only [Act.put, List.setIfInBounds_toArray, List.set_cons_zero, List.set_cons_succ]
        refine plS_val (v := ?_) rfl rfl SD.out (fun w' hw' => ?_) ?_; rotate_left; (· skip; go_simp; try with_reducible rfl); simp only [Act.put, List.setIfInBounds_toArray, List.set_cons_zero, List.set_cons_succ]
        refine plS_val (v := ?_) rfl rfl SD.out (fun w' hw' => ?_) ?_; rotate_left; (· skip; go_simp; try with_reducible rfl); simp only [Act.put, List.setIfInBounds_toArray, List.set_cons_zero, List.set_cons_succ]
        refine plS_val (v := ?_) rfl rfl SD.out (fun w' hw' => ?_) ?_; rotate_left; (· skip; go_simp; try with_reducible rfl); simp only [Act.put, List.setIfInBounds_toArray, List.set_cons_zero, List.set_cons_succ]
        refine plS_val (v := ?_) rfl rfl SD.out (fun w' hw' => ?_) ?_; rotate_left; (· have v0 := hw'.cell HCJ.out hgr; go_simp; try with_reducible rfl); simp only [Act.put, List.setIfInBounds_toArray, List.set_cons_zero, List.set_cons_succ]
        refine plS_val (v := ?_) rfl rfl SD.out (fun w' hw' => ?_) ?_; rotate_left; (· skip; go_simp; try with_reducible rfl); simp only [Act.put, List.setIfInBounds_toArray, List.set_cons_zero, List.set_cons_succ]
        refine plS_val (v := ?_) rfl rfl SD.out (fun w' hw' => ?_) ?_; rotate_left; (· skip; go_simp; try with_reducible rfl); simp only [Act.put, List.setIfInBounds_toArray, List.set_cons_zero, List.set_cons_succ]
        refine plS_val (v := ?_) rfl rfl SD.out (fun w' hw' => ?_) ?_; rotate_left; (· skip; go_simp; try with_reducible rfl); simp only [Act.put, List.setIfInBounds_toArray, List.set_cons_zero, List.set_cons_succ]
        refine plS_val (v := ?_) rfl rfl SD.out (fun w' hw' => ?_) ?_; rotate_left; (· skip; go_simp; try with_reducible rfl); simp only [Act.put, List.setIfInBounds_toArray, List.set_cons_zero, List.set_cons_succ]
        refine plS_val (v := ?_) rfl rfl SD.out (fun w' hw' => ?_) ?_; rotate_left; (· have ts := str_of (hw'.sees HSD.out HFAR.out); go_simp; try with_reducible rfl); simp only [Act.put, List.setIfInBounds_toArray, List.set_cons_zero, List.set_cons_succ]
        refine plS_val (v := ?_) rfl rfl SD.out (fun w' hw' => ?_) ?_; rotate_left; (· skip; go_simp; try with_reducible rfl); simp only [Act.put, List.setIfInBounds_toArray, List.set_cons_zero, List.set_cons_succ]
        refine plS_val (v := ?_) rfl rfl SD.out (fun w' hw' => ?_) ?_; rotate_left; (· skip; go_simp; try with_reducible rfl); simp only [Act.put, List.setIfInBounds_toArray, List.set_cons_zero, List.set_cons_succ]
        refine plS_void (w' := ((((((wd.setCell ⟨w.heap.size, 0, none⟩ (.bool true)).setCell ⟨w.heap.size, 1, none⟩ (.int .u32 (nn b 0))).setCell ⟨w.heap.size, 2, none⟩ (.int .u32 (nn b 3))).setCell ⟨w.heap.size, 3, none⟩ (.string ⟨(b.drop K).toArray⟩)).setCell ⟨w.heap.size, 4, none⟩ (.int .i64 0)).setCell ⟨w.heap.size, 5, none⟩ (.int .i64 (-1)))) rfl rfl (by go_simp) SEH.out ?_
        simp only [Act.put, List.setIfInBounds_toArray, List.set_cons_zero, List.set_cons_succ]
        refine plS_done ?_
        go_wp2_with fail
        refine bodyPost_ret (results_cell_row rfl _ _ w.heap.size _ _ (0, 0) _ rfl (set6 HRD.out _ _ _ _ _ _) Tryd.underlying39 rfl HZ.out) rfl ?_
        refine ⟨set6_ext EXD.out (Nat.le_refl _) _ _ _ _ _ _, ?_⟩
        rw [HFIN.out.1]
        simp only
        rw [HFIN.out.2.1, HFIN.out.2.2.1, HFIN.out.2.2.2.1, HFIN.out.2.2.2.2, ← HK0.out]
      · rw [if_neg hck] at hA'
        subst hN hA'
        go_wp2_with fail
        refine wp_region_plS (Kp (fun k => ¬ k = w.heap.size) wr) (.free 0 (.free 1 (.free 2 (.free 3 (.free 4 (.free 5 (.free 6 (.free 7 (.free 8 (.free 9 (.free 10 (.free 11 (.free 12 (.free 13 (.free 14 (.free 15 (.free 16 (.one 17 .nil)))))))))))))))))) (by kernel_rfl) (by kernel_rfl) (by kernel_rfl) (by kernel_rfl) ?_
        rw [hwd]
        refine plS_val (v := ?_) rfl rfl SD.out (fun w' hw' => ?_) ?_; rotate_left; (· skip; go_simp; try with_reducible rfl); simp only [Act.put, List.setIfInBounds_toArray, List.set_cons_zero, List.set_cons_succ]
        refine plS_val (v := ?_) rfl rfl SD.out (fun w' hw' => ?_) ?_; rotate_left; (· skip; go_simp; try with_reducible rfl); simp only [Act.put, List.setIfInBounds_toArray, List.set_cons_zero, List.set_cons_succ]
        refine plS_val (v := ?_) rfl rfl SD.out (fun w' hw' => ?_) ?_; rotate_left; (· skip; go_simp; try with_reducible rfl); simp only [Act.put, List.setIfInBounds_toArray, List.set_cons_zero, List.set_cons_succ]
        refine plS_val (v := ?_) rfl rfl SD.out (fun w' hw' => ?_) ?_; rotate_left; (· skip; go_simp; try with_reducible rfl); simp only [Act.put, List.setIfInBounds_toArray, List.set_cons_zero, List.set_cons_succ]
        refine plS_val (v := ?_) rfl rfl SD.out (fun w' hw' => ?_) ?_; rotate_left; (· have v0 := hw'.cell HC0.out hgr; go_simp; try with_reducible rfl); simp only [Act.put, List.setIfInBounds_toArray, List.set_cons_zero, List.set_cons_succ]
        refine plS_val (v := ?_) rfl rfl SD.out (fun w' hw' => ?_) ?_; rotate_left; (· skip; go_simp; try with_reducible rfl); simp only [Act.put, List.setIfInBounds_toArray, List.set_cons_zero, List.set_cons_succ]
        refine plS_val (v := ?_) rfl rfl SD.out (fun w' hw' => ?_) ?_; rotate_left; (· skip; go_simp; try with_reducible rfl); simp only [Act.put, List.setIfInBounds_toArray, List.set_cons_zero, List.set_cons_succ]
        refine plS_val (v := ?_) rfl rfl SD.out (fun w' hw' => ?_) ?_; rotate_left; (· skip; go_simp; try with_reducible rfl); simp only [Act.put, List.setIfInBounds_toArray, List.set_cons_zero, List.set_cons_succ]
        refine plS_val (v := ?_) rfl rfl SD.out (fun w' hw' => ?_) ?_; rotate_left; (· skip; go_simp; try with_reducible rfl); simp only [Act.put, List.setIfInBounds_toArray, List.set_cons_zero, List.set_cons_succ]
        refine plS_val (v := ?_) rfl rfl SD.out (fun w' hw' => ?_) ?_; rotate_left; (· have v0 := hw'.cell HCJ.out hgr; go_simp; try with_reducible rfl); simp only [Act.put, List.setIfInBounds_toArray, List.set_cons_zero, List.set_cons_succ]
        refine plS_val (v := ?_) rfl rfl SD.out (fun w' hw' => ?_) ?_; rotate_left; (· skip; go_simp; try with_reducible rfl); simp only [Act.put, List.setIfInBounds_toArray, List.set_cons_zero, List.set_cons_succ]
        refine plS_val (v := ?_) rfl rfl SD.out (fun w' hw' => ?_) ?_; rotate_left; (· skip; go_simp; try with_reducible rfl); simp only [Act.put, List.setIfInBounds_toArray, List.set_cons_zero, List.set_cons_succ]
        refine plS_val (v := ?_) rfl rfl SD.out (fun w' hw' => ?_) ?_; rotate_left; (· skip; go_simp; try with_reducible rfl); simp only [Act.put, List.setIfInBounds_toArray, List.set_cons_zero, List.set_cons_succ]
        refine plS_val (v := ?_) rfl rfl SD.out (fun w' hw' => ?_) ?_; rotate_left; (· skip; go_simp; try with_reducible rfl); simp only [Act.put, List.setIfInBounds_toArray, List.set_cons_zero, List.set_cons_succ]
        refine plS_val (v := ?_) rfl rfl SD.out (fun w' hw' => ?_) ?_; rotate_left; (· have ts := str_of (hw'.sees HSD.out HFAR.out); go_simp; try with_reducible rfl); simp only [Act.put, List.setIfInBounds_toArray, List.set_cons_zero, List.set_cons_succ]
        refine plS_val (v := ?_) rfl rfl SD.out (fun w' hw' => ?_) ?_; rotate_left; (· skip; go_simp; try with_reducible rfl); simp only [Act.put, List.setIfInBounds_toArray, List.set_cons_zero, List.set_cons_succ]
        refine plS_val (v := ?_) rfl rfl SD.out (fun w' hw' => ?_) ?_; rotate_left; (· skip; go_simp; try with_reducible rfl); simp only [Act.put, List.setIfInBounds_toArray, List.set_cons_zero, List.set_cons_succ]
        refine plS_void (w' := ((((((wd.setCell ⟨w.heap.size, 0, none⟩ (.bool true)).setCell ⟨w.heap.size, 1, none⟩ (.int .u32 (nn b 0))).setCell ⟨w.heap.size, 2, none⟩ (.int .u32 (nn b 3))).setCell ⟨w.heap.size, 3, none⟩ (.string ⟨(b.drop K).toArray⟩)).setCell ⟨w.heap.size, 4, none⟩ (.int .i64 0)).setCell ⟨w.heap.size, 5, none⟩ (.int .i64 (-1)))) rfl rfl (by go_simp) SEH.out ?_
        simp only [Act.put, List.setIfInBounds_toArray, List.set_cons_zero, List.set_cons_succ]
        refine plS_done ?_
        go_wp2_with fail
        refine bodyPost_ret (results_cell_row rfl _ _ w.heap.size _ _ (0, 0) _ rfl (set6 HRD.out _ _ _ _ _ _) Tryd.underlying39 rfl HZ.out) rfl ?_
        refine ⟨set6_ext EXD.out (Nat.le_refl _) _ _ _ _ _ _, ?_⟩
        rw [HFIN.out.1]
        simp only
        rw [HFIN.out.2.1, HFIN.out.2.2.1, HFIN.out.2.2.2.1, HFIN.out.2.2.2.2, ← HK0.out]
    · obtain rfl : iz = 2 := by omega
      obtain rfl : mz = 6 := by omega
      clear hiz hmz
      have hrow := HREL.out.2.2.2.1
      by_cases hl : 4 * 2 + 4 ≤ b.length
      · have HU := Lib.hid (ru32_row rb A n c (4 * 2) b wr hrow (HS.out.ext HREL.out.2.2.2.2.2.1) (by omega))
        rw [show num4 (b.drop (4 * 2)) = nn b 2 from rfl] at HU
        clear hrow
        go_wp2_with fail
        refine HU.out.mono ?_
        rintro e w4 ⟨rfl, hrow4, ho4⟩
        have c2 := cell_of_row w4 rb 2 _ _ _ hrow4
        simp at c2
        obtain ⟨A5, c5, w5, hrun5, hrel5, hr05⟩ := HREL.out.push hrbw (Nat.lt_succ_self _) hl (by omega) hrow4 ho4
        obtain ⟨x, hx⟩ : ∃ x, nn b 2 = x := ⟨_, rfl⟩
        have hx0 : 0 ≤ x := hx ▸ nn_pos b 2
        rw [hx] at hrun5
        have HREL5 := Lib.hid hrel5
        have HX := Lib.hid hx
        have EX := Lib.hid hr05.2
        have HR0 := Lib.hid (hr05.1)
        have z0 := cell_of_row _ w.heap.size 0 _ _ _ HR0.out
        have z1 := cell_of_row _ w.heap.size 1 _ _ _ HR0.out
        have z2 := cell_of_row _ w.heap.size 2 _ _ _ HR0.out
        have z3 := cell_of_row _ w.heap.size 3 _ _ _ HR0.out
        have z4 := cell_of_row _ w.heap.size 4 _ _ _ HR0.out
        have z5 := cell_of_row _ w.heap.size 5 _ _ _ HR0.out
        simp at z0 z1 z2 z3 z4 z5
        have p0 := Lib.frozen_of_heap HR0.out 0
        have p1 := Lib.frozen_of_heap HR0.out 1
        have p2 := Lib.frozen_of_heap HR0.out 2
        have p3 := Lib.frozen_of_heap HR0.out 3
        have p4 := Lib.frozen_of_heap HR0.out 4
        have p5 := Lib.frozen_of_heap HR0.out 5
        clear hrel5 hrow4 ho4 HU hr05 hx
        try rw [HX.out]
        by_cases h0 : x = 2
        · subst h0
          go_wp2_with (first | (at_builtin; refine wpList_append_run rfl (.tmp 27) (.tmp 29) _ rfl _ _ rfl rfl _ w5 hrun5 ?_) | fail)
          go_roundw
          case rel => exact ⟨3, 6, 3, 6, rfl, rfl, rfl, rfl, (RelX.alloc (HREL5.out 6 (c2_ok HREL.out.1 hl (by rw [HX.out]; simp))) _)⟩
          case measure => simp [intOf]
        · have hq : (x == 2) = false := by simpa using h0
          have HF := Lib.hid (c2_no HREL.out.1 hl (by rw [HX.out]; simp [h0]))
          obtain ⟨w6, hw6⟩ : ∃ w6, w5.alloc (.cells #[.int .u32 0, .int .u32 0, .int .u32 2, .int .u32 536870913, .int .u32 1] 23) = w6 := ⟨_, rfl⟩
          have e6 : Ext w5 w6 := by rw [← hw6]; exact (Ext.refl w5).alloc _
          have hl6 : w6.heap[w5.heap.size]? = some (.cells #[.int .u32 0, .int .u32 0, .int .u32 2, .int .u32 536870913, .int .u32 1] 23 (0, 0)) := by rw [← hw6]; exact heap_alloc_new w5 _
          have l6 := cell_of_row _ w5.heap.size 2 _ _ _ hl6
          simp at l6
          have HR6 := Lib.hid (e6.heap HR0.out)
          have EX6 := Lib.hid (EX.out.trans e6)
          clear z0 z1 z2 z3 z4 z5 p0 p1 p2 p3 p4 p5 e6 hl6
          clear HR0 EX
          have HR0 := Lib.hid (HR6.out)
          have z0 := cell_of_row _ w.heap.size 0 _ _ _ HR0.out
          have z1 := cell_of_row _ w.heap.size 1 _ _ _ HR0.out
          have z2 := cell_of_row _ w.heap.size 2 _ _ _ HR0.out
          have z3 := cell_of_row _ w.heap.size 3 _ _ _ HR0.out
          have z4 := cell_of_row _ w.heap.size 4 _ _ _ HR0.out
          have z5 := cell_of_row _ w.heap.size 5 _ _ _ HR0.out
          simp at z0 z1 z2 z3 z4 z5
          have p0 := Lib.frozen_of_heap HR0.out 0
          have p1 := Lib.frozen_of_heap HR0.out 1
          have p2 := Lib.frozen_of_heap HR0.out 2
          have p3 := Lib.frozen_of_heap HR0.out 3
          have p4 := Lib.frozen_of_heap HR0.out 4
          have p5 := Lib.frozen_of_heap HR0.out 5
          have EX := Lib.hid EX6.out
          go_wp2_with (first | (at_builtin; refine wpList_append_run rfl (.tmp 27) (.tmp 29) _ rfl _ _ rfl rfl _ w5 hrun5 ?_) | fail)
          refine bodyPost_ret (results_cell_row rfl _ _ w.heap.size _ _ (0, 0) _ rfl (set6 HR0.out _ _ _ _ _ _) Tryd.underlying39 rfl HZ.out) rfl ?_
          exact xres_bad HF.out (set6_ext EX.out (Nat.le_refl _) _ _ _ _ _ _)
      · have hrf : Rfr wr rb 0 (b.drop (4 * 2)) := ⟨A, n, c, b, 4 * 2, hrow, HS.out.ext HREL.out.2.2.2.2.2.1, by omega, fun _ => rfl, fun q => absurd rfl q⟩
        have HU := Lib.hid (ru32_few rb 0 _ wr hrf (dr_few hl))
        clear hrow hrf
        go_wp2_with fail
        refine HU.out.mono ?_
        rintro e w4 ⟨rfl, hr4, ho4⟩
        have c2 := hr4.err.1
        rw [show ferr 0 3 = 3 from rfl] at c2
        have EX := Lib.hid (HREL.out.2.2.2.2.2.1.onl ho4 (by omega))
        have HR0 := Lib.hid (ho4.heap HREL.out.2.2.2.2.1 (by omega))
        have z0 := cell_of_row _ w.heap.size 0 _ _ _ HR0.out
        have z1 := cell_of_row _ w.heap.size 1 _ _ _ HR0.out
        have z2 := cell_of_row _ w.heap.size 2 _ _ _ HR0.out
        have z3 := cell_of_row _ w.heap.size 3 _ _ _ HR0.out
        have z4 := cell_of_row _ w.heap.size 4 _ _ _ HR0.out
        have z5 := cell_of_row _ w.heap.size 5 _ _ _ HR0.out
        simp at z0 z1 z2 z3 z4 z5
        have p0 := Lib.frozen_of_heap HR0.out 0
        have p1 := Lib.frozen_of_heap HR0.out 1
        have p2 := Lib.frozen_of_heap HR0.out 2
        have p3 := Lib.frozen_of_heap HR0.out 3
        have p4 := Lib.frozen_of_heap HR0.out 4
        have p5 := Lib.frozen_of_heap HR0.out 5
        clear hr4 ho4 HU
        go_wp2_with fail
        refine bodyPost_ret (results_cell_row rfl _ _ w.heap.size _ _ (0, 0) _ rfl (set6 HR0.out _ _ _ _ _ _) Tryd.underlying39 rfl HZ.out) rfl ?_
        exact xres_bad (c2_few HREL.out.1 hl) (set6_ext EX.out (Nat.le_refl _) _ _ _ _ _ _)
    · obtain rfl : iz = 3 := by omega
      obtain rfl : mz = 6 := by omega
      clear hiz hmz
      have hrow := HREL.out.2.2.2.1
      by_cases hl : 4 * 3 + 4 ≤ b.length
      · have HU := Lib.hid (ru32_row rb A n c (4 * 3) b wr hrow (HS.out.ext HREL.out.2.2.2.2.2.1) (by omega))
        rw [show num4 (b.drop (4 * 3)) = nn b 3 from rfl] at HU
        clear hrow
        go_wp2_with fail
        refine HU.out.mono ?_
        rintro e w4 ⟨rfl, hrow4, ho4⟩
        have c2 := cell_of_row w4 rb 2 _ _ _ hrow4
        simp at c2
        obtain ⟨A5, c5, w5, hrun5, hrel5, hr05⟩ := HREL.out.push hrbw (Nat.lt_succ_self _) hl (by omega) hrow4 ho4
        obtain ⟨x, hx⟩ : ∃ x, nn b 3 = x := ⟨_, rfl⟩
        have hx0 : 0 ≤ x := hx ▸ nn_pos b 3
        rw [hx] at hrun5
        have HREL5 := Lib.hid hrel5
        have HX := Lib.hid hx
        have EX := Lib.hid hr05.2
        have HR0 := Lib.hid (hr05.1)
        have z0 := cell_of_row _ w.heap.size 0 _ _ _ HR0.out
        have z1 := cell_of_row _ w.heap.size 1 _ _ _ HR0.out
        have z2 := cell_of_row _ w.heap.size 2 _ _ _ HR0.out
        have z3 := cell_of_row _ w.heap.size 3 _ _ _ HR0.out
        have z4 := cell_of_row _ w.heap.size 4 _ _ _ HR0.out
        have z5 := cell_of_row _ w.heap.size 5 _ _ _ HR0.out
        simp at z0 z1 z2 z3 z4 z5
        have p0 := Lib.frozen_of_heap HR0.out 0
        have p1 := Lib.frozen_of_heap HR0.out 1
        have p2 := Lib.frozen_of_heap HR0.out 2
        have p3 := Lib.frozen_of_heap HR0.out 3
        have p4 := Lib.frozen_of_heap HR0.out 4
        have p5 := Lib.frozen_of_heap HR0.out 5
        clear hrel5 hrow4 ho4 HU hr05 hx
        try rw [HX.out]
        by_cases h0 : x = 536870913
        · subst h0
          go_wp2_with (first | (at_builtin; refine wpList_append_run rfl (.tmp 27) (.tmp 29) _ rfl _ _ rfl rfl _ w5 hrun5 ?_) | fail)
          go_roundw
          case rel => exact ⟨4, 6, 4, 6, rfl, rfl, rfl, rfl, (RelX.alloc (HREL5.out 6 (c3_ok HREL.out.1 hl (by rw [HX.out]; simp))) _)⟩
          case measure => simp [intOf]
        · have hq : (x == 536870913) = false := by simpa using h0
          have HF := Lib.hid (c3_no HREL.out.1 hl (by rw [HX.out]; simp [h0]))
          obtain ⟨w6, hw6⟩ : ∃ w6, w5.alloc (.cells #[.int .u32 0, .int .u32 0, .int .u32 2, .int .u32 536870913, .int .u32 1] 23) = w6 := ⟨_, rfl⟩
          have e6 : Ext w5 w6 := by rw [← hw6]; exact (Ext.refl w5).alloc _
          have hl6 : w6.heap[w5.heap.size]? = some (.cells #[.int .u32 0, .int .u32 0, .int .u32 2, .int .u32 536870913, .int .u32 1] 23 (0, 0)) := by rw [← hw6]; exact heap_alloc_new w5 _
          have l6 := cell_of_row _ w5.heap.size 3 _ _ _ hl6
          simp at l6
          have HR6 := Lib.hid (e6.heap HR0.out)
          have EX6 := Lib.hid (EX.out.trans e6)
          clear z0 z1 z2 z3 z4 z5 p0 p1 p2 p3 p4 p5 e6 hl6
          clear HR0 EX
          have HR0 := Lib.hid (HR6.out)
          have z0 := cell_of_row _ w.heap.size 0 _ _ _ HR0.out
          have z1 := cell_of_row _ w.heap.size 1 _ _ _ HR0.out
          have z2 := cell_of_row _ w.heap.size 2 _ _ _ HR0.out
          have z3 := cell_of_row _ w.heap.size 3 _ _ _ HR0.out
          have z4 := cell_of_row _ w.heap.size 4 _ _ _ HR0.out
          have z5 := cell_of_row _ w.heap.size 5 _ _ _ HR0.out
          simp at z0 z1 z2 z3 z4 z5
          have p0 := Lib.frozen_of_heap HR0.out 0
          have p1 := Lib.frozen_of_heap HR0.out 1
          have p2 := Lib.frozen_of_heap HR0.out 2
          have p3 := Lib.frozen_of_heap HR0.out 3
          have p4 := Lib.frozen_of_heap HR0.out 4
          have p5 := Lib.frozen_of_heap HR0.out 5
          have EX := Lib.hid EX6.out
          go_wp2_with (first | (at_builtin; refine wpList_append_run rfl (.tmp 27) (.tmp 29) _ rfl _ _ rfl rfl _ w5 hrun5 ?_) | fail)
          refine bodyPost_ret (results_cell_row rfl _ _ w.heap.size _ _ (0, 0) _ rfl (set6 HR0.out _ _ _ _ _ _) Tryd.underlying39 rfl HZ.out) rfl ?_
          exact xres_bad HF.out (set6_ext EX.out (Nat.le_refl _) _ _ _ _ _ _)
      · have hrf : Rfr wr rb 0 (b.drop (4 * 3)) := ⟨A, n, c, b, 4 * 3, hrow, HS.out.ext HREL.out.2.2.2.2.2.1, by omega, fun _ => rfl, fun q => absurd rfl q⟩
        have HU := Lib.hid (ru32_few rb 0 _ wr hrf (dr_few hl))
        clear hrow hrf
        go_wp2_with fail
        refine HU.out.mono ?_
        rintro e w4 ⟨rfl, hr4, ho4⟩
        have c2 := hr4.err.1
        rw [show ferr 0 3 = 3 from rfl] at c2
        have EX := Lib.hid (HREL.out.2.2.2.2.2.1.onl ho4 (by omega))
        have HR0 := Lib.hid (ho4.heap HREL.out.2.2.2.2.1 (by omega))
        have z0 := cell_of_row _ w.heap.size 0 _ _ _ HR0.out
        have z1 := cell_of_row _ w.heap.size 1 _ _ _ HR0.out
        have z2 := cell_of_row _ w.heap.size 2 _ _ _ HR0.out
        have z3 := cell_of_row _ w.heap.size 3 _ _ _ HR0.out
        have z4 := cell_of_row _ w.heap.size 4 _ _ _ HR0.out
        have z5 := cell_of_row _ w.heap.size 5 _ _ _ HR0.out
        simp at z0 z1 z2 z3 z4 z5
        have p0 := Lib.frozen_of_heap HR0.out 0
        have p1 := Lib.frozen_of_heap HR0.out 1
        have p2 := Lib.frozen_of_heap HR0.out 2
        have p3 := Lib.frozen_of_heap HR0.out 3
        have p4 := Lib.frozen_of_heap HR0.out 4
        have p5 := Lib.frozen_of_heap HR0.out 5
        clear hr4 ho4 HU
        go_wp2_with fail
        refine bodyPost_ret (results_cell_row rfl _ _ w.heap.size _ _ (0, 0) _ rfl (set6 HR0.out _ _ _ _ _ _) Tryd.underlying39 rfl HZ.out) rfl ?_
        exact xres_bad (c3_few HREL.out.1 hl) (set6_ext EX.out (Nat.le_refl _) _ _ _ _ _ _)
    · obtain rfl : iz = 4 := by omega
      obtain rfl : mz = 6 := by omega
      clear hiz hmz
      have hrow := HREL.out.2.2.2.1
      by_cases hl : 4 * 4 + 4 ≤ b.length
      · have HU := Lib.hid (ru32_row rb A n c (4 * 4) b wr hrow (HS.out.ext HREL.out.2.2.2.2.2.1) (by omega))
        rw [show num4 (b.drop (4 * 4)) = nn b 4 from rfl] at HU
        clear hrow
        go_wp2_with fail
        refine HU.out.mono ?_
        rintro e w4 ⟨rfl, hrow4, ho4⟩
        have c2 := cell_of_row w4 rb 2 _ _ _ hrow4
        simp at c2
        obtain ⟨A5, c5, w5, hrun5, hrel5, hr05⟩ := HREL.out.push hrbw (Nat.lt_succ_self _) hl (by omega) hrow4 ho4
        obtain ⟨x, hx⟩ : ∃ x, nn b 4 = x := ⟨_, rfl⟩
        have hx0 : 0 ≤ x := hx ▸ nn_pos b 4
        rw [hx] at hrun5
        have HREL5 := Lib.hid hrel5
        have HX := Lib.hid hx
        have EX := Lib.hid hr05.2
        have HR0 := Lib.hid (hr05.1)
        have z0 := cell_of_row _ w.heap.size 0 _ _ _ HR0.out
        have z1 := cell_of_row _ w.heap.size 1 _ _ _ HR0.out
        have z2 := cell_of_row _ w.heap.size 2 _ _ _ HR0.out
        have z3 := cell_of_row _ w.heap.size 3 _ _ _ HR0.out
        have z4 := cell_of_row _ w.heap.size 4 _ _ _ HR0.out
        have z5 := cell_of_row _ w.heap.size 5 _ _ _ HR0.out
        simp at z0 z1 z2 z3 z4 z5
        have p0 := Lib.frozen_of_heap HR0.out 0
        have p1 := Lib.frozen_of_heap HR0.out 1
        have p2 := Lib.frozen_of_heap HR0.out 2
        have p3 := Lib.frozen_of_heap HR0.out 3
        have p4 := Lib.frozen_of_heap HR0.out 4
        have p5 := Lib.frozen_of_heap HR0.out 5
        clear hrel5 hrow4 ho4 HU hr05 hx
        try rw [HX.out]
        by_cases h0 : x = 1
        · subst h0
          go_wp2_with (first | (at_builtin; refine wpList_append_run rfl (.tmp 27) (.tmp 29) _ rfl _ _ rfl rfl _ w5 hrun5 ?_) | fail)
          go_roundw
          case rel => exact ⟨5, 6, 5, 6, rfl, rfl, rfl, rfl, (RelX.alloc (HREL5.out 6 (c4_ok HREL.out.1 hl (by rw [HX.out]; simp))) _)⟩
          case measure => simp [intOf]
        · have hq : (x == 1) = false := by simpa using h0
          have HF := Lib.hid (c4_no HREL.out.1 hl (by rw [HX.out]; simp [h0]))
          obtain ⟨w6, hw6⟩ : ∃ w6, w5.alloc (.cells #[.int .u32 0, .int .u32 0, .int .u32 2, .int .u32 536870913, .int .u32 1] 23) = w6 := ⟨_, rfl⟩
          have e6 : Ext w5 w6 := by rw [← hw6]; exact (Ext.refl w5).alloc _
          have hl6 : w6.heap[w5.heap.size]? = some (.cells #[.int .u32 0, .int .u32 0, .int .u32 2, .int .u32 536870913, .int .u32 1] 23 (0, 0)) := by rw [← hw6]; exact heap_alloc_new w5 _
          have l6 := cell_of_row _ w5.heap.size 4 _ _ _ hl6
          simp at l6
          have HR6 := Lib.hid (e6.heap HR0.out)
          have EX6 := Lib.hid (EX.out.trans e6)
          clear z0 z1 z2 z3 z4 z5 p0 p1 p2 p3 p4 p5 e6 hl6
          clear HR0 EX
          have HR0 := Lib.hid (HR6.out)
          have z0 := cell_of_row _ w.heap.size 0 _ _ _ HR0.out
          have z1 := cell_of_row _ w.heap.size 1 _ _ _ HR0.out
          have z2 := cell_of_row _ w.heap.size 2 _ _ _ HR0.out
          have z3 := cell_of_row _ w.heap.size 3 _ _ _ HR0.out
          have z4 := cell_of_row _ w.heap.size 4 _ _ _ HR0.out
          have z5 := cell_of_row _ w.heap.size 5 _ _ _ HR0.out
          simp at z0 z1 z2 z3 z4 z5
          have p0 := Lib.frozen_of_heap HR0.out 0
          have p1 := Lib.frozen_of_heap HR0.out 1
          have p2 := Lib.frozen_of_heap HR0.out 2
          have p3 := Lib.frozen_of_heap HR0.out 3
          have p4 := Lib.frozen_of_heap HR0.out 4
          have p5 := Lib.frozen_of_heap HR0.out 5
          have EX := Lib.hid EX6.out
          go_wp2_with (first | (at_builtin; refine wpList_append_run rfl (.tmp 27) (.tmp 29) _ rfl _ _ rfl rfl _ w5 hrun5 ?_) | fail)
          refine bodyPost_ret (results_cell_row rfl _ _ w.heap.size _ _ (0, 0) _ rfl (set6 HR0.out _ _ _ _ _ _) Tryd.underlying39 rfl HZ.out) rfl ?_
          exact xres_bad HF.out (set6_ext EX.out (Nat.le_refl _) _ _ _ _ _ _)
      · have hrf : Rfr wr rb 0 (b.drop (4 * 4)) := ⟨A, n, c, b, 4 * 4, hrow, HS.out.ext HREL.out.2.2.2.2.2.1, by omega, fun _ => rfl, fun q => absurd rfl q⟩
        have HU := Lib.hid (ru32_few rb 0 _ wr hrf (dr_few hl))
        clear hrow hrf
        go_wp2_with fail
        refine HU.out.mono ?_
        rintro e w4 ⟨rfl, hr4, ho4⟩
        have c2 := hr4.err.1
        rw [show ferr 0 3 = 3 from rfl] at c2
        have EX := Lib.hid (HREL.out.2.2.2.2.2.1.onl ho4 (by omega))
        have HR0 := Lib.hid (ho4.heap HREL.out.2.2.2.2.1 (by omega))
        have z0 := cell_of_row _ w.heap.size 0 _ _ _ HR0.out
        have z1 := cell_of_row _ w.heap.size 1 _ _ _ HR0.out
        have z2 := cell_of_row _ w.heap.size 2 _ _ _ HR0.out
        have z3 := cell_of_row _ w.heap.size 3 _ _ _ HR0.out
        have z4 := cell_of_row _ w.heap.size 4 _ _ _ HR0.out
        have z5 := cell_of_row _ w.heap.size 5 _ _ _ HR0.out
        simp at z0 z1 z2 z3 z4 z5
        have p0 := Lib.frozen_of_heap HR0.out 0
        have p1 := Lib.frozen_of_heap HR0.out 1
        have p2 := Lib.frozen_of_heap HR0.out 2
        have p3 := Lib.frozen_of_heap HR0.out 3
        have p4 := Lib.frozen_of_heap HR0.out 4
        have p5 := Lib.frozen_of_heap HR0.out 5
        clear hr4 ho4 HU
        go_wp2_with fail
        refine bodyPost_ret (results_cell_row rfl _ _ w.heap.size _ _ (0, 0) _ rfl (set6 HR0.out _ _ _ _ _ _) Tryd.underlying39 rfl HZ.out) rfl ?_
        exact xres_bad (c4_few HREL.out.1 hl) (set6_ext EX.out (Nat.le_refl _) _ _ _ _ _ _)
    · obtain rfl : iz = 5 := by omega
      obtain rfl : mz = 6 := by omega
      clear hiz hmz
      have hrow := HREL.out.2.2.2.1
      by_cases hl : 4 * 5 + 4 ≤ b.length
      · have HU := Lib.hid (ru32_row rb A n c (4 * 5) b wr hrow (HS.out.ext HREL.out.2.2.2.2.2.1) (by omega))
        rw [show num4 (b.drop (4 * 5)) = nn b 5 from rfl] at HU
        clear hrow
        go_wp2_with fail
        refine HU.out.mono ?_
        rintro e w4 ⟨rfl, hrow4, ho4⟩
        have c2 := cell_of_row w4 rb 2 _ _ _ hrow4
        simp at c2
        obtain ⟨A5, c5, w5, hrun5, hrel5, hr05⟩ := HREL.out.push hrbw (Nat.lt_succ_self _) hl (by omega) hrow4 ho4
        obtain ⟨x, hx⟩ : ∃ x, nn b 5 = x := ⟨_, rfl⟩
        have hx0 : 0 ≤ x := hx ▸ nn_pos b 5
        rw [hx] at hrun5
        have HREL5 := Lib.hid hrel5
        have HX := Lib.hid hx
        have EX := Lib.hid hr05.2
        have HR0 := Lib.hid (hr05.1)
        have z0 := cell_of_row _ w.heap.size 0 _ _ _ HR0.out
        have z1 := cell_of_row _ w.heap.size 1 _ _ _ HR0.out
        have z2 := cell_of_row _ w.heap.size 2 _ _ _ HR0.out
        have z3 := cell_of_row _ w.heap.size 3 _ _ _ HR0.out
        have z4 := cell_of_row _ w.heap.size 4 _ _ _ HR0.out
        have z5 := cell_of_row _ w.heap.size 5 _ _ _ HR0.out
        simp at z0 z1 z2 z3 z4 z5
        have p0 := Lib.frozen_of_heap HR0.out 0
        have p1 := Lib.frozen_of_heap HR0.out 1
        have p2 := Lib.frozen_of_heap HR0.out 2
        have p3 := Lib.frozen_of_heap HR0.out 3
        have p4 := Lib.frozen_of_heap HR0.out 4
        have p5 := Lib.frozen_of_heap HR0.out 5
        clear hrel5 hrow4 ho4 HU hr05 hx
        try rw [HX.out]
        go_wp2_with (first | (at_builtin; refine wpList_append_run rfl (.tmp 27) (.tmp 29) _ rfl _ _ rfl rfl _ w5 hrun5 ?_) | fail)
        go_roundw
        case rel => exact ⟨6, 6, 6, 6, rfl, rfl, rfl, rfl, (HREL5.out 6 (c5_ok HREL.out.1 hl))⟩
        case measure => simp [intOf]
      · have hrf : Rfr wr rb 0 (b.drop (4 * 5)) := ⟨A, n, c, b, 4 * 5, hrow, HS.out.ext HREL.out.2.2.2.2.2.1, by omega, fun _ => rfl, fun q => absurd rfl q⟩
        have HU := Lib.hid (ru32_few rb 0 _ wr hrf (dr_few hl))
        clear hrow hrf
        go_wp2_with fail
        refine HU.out.mono ?_
        rintro e w4 ⟨rfl, hr4, ho4⟩
        have c2 := hr4.err.1
        rw [show ferr 0 3 = 3 from rfl] at c2
        have EX := Lib.hid (HREL.out.2.2.2.2.2.1.onl ho4 (by omega))
        have HR0 := Lib.hid (ho4.heap HREL.out.2.2.2.2.1 (by omega))
        have z0 := cell_of_row _ w.heap.size 0 _ _ _ HR0.out
        have z1 := cell_of_row _ w.heap.size 1 _ _ _ HR0.out
        have z2 := cell_of_row _ w.heap.size 2 _ _ _ HR0.out
        have z3 := cell_of_row _ w.heap.size 3 _ _ _ HR0.out
        have z4 := cell_of_row _ w.heap.size 4 _ _ _ HR0.out
        have z5 := cell_of_row _ w.heap.size 5 _ _ _ HR0.out
        simp at z0 z1 z2 z3 z4 z5
        have p0 := Lib.frozen_of_heap HR0.out 0
        have p1 := Lib.frozen_of_heap HR0.out 1
        have p2 := Lib.frozen_of_heap HR0.out 2
        have p3 := Lib.frozen_of_heap HR0.out 3
        have p4 := Lib.frozen_of_heap HR0.out 4
        have p5 := Lib.frozen_of_heap HR0.out 5
        clear hr4 ho4 HU
        go_wp2_with fail
        refine bodyPost_ret (results_cell_row rfl _ _ w.heap.size _ _ (0, 0) _ rfl (set6 HR0.out _ _ _ _ _ _) Tryd.underlying39 rfl HZ.out) rfl ?_
        exact xres_bad (c5_few HREL.out.1 hl) (set6_ext EX.out (Nat.le_refl _) _ _ _ _ _ _)
    · obtain ⟨i1, i2, i3⟩ := (show rdR b = false ∧ rd3 b = (0, b.drop (4 * 5), none) ∧ rd4 b = (0, b.drop (4 * 6), none) from HREL.out.1)
      have HFIN : Hid ((rd4 b).2.2 = none ∧ rdR b = false ∧ numN b = nn b 0 ∧ numN (rd3 b).2.1 = nn b 5 ∧ rdA b = 24) := Lib.hid ⟨by rw [i3], i1, (dr_nums (i := 0) (b := b) (by omega)).2.2, by rw [i2]; exact (dr_nums (by omega)).2.2, by rw [rdA, i1]; rfl⟩
      clear i1 i2 i3
      obtain rfl : iz = mz := by omega
      have hq4 : (iz == 4) = false := by rw [hmz]; rfl
      obtain ⟨K, hK0⟩ : ∃ K : Nat, K = 24 := ⟨_, rfl⟩
      have hm4 : 4 * iz = (K : Int) := by omega
      have hsub : iz - 1 = 5 := by omega
      have hm0 : 0 ≤ iz := by omega
      have hm6 : iz ≤ 6 := by omega
      have hKn : K ≤ n := by omega
      have hwJ : IntKind.i64.wrap 5 = 5 := by decide
      have hwK : IntKind.i64.wrap (K : Int) = (K : Int) := by rw [hK0]; decide
      have HK0 := Lib.hid hK0
      obtain ⟨g, cap, hv, hbg, hc0⟩ := HREL.out.2.2.1.at_ 0 (by omega)
      obtain ⟨g', cap', hv', _, hcJ⟩ := HREL.out.2.2.1.at_ 5 (by omega)
      injection hv with q1 q2 q3
      subst q1 q3
      injection hv' with q1 q2 q3
      injection q1 with q1
      injection q1 with q1
      subst q1
      have hgr : ¬ g = w.heap.size := by omega
      have HC0 := Lib.hid hc0
      have HCJ := Lib.hid hcJ
      obtain ⟨A', hsd, hA'⟩ := bdropR HS.out K hKn
      obtain ⟨N, hN⟩ : ∃ N, N = n - K := ⟨_, rfl⟩
      rw [← hN] at hsd
      have HFAR : Hid (∀ a, A' = some a → 0 < N → ¬ a.block = w.heap.size) := Lib.hid fun a ha hN0 => by
        obtain ⟨bb, off, u, hA, _, _, hlt⟩ := hsd.at_ hN0
        rw [hA] at ha
        injection ha with ha
        subst ha
        simp only
        omega
      obtain ⟨wd, hwd⟩ : ∃ wd, wr.drew = wd := ⟨_, rfl⟩
      have SD : Hid (Kp (fun k => ¬ k = w.heap.size) wr wd) := Lib.hid (by rw [← hwd]; exact (Kp.refl _ wr).drew)
      have EX := Lib.hid HREL.out.2.2.2.2.2.1
      have HSD := Lib.hid (hsd.ext EX.out)
      have HRD : Hid (wd.heap[w.heap.size]? = some (.cells #[.bool false, .int .u32 0, .int .u32 0, .string ⟨#[]⟩, .int .i64 0, .int .i64 0] 39 (0, 0))) := Lib.hid (by rw [← hwd]; exact (Ext.refl wr).drew.heap HREL.out.2.2.2.2.1)
      have EXD : Hid (Ext w wd) := Lib.hid (by rw [← hwd]; exact EX.out.drew)
      have HR0 := Lib.hid (HRD.out)
      have z0 := cell_of_row _ w.heap.size 0 _ _ _ HR0.out
      have z1 := cell_of_row _ w.heap.size 1 _ _ _ HR0.out
      have z2 := cell_of_row _ w.heap.size 2 _ _ _ HR0.out
      have z3 := cell_of_row _ w.heap.size 3 _ _ _ HR0.out
      have z4 := cell_of_row _ w.heap.size 4 _ _ _ HR0.out
      have z5 := cell_of_row _ w.heap.size 5 _ _ _ HR0.out
      simp at z0 z1 z2 z3 z4 z5
      have p0 := Lib.frozen_of_heap HR0.out 0
      have p1 := Lib.frozen_of_heap HR0.out 1
      have p2 := Lib.frozen_of_heap HR0.out 2
      have p3 := Lib.frozen_of_heap HR0.out 3
      have p4 := Lib.frozen_of_heap HR0.out 4
      have p5 := Lib.frozen_of_heap HR0.out 5
      have SE : Kp (fun k => ¬ k = w.heap.size) wr ((((((wd.setCell ⟨w.heap.size, 0, none⟩ (.bool false)).setCell ⟨w.heap.size, 1, none⟩ (.int .u32 (nn b 0))).setCell ⟨w.heap.size, 2, none⟩ (.int .u32 (nn b 5))).setCell ⟨w.heap.size, 3, none⟩ (.string ⟨(b.drop K).toArray⟩)).setCell ⟨w.heap.size, 4, none⟩ (.int .i64 0)).setCell ⟨w.heap.size, 5, none⟩ (.int .i64 (-1))) := ((((((SD.out.set w.heap.size 0 _ (by simp)).set w.heap.size 1 _ (by simp)).set w.heap.size 2 _ (by simp)).set w.heap.size 3 _ (by simp)).set w.heap.size 4 _ (by simp)).set w.heap.size 5 _ (by simp))
      have SEH := Lib.hid SE
      clear SE hsd hcJ hc0 hK0 hmz hiz hbg HREL
      by_cases hck : c = K
      · rw [if_pos hck] at hA'
        have hck0 : c - K = 0 := by omega
        rw [hck0] at HSD
        clear hck0
        subst hN hA'
        go_wp2_with fail
        refine wp_region_plS (Kp (fun k => ¬ k = w.heap.size) wr) (.free 0 (.free 1 (.free 2 (.free 3 (.free 4 (.free 5 (.free 6 (.free 7 (.free 8 (.free 9 (.free 10 (.free 11 (.free 12 (.free 13 (.free 14 (.free 15 (.free 16 (.one 17 .nil)))))))))))))))))) (by kernel_rfl) (by kernel_rfl) (by kernel_rfl) (by kernel_rfl) ?_
        rw [hwd]
        refine plS_val (v := ?_) rfl rfl SD.out (fun w' hw' => ?_) ?_; rotate_left; (· skip; go_simp; try with_reducible rfl); simp only [Act.put, List.setIfInBounds_toArray, List.set_cons_zero, List.set_cons_succ]
        refine plS_val (v := ?_) rfl rfl SD.out (fun w' hw' => ?_) ?_; rotate_left; (· skip; go_simp; try with_reducible rfl); simp only [Act.put, List.setIfInBounds_toArray, List.set_cons_zero, List.set_cons_succ]
        refine plS_val (v := ?_) rfl rfl SD.out (fun w' hw' => ?_) ?_; rotate_left; (· skip; go_simp; try with_reducible rfl); simp only [Act.put, List.setIfInBounds_toArray, List.set_cons_zero, List.set_cons_succ]
        refine plS_val (v := ?_) rfl rfl SD.out (fun w' hw' => ?_) ?_; rotate_left; (· skip; go_simp; try with_reducible rfl); simp only [Act.put, List.setIfInBounds_toArray, List.set_cons_zero, List.set_cons_succ]
        refine plS_val (v := ?_) rfl rfl SD.out (fun w' hw' => ?_) ?_; rotate_left; (· have v0 := hw'.cell HC0.out hgr; go_simp; try with_reducible rfl); simp only [Act.put, List.setIfInBounds_toArray, List.set_cons_zero, List.set_cons_succ]
        refine plS_val (v := ?_) rfl rfl SD.out (fun w' hw' => ?_) ?_; rotate_left; (· skip; go_simp; try with_reducible rfl); simp only [Act.put, List.setIfInBounds_toArray, List.set_cons_zero, List.set_cons_succ]
        refine plS_val (v := ?_) rfl rfl SD.out (fun w' hw' => ?_) ?_; rotate_left; (· skip; go_simp; try with_reducible rfl); simp only [Act.put, List.setIfInBounds_toArray, List.set_cons_zero, List.set_cons_succ]
        refine plS_val (v := ?_) rfl rfl SD.out (fun w' hw' => ?_) ?_; rotate_left; (· skip; go_simp; try with_reducible rfl); simp only [Act.put, List.setIfInBounds_toArray, List.set_cons_zero, List.set_cons_succ]
        refine plS_val (v := ?_) rfl rfl SD.out (fun w' hw' => ?_) ?_; rotate_left; (· skip; go_simp; try with_reducible rfl); simp only [Act.put, List.setIfInBounds_toArray, List.set_cons_zero, List.set_cons_succ]
        refine plS_val (v := ?_) rfl rfl SD.out (fun w' hw' => ?_) ?_; rotate_left; (· have v0 := hw'.cell HCJ.out hgr; go_simp; try with_reducible rfl); simp only [Act.put, List.setIfInBounds_toArray, List.set_cons_zero, List.set_cons_succ]
        refine plS_val (v := ?_) rfl rfl SD.out (fun w' hw' => ?_) ?_; rotate_left; (· skip; go_simp; try with_reducible rfl); simp only [Act.put, List.setIfInBounds_toArray, List.set_cons_zero, List.set_cons_succ]
        refine plS_val (v := ?_) rfl rfl SD.out (fun w' hw' => ?_) ?_; rotate_left; (· skip; go_simp; try with_reducible rfl); simp only [Act.put, List.setIfInBounds_toArray, List.set_cons_zero, List.set_cons_succ]
        refine plS_val (v := ?_) rfl rfl SD.out (fun w' hw' => ?_) ?_; rotate_left; (· skip; go_simp; try with_reducible rfl); simp only [Act.put, List.setIfInBounds_toArray, List.set_cons_zero, List.set_cons_succ]
        refine plS_val (v := ?_) rfl rfl SD.out (fun w' hw' => ?_) ?_; rotate_left; (· skip; go_simp; try with_reducible rfl); simp only [Act.put, List.setIfInBounds_toArray, List.set_cons_zero, List.set_cons_succ]
        refine plS_val (v := ?_) rfl rfl SD.out (fun w' hw' => ?_) ?_; rotate_left; (· have ts := str_of (hw'.sees HSD.out HFAR.out); go_simp; try with_reducible rfl); simp only [Act.put, List.setIfInBounds_toArray, List.set_cons_zero, List.set_cons_succ]
        refine plS_val (v := ?_) rfl rfl SD.out (fun w' hw' => ?_) ?_; rotate_left; (· skip; go_simp; try with_reducible rfl); simp only [Act.put, List.setIfInBounds_toArray, List.set_cons_zero, List.set_cons_succ]
        refine plS_val (v := ?_) rfl rfl SD.out (fun w' hw' => ?_) ?_; rotate_left; (· skip; go_simp; try with_reducible rfl); simp only [Act.put, List.setIfInBounds_toArray, List.set_cons_zero, List.set_cons_succ]
        refine plS_void (w' := ((((((wd.setCell ⟨w.heap.size, 0, none⟩ (.bool false)).setCell ⟨w.heap.size, 1, none⟩ (.int .u32 (nn b 0))).setCell ⟨w.heap.size, 2, none⟩ (.int .u32 (nn b 5))).setCell ⟨w.heap.size, 3, none⟩ (.string ⟨(b.drop K).toArray⟩)).setCell ⟨w.heap.size, 4, none⟩ (.int .i64 0)).setCell ⟨w.heap.size, 5, none⟩ (.int .i64 (-1)))) rfl rfl (by go_simp) SEH.out ?_
        simp only [Act.put, List.setIfInBounds_toArray, List.set_cons_zero, List.set_cons_succ]
        refine plS_done ?_
        go_wp2_with fail
        refine bodyPost_ret (results_cell_row rfl _ _ w.heap.size _ _ (0, 0) _ rfl (set6 HRD.out _ _ _ _ _ _) Tryd.underlying39 rfl HZ.out) rfl ?_
        refine ⟨set6_ext EXD.out (Nat.le_refl _) _ _ _ _ _ _, ?_⟩
        rw [HFIN.out.1]
        simp only
        rw [HFIN.out.2.1, HFIN.out.2.2.1, HFIN.out.2.2.2.1, HFIN.out.2.2.2.2, ← HK0.out]
      · rw [if_neg hck] at hA'
        subst hN hA'
        go_wp2_with fail
        refine wp_region_plS (Kp (fun k => ¬ k = w.heap.size) wr) (.free 0 (.free 1 (.free 2 (.free 3 (.free 4 (.free 5 (.free 6 (.free 7 (.free 8 (.free 9 (.free 10 (.free 11 (.free 12 (.free 13 (.free 14 (.free 15 (.free 16 (.one 17 .nil)))))))))))))))))) (by kernel_rfl) (by kernel_rfl) (by kernel_rfl) (by kernel_rfl) ?_
        rw [hwd]
        refine plS_val (v := ?_) rfl rfl SD.out (fun w' hw' => ?_) ?_; rotate_left; (· skip; go_simp; try with_reducible rfl); simp only [Act.put, List.setIfInBounds_toArray, List.set_cons_zero, List.set_cons_succ]
        refine plS_val (v := ?_) rfl rfl SD.out (fun w' hw' => ?_) ?_; rotate_left; (· skip; go_simp; try with_reducible rfl); simp only [Act.put, List.setIfInBounds_toArray, List.set_cons_zero, List.set_cons_succ]
        refine plS_val (v := ?_) rfl rfl SD.out (fun w' hw' => ?_) ?_; rotate_left; (· skip; go_simp; try with_reducible rfl); simp only [Act.put, List.setIfInBounds_toArray, List.set_cons_zero, List.set_cons_succ]
        refine plS_val (v := ?_) rfl rfl SD.out (fun w' hw' => ?_) ?_; rotate_left; (· skip; go_simp; try with_reducible rfl); simp only [Act.put, List.setIfInBounds_toArray, List.set_cons_zero, List.set_cons_succ]
        refine plS_val (v := ?_) rfl rfl SD.out (fun w' hw' => ?_) ?_; rotate_left; (· have v0 := hw'.cell HC0.out hgr; go_simp; try with_reducible rfl); simp only [Act.put, List.setIfInBounds_toArray, List.set_cons_zero, List.set_cons_succ]
        refine plS_val (v := ?_) rfl rfl SD.out (fun w' hw' => ?_) ?_; rotate_left; (· skip; go_simp; try with_reducible rfl); simp only [Act.put, List.setIfInBounds_toArray, List.set_cons_zero, List.set_cons_succ]
        refine plS_val (v := ?_) rfl rfl SD.out (fun w' hw' => ?_) ?_; rotate_left; (· skip; go_simp; try with_reducible rfl); simp only [Act.put, List.setIfInBounds_toArray, List.set_cons_zero, List.set_cons_succ]
        refine plS_val (v := ?_) rfl rfl SD.out (fun w' hw' => ?_) ?_; rotate_left; (· skip; go_simp; try with_reducible rfl); simp only [Act.put, List.setIfInBounds_toArray, List.set_cons_zero, List.set_cons_succ]
        refine plS_val (v := ?_) rfl rfl SD.out (fun w' hw' => ?_) ?_; rotate_left; (· skip; go_simp; try with_reducible rfl); simp only [Act.put, List.setIfInBounds_toArray, List.set_cons_zero, List.set_cons_succ]
        refine plS_val (v := ?_) rfl rfl SD.out (fun w' hw' => ?_) ?_; rotate_left; (· have v0 := hw'.cell HCJ.out hgr; go_simp; try with_reducible rfl); simp only [Act.put, List.setIfInBounds_toArray, List.set_cons_zero, List.set_cons_succ]
        refine plS_val (v := ?_) rfl rfl SD.out (fun w' hw' => ?_) ?_; rotate_left; (· skip; go_simp; try with_reducible rfl); simp only [Act.put, List.setIfInBounds_toArray, List.set_cons_zero, List.set_cons_succ]
        refine plS_val (v := ?_) rfl rfl SD.out (fun w' hw' => ?_) ?_; rotate_left; (· skip; go_simp; try with_reducible rfl); simp only [Act.put, List.setIfInBounds_toArray, List.set_cons_zero, List.set_cons_succ]
        refine plS_val (v := ?_) rfl rfl SD.out (fun w' hw' => ?_) ?_; rotate_left; (· skip; go_simp; try with_reducible rfl); simp only [Act.put, List.setIfInBounds_toArray, List.set_cons_zero, List.set_cons_succ]
        refine plS_val (v := ?_) rfl rfl SD.out (fun w' hw' => ?_) ?_; rotate_left; (· skip; go_simp; try with_reducible rfl); simp only [Act.put, List.setIfInBounds_toArray, List.set_cons_zero, List.set_cons_succ]
        refine plS_val (v := ?_) rfl rfl SD.out (fun w' hw' => ?_) ?_; rotate_left; (· have ts := str_of (hw'.sees HSD.out HFAR.out); go_simp; try with_reducible rfl); simp only [Act.put, List.setIfInBounds_toArray, List.set_cons_zero, List.set_cons_succ]
        refine plS_val (v := ?_) rfl rfl SD.out (fun w' hw' => ?_) ?_; rotate_left; (· skip; go_simp; try with_reducible rfl); simp only [Act.put, List.setIfInBounds_toArray, List.set_cons_zero, List.set_cons_succ]
        refine plS_val (v := ?_) rfl rfl SD.out (fun w' hw' => ?_) ?_; rotate_left; (· skip; go_simp; try with_reducible rfl); simp only [Act.put, List.setIfInBounds_toArray, List.set_cons_zero, List.set_cons_succ]
        refine plS_void (w' := ((((((wd.setCell ⟨w.heap.size, 0, none⟩ (.bool false)).setCell ⟨w.heap.size, 1, none⟩ (.int .u32 (nn b 0))).setCell ⟨w.heap.size, 2, none⟩ (.int .u32 (nn b 5))).setCell ⟨w.heap.size, 3, none⟩ (.string ⟨(b.drop K).toArray⟩)).setCell ⟨w.heap.size, 4, none⟩ (.int .i64 0)).setCell ⟨w.heap.size, 5, none⟩ (.int .i64 (-1)))) rfl rfl (by go_simp) SEH.out ?_
        simp only [Act.put, List.setIfInBounds_toArray, List.set_cons_zero, List.set_cons_succ]
        refine plS_done ?_
        go_wp2_with fail
        refine bodyPost_ret (results_cell_row rfl _ _ w.heap.size _ _ (0, 0) _ rfl (set6 HRD.out _ _ _ _ _ _) Tryd.underlying39 rfl HZ.out) rfl ?_
        refine ⟨set6_ext EXD.out (Nat.le_refl _) _ _ _ _ _ _, ?_⟩
        rw [HFIN.out.1]
        simp only
        rw [HFIN.out.2.1, HFIN.out.2.2.1, HFIN.out.2.2.2.1, HFIN.out.2.2.2.2, ← HK0.out]
end Go.Proofs.YtdoijbjmhnncdaaDoor
