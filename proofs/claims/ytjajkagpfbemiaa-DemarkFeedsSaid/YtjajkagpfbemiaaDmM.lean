/-
  Layer 4: the document's own deframer of all bytes at once.
-/
import Derived.Test.YtjajkagpfbemiaaDmL
import Derived.Test.YtjajkagpfbemiaaDmK
namespace Go.Proofs.Ytjajkagpfbemiaa
open Go Go.RowKit
set_option linter.unusedVariables false
set_option linter.unusedSimpArgs false
theorem infoD : (Try.prog.info? 38).map (·.size) = some 4 := by kernel_rfl
/-- What all bytes are, told. -/
def AllP (m f : Nat) (l : List UInt8) (w : World) (e : Ending) (w' : World) : Prop :=
  ∃ Av nv cv, e = .returned (.agg #[.slice Av nv cv, .int .i64 (drun m f d0 l).E, .int .i64 (((drun m f d0 l).R.length + (drun m f d0 l).H.length : Nat) : Int), .bool (clB (drun m f d0 l))]) ∧ nv = (drun m f d0 l).T.length ∧ SeesB w' Av nv cv (drun m f d0 l).T ∧ Ext w w'
/-- What the loop keeps. -/
def AllR (w : World) (m f : Nat) (l : List UInt8) (A' : Option Addr) (n' c' nn : Nat) (Ar : Option Addr) (nr cr : Nat) (At : Option Addr) (nt ct : Nat) (l' R : List UInt8) (T : List (List UInt8)) (wr : World) : Prop :=
  ∃ en, drun m f d0 l = drun m f (btw nn en R T) l' ∧ nr = R.length ∧ nt = T.length ∧
    DOwn wr (fun k => k < w.heap.size + 1) (w.heap.size + 1) (.slice none 0 0) (.slice Ar nr cr) (.slice At nt ct) [] R T ∧ Ext w wr ∧
    wr.heap[w.heap.size]? = some (.cells #[.slice none 0 0, .int .i64 0, .int .i64 0, .bool false] 38 (0, 0)) ∧ wr.heap[w.heap.size + 1]? = some (.cells #[.slice At nt ct, .int .i64 0, .int .i64 0, .bool false] 38 (0, 0)) ∧ R.length ≤ m ∧ nn ≤ f ∧ T.length + l'.length ≤ l.length
theorem DOwn.seesB {w : World} {X : Nat → Prop} {tb : Nat} {hv rv : Value} {A : Option Addr} {n c : Nat} {H R : List UInt8} {T : List (List UInt8)} (h : DOwn w X tb hv rv (.slice A n c) H R T) (hn : n = T.length) : SeesB w A n c T := by
  obtain ⟨A', c', e, hs⟩ := h.2.2.2.2.2.toB.sees
  injection e with q1 q2 q3
  subst q1 q3 hn
  exact hs
theorem ext_lt {w wr w' : World} (he : Ext w wr) (hk : Kp (fun k => k < w.heap.size + 1) wr w') : Ext w w' := Ext.kp he hk fun k h => by omega
/-- A struct set, cell by cell. -/
theorem set4 {w : World} {g : Nat} {x y z u a b c d : Value} {t : TypeId} (h : w.heap[g]? = some (.cells #[x, y, z, u] t (0, 0))) :
    ((((w.setCell ⟨g, 0, none⟩ a).setCell ⟨g, 1, none⟩ b).setCell ⟨g, 2, none⟩ c).setCell ⟨g, 3, none⟩ d).heap[g]? = some (.cells #[a, b, c, d] t (0, 0)) := by
  have := set_blk (set_blk (set_blk (set_blk h 0 a) 1 b) 2 c) 3 d
  simpa using this
/-- The end of the loop: what is stored, and told. -/
theorem all_fin {w wr : World} {m f : Nat} {l : List UInt8} {hd : Int} {cl : Bool} {Ar : Option Addr} {nr cr : Nat} {At : Option Addr} {nt ct : Nat} {R : List UInt8} {T : List (List UInt8)}
    (own : DOwn wr (fun k => k < w.heap.size + 1) (w.heap.size + 1) (.slice none 0 0) (.slice Ar nr cr) (.slice At nt ct) [] R T) (ext : Ext w wr)
    (h4 : wr.heap[w.heap.size]? = some (.cells #[.slice none 0 0, .int .i64 0, .int .i64 0, .bool false] 38 (0, 0))) (h5 : wr.heap[w.heap.size + 1]? = some (.cells #[.slice At nt ct, .int .i64 0, .int .i64 0, .bool false] 38 (0, 0))) (hnt : nt = T.length)
    (hE : (drun m f d0 l).E = 0) (hT : (drun m f d0 l).T = T) (hH : (((drun m f d0 l).R.length + (drun m f d0 l).H.length : Nat) : Int) = hd) (hC : clB (drun m f d0 l) = cl) :
    ((((((wr.setCell ⟨w.heap.size + 1, 2, none⟩ (.int .i64 hd)).setCell ⟨w.heap.size + 1, 3, none⟩ (.bool cl)).setCell ⟨w.heap.size, 0, none⟩ (.slice At nt ct)).setCell ⟨w.heap.size, 1, none⟩ (.int .i64 0)).setCell ⟨w.heap.size, 2, none⟩ (.int .i64 hd)).setCell ⟨w.heap.size, 3, none⟩ (.bool cl)).heap[w.heap.size]? = some (.cells #[.slice At nt ct, .int .i64 0, .int .i64 hd, .bool cl] 38 (0, 0)) ∧
    AllP m f l w (.returned (.agg #[.slice At nt ct, .int .i64 0, .int .i64 hd, .bool cl])) ((((((wr.setCell ⟨w.heap.size + 1, 2, none⟩ (.int .i64 hd)).setCell ⟨w.heap.size + 1, 3, none⟩ (.bool cl)).setCell ⟨w.heap.size, 0, none⟩ (.slice At nt ct)).setCell ⟨w.heap.size, 1, none⟩ (.int .i64 0)).setCell ⟨w.heap.size, 2, none⟩ (.int .i64 hd)).setCell ⟨w.heap.size, 3, none⟩ (.bool cl)) := by
  have a1 : ((wr.setCell ⟨w.heap.size + 1, 2, none⟩ (.int .i64 hd)).setCell ⟨w.heap.size + 1, 3, none⟩ (.bool cl)).heap[w.heap.size]? = some (.cells #[.slice none 0 0, .int .i64 0, .int .i64 0, .bool false] 38 (0, 0)) := by
    rw [heap_setCell_other _ _ _ _ (by simp), heap_setCell_other _ _ _ _ (by simp)]
    exact h4
  have k0 : Kp (fun k => ¬ (k < w.heap.size + 1 ∨ k = w.heap.size + 1)) wr ((((((wr.setCell ⟨w.heap.size + 1, 2, none⟩ (.int .i64 hd)).setCell ⟨w.heap.size + 1, 3, none⟩ (.bool cl)).setCell ⟨w.heap.size, 0, none⟩ (.slice At nt ct)).setCell ⟨w.heap.size, 1, none⟩ (.int .i64 0)).setCell ⟨w.heap.size, 2, none⟩ (.int .i64 hd)).setCell ⟨w.heap.size, 3, none⟩ (.bool cl)) :=
    ((((((Kp.refl _ wr).set _ 2 _ (by simp)).set _ 3 _ (by simp)).set _ 0 _ (by simp)).set _ 1 _ (by simp)).set _ 2 _ (by simp)).set _ 3 _ (by simp)
  have k1 : Kp (fun k => k < w.heap.size) wr ((((((wr.setCell ⟨w.heap.size + 1, 2, none⟩ (.int .i64 hd)).setCell ⟨w.heap.size + 1, 3, none⟩ (.bool cl)).setCell ⟨w.heap.size, 0, none⟩ (.slice At nt ct)).setCell ⟨w.heap.size, 1, none⟩ (.int .i64 0)).setCell ⟨w.heap.size, 2, none⟩ (.int .i64 hd)).setCell ⟨w.heap.size, 3, none⟩ (.bool cl)) :=
    ((((((Kp.refl _ wr).set _ 2 _ (by simp)).set _ 3 _ (by simp)).set _ 0 _ (by simp)).set _ 1 _ (by simp)).set _ 2 _ (by simp)).set _ 3 _ (by simp)
  refine ⟨set4 a1, At, nt, ct, ?_, by rw [hT]; exact hnt, by rw [hT]; exact (own.keep k0).seesB hnt, Ext.kp ext k1 fun k h => h⟩
  rw [hE, hH, hC]
theorem all_bad {w wr : World} {m f : Nat} {l : List UInt8} {e : Int} {rv : Value} {At : Option Addr} {nt ct : Nat} {R : List UInt8} {T : List (List UInt8)}
    (own : DOwn wr (fun k => k < w.heap.size + 1) (w.heap.size + 1) (.slice none 0 0) rv (.slice At nt ct) [] R T) (ext : Ext w wr)
    (h4 : wr.heap[w.heap.size]? = some (.cells #[.slice none 0 0, .int .i64 0, .int .i64 0, .bool false] 38 (0, 0))) (hnt : nt = T.length)
    (hE : (drun m f d0 l).E = e) (hT : (drun m f d0 l).T = T) (hH : (drun m f d0 l).R.length + (drun m f d0 l).H.length = 0) (hC : clB (drun m f d0 l) = false) :
    ((((wr.setCell ⟨w.heap.size, 0, none⟩ (.slice At nt ct)).setCell ⟨w.heap.size, 1, none⟩ (.int .i64 e)).setCell ⟨w.heap.size, 2, none⟩ (.int .i64 0)).setCell ⟨w.heap.size, 3, none⟩ (.bool false)).heap[w.heap.size]? = some (.cells #[.slice At nt ct, .int .i64 e, .int .i64 0, .bool false] 38 (0, 0)) ∧
    AllP m f l w (.returned (.agg #[.slice At nt ct, .int .i64 e, .int .i64 0, .bool false])) ((((wr.setCell ⟨w.heap.size, 0, none⟩ (.slice At nt ct)).setCell ⟨w.heap.size, 1, none⟩ (.int .i64 e)).setCell ⟨w.heap.size, 2, none⟩ (.int .i64 0)).setCell ⟨w.heap.size, 3, none⟩ (.bool false)) := by
  have k0 : Kp (fun k => ¬ (k < w.heap.size + 1 ∨ k = w.heap.size + 1)) wr ((((wr.setCell ⟨w.heap.size, 0, none⟩ (.slice At nt ct)).setCell ⟨w.heap.size, 1, none⟩ (.int .i64 e)).setCell ⟨w.heap.size, 2, none⟩ (.int .i64 0)).setCell ⟨w.heap.size, 3, none⟩ (.bool false)) :=
    ((((Kp.refl _ wr).set _ 0 _ (by simp)).set _ 1 _ (by simp)).set _ 2 _ (by simp)).set _ 3 _ (by simp)
  have k1 : Kp (fun k => k < w.heap.size) wr ((((wr.setCell ⟨w.heap.size, 0, none⟩ (.slice At nt ct)).setCell ⟨w.heap.size, 1, none⟩ (.int .i64 e)).setCell ⟨w.heap.size, 2, none⟩ (.int .i64 0)).setCell ⟨w.heap.size, 3, none⟩ (.bool false)) :=
    ((((Kp.refl _ wr).set _ 0 _ (by simp)).set _ 1 _ (by simp)).set _ 2 _ (by simp)).set _ 3 _ (by simp)
  refine ⟨set4 h4, At, nt, ct, ?_, by rw [hT]; exact hnt, by rw [hT]; exact (own.keep k0).seesB hnt, Ext.kp ext k1 fun k h => h⟩
  rw [hE, hH, hC]
  rfl
theorem all_part {w wr : World} {m f : Nat} {l : List UInt8} {hd : Int} {Ar : Option Addr} {nr cr : Nat} {At : Option Addr} {nt ct : Nat} {R : List UInt8} {T : List (List UInt8)}
    (own : DOwn wr (fun k => k < w.heap.size + 1) (w.heap.size + 1) (.slice none 0 0) (.slice Ar nr cr) (.slice At nt ct) [] R T) (ext : Ext w wr)
    (h4 : wr.heap[w.heap.size]? = some (.cells #[.slice none 0 0, .int .i64 0, .int .i64 0, .bool false] 38 (0, 0))) (h5 : wr.heap[w.heap.size + 1]? = some (.cells #[.slice At nt ct, .int .i64 0, .int .i64 0, .bool false] 38 (0, 0))) (hnt : nt = T.length)
    (hE : (drun m f d0 l).E = 0) (hT : (drun m f d0 l).T = T) (hH : (((drun m f d0 l).R.length + (drun m f d0 l).H.length : Nat) : Int) = hd) (hC : clB (drun m f d0 l) = false) :
    (((((wr.setCell ⟨w.heap.size + 1, 2, none⟩ (.int .i64 hd)).setCell ⟨w.heap.size, 0, none⟩ (.slice At nt ct)).setCell ⟨w.heap.size, 1, none⟩ (.int .i64 0)).setCell ⟨w.heap.size, 2, none⟩ (.int .i64 hd)).setCell ⟨w.heap.size, 3, none⟩ (.bool false)).heap[w.heap.size]? = some (.cells #[.slice At nt ct, .int .i64 0, .int .i64 hd, .bool false] 38 (0, 0)) ∧
    AllP m f l w (.returned (.agg #[.slice At nt ct, .int .i64 0, .int .i64 hd, .bool false])) (((((wr.setCell ⟨w.heap.size + 1, 2, none⟩ (.int .i64 hd)).setCell ⟨w.heap.size, 0, none⟩ (.slice At nt ct)).setCell ⟨w.heap.size, 1, none⟩ (.int .i64 0)).setCell ⟨w.heap.size, 2, none⟩ (.int .i64 hd)).setCell ⟨w.heap.size, 3, none⟩ (.bool false)) := by
  have a1 : (wr.setCell ⟨w.heap.size + 1, 2, none⟩ (.int .i64 hd)).heap[w.heap.size]? = some (.cells #[.slice none 0 0, .int .i64 0, .int .i64 0, .bool false] 38 (0, 0)) := by
    rw [heap_setCell_other _ _ _ _ (by simp)]
    exact h4
  have k0 : Kp (fun k => ¬ (k < w.heap.size + 1 ∨ k = w.heap.size + 1)) wr (((((wr.setCell ⟨w.heap.size + 1, 2, none⟩ (.int .i64 hd)).setCell ⟨w.heap.size, 0, none⟩ (.slice At nt ct)).setCell ⟨w.heap.size, 1, none⟩ (.int .i64 0)).setCell ⟨w.heap.size, 2, none⟩ (.int .i64 hd)).setCell ⟨w.heap.size, 3, none⟩ (.bool false)) :=
    (((((Kp.refl _ wr).set _ 2 _ (by simp)).set _ 0 _ (by simp)).set _ 1 _ (by simp)).set _ 2 _ (by simp)).set _ 3 _ (by simp)
  have k1 : Kp (fun k => k < w.heap.size) wr (((((wr.setCell ⟨w.heap.size + 1, 2, none⟩ (.int .i64 hd)).setCell ⟨w.heap.size, 0, none⟩ (.slice At nt ct)).setCell ⟨w.heap.size, 1, none⟩ (.int .i64 0)).setCell ⟨w.heap.size, 2, none⟩ (.int .i64 hd)).setCell ⟨w.heap.size, 3, none⟩ (.bool false)) :=
    (((((Kp.refl _ wr).set _ 2 _ (by simp)).set _ 0 _ (by simp)).set _ 1 _ (by simp)).set _ 2 _ (by simp)).set _ 3 _ (by simp)
  refine ⟨set4 a1, At, nt, ct, ?_, by rw [hT]; exact hnt, by rw [hT]; exact (own.keep k0).seesB hnt, Ext.kp ext k1 fun k h => h⟩
  rw [hE, hH, hC]
theorem bdropD {w : World} {A : Option Addr} {n c : Nat} {l : List UInt8} (h : Sees w A n c (bs l)) (k : Nat) (hk : k ≤ n) : ∃ A' , Sees w A' (n - k) (c - k) (bs (l.drop k)) ∧ A' = (if c = k then A else Option.map (fun x => x.add k) A) := by
  by_cases hc : c = k
  · have := h.drop_all k hk hc
    rw [bs_drop] at this
    exact ⟨A, by rw [show c - k = 0 from by omega]; exact this, by rw [if_pos hc]⟩
  · have := h.drop k hk hc
    rw [bs_drop] at this
    exact ⟨_, this, by rw [if_neg hc]⟩
theorem spiece {w : World} {A : Option Addr} {n c : Nat} {l : List UInt8} (h : Sees w A n c (bs l)) (j : Nat) (h4 : 4 ≤ j) (hj : j ≤ n) : ∃ A', Sees w A' (j - 4) (c - 4) (bs ((l.drop 4).take (j - 4))) ∧ A' = (if c = 4 then A else Option.map (fun x => x.add 4) A) := by
  have h1 := h.take j hj
  rw [bs_take] at h1
  obtain ⟨A', h2, h3⟩ := bdropD h1 4 h4
  rw [List.drop_take] at h2
  exact ⟨A', h2, h3⟩
set_option maxRecDepth 20000 in
set_option maxHeartbeats 8000000 in
theorem rdall_any (A : Option Addr) (n c : Nat) (l : List UInt8) (m f : Nat) (w : World) (hs : Sees w A n c (bs l)) (hn : n ≤ 5000) (hm : m ≤ 10000) (hf : f ≤ 1000) :
    Calls Try.prog 15 #[.slice A n c, .int .i64 (m : Int), .int .i64 (f : Int)] w (AllP m f l w) := by
  have hln := hs.len
  rw [bs_length] at hln
  have HS := Lib.hid hs
  have HL := Lib.hid hln
  have HZ := Lib.hid (infoD)
  clear hs hln
  go_enter Try.func15, Try.ntmps15
  go_wp2_with fail
  go_loopw [0, 8, 9] (fun b rv nv wr => ∃ (A' : Option Addr) (n' c' nn : Nat) (Ar : Option Addr) (nr cr : Nat) (At : Option Addr) (nt ct : Nat) (l' R : List UInt8) (T : List (List UInt8)), b = .slice A' n' c' ∧ rv = .slice Ar nr cr ∧ nv = .int .i64 (nn : Int) ∧ Sees w A' n' c' (bs l') ∧
    AllR w m f l A' n' c' nn Ar nr cr At nt ct l' R T wr) (fun b _ _ _ => lenV b)
  case atStart =>
    have hb := heap_alloc2_new w (.cells #[.slice none 0 0, .int .i64 0, .int .i64 0, .bool false] 38) (.cells #[.slice none 0 0, .int .i64 0, .int .i64 0, .bool false] 38)
    have e0 : Ext w ((w.alloc (.cells #[.slice none 0 0, .int .i64 0, .int .i64 0, .bool false] 38)).alloc (.cells #[.slice none 0 0, .int .i64 0, .int .i64 0, .bool false] 38)) := ((Ext.refl _).alloc _).alloc _
    refine ⟨A, n, c, 0, none, 0, 0, none, 0, 0, l, [], [], rfl, rfl, rfl, HS.out, false, rfl, rfl, rfl, ⟨by simp, World.ownsRow_nil _ _ _ _, Off.nil _, World.ownsRow_nil _ _ _ _, Off.nil _, OwnX.nil _ _⟩, e0, ((Ext.refl _).alloc _).heap (heap_alloc_new w _), hb, by simp, by omega, by simp⟩
  case round =>
    obtain ⟨A', n', c', nn, Ar, nr, cr, At, nt, ct, l', R, T, rfl, rfl, rfl, hs', en, hrun, hnr, hnt, own, ext, h4, h5, hRm, hnf, hTl⟩ := hrel
    have hc := hs'.le
    have hmx := hs'.max
    unfold maxLen at hmx
    have hl' := hs'.len
    rw [bs_length] at hl'
    have hnr5 : nr ≤ m := by omega
    have hl5 : n' ≤ 5000 ∧ nt ≤ 5000 := by have := HL.out; omega
    obtain ⟨hn5, ht5⟩ := hl5
    have Own := Lib.hid own
    have EX := Lib.hid ext
    have HS' := Lib.hid hs'
    have HL' := Lib.hid hl'
    have HRUN := Lib.hid hrun
    have HNR := Lib.hid hnr
    have HNT := Lib.hid hnt
    have H4x := Lib.hid h4
    have H5x := Lib.hid h5
    have HTL := Lib.hid hTl
    have HRM := Lib.hid hRm
    have hzz : w.heap.size + 2 ≤ wr.heap.size := by
      have := (Array.getElem?_eq_some_iff.1 h5).1
      omega
    clear own ext hrun hnr hnt h4 h5 hTl hRm hl'
    by_cases hn4 : n' < 4
    · have HST := Lib.hid (drun_rest (m := m) (f := f) (n := nn) (en := en) (R := R) (T := T) l' (by have := HL'.out; omega))
      rw [← HRUN.out] at HST
      have c0 := cell_of_row wr (w.heap.size + 1) 0 _ _ _ H5x.out
      have c1 := cell_of_row wr (w.heap.size + 1) 1 _ _ _ H5x.out
      have c2 := cell_of_row wr (w.heap.size + 1) 2 _ _ _ H5x.out
      have c3 := cell_of_row wr (w.heap.size + 1) 3 _ _ _ H5x.out
      have z0 := cell_of_row wr w.heap.size 0 _ _ _ H4x.out
      have z1 := cell_of_row wr w.heap.size 1 _ _ _ H4x.out
      have z2 := cell_of_row wr w.heap.size 2 _ _ _ H4x.out
      have z3 := cell_of_row wr w.heap.size 3 _ _ _ H4x.out
      simp at c0 c1 c2 c3 z0 z1 z2 z3
      have f0 := blk_free H4x.out 0
      have f1 := blk_free H4x.out 1
      have f2 := blk_free H4x.out 2
      have f3 := blk_free H4x.out 3
      have g2 := blk_free H5x.out 2
      have g3 := blk_free H5x.out 3
      have hn3 : ¬ (3 : Int) < (n' : Int) := by omega
      have HFIN := Lib.hid (fun (cl : Bool) (q : cl = (decide (nn = 0) && decide (n' = 0))) => all_fin (w := w) (wr := wr) (m := m) (f := f) (l := l) (hd := (nr : Int) + (n' : Int)) (cl := cl) Own.out EX.out H4x.out H5x.out HNT.out HST.out.1 HST.out.2.1 (by rw [HST.out.2.2.1]; have := HNR.out; have := HL'.out; omega) (by rw [HST.out.2.2.2, HL'.out]; exact q.symm))
      by_cases k1 : nn = 0
      · by_cases k2 : n' = 0
        · have HF := Lib.hid (HFIN.out true (by simp [k1, k2]))
          subst k1 k2
          clear HFIN
          go_wp2
          refine bodyPost_ret (results_cell_row rfl _ _ w.heap.size _ _ (0, 0) _ rfl (HF.out.1) Try.underlying38 rfl HZ.out) rfl ?_
          exact HF.out.2
        · have HF := Lib.hid (HFIN.out false (by simp [k2]))
          have t1 : ((n' : Int) == 0) = false := by simpa using k2
          subst k1
          clear HFIN
          go_wp2
          refine bodyPost_ret (results_cell_row rfl _ _ w.heap.size _ _ (0, 0) _ rfl (HF.out.1) Try.underlying38 rfl HZ.out) rfl ?_
          exact HF.out.2
      · have HF := Lib.hid (HFIN.out false (by simp [k1]))
        have t1 : ((nn : Int) == 0) = false := by simpa using k1
        clear HFIN
        go_wp2
        refine bodyPost_ret (results_cell_row rfl _ _ w.heap.size _ _ (0, 0) _ rfl (HF.out.1) Try.underlying38 rfl HZ.out) rfl ?_
        exact HF.out.2
    · have h4 : 4 ≤ n' := by omega
      obtain ⟨b, off, hA, hcl⟩ := hs'.2.2.2.2 (by omega)
      subst hA
      have hbw : b < w.heap.size := by
        obtain ⟨b', o', u', hb', _, _, hlt'⟩ := HS'.out.at_ (show 0 < n' by omega)
        injection hb' with hb'
        injection hb' with hb' _ _
        omega
      obtain ⟨b0, b1, b2, b3, l4, hl4⟩ : ∃ b0 b1 b2 b3 l4, l' = b0 :: b1 :: b2 :: b3 :: l4 := by
        match l', HL'.out with
        | b0 :: b1 :: b2 :: b3 :: l4, _ => exact ⟨b0, b1, b2, b3, l4, rfl⟩
        | [], h => simp at h; omega
        | [_], h => simp at h; omega
        | [_, _], h => simp at h; omega
        | [_, _, _], h => simp at h; omega
      have g0 := EX.out.cell (hcl 0 (.int .u8 (b0.toNat : Int)) (by rw [hl4]; rfl))
      have g1 := EX.out.cell (hcl 1 (.int .u8 (b1.toNat : Int)) (by rw [hl4]; rfl))
      have g2 := EX.out.cell (hcl 2 (.int .u8 (b2.toNat : Int)) (by rw [hl4]; rfl))
      have g3 := EX.out.cell (hcl 3 (.int .u8 (b3.toNat : Int)) (by rw [hl4]; rfl))
      rw [Nat.add_zero] at g0
      have hnb : nb l' = b0.toNat * 16777216 + b1.toNat * 65536 + b2.toNat * 256 + b3.toNat := by rw [hl4]; rfl
      have u0 := b0.toNat_lt
      have u1 := b1.toNat_lt
      have u2 := b2.toNat_lt
      have u3 := b3.toNat_lt
      obtain ⟨x0, hx0⟩ : ∃ x, b0.toNat = x := ⟨_, rfl⟩
      obtain ⟨x1, hx1⟩ : ∃ x, b1.toNat = x := ⟨_, rfl⟩
      obtain ⟨x2, hx2⟩ : ∃ x, b2.toNat = x := ⟨_, rfl⟩
      obtain ⟨x3, hx3⟩ : ∃ x, b3.toNat = x := ⟨_, rfl⟩
      rw [hx0] at hnb u0 g0
      rw [hx1] at hnb u1 g1
      rw [hx2] at hnb u2 g2
      rw [hx3] at hnb u3 g3
      obtain ⟨z, hz⟩ : ∃ z, nb l' % 2147483648 = z := ⟨_, rfl⟩
      have HT : Hid (((x0 : Int) % 128 * 16777216 + (x1 : Int) * 65536 + (x2 : Int) * 256 + (x3 : Int)) = (z : Int)) := Lib.hid (by omega)
      have hz1 : z < 2147483648 := by omega
      have HZL := Lib.hid hz
      have HBF := Lib.hid (show decide (2147483648 ≤ nb l') = decide (127 < x0) by rw [decide_eq_decide]; omega)
      have G0 := Lib.hid g0
      clear hx0 hx1 hx2 hx3 hnb hz hs' hcl hl4
      go_wp2
      go_quiet (fail)
      rw [HT.out]
      obtain ⟨wq, hq⟩ : ∃ wq, World.drewN wr nq = wq := ⟨_, rfl⟩
      rw [hq]
      have EQ := Lib.hid (show Ext wr wq by rw [← hq]; exact (Ext.refl wr).drewN _)
      clear hq g0 g1 g2 g3 u1 u2 u3
      have H4q := Lib.hid (EQ.out.heap H4x.out)
      have H5q := Lib.hid (EQ.out.heap H5x.out)
      have OwnQ := Lib.hid (Own.out.keep (Kp.of_ext EQ.out))
      have EXQ := Lib.hid (EX.out.trans EQ.out)
      have hzq : w.heap.size + 2 ≤ wq.heap.size := by have := EQ.out.size; omega
      have e0 := EQ.out.cell G0.out
      clear HT hzz
      have c0 := cell_of_row wq (w.heap.size + 1) 0 _ _ _ H5q.out
      have c1 := cell_of_row wq (w.heap.size + 1) 1 _ _ _ H5q.out
      have c2 := cell_of_row wq (w.heap.size + 1) 2 _ _ _ H5q.out
      have c3 := cell_of_row wq (w.heap.size + 1) 3 _ _ _ H5q.out
      have z0 := cell_of_row wq w.heap.size 0 _ _ _ H4q.out
      have z1 := cell_of_row wq w.heap.size 1 _ _ _ H4q.out
      have z2 := cell_of_row wq w.heap.size 2 _ _ _ H4q.out
      have z3 := cell_of_row wq w.heap.size 3 _ _ _ H4q.out
      simp at c0 c1 c2 c3 z0 z1 z2 z3
      have f0 := blk_free H4q.out 0
      have f1 := blk_free H4q.out 1
      have f2 := blk_free H4q.out 2
      have f3 := blk_free H4q.out 3
      have gg2 := blk_free H5q.out 2
      by_cases kf : f < nn + 1
      · have HST := Lib.hid (drun_full (m := m) (f := f) (n := nn) (en := en) (R := R) (T := T) l' (by have := HL'.out; omega) kf)
        rw [← HRUN.out] at HST
        have HF := Lib.hid (all_bad (w := w) (wr := wq) (m := m) (f := f) (l := l) (e := 5) OwnQ.out EXQ.out H4q.out HNT.out HST.out.1 HST.out.2.1 HST.out.2.2.1 HST.out.2.2.2)
        go_wp2
        refine bodyPost_ret (results_cell_row rfl _ _ w.heap.size _ _ (0, 0) _ rfl (HF.out.1) Try.underlying38 rfl HZ.out) rfl ?_
        exact HF.out.2
      · by_cases km : m < nr + z
        · have HST := Lib.hid (drun_range (m := m) (f := f) (n := nn) (en := en) (R := R) (T := T) l' z HZL.out (by have := HL'.out; omega) (by omega) (by have := HNR.out; omega))
          rw [← HRUN.out] at HST
          have HF := Lib.hid (all_bad (w := w) (wr := wq) (m := m) (f := f) (l := l) (e := 4) OwnQ.out EXQ.out H4q.out HNT.out HST.out.1 HST.out.2.1 HST.out.2.2.1 HST.out.2.2.2)
          have km' : (m : Int) < (nr : Int) + (z : Int) := by omega
          go_wp2
          refine bodyPost_ret (results_cell_row rfl _ _ w.heap.size _ _ (0, 0) _ rfl (HF.out.1) Try.underlying38 rfl HZ.out) rfl ?_
          exact HF.out.2
        · have km' : ¬ (m : Int) < (nr : Int) + (z : Int) := by omega
          by_cases kl : n' < 4 + z
          · have HST := Lib.hid (drun_part (m := m) (f := f) (n := nn) (en := en) (R := R) (T := T) l' z HZL.out (by have := HL'.out; omega) (by omega) (by have := HNR.out; omega) (by have := HL'.out; omega))
            rw [← HRUN.out] at HST
            have HF := Lib.hid (all_part (w := w) (wr := wq) (m := m) (f := f) (l := l) (hd := (nr : Int) + (n' : Int) - 4) OwnQ.out EXQ.out H4q.out H5q.out HNT.out HST.out.1 HST.out.2.1 (by rw [HST.out.2.2.1]; have := HNR.out; have := HL'.out; omega) HST.out.2.2.2)
            have kl' : (n' : Int) < 4 + (z : Int) := by omega
            go_wp2
            refine bodyPost_ret (results_cell_row rfl _ _ w.heap.size _ _ (0, 0) _ rfl (HF.out.1) Try.underlying38 rfl HZ.out) rfl ?_
            exact HF.out.2
          · have kl' : ¬ (n' : Int) < 4 + (z : Int) := by omega
            obtain ⟨A2, hs2, hA2⟩ := spiece HS'.out (4 + z) (by omega) (by omega)
            obtain ⟨A3, hs3, hA3⟩ := bdropD HS'.out (4 + z) (by omega)
            rw [Nat.add_sub_cancel_left] at hs2
            obtain ⟨A7, n7, c7, w7, hrun7, hn7, o7, k7⟩ := OwnQ.out.appR (fun k hk => by omega) (by omega) (hs2.ext EXQ.out) (by have := HNR.out; omega) (by omega)
            have HS3 := Lib.hid hs3
            have hw7 := k7.size
            have E7 := Lib.hid (Ext.kp EXQ.out k7 fun k h => .inl (by omega))
            have H47 := Lib.hid (k7.heap H4q.out (.inl (by omega)))
            have H57 := Lib.hid (k7.heap H5q.out (.inr rfl))
            have O7 := Lib.hid o7
            have e7 : w7.cell? ⟨b, off, none⟩ = some (.int .u8 (x0 : Int)) := k7.cell (p := ⟨b, off, none⟩) e0 (.inl (by show b < w.heap.size + 1; omega))
            have HN7 := Lib.hid hn7
            have HRUN2 := Lib.hid (HRUN.out.trans (drun_whole (m := m) (f := f) (n := nn) (en := en) (R := R) (T := T) l' z HZL.out HBF.out (by have := HL'.out; omega) (by omega) (by have := HNR.out; omega) (by have := HL'.out; omega)))
            have ht1 : ((4 : Int) + (z : Int)).toNat = 4 + z := by omega
            have d0' := cell_of_row w7 (w.heap.size + 1) 0 _ _ _ H57.out
            simp at d0'
            have fd0 := blk_free H57.out 0
            clear hs2 hs3 hn7 o7 k7
            by_cases hfl : 127 < x0
            · have hfi : (127 : Int) < (x0 : Int) := by omega
              obtain ⟨A8, n8, c8, w8, hrun8, o8, k8⟩ := O7.out.pushT (fun k hk => by omega) (by omega) (by have := HNT.out; have := HTL.out; have := HL.out; omega)
              have hn8 : n8 = (T ++ [R ++ (l'.drop 4).take z]).length := by
                obtain ⟨Aq, cq, vs, e, _⟩ := o8.2.2.2.2.2.elem
                injection e
              have H48 := k8.heap H47.out (.inl (by omega))
              have H58 := k8.heap H57.out (.inr rfl)
              have d8 := cell_of_row w8 (w.heap.size + 1) 0 _ _ _ H58
              simp at d8
              have fd8 := blk_free H58 0
              have E8 := Ext.kp E7.out k8 fun k h => .inl (by omega)
              have hall := Lib.hid (show AllR w m f l (some ⟨b, off, none⟩) n' c' 0 none 0 0 A8 n8 c8 (l'.drop (4 + z)) [] (T ++ [R ++ (l'.drop 4).take z]) (w8.setCell ⟨w.heap.size + 1, 0, none⟩ (.slice A8 n8 c8)) from
                ⟨true, by
                  have h := HRUN2.out
                  rw [decide_eq_true hfl] at h
                  exact h, rfl, hn8, o8.keep ((Kp.refl _ w8).set _ 0 _ (by simp [Y1])), Ext.kp E8 ((Kp.refl (fun k => k < w.heap.size) w8).set (w.heap.size + 1) 0 (.slice A8 n8 c8) (by simp)) (fun k h => h),
                  by rw [heap_setCell_other _ _ _ _ (by simp)]; exact H48, by simpa using set_blk H58 0 (.slice A8 n8 c8), by simp, by omega, by
                  have h1 := HTL.out
                  have h2 := HL'.out
                  rw [List.length_append, List.length_drop]
                  simp
                  omega⟩)
              clear hn8 H48 H58 E8 o8 k8
              by_cases hc4 : c' = 4
              · obtain rfl : z = 0 := by omega
                subst hc4
                rw [if_pos rfl] at hA2
                rw [if_pos (by omega)] at hA3
                subst hA2 hA3
                go_wp2_with (first | (at_builtin; refine wpList_append_run rfl (.tmp 67) (.tmp 71) _ rfl _ _ rfl rfl (.slice A7 n7 c7) w7 hrun7 ?_) | (at_builtin; refine wpList_append_run rfl (.tmp 78) (.tmp 80) _ rfl _ _ rfl rfl (.slice A8 n8 c8) w8 hrun8 ?_) | fail)
                go_roundw
                case rel => exact ⟨_, _, _, _, _, _, _, _, _, _, _, _, _, rfl, rfl, by first | rfl | go_num, by first | exact HS3.out | (have h := HS3.out; rw [show c' - (4 + z) = 0 from by omega] at h; exact h) | simpa using HS3.out | (have h := HS3.out; simp at h; rw [show n' - 4 = 0 from by omega] at h; simpa using h), hall.out⟩
                case measure => simp [lenV]; omega
              · by_cases hcz : c' = 4 + z
                · rw [if_neg hc4] at hA2
                  rw [if_pos hcz] at hA3
                  subst hA2 hA3
                  simp only [Option.map_some, addr_add] at hrun7 HS3
                  go_wp2_with (first | (at_builtin; refine wpList_append_run rfl (.tmp 67) (.tmp 71) _ rfl _ _ rfl rfl (.slice A7 n7 c7) w7 hrun7 ?_) | (at_builtin; refine wpList_append_run rfl (.tmp 78) (.tmp 80) _ rfl _ _ rfl rfl (.slice A8 n8 c8) w8 hrun8 ?_) | fail)
                  go_roundw
                  case rel => exact ⟨_, _, _, _, _, _, _, _, _, _, _, _, _, rfl, rfl, by first | rfl | go_num, by first | exact HS3.out | (have h := HS3.out; rw [show c' - (4 + z) = 0 from by omega] at h; exact h) | simpa using HS3.out | (have h := HS3.out; simp at h; rw [show n' - 4 = 0 from by omega] at h; simpa using h), hall.out⟩
                  case measure => simp [lenV]; omega
                · rw [if_neg hc4] at hA2
                  rw [if_neg hcz] at hA3
                  subst hA2 hA3
                  simp only [Option.map_some, addr_add] at hrun7 HS3
                  go_wp2_with (first | (at_builtin; refine wpList_append_run rfl (.tmp 67) (.tmp 71) _ rfl _ _ rfl rfl (.slice A7 n7 c7) w7 hrun7 ?_) | (at_builtin; refine wpList_append_run rfl (.tmp 78) (.tmp 80) _ rfl _ _ rfl rfl (.slice A8 n8 c8) w8 hrun8 ?_) | fail)
                  go_roundw
                  case rel => exact ⟨_, _, _, _, _, _, _, _, _, _, _, _, _, rfl, rfl, by first | rfl | go_num, by first | exact HS3.out | (have h := HS3.out; rw [show c' - (4 + z) = 0 from by omega] at h; exact h) | simpa using HS3.out | (have h := HS3.out; simp at h; rw [show n' - 4 = 0 from by omega] at h; simpa using h), hall.out⟩
                  case measure => simp [lenV]; omega
            · have hfi : ¬ (127 : Int) < (x0 : Int) := by omega
              have hall := Lib.hid (show AllR w m f l (some ⟨b, off, none⟩) n' c' (nn + 1) A7 n7 c7 At nt ct (l'.drop (4 + z)) (R ++ (l'.drop 4).take z) T w7 from
                ⟨false, by
                  have h := HRUN2.out
                  rw [decide_eq_false hfl] at h
                  exact h, by rw [HN7.out, List.length_append, List.length_take, List.length_drop]; have := HL'.out; omega, HNT.out, O7.out, E7.out, H47.out, H57.out, by
                  have h1 := HNR.out
                  rw [List.length_append, List.length_take, List.length_drop]
                  omega, by omega, by
                  have h1 := HTL.out
                  rw [List.length_drop]
                  omega⟩)
              by_cases hc4 : c' = 4
              · obtain rfl : z = 0 := by omega
                subst hc4
                rw [if_pos rfl] at hA2
                rw [if_pos (by omega)] at hA3
                subst hA2 hA3
                go_wp2_with (first | (at_builtin; refine wpList_append_run rfl (.tmp 67) (.tmp 71) _ rfl _ _ rfl rfl (.slice A7 n7 c7) w7 hrun7 ?_) | fail)
                go_roundw
                case rel => exact ⟨_, _, _, _, _, _, _, _, _, _, _, _, _, rfl, rfl, by first | rfl | go_num, by first | exact HS3.out | (have h := HS3.out; rw [show c' - (4 + z) = 0 from by omega] at h; exact h) | simpa using HS3.out | (have h := HS3.out; simp at h; rw [show n' - 4 = 0 from by omega] at h; simpa using h), hall.out⟩
                case measure => simp [lenV]; omega
              · by_cases hcz : c' = 4 + z
                · rw [if_neg hc4] at hA2
                  rw [if_pos hcz] at hA3
                  subst hA2 hA3
                  simp only [Option.map_some, addr_add] at hrun7 HS3
                  go_wp2_with (first | (at_builtin; refine wpList_append_run rfl (.tmp 67) (.tmp 71) _ rfl _ _ rfl rfl (.slice A7 n7 c7) w7 hrun7 ?_) | fail)
                  go_roundw
                  case rel => exact ⟨_, _, _, _, _, _, _, _, _, _, _, _, _, rfl, rfl, by first | rfl | go_num, by first | exact HS3.out | (have h := HS3.out; rw [show c' - (4 + z) = 0 from by omega] at h; exact h) | simpa using HS3.out | (have h := HS3.out; simp at h; rw [show n' - 4 = 0 from by omega] at h; simpa using h), hall.out⟩
                  case measure => simp [lenV]; omega
                · rw [if_neg hc4] at hA2
                  rw [if_neg hcz] at hA3
                  subst hA2 hA3
                  simp only [Option.map_some, addr_add] at hrun7 HS3
                  go_wp2_with (first | (at_builtin; refine wpList_append_run rfl (.tmp 67) (.tmp 71) _ rfl _ _ rfl rfl (.slice A7 n7 c7) w7 hrun7 ?_) | fail)
                  go_roundw
                  case rel => exact ⟨_, _, _, _, _, _, _, _, _, _, _, _, _, rfl, rfl, by first | rfl | go_num, by first | exact HS3.out | (have h := HS3.out; rw [show c' - (4 + z) = 0 from by omega] at h; exact h) | simpa using HS3.out | (have h := HS3.out; simp at h; rw [show n' - 4 = 0 from by omega] at h; simpa using h), hall.out⟩
                  case measure => simp [lenV]; omega
theorem rdall_nat (A : Option Addr) (n c : Nat) (l : List UInt8) (m f : Nat) (b : Int) (hb : b = (f : Int)) (w : World) (hs : Sees w A n c (bs l)) (hn : n ≤ 5000) (hm : m ≤ 10000) (hf : f ≤ 1000) :
    Calls Try.prog 15 #[.slice A n c, .int .i64 (m : Int), .int .i64 b] w (AllP m f l w) := by
  subst hb
  exact rdall_any A n c l m f w hs hn hm hf
theorem rdall_st (A : Option Addr) (n c : Nat) (l : List UInt8) (m f : Nat) (b : Int) (hb : b = (f : Int)) (w : World) (hs : Sees w A n c (bs l)) (hn : n ≤ 5000) (hm : m ≤ 10000) (hf : f ≤ 1000) (S : DS) (E : Int) (K : Nat) (cl : Bool) (hS : drun m f d0 l = S) (hE : S.E = E) (hK : S.R.length + S.H.length = K) (hC : clB S = cl) :
    Calls Try.prog 15 #[.slice A n c, .int .i64 (m : Int), .int .i64 b] w fun e w' => ∃ Av nv cv, e = .returned (.agg #[.slice Av nv cv, .int .i64 E, .int .i64 (K : Int), .bool cl]) ∧ nv = S.T.length ∧ SeesB w' Av nv cv S.T ∧ Ext w w' := by
  subst hS hE hK hC
  exact rdall_nat A n c l m f b hb w hs hn hm hf
end Go.Proofs.Ytjajkagpfbemiaa
