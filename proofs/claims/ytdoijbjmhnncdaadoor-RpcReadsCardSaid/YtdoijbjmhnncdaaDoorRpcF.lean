/-
  Layer 6: a message that is read, or the first fault.
-/
import Derived.Test.YtdoijbjmhnncdaaDoorRpcE
namespace Go.Proofs.YtdoijbjmhnncdaaDoor
open Go Go.RowKit
set_option linter.unusedVariables false
set_option linter.unusedSimpArgs false
/-- What a header has come to: the reader's number, what is left, the first fault. -/
def nx (s : Int × List UInt8 × Option (Int × Int)) (at_ : Nat) : Int × List UInt8 × Option (Int × Int) := (numE s.1 s.2.1, numL s.2.1, numF s.2.2 (numE s.1 s.2.1) at_)
def cx (s : Int × List UInt8 × Option (Int × Int)) (zs : List Int) (at_ : Nat) : Int × List UInt8 × Option (Int × Int) := (numE s.1 s.2.1, numL s.2.1, choF (numF s.2.2 (numE s.1 s.2.1) at_) (numN s.2.1) zs at_)
def HdT (w : World) (hb rb : Nat) (s : Int × List UInt8 × Option (Int × Int)) (at_ : Nat) : Prop := HdS w hb rb s.1 s.2.1 at_ s.2.2
theorem hnumber_st (hb rb at_ : Nat) (s : Int × List UInt8 × Option (Int × Int)) (w : World) (h : HdT w hb rb s at_) (hat : at_ ≤ 1000000) :
    Calls Tryd.prog 20 #[.pointer (some ⟨hb, 0, none⟩)] w fun r w' => r = .returned (.int .u32 (numN s.2.1)) ∧ HdT w' hb rb (nx s at_) (at_ + 4) ∧ Kp (TwoH hb rb) w w' := hnumber_any hb rb at_ s.1 s.2.1 s.2.2 w h hat
/-- A choice of numbers that lie in a new block. -/
theorem hchoice_st (hb rb at_ : Nat) (s : Int × List UInt8 × Option (Int × Int)) (zs : List Int) (cs : Array Value) (m : Nat) (g : Nat) (w : World) (h : HdT w hb rb s at_) (hat : at_ ≤ 1000000) (hz : cs.toList = zs.map (Value.int .u32)) (hm : cs.size = m) (hm2 : m ≤ 10) (hg : w.heap.size = g) :
    Calls Tryd.prog 21 #[.pointer (some ⟨hb, 0, none⟩), .slice (some ⟨g, 0, none⟩) m m] (w.alloc (.cells cs 23)) fun r w' => r = .returned (.int .u32 (numN s.2.1)) ∧ HdT w' hb rb (cx s zs at_) (at_ + 4) ∧ Kp (TwoH hb rb) w w' := by
  subst hm hg
  have hlt := HdS.lt h
  refine (hchoice_any hb rb at_ s.1 s.2.1 s.2.2 _ _ _ zs _ (HdS.ext h ((Ext.refl w).alloc _)) hat (by rw [← hz]; exact sees_new w 23 cs (by unfold maxLen; omega)) hm2 ?_).mono ?_
  · intro b o g hB
    injection hB with hB
    injection hB with q1
    subst q1
    exact ⟨by omega, by omega⟩
  · rintro r w' ⟨h1, h2, h3⟩
    exact ⟨h1, h2, (Kp.of_ext ((Ext.refl w).alloc _)).trans h3⟩
theorem rdr_setMsg {w : World} {hb rb i : Nat} {e : Int} {l : List UInt8} {v : Value} (h : Rdr w rb e l) (hne : ¬ hb = rb) (hp : ∃ a b c d t, w.heap[hb]? = some (.cells #[.bool a, .int .u32 b, .int .u32 c, d] t (0, 0)) ∧ ∀ z, d ≠ .int .u8 z) : Rdr (w.setCell ⟨hb, i, none⟩ v) rb e l := by
  obtain ⟨A, n, c, h1, h2⟩ := h
  refine ⟨A, n, c, (heap_setCell_other _ _ _ _ (fun e => hne e.symm)).trans h1, ?_⟩
  obtain ⟨a, b, c', d, t, hp, hd⟩ := hp
  refine ⟨h2.1, h2.2.1, h2.2.2.1, h2.2.2.2.1, fun hn => ?_⟩
  obtain ⟨g, off, hA, hc⟩ := h2.2.2.2.2 hn
  refine ⟨g, off, hA, fun j u hu => ?_⟩
  have hcu := hc j u hu
  have hne2 : ¬ g = hb := fun q => by
    subst q
    rw [cell_of_row w g (off + j) _ _ _ hp] at hcu
    obtain ⟨hj, rfl⟩ := bs_get l j u hu
    match off + j, hcu with
    | 0, hcu => simp at hcu
    | 1, hcu => simp at hcu
    | 2, hcu => simp at hcu
    | 3, hcu => exact hd _ (by simpa using hcu)
    | k + 4, hcu => simp at hcu
  rw [World.cell?_of_block (w := w) (w' := w.setCell ⟨hb, i, none⟩ v) (heap_setCell_other _ _ _ _ (by simpa using hne2))]
  exact hcu
theorem HdS.setMsg {w : World} {hb rb at_ : Nat} {e : Int} {l : List UInt8} {F : Option (Int × Int)} (h : HdS w hb rb e l at_ F) {mb i : Nat} {v : Value} {a : Bool} {b c : Int} {d : Value} {t : TypeId} (hp : w.heap[mb]? = some (.cells #[.bool a, .int .u32 b, .int .u32 c, d] t (0, 0))) (hd : ∀ z, d ≠ .int .u8 z) (h1 : ¬ mb = hb) (h2 : ¬ mb = rb) : HdS (w.setCell ⟨mb, i, none⟩ v) hb rb e l at_ F := by
  obtain ⟨fp, k1, k2, k3, k4⟩ := h
  refine ⟨fp, (heap_setCell_other _ _ _ _ (fun e => h1 e.symm)).trans k1, rdr_setMsg k2 h2 ⟨a, b, c, d, t, hp, hd⟩, k3, ?_⟩
  cases F with
  | none => exact k4
  | some p =>
    obtain ⟨x, y⟩ := p
    obtain ⟨fb, q1, q2, q3, q4⟩ := k4
    refine ⟨fb, q1, (heap_setCell_other _ _ _ _ ?_).trans q2, q3, q4⟩
    intro q
    simp only at q
    subst q
    rw [q2] at hp
    injection hp with hp
    injection hp with hp
    simp at hp
theorem ext_kpR {X : Nat → Prop} {w a b : World} (h : Ext w a) (k : Kp X a b) (hx : ∀ k, k < w.heap.size → X k) : Ext w b := ((Kp.of_ext h).trans k).to_ext hx
theorem results_cell_tR {P : Program} {fn : Func} {p q : Tmp} {ty : TypeId} (h : fn.results = #[.cell p ty, .tmp q]) (tmps : Array Value) (w : World) (g : Nat) (t : TypeId) (cs : Array Value) (fr : Nat × Nat) (d : TypeDesc) (u : Value)
    (hp : tmps.getD p undef = .pointer (some ⟨g, 0, none⟩)) (hq : tmps.getD q undef = u) (hg : w.heap[g]? = some (.cells cs t fr))
    (hu : P.underlying ty = some d) (hd : (match d with | .struct _ | .array _ _ => true | _ => false) = true) (hi : (P.info? ty).map (·.size) = some cs.size) :
    (results fn tmps).run P w = .ok (.tuple #[.agg cs, u]) w := by
  have hp' : tmps[p]?.getD undef = .pointer (some ⟨g, 0, none⟩) := by simpa using hp
  have hq' : tmps[q]?.getD undef = u := by simpa using hq
  simp [results, h, hp', hq', asAddr, run_loadVar_row w g t ty cs fr d hg hu hd hi]
theorem bdropR {w : World} {A : Option Addr} {n c : Nat} {l : List UInt8} (h : Sees w A n c (bs l)) (k : Nat) (hk : k ≤ n) : ∃ A' , Sees w A' (n - k) (c - k) (bs (l.drop k)) ∧ A' = (if c = k then A else Option.map (fun x => x.add k) A) := by
  by_cases hc : c = k
  · have := h.drop_all k hk hc
    rw [bs_drop] at this
    exact ⟨A, by rw [show c - k = 0 from by omega]; exact this, by rw [if_pos hc]⟩
  · have := h.drop k hk hc
    rw [bs_drop] at this
    exact ⟨_, this, by rw [if_neg hc]⟩
def rd1 (l : List UInt8) := nx (0, l, none) 0
def rd2 (l : List UInt8) := cx (rd1 l) [0, 1] 4
def rdR (l : List UInt8) : Bool := numN (rd1 l).2.1 == 1
def rd3 (l : List UInt8) := if rdR l then cx (rd2 l) [0] 8 else cx (cx (cx (rd2 l) [2] 8) [536870913] 12) [1] 16
def rdA (l : List UInt8) : Nat := if rdR l then 16 else 24
def rd4 (l : List UInt8) := nx (rd3 l) (rdA l - 4)
def RRes (w : World) (l : List UInt8) (e : Ending) (w' : World) : Prop := ∃ A n c, e = .returned (.tuple #[.agg #[.bool (rdR l), .int .u32 (numN l), .int .u32 (numN (rd3 l).2.1), .slice A n c], .nilIface]) ∧ Sees w' A n c (bs (l.drop (rdA l))) ∧ Ext w w'
set_option maxRecDepth 20000 in
set_option maxHeartbeats 2000000 in
theorem rread_ok (A : Option Addr) (n c : Nat) (l : List UInt8) (w : World) (hs : Sees w A n c (bs l)) (hn : n ≤ 100000) (hF : (rd4 l).2.2 = none) (hA : rdA l ≤ n) :
    Calls Tryd.prog 10 #[.slice A n c] w (RRes w l) := by
  have HS := Lib.hid hs
  have HZ := Lib.hid infoMsg
  have hsl := hs.le
  have hsm := hs.max
  unfold maxLen at hsm
  clear hs
  obtain ⟨w1, hw1⟩ : ∃ w1, w.alloc (.cells #[.bool false, .int .u32 0, .int .u32 0, .slice none 0 0] 32) = w1 := ⟨_, rfl⟩
  have e1 : Ext w w1 := by rw [← hw1]; exact (Ext.refl w).alloc _
  have hb1 : w1.heap[w.heap.size]? = some (.cells #[.bool false, .int .u32 0, .int .u32 0, .slice none 0 0] 32 (0, 0)) := by rw [← hw1]; exact heap_alloc_new w _
  have hsz1 : w1.heap.size = w.heap.size + 1 := by rw [← hw1]; simp
  have HB1 := Lib.hid hb1
  have HF := Lib.hid hF
  have E1 := Lib.hid e1
  clear hb1 e1 hF
  go_enter Tryd.func10, Tryd.ntmps10
  go_wp2_with fail
  refine (read_any A n c l w1 (HS.out.ext E1.out) (by omega)).mono ?_
  rintro e w2 ⟨rb, v, rfl, hrb, hr2, hown2, e2⟩
  obtain ⟨w3, hw3⟩ : ∃ w3, w2.alloc (.cells #[.pointer (some ⟨rb, 0, none⟩), .int .i64 0, .pointer none] 61) = w3 := ⟨_, rfl⟩
  obtain ⟨hb, hhb⟩ : ∃ hb, w2.heap.size = hb := ⟨_, rfl⟩
  have e3 : Ext w2 w3 := by rw [← hw3]; exact (Ext.refl w2).alloc _
  have HD3 : Hid (HdT w3 hb rb (0, l, none) 0) := by
    obtain ⟨A', c', rfl, hsv⟩ := own_sh hown2
    have hrl := (Array.getElem?_eq_some_iff.1 hr2).1
    exact Lib.hid ⟨none, by rw [← hw3, ← hhb]; exact heap_alloc_new w2 _, ⟨A', n, c', e3.heap hr2, hsv.ext e3⟩, by omega, rfl⟩
  have E3 := Lib.hid (e2.trans e3)
  have hsz2 := e2.size
  have hrbl : rb < hb := hhb ▸ (Array.getElem?_eq_some_iff.1 hr2).1
  have hhb2 : w3.heap.size = hb + 1 := by rw [← hw3, ← hhb]; simp
  clear e3 e2 hr2 hown2
  go_wp2_with fail
  refine (hnumber_st hb rb 0 _ w3 HD3.out (by omega)).mono ?_
  rintro e w4 ⟨rfl, hd4, k4⟩
  have hsz4 := k4.size
  clear hw1 hw3 hhb
  obtain ⟨mb, hmb⟩ : ∃ mb, w4.heap.size = mb := ⟨_, rfl⟩
  go_wp2_with fail
  generalize hw5 : w4.alloc (.cells #[.bool false, .int .u32 (numN l), .int .u32 0, .slice none 0 0] 32) = w5
  have hw5s : w5.heap.size = mb + 1 := by rw [← hw5, ← hmb]; simp
  have hmbl : ¬ mb = hb ∧ ¬ mb = rb ∧ w1.heap.size ≤ mb := ⟨by omega, by omega, by omega⟩
  have e45 : Ext w4 w5 := by rw [← hw5]; exact (Ext.refl w4).alloc _
  have HD5 : Hid (HdT w5 hb rb (rd1 l) 4) := Lib.hid (HdS.ext hd4 e45)
  have hm5 : w5.heap[mb]? = some (.cells #[.bool false, .int .u32 (numN l), .int .u32 0, .slice none 0 0] 32 (0, 0)) := by rw [← hw5, ← hmb]; exact heap_alloc_new w4 _
  have HX : Hid (∀ k, k < w1.heap.size → TwoH hb rb k) := Lib.hid fun k hk => ⟨by omega, by omega⟩
  have E5 : Hid (Ext w1 w5) := Lib.hid ((ext_kpR E3.out k4 HX.out).trans e45)
  have HM5 := Lib.hid hm5
  clear hd4 k4 e45 hm5
  clear hw5 hmb
  refine (hchoice_st hb rb 4 (rd1 l) [0, 1] #[.int .u32 0, .int .u32 1] 2 _ w5 HD5.out (by omega) rfl rfl (by omega) hw5s).mono ?_
  rintro e w6 ⟨rfl, hd6, k6⟩
  have hm6 := k6.heap HM5.out ⟨hmbl.1, hmbl.2.1⟩
  have hsz6 := k6.size
  have e6 := ext_kpR E5.out k6 HX.out
  have x0 := cell_of_row w6 mb 0 _ _ _ hm6
  simp at x0
  have f0 := Lib.frozen_of_heap hm6 0
  have SET : ∀ v, HdT (w6.setCell ⟨mb, 0, none⟩ v) hb rb (rd2 l) 8 := fun v => HdS.setMsg hd6 hm6 (fun z => by simp) hmbl.1 hmbl.2.1
  have ESET : ∀ v, Ext w1 (w6.setCell ⟨mb, 0, none⟩ v) := fun v => ((Kp.of_ext (X := fun k => k < w1.heap.size) e6).set mb 0 v (by omega)).to_ext (fun k hk => hk)
  rcases Bool.eq_false_or_eq_true (rdR l) with hr | hr
  · have hq : (numN (rd1 l).2.1 == 1) = true := hr
    obtain ⟨w7, hw7⟩ : ∃ w7, w6.setCell ⟨mb, 0, none⟩ (.bool true) = w7 := ⟨_, rfl⟩
    have HM7 : Hid (w7.heap[mb]? = some (.cells #[.bool (rdR l), .int .u32 (numN l), .int .u32 0, .slice none 0 0] 32 (0, 0))) := Lib.hid (by rw [hr, ← hw7]; simpa using heap_setCell_same w6 mb 0 _ _ (.bool true) hm6)
    have HD7 : Hid (HdT w7 hb rb (rd2 l) 8) := Lib.hid (by rw [← hw7]; exact SET _)
    have E7 : Hid (Ext w1 w7) := Lib.hid (by rw [← hw7]; exact ESET _)
    have hsz7 : w7.heap.size = w6.heap.size := by rw [← hw7]; simp
    have x7 : w7.cell? ⟨mb, 0, none⟩ = some (.bool true) := by
      have h := cell_of_row w7 mb 0 _ _ _ HM7.out
      rw [hr] at h
      simpa using h
    clear SET ESET hd6 hm6 k6 e6
    go_wp2_with fail
    clear hw7 x0 f0 hq
    refine (hchoice_st hb rb 8 (rd2 l) [0] #[.int .u32 0] 1 _ w7 HD7.out (by omega) rfl rfl (by omega) (by omega)).mono ?_
    rintro e w8 ⟨rfl, hd8, k8⟩
    have HM8 := Lib.hid (k8.heap HM7.out ⟨hmbl.1, hmbl.2.1⟩)
    have E8 := Lib.hid (ext_kpR E7.out k8 HX.out)
    have HD8 : Hid (HdT w8 hb rb (rd3 l) 12) := Lib.hid (by rw [rd3, hr]; exact hd8)
    have HD9 : Hid (∀ w', HdT w' hb rb (nx (rd3 l) 12) (12 + 4) → ∃ fp, w'.heap[hb]? = some (.cells #[.pointer (some ⟨rb, 0, none⟩), .int .i64 16, .pointer fp] 61 (0, 0)) ∧ fp = none) := Lib.hid fun w' h => by
      obtain ⟨fp, h1, _, _, h4⟩ := h
      have hn : nx (rd3 l) 12 = rd4 l := by rw [rd4, rdA, hr]; rfl
      rw [hn, HF.out] at h4
      exact ⟨fp, h1, h4⟩
    have hK : rdA l = 16 := by rw [rdA, hr]; rfl
    clear hd8 k8 x7
    go_wp2_with fail
    refine (hnumber_st hb rb 12 (rd3 l) w8 HD8.out (by omega)).mono ?_
    rintro e w9 ⟨rfl, hd9, k9⟩
    obtain ⟨fp, r1, rfl⟩ := HD9.out w9 hd9
    obtain ⟨K, hK0⟩ : ∃ K : Nat, K = 16 := ⟨_, rfl⟩
    rw [show (16 : Int) = (K : Int) from by omega] at r1
    have hn16 : K ≤ n := by omega
    have HK0 := Lib.hid (hK0.trans hK.symm)
    clear hK0 hK
    have hm9 := k9.heap HM8.out ⟨hmbl.1, hmbl.2.1⟩
    have e9 := ext_kpR E8.out k9 HX.out
    have y2 := cell_of_row w9 mb 2 _ _ _ hm9
    simp at y2
    have g2 := Lib.frozen_of_heap hm9 2
    obtain ⟨w10, hw10⟩ : ∃ w10, w9.setCell ⟨mb, 2, none⟩ (.int .u32 (numN (rd3 l).2.1)) = w10 := ⟨_, rfl⟩
    have hm10 : w10.heap[mb]? = some (.cells #[.bool (rdR l), .int .u32 (numN l), .int .u32 (numN (rd3 l).2.1), .slice none 0 0] 32 (0, 0)) := by rw [← hw10]; simpa using heap_setCell_same w9 mb 2 _ _ (.int .u32 (numN (rd3 l).2.1)) hm9
    have r10 : w10.heap[hb]? = some (.cells #[.pointer (some ⟨rb, 0, none⟩), .int .i64 (K : Int), .pointer none] 61 (0, 0)) := by rw [← hw10]; exact (heap_setCell_other _ _ _ _ (fun e => hmbl.1 e.symm)).trans r1
    have e10 : Ext w1 w10 := by rw [← hw10]; exact ((Kp.of_ext (X := fun k => k < w1.heap.size) e9).set mb 2 _ (by omega)).to_ext (fun k hk => hk)
    have c1 := cell_of_row w10 hb 1 _ _ _ r10
    have c2 := cell_of_row w10 hb 2 _ _ _ r10
    simp at c1 c2
    have hs10 : Sees w10 A n c (bs l) := HS.out.ext (E1.out.trans e10)
    obtain ⟨A', hsd, hA'⟩ := bdropR hs10 K hn16
    obtain ⟨N, hN⟩ : ∃ N, N = n - K := ⟨_, rfl⟩
    rw [← hN] at hsd
    obtain ⟨A5, c5, w11, hrun, hown, hbel⟩ := own_bytesR (n := 0) (l := []) (World.ownsRow_nil w10 w10.heap.size _ _) hsd (Nat.le_refl _) (by omega)
    rw [Nat.zero_add] at hrun hown
    have hown' : w11.ownsRow w10.heap.size 5 1 (.slice A5 N c5) N (bs (l.drop K)) := hown
    have e11 : Ext w1 w11 := e10.trans ((Ext.refl w10).thenB hbel (Nat.le_refl _))
    have ex11 : Ext w10 w11 := (Ext.refl w10).thenB hbel (Nat.le_refl _)
    have hm11 := ex11.heap hm10
    have u3 := cell_of_row w11 mb 3 _ _ _ hm11
    simp at u3
    have h3 := Lib.frozen_of_heap hm11 3
    obtain ⟨w12, hw12⟩ : ∃ w12, w11.setCell ⟨mb, 3, none⟩ (.slice A5 N c5) = w12 := ⟨_, rfl⟩
    have hm12 : w12.heap[mb]? = some (.cells #[.bool (rdR l), .int .u32 (numN l), .int .u32 (numN (rd3 l).2.1), .slice A5 N c5] 32 (0, 0)) := by rw [← hw12]; simpa using heap_setCell_same w11 mb 3 _ _ (.slice A5 N c5) hm11
    have hr12 : w12.heap[w.heap.size]? = some (.cells #[.bool false, .int .u32 0, .int .u32 0, .slice none 0 0] 32 (0, 0)) := by rw [← hw12]; exact (heap_setCell_other _ _ _ _ (by simp only; omega)).trans (e11.heap HB1.out)
    have v0 := cell_of_row w12 mb 0 _ _ _ hm12
    have v1 := cell_of_row w12 mb 1 _ _ _ hm12
    have v2 := cell_of_row w12 mb 2 _ _ _ hm12
    have v3 := cell_of_row w12 mb 3 _ _ _ hm12
    have z0 := cell_of_row w12 w.heap.size 0 _ _ _ hr12
    have z1 := cell_of_row w12 w.heap.size 1 _ _ _ hr12
    have z2 := cell_of_row w12 w.heap.size 2 _ _ _ hr12
    have z3 := cell_of_row w12 w.heap.size 3 _ _ _ hr12
    simp at v0 v1 v2 v3 z0 z1 z2 z3
    have q0 := Lib.frozen_of_heap hr12 0
    have q1 := Lib.frozen_of_heap hr12 1
    have q2 := Lib.frozen_of_heap hr12 2
    have q3 := Lib.frozen_of_heap hr12 3
    have hmbL := (Array.getElem?_eq_some_iff.1 hm10).1
    have hsz10 : w10.heap.size = w9.heap.size := by rw [← hw10]; simp
    have hsz9 := k9.size
    have HR12 := Lib.hid hr12
    have k12 : Hid (Kp (fun k => k < w.heap.size) w w12) := Lib.hid (by
      rw [← hw12]
      exact (Kp.of_ext (E1.out.trans e11)).set mb 3 _ (by omega))
    have HO12 : Hid (w12.ownsRow w10.heap.size 5 1 (.slice A5 N c5) N (bs (l.drop K))) := Lib.hid (by
      rw [← hw12]
      exact Kp.own (X := fun k => w10.heap.size ≤ k) ((Kp.refl _ w11).set mb 3 _ (by omega)) hown' (fun k hk => (hown'.lt k hk).1))
    have HSET : Hid (((((w12.setCell ⟨w.heap.size, 0, none⟩ (.bool true)).setCell ⟨w.heap.size, 1, none⟩ (.int .u32 (numN l))).setCell ⟨w.heap.size, 2, none⟩ (.int .u32 (numN (rd3 l).2.1))).setCell ⟨w.heap.size, 3, none⟩ (.slice A5 N c5)).heap[w.heap.size]? = some (.cells #[.bool true, .int .u32 (numN l), .int .u32 (numN (rd3 l).2.1), .slice A5 N c5] 32 (0, 0))) := Lib.hid (by
      have h1 := set_blk hr12 0 (.bool true)
      have h2 := set_blk h1 1 (.int .u32 (numN l))
      have h3 := set_blk h2 2 (.int .u32 (numN (rd3 l).2.1))
      have h4 := set_blk h3 3 (.slice A5 N c5)
      simpa using h4)
    have HFIN : Hid (RRes w l (.returned (.tuple #[.agg #[.bool true, .int .u32 (numN l), .int .u32 (numN (rd3 l).2.1), .slice A5 N c5], .nilIface])) ((((w12.setCell ⟨w.heap.size, 0, none⟩ (.bool true)).setCell ⟨w.heap.size, 1, none⟩ (.int .u32 (numN l))).setCell ⟨w.heap.size, 2, none⟩ (.int .u32 (numN (rd3 l).2.1))).setCell ⟨w.heap.size, 3, none⟩ (.slice A5 N c5))) := Lib.hid (by
      have ho := Kp.own (X := fun k => w10.heap.size ≤ k) (((((Kp.refl _ w12).set w.heap.size 0 (.bool true) (by omega)).set w.heap.size 1 (.int .u32 (numN l)) (by omega)).set w.heap.size 2 (.int .u32 (numN (rd3 l).2.1)) (by omega)).set w.heap.size 3 (.slice A5 N c5) (by omega)) HO12.out (fun k hk => (HO12.out.lt k hk).1)
      have hk := ((((k12.out.set w.heap.size 0 (.bool true) (by omega)).set w.heap.size 1 (.int .u32 (numN l)) (by omega)).set w.heap.size 2 (.int .u32 (numN (rd3 l).2.1)) (by omega)).set w.heap.size 3 (.slice A5 N c5) (by omega)).to_ext (fun k hk => hk)
      obtain ⟨A7, c7, e7, hs7⟩ := own_sh ho
      injection e7 with q1 q2 q3
      subst q1 q3
      exact ⟨_, _, _, by rw [hr], by rw [← HK0.out]; exact hs7, hk⟩)
    clear HM5 HD5 E5 HX HM7 HD7 E7 HM8 E8 HD8 HD9 hd9 k9 r1 hm9 e9 hm10 r10 e10 hs10 hsd hown hown' hbel e11 ex11 hm11 hm12 hr12
    rw [hA'] at hrun
    clear hA'
    by_cases hck : c = K
    · rw [if_pos hck] at hrun
      have hck0 : c - K = 0 := by omega
      rw [hck0] at hrun
      obtain rfl : N = 0 := by omega
      clear hN hck0
      subst hck
      go_wp2_with (first | (at_builtin; refine wpList_append_run rfl (.const (.slice none 0 0)) (.tmp 51) _ rfl _ _ rfl rfl _ w11 hrun ?_) | fail)
      refine bodyPost_ret (results_cell_tR rfl _ _ w.heap.size _ _ (0, 0) _ .nilIface rfl rfl HSET.out Tryd.underlying32 rfl HZ.out) rfl ?_
      exact HFIN.out
    · rw [if_neg hck] at hrun
      subst hN
      go_wp2_with (first | (at_builtin; refine wpList_append_run rfl (.const (.slice none 0 0)) (.tmp 51) _ rfl _ _ rfl rfl _ w11 hrun ?_) | fail)
      refine bodyPost_ret (results_cell_tR rfl _ _ w.heap.size _ _ (0, 0) _ .nilIface rfl rfl HSET.out Tryd.underlying32 rfl HZ.out) rfl ?_
      exact HFIN.out
  · have hq : (numN (rd1 l).2.1 == 1) = false := hr
    obtain ⟨w7, hw7⟩ : ∃ w7, w6.setCell ⟨mb, 0, none⟩ (.bool false) = w7 := ⟨_, rfl⟩
    have HM7 : Hid (w7.heap[mb]? = some (.cells #[.bool (rdR l), .int .u32 (numN l), .int .u32 0, .slice none 0 0] 32 (0, 0))) := Lib.hid (by rw [hr, ← hw7]; simpa using heap_setCell_same w6 mb 0 _ _ (.bool false) hm6)
    have HD7 : Hid (HdT w7 hb rb (rd2 l) 8) := Lib.hid (by rw [← hw7]; exact SET _)
    have E7 : Hid (Ext w1 w7) := Lib.hid (by rw [← hw7]; exact ESET _)
    have hsz7 : w7.heap.size = w6.heap.size := by rw [← hw7]; simp
    have x7 : w7.cell? ⟨mb, 0, none⟩ = some (.bool false) := by
      have h := cell_of_row w7 mb 0 _ _ _ HM7.out
      rw [hr] at h
      simpa using h
    clear SET ESET hd6 hm6 k6 e6
    go_wp2_with fail
    clear hw7 x0 f0 hq
    refine (hchoice_st hb rb 8 (rd2 l) [2] #[.int .u32 2] 1 _ w7 HD7.out (by omega) rfl rfl (by omega) (by omega)).mono ?_
    rintro e wa ⟨rfl, hda, ka⟩
    have HDA := Lib.hid hda
    have HMA := Lib.hid (ka.heap HM7.out ⟨hmbl.1, hmbl.2.1⟩)
    have EA := Lib.hid (ext_kpR E7.out ka HX.out)
    clear hda ka x7
    go_wp2_with fail
    refine (hchoice_st hb rb 12 _ [536870913] #[.int .u32 536870913] 1 _ wa HDA.out (by omega) rfl rfl (by omega) (by omega)).mono ?_
    rintro e wb ⟨rfl, hdb, kb⟩
    have HDB := Lib.hid hdb
    have HMB := Lib.hid (kb.heap HMA.out ⟨hmbl.1, hmbl.2.1⟩)
    have EB := Lib.hid (ext_kpR EA.out kb HX.out)
    clear hdb kb
    go_wp2_with fail
    refine (hchoice_st hb rb 16 _ [1] #[.int .u32 1] 1 _ wb HDB.out (by omega) rfl rfl (by omega) (by omega)).mono ?_
    rintro e w8 ⟨rfl, hd8, k8⟩
    have HM8 := Lib.hid (k8.heap HMB.out ⟨hmbl.1, hmbl.2.1⟩)
    have E8 := Lib.hid (ext_kpR EB.out k8 HX.out)
    have HD8 : Hid (HdT w8 hb rb (rd3 l) 20) := Lib.hid (by rw [rd3, hr]; exact hd8)
    have HD9 : Hid (∀ w', HdT w' hb rb (nx (rd3 l) 20) (20 + 4) → ∃ fp, w'.heap[hb]? = some (.cells #[.pointer (some ⟨rb, 0, none⟩), .int .i64 24, .pointer fp] 61 (0, 0)) ∧ fp = none) := Lib.hid fun w' h => by
      obtain ⟨fp, h1, _, _, h4⟩ := h
      have hn : nx (rd3 l) 20 = rd4 l := by rw [rd4, rdA, hr]; rfl
      rw [hn, HF.out] at h4
      exact ⟨fp, h1, h4⟩
    have hK : rdA l = 24 := by rw [rdA, hr]; rfl
    clear hd8 k8
    go_wp2_with fail
    refine (hnumber_st hb rb 20 (rd3 l) w8 HD8.out (by omega)).mono ?_
    rintro e w9 ⟨rfl, hd9, k9⟩
    obtain ⟨fp, r1, rfl⟩ := HD9.out w9 hd9
    obtain ⟨K, hK0⟩ : ∃ K : Nat, K = 24 := ⟨_, rfl⟩
    rw [show (24 : Int) = (K : Int) from by omega] at r1
    have hn16 : K ≤ n := by omega
    have HK0 := Lib.hid (hK0.trans hK.symm)
    clear hK0 hK
    have hm9 := k9.heap HM8.out ⟨hmbl.1, hmbl.2.1⟩
    have e9 := ext_kpR E8.out k9 HX.out
    have y2 := cell_of_row w9 mb 2 _ _ _ hm9
    simp at y2
    have g2 := Lib.frozen_of_heap hm9 2
    obtain ⟨w10, hw10⟩ : ∃ w10, w9.setCell ⟨mb, 2, none⟩ (.int .u32 (numN (rd3 l).2.1)) = w10 := ⟨_, rfl⟩
    have hm10 : w10.heap[mb]? = some (.cells #[.bool (rdR l), .int .u32 (numN l), .int .u32 (numN (rd3 l).2.1), .slice none 0 0] 32 (0, 0)) := by rw [← hw10]; simpa using heap_setCell_same w9 mb 2 _ _ (.int .u32 (numN (rd3 l).2.1)) hm9
    have r10 : w10.heap[hb]? = some (.cells #[.pointer (some ⟨rb, 0, none⟩), .int .i64 (K : Int), .pointer none] 61 (0, 0)) := by rw [← hw10]; exact (heap_setCell_other _ _ _ _ (fun e => hmbl.1 e.symm)).trans r1
    have e10 : Ext w1 w10 := by rw [← hw10]; exact ((Kp.of_ext (X := fun k => k < w1.heap.size) e9).set mb 2 _ (by omega)).to_ext (fun k hk => hk)
    have c1 := cell_of_row w10 hb 1 _ _ _ r10
    have c2 := cell_of_row w10 hb 2 _ _ _ r10
    simp at c1 c2
    have hs10 : Sees w10 A n c (bs l) := HS.out.ext (E1.out.trans e10)
    obtain ⟨A', hsd, hA'⟩ := bdropR hs10 K hn16
    obtain ⟨N, hN⟩ : ∃ N, N = n - K := ⟨_, rfl⟩
    rw [← hN] at hsd
    obtain ⟨A5, c5, w11, hrun, hown, hbel⟩ := own_bytesR (n := 0) (l := []) (World.ownsRow_nil w10 w10.heap.size _ _) hsd (Nat.le_refl _) (by omega)
    rw [Nat.zero_add] at hrun hown
    have hown' : w11.ownsRow w10.heap.size 5 1 (.slice A5 N c5) N (bs (l.drop K)) := hown
    have e11 : Ext w1 w11 := e10.trans ((Ext.refl w10).thenB hbel (Nat.le_refl _))
    have ex11 : Ext w10 w11 := (Ext.refl w10).thenB hbel (Nat.le_refl _)
    have hm11 := ex11.heap hm10
    have u3 := cell_of_row w11 mb 3 _ _ _ hm11
    simp at u3
    have h3 := Lib.frozen_of_heap hm11 3
    obtain ⟨w12, hw12⟩ : ∃ w12, w11.setCell ⟨mb, 3, none⟩ (.slice A5 N c5) = w12 := ⟨_, rfl⟩
    have hm12 : w12.heap[mb]? = some (.cells #[.bool (rdR l), .int .u32 (numN l), .int .u32 (numN (rd3 l).2.1), .slice A5 N c5] 32 (0, 0)) := by rw [← hw12]; simpa using heap_setCell_same w11 mb 3 _ _ (.slice A5 N c5) hm11
    have hr12 : w12.heap[w.heap.size]? = some (.cells #[.bool false, .int .u32 0, .int .u32 0, .slice none 0 0] 32 (0, 0)) := by rw [← hw12]; exact (heap_setCell_other _ _ _ _ (by simp only; omega)).trans (e11.heap HB1.out)
    have v0 := cell_of_row w12 mb 0 _ _ _ hm12
    have v1 := cell_of_row w12 mb 1 _ _ _ hm12
    have v2 := cell_of_row w12 mb 2 _ _ _ hm12
    have v3 := cell_of_row w12 mb 3 _ _ _ hm12
    have z0 := cell_of_row w12 w.heap.size 0 _ _ _ hr12
    have z1 := cell_of_row w12 w.heap.size 1 _ _ _ hr12
    have z2 := cell_of_row w12 w.heap.size 2 _ _ _ hr12
    have z3 := cell_of_row w12 w.heap.size 3 _ _ _ hr12
    simp at v0 v1 v2 v3 z0 z1 z2 z3
    have q0 := Lib.frozen_of_heap hr12 0
    have q1 := Lib.frozen_of_heap hr12 1
    have q2 := Lib.frozen_of_heap hr12 2
    have q3 := Lib.frozen_of_heap hr12 3
    have hmbL := (Array.getElem?_eq_some_iff.1 hm10).1
    have hsz10 : w10.heap.size = w9.heap.size := by rw [← hw10]; simp
    have hsz9 := k9.size
    have HR12 := Lib.hid hr12
    have k12 : Hid (Kp (fun k => k < w.heap.size) w w12) := Lib.hid (by
      rw [← hw12]
      exact (Kp.of_ext (E1.out.trans e11)).set mb 3 _ (by omega))
    have HO12 : Hid (w12.ownsRow w10.heap.size 5 1 (.slice A5 N c5) N (bs (l.drop K))) := Lib.hid (by
      rw [← hw12]
      exact Kp.own (X := fun k => w10.heap.size ≤ k) ((Kp.refl _ w11).set mb 3 _ (by omega)) hown' (fun k hk => (hown'.lt k hk).1))
    have HSET : Hid (((((w12.setCell ⟨w.heap.size, 0, none⟩ (.bool false)).setCell ⟨w.heap.size, 1, none⟩ (.int .u32 (numN l))).setCell ⟨w.heap.size, 2, none⟩ (.int .u32 (numN (rd3 l).2.1))).setCell ⟨w.heap.size, 3, none⟩ (.slice A5 N c5)).heap[w.heap.size]? = some (.cells #[.bool false, .int .u32 (numN l), .int .u32 (numN (rd3 l).2.1), .slice A5 N c5] 32 (0, 0))) := Lib.hid (by
      have h1 := set_blk hr12 0 (.bool false)
      have h2 := set_blk h1 1 (.int .u32 (numN l))
      have h3 := set_blk h2 2 (.int .u32 (numN (rd3 l).2.1))
      have h4 := set_blk h3 3 (.slice A5 N c5)
      simpa using h4)
    have HFIN : Hid (RRes w l (.returned (.tuple #[.agg #[.bool false, .int .u32 (numN l), .int .u32 (numN (rd3 l).2.1), .slice A5 N c5], .nilIface])) ((((w12.setCell ⟨w.heap.size, 0, none⟩ (.bool false)).setCell ⟨w.heap.size, 1, none⟩ (.int .u32 (numN l))).setCell ⟨w.heap.size, 2, none⟩ (.int .u32 (numN (rd3 l).2.1))).setCell ⟨w.heap.size, 3, none⟩ (.slice A5 N c5))) := Lib.hid (by
      have ho := Kp.own (X := fun k => w10.heap.size ≤ k) (((((Kp.refl _ w12).set w.heap.size 0 (.bool false) (by omega)).set w.heap.size 1 (.int .u32 (numN l)) (by omega)).set w.heap.size 2 (.int .u32 (numN (rd3 l).2.1)) (by omega)).set w.heap.size 3 (.slice A5 N c5) (by omega)) HO12.out (fun k hk => (HO12.out.lt k hk).1)
      have hk := ((((k12.out.set w.heap.size 0 (.bool false) (by omega)).set w.heap.size 1 (.int .u32 (numN l)) (by omega)).set w.heap.size 2 (.int .u32 (numN (rd3 l).2.1)) (by omega)).set w.heap.size 3 (.slice A5 N c5) (by omega)).to_ext (fun k hk => hk)
      obtain ⟨A7, c7, e7, hs7⟩ := own_sh ho
      injection e7 with q1 q2 q3
      subst q1 q3
      exact ⟨_, _, _, by rw [hr], by rw [← HK0.out]; exact hs7, hk⟩)
    clear HDA HMA EA HDB HMB EB HM5 HD5 E5 HX HM7 HD7 E7 HM8 E8 HD8 HD9 hd9 k9 r1 hm9 e9 hm10 r10 e10 hs10 hsd hown hown' hbel e11 ex11 hm11 hm12 hr12
    rw [hA'] at hrun
    clear hA'
    by_cases hck : c = K
    · rw [if_pos hck] at hrun
      have hck0 : c - K = 0 := by omega
      rw [hck0] at hrun
      obtain rfl : N = 0 := by omega
      clear hN hck0
      subst hck
      go_wp2_with (first | (at_builtin; refine wpList_append_run rfl (.const (.slice none 0 0)) (.tmp 51) _ rfl _ _ rfl rfl _ w11 hrun ?_) | fail)
      refine bodyPost_ret (results_cell_tR rfl _ _ w.heap.size _ _ (0, 0) _ .nilIface rfl rfl HSET.out Tryd.underlying32 rfl HZ.out) rfl ?_
      exact HFIN.out
    · rw [if_neg hck] at hrun
      subst hN
      go_wp2_with (first | (at_builtin; refine wpList_append_run rfl (.const (.slice none 0 0)) (.tmp 51) _ rfl _ _ rfl rfl _ w11 hrun ?_) | fail)
      refine bodyPost_ret (results_cell_tR rfl _ _ w.heap.size _ _ (0, 0) _ .nilIface rfl rfl HSET.out Tryd.underlying32 rfl HZ.out) rfl ?_
      exact HFIN.out
end Go.Proofs.YtdoijbjmhnncdaaDoor
