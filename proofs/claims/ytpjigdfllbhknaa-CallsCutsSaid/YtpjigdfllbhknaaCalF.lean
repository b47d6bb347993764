/-
  Layer 14: whether what a procedure is asked with may be.
-/
import Derived.Test.YtpjigdfllbhknaaCalD
import Derived.Test.YtpjigdfllbhknaaCalE
namespace Go.Proofs.Ytpjigdfllbhknaa
open Go Go.RowKit
set_option linter.unusedVariables false
set_option linter.unusedSimpArgs false
def AR.zero (k : Int) : AR := ⟨k, 0, 0, 0, 0, 0, 0, 0, 0, [], [], none, 0, 0⟩
def dlA (d : List UInt8) (l : List Nat) : List UInt8 := if l.all (· < 8) then d else []
theorem wo_lt (a : AR) (f : Nat) (h : f < 8) : (woA a f).dA = a.dA ∧ (woA a f).dn = a.dn ∧ (woA a f).dk = a.dk := by
  have h8 : f = 0 ∨ f = 1 ∨ f = 2 ∨ f = 3 ∨ f = 4 ∨ f = 5 ∨ f = 6 ∨ f = 7 := by omega
  rcases h8 with rfl | rfl | rfl | rfl | rfl | rfl | rfl | rfl <;> exact ⟨rfl, rfl, rfl⟩
theorem wo_ge (a : AR) (f : Nat) (h : ¬ f < 8) : (woA a f).dA = none ∧ (woA a f).dn = 0 ∧ (woA a f).dk = 0 := by
  obtain ⟨k, rfl⟩ : ∃ k, f = k + 8 := ⟨f - 8, by omega⟩
  exact ⟨rfl, rfl, rfl⟩
theorem ps_sees {w : World} (d : List UInt8) : ∀ (l : List Nat) (p : AR × Bool), Sees w p.1.dA p.1.dn p.1.dk (bs d) → Sees w (psA p l).1.dA (psA p l).1.dn (psA p l).1.dk (bs (dlA d l))
  | [], p, h => by simpa [psA, dlA] using h
  | f :: l, p, h => by
    by_cases hf : f < 8
    · obtain ⟨e1, e2, e3⟩ := wo_lt p.1 f hf
      have := ps_sees d l (stA p f) (by simp only [stA, e1, e2, e3]; exact h)
      have e : dlA d (f :: l) = dlA d l := by simp [dlA, hf]
      rw [e]
      exact this
    · obtain ⟨e1, e2, e3⟩ := wo_ge p.1 f hf
      have := ps_sees [] l (stA p f) (by simp only [stA, e1, e2, e3]; exact Sees.nil w)
      have e : dlA d (f :: l) = [] := by simp [dlA, hf]
      have e' : dlA [] l = [] := by unfold dlA; split <;> rfl
      rw [e]
      rw [e'] at this
      exact this
theorem ps_pr : ∀ (l : List Nat) (p : AR × Bool), (psA p l).1.pr = p.1.pr
  | [], _ => rfl
  | f :: l, p => by
    have e : (woA p.1 f).pr = p.1.pr := by
      rcases f with _ | _ | _ | _ | _ | _ | _ | _ | f <;> rfl
    exact (ps_pr l (stA p f)).trans e
def psM (a : AR) : AR × Bool := psA (a, kn a.pr) (fl a.pr)
def mayA (a : AR) (d : List UInt8) : Bool := (psM a).2 && cEq (psM a).1 (AR.zero a.pr) (dlA d (fl a.pr)) []
theorem arg_info (a : AR) : (Try.prog.info? 26).map (·.size) = some a.cs.size := by
  rw [show a.cs.size = 12 from rfl]
  kernel_rfl
set_option maxRecDepth 20000 in
set_option maxHeartbeats 4000000 in
theorem cmay_any (a : AR) (d : List UInt8) (w : World) (hd : Sees w a.dA a.dn a.dk (bs d)) :
    Calls Try.prog 16 #[.agg a.cs] w fun e w' => e = .returned (.bool (mayA a d)) ∧ Ext w w' := by
  obtain ⟨w1, hw1⟩ : ∃ w1, w.alloc (.cells a.cs 26) = w1 := ⟨_, rfl⟩
  obtain ⟨ab, hab⟩ : ∃ ab, w.heap.size = ab := ⟨_, rfl⟩
  have e1 : Ext w w1 := by rw [← hw1]; exact (Ext.refl w).alloc _
  have hb : w1.heap[ab]? = some (.cells a.cs 26 (0, 0)) := by rw [← hw1, ← hab]; exact heap_alloc_new w _
  have x0 := cell_of_row w1 ab 0 _ _ _ hb
  simp [AR.cs] at x0
  have HB1 := Lib.hid hb
  have E1 := Lib.hid e1
  have HD0 := Lib.hid hd
  have HK := Lib.hid (known_any a.pr w1)
  have HIa := Lib.hid (arg_info a)
  clear hb e1 hd
  unfold mayA
  have HSE : Hid (∀ w', Sees w' a.dA a.dn a.dk (bs d) → Sees w' (psM a).1.dA (psM a).1.dn (psM a).1.dk (bs (dlA d (fl a.pr)))) := Lib.hid (fun w' h => ps_sees d (fl a.pr) (a, kn a.pr) h)
  have HPA : Hid (∀ fb lb w, FrC w fb lb (kn a.pr) (a.fc lb) → Calls Try.prog 29 #[.pointer (some ⟨fb, 0, none⟩)] w fun e w' => e = .returned (.tuple #[]) ∧ FrC w' fb lb (psM a).2 ((psM a).1.fc lb) ∧ On2 fb lb w w') := Lib.hid (fun fb lb w h => pass_any fb lb (kn a.pr) a w h)
  have HPP : Hid ((psM a).1.pr = a.pr) := Lib.hid (ps_pr _ _)
  generalize psM a = p at *
  generalize dlA d (fl a.pr) = dl at *
  generalize kn a.pr = g at *
  obtain ⟨pa, pg⟩ := p
  go_enter Try.func16, Try.ntmps16
  go_wp2_with fail
  refine HK.out.mono ?_
  rintro e w2 ⟨rfl, e2⟩
  obtain ⟨lb, hlb⟩ : ∃ lb, w2.heap.size = lb := ⟨_, rfl⟩
  obtain ⟨w3, hw3⟩ : ∃ w3, w2.alloc (.cells #[.bool g] 62) = w3 := ⟨_, rfl⟩
  have e3 : Ext w2 w3 := by rw [← hw3]; exact (Ext.refl w2).alloc _
  obtain ⟨fb, hfb⟩ : ∃ fb, w3.heap.size = fb := ⟨_, rfl⟩
  obtain ⟨w4, hw4⟩ : ∃ w4, w3.alloc (.cells #[.int .i64 a.pr, .int .i64 a.off, .int .i64 a.ct, .int .i64 a.sz, .int .i64 a.md, .int .i64 a.h1, .int .i64 a.h2, .int .i64 a.g1, .int .i64 a.g2, .string ⟨a.nm.toArray⟩, .string ⟨a.n2.toArray⟩, .slice a.dA a.dn a.dk, .iface 60 (.pointer (some ⟨lb, 0, none⟩))] 59) = w4 := ⟨_, rfl⟩
  have e4 : Ext w3 w4 := by rw [← hw4]; exact (Ext.refl w3).alloc _
  have h3 : w3.heap[lb]? = some (.cells #[.bool g] 62 (0, 0)) := by rw [← hw3, ← hlb]; exact heap_alloc_new w2 _
  have hl3 : lb < w3.heap.size := (Array.getElem?_eq_some_iff.1 h3).1
  have hfc : FrC w4 fb lb g (a.fc lb) := ⟨by rw [← hw4, ← hfb]; exact heap_alloc_new w3 _, e4.heap h3, by omega⟩
  have HFC := Lib.hid hfc
  have H29 := Lib.hid (HPA.out fb lb w4 hfc)
  have HB3 : Hid (w3.heap[ab]? = some (.cells #[.int .i64 a.pr, .int .i64 a.off, .int .i64 a.ct, .int .i64 a.sz, .int .i64 a.md, .int .i64 a.h1, .int .i64 a.h2, .int .i64 a.g1, .int .i64 a.g2, .string ⟨a.nm.toArray⟩, .string ⟨a.n2.toArray⟩, .slice a.dA a.dn a.dk] 26 (0, 0))) := Lib.hid (e3.heap (e2.heap HB1.out))
  have HIb : Hid ((Try.prog.info? 26).map (·.size) = some (#[.int .i64 a.pr, .int .i64 a.off, .int .i64 a.ct, .int .i64 a.sz, .int .i64 a.md, .int .i64 a.h1, .int .i64 a.h2, .int .i64 a.g1, .int .i64 a.g2, .string ⟨a.nm.toArray⟩, .string ⟨a.n2.toArray⟩, .slice a.dA a.dn a.dk] : Array Value).size) := HIa
  have E2 := Lib.hid ((E1.out.trans e2).trans (e3.trans e4))
  have hle : w.heap.size ≤ lb := by rw [← hlb]; exact (E1.out.trans e2).size
  have HLE := Lib.hid (show w.heap.size ≤ lb ∧ w.heap.size ≤ fb from ⟨hle, by omega⟩)
  have HB4 := Lib.hid (e4.heap HB3.out)
  have habl : ab < lb := by rw [← hlb]; exact Nat.lt_of_lt_of_le (Array.getElem?_eq_some_iff.1 HB1.out).1 e2.size
  have HAB := Lib.hid (show ¬ ab = fb ∧ ¬ ab = lb from ⟨by omega, by omega⟩)
  clear e2 e3 e4 h3 hl3 hfc HPA HK x0 hle habl
  go_wp2_with (first | (with_reducible refine wpList_load_row rfl 26 (.tmp 1) rfl ab rfl _ _ _ _ HB3.out Try.underlying26 rfl HIb.out ?_) | fail)
  refine H29.out.mono ?_
  rintro e w5 ⟨rfl, hfr, on⟩
  have eabs : w5.heap[ab]? = some (.cells #[.int .i64 a.pr, .int .i64 a.off, .int .i64 a.ct, .int .i64 a.sz, .int .i64 a.md, .int .i64 a.h1, .int .i64 a.h2, .int .i64 a.g1, .int .i64 a.g2, .string ⟨a.nm.toArray⟩, .string ⟨a.n2.toArray⟩, .slice a.dA a.dn a.dk] 26 (0, 0)) := (on.block ab (Array.getElem?_eq_some_iff.1 HB4.out).1 HAB.out.1 HAB.out.2).trans HB4.out
  have HFr := Lib.hid hfr
  have E5 : Hid (Ext w w5) := Lib.hid (on.ext E2.out HLE.out.2 HLE.out.1)
  have HD5 : Hid (∀ w', Ext w5 w' → Sees w' pa.dA pa.dn pa.dk (bs dl)) := Lib.hid (fun w' h => (HSE.out w5 (HD0.out.ext E5.out)).ext h)
  have y0 := cell_of_row w5 ab 0 _ _ _ eabs
  have l0 := cell_of_row w5 lb 0 _ _ _ hfr.2.1
  simp at y0 l0
  have HC : Hid (∀ w', Ext w5.drew w' → w'.cell? ⟨ab, 0, none⟩ = some (.int .i64 a.pr) ∧ w'.cell? ⟨lb, 0, none⟩ = some (.bool pg) ∧ w'.cell? ⟨fb, 0, none⟩ = some (.int .i64 pa.pr) ∧ w'.cell? ⟨fb, 1, none⟩ = some (.int .i64 pa.off) ∧ w'.cell? ⟨fb, 2, none⟩ = some (.int .i64 pa.ct) ∧ w'.cell? ⟨fb, 3, none⟩ = some (.int .i64 pa.sz) ∧ w'.cell? ⟨fb, 4, none⟩ = some (.int .i64 pa.md) ∧ w'.cell? ⟨fb, 5, none⟩ = some (.int .i64 pa.h1) ∧ w'.cell? ⟨fb, 6, none⟩ = some (.int .i64 pa.h2) ∧ w'.cell? ⟨fb, 7, none⟩ = some (.int .i64 pa.g1) ∧ w'.cell? ⟨fb, 8, none⟩ = some (.int .i64 pa.g2) ∧ w'.cell? ⟨fb, 9, none⟩ = some (.string ⟨pa.nm.toArray⟩) ∧ w'.cell? ⟨fb, 10, none⟩ = some (.string ⟨pa.n2.toArray⟩) ∧ w'.cell? ⟨fb, 11, none⟩ = some (.slice pa.dA pa.dn pa.dk)) := Lib.hid fun w' h => ⟨h.cell y0, h.cell l0, h.cell ((cell_of_row w5 fb 0 _ _ _ HFr.out.1).trans rfl), h.cell ((cell_of_row w5 fb 1 _ _ _ HFr.out.1).trans rfl), h.cell ((cell_of_row w5 fb 2 _ _ _ HFr.out.1).trans rfl), h.cell ((cell_of_row w5 fb 3 _ _ _ HFr.out.1).trans rfl), h.cell ((cell_of_row w5 fb 4 _ _ _ HFr.out.1).trans rfl), h.cell ((cell_of_row w5 fb 5 _ _ _ HFr.out.1).trans rfl), h.cell ((cell_of_row w5 fb 6 _ _ _ HFr.out.1).trans rfl), h.cell ((cell_of_row w5 fb 7 _ _ _ HFr.out.1).trans rfl), h.cell ((cell_of_row w5 fb 8 _ _ _ HFr.out.1).trans rfl), h.cell ((cell_of_row w5 fb 9 _ _ _ HFr.out.1).trans rfl), h.cell ((cell_of_row w5 fb 10 _ _ _ HFr.out.1).trans rfl), h.cell ((cell_of_row w5 fb 11 _ _ _ HFr.out.1).trans rfl)⟩
  clear hfr on eabs y0 l0
  go_wp2_with fail
  refine wp_region_pl (.free 0 (.free 1 (.free 2 (.free 3 (.free 4 (.free 5 (.free 6 (.free 7 (.free 8 (.free 9 (.free 10 (.free 11 (.one 12 (.free 13 (.free 14 .nil))))))))))))))) (by kernel_rfl) (by kernel_rfl) (by kernel_rfl) (by kernel_rfl) ?_
  refine pl_val (v := ?_) rfl rfl (fun w' hw' => ?_) ?_; rotate_left; (· skip; go_simp; try with_reducible rfl); simp only [Act.put, List.setIfInBounds_toArray, List.set_cons_zero, List.set_cons_succ]
  refine pl_val (v := ?_) rfl rfl (fun w' hw' => ?_) ?_; rotate_left; (· skip; go_simp; try with_reducible rfl); simp only [Act.put, List.setIfInBounds_toArray, List.set_cons_zero, List.set_cons_succ]
  refine pl_val (v := ?_) rfl rfl (fun w' hw' => ?_) ?_; rotate_left; (· skip; go_simp; try with_reducible rfl); simp only [Act.put, List.setIfInBounds_toArray, List.set_cons_zero, List.set_cons_succ]
  refine pl_val (v := ?_) rfl rfl (fun w' hw' => ?_) ?_; rotate_left; (· obtain ⟨q, q2, q3, q4, q5, q6, q7, q8, q9, q10, q11, q12, q13, q14⟩ := HC.out w' hw'; go_simp; try with_reducible rfl); simp only [Act.put, List.setIfInBounds_toArray, List.set_cons_zero, List.set_cons_succ]
  refine pl_val (v := ?_) rfl rfl (fun w' hw' => ?_) ?_; rotate_left; (· skip; go_simp; try with_reducible rfl); simp only [Act.put, List.setIfInBounds_toArray, List.set_cons_zero, List.set_cons_succ]
  cases pg
  · refine pl_skip rfl rfl ?_; simp only [Act.put, List.setIfInBounds_toArray, List.set_cons_zero, List.set_cons_succ]
    refine pl_skip rfl rfl ?_; simp only [Act.put, List.setIfInBounds_toArray, List.set_cons_zero, List.set_cons_succ]
    refine pl_skip rfl rfl ?_; simp only [Act.put, List.setIfInBounds_toArray, List.set_cons_zero, List.set_cons_succ]
    refine pl_skip rfl rfl ?_; simp only [Act.put, List.setIfInBounds_toArray, List.set_cons_zero, List.set_cons_succ]
    refine pl_skip rfl rfl ?_; simp only [Act.put, List.setIfInBounds_toArray, List.set_cons_zero, List.set_cons_succ]
    refine pl_skip rfl rfl ?_; simp only [Act.put, List.setIfInBounds_toArray, List.set_cons_zero, List.set_cons_succ]
    refine pl_skip rfl rfl ?_; simp only [Act.put, List.setIfInBounds_toArray, List.set_cons_zero, List.set_cons_succ]
    refine pl_skip1 rfl rfl ?_; simp only [Act.put, List.setIfInBounds_toArray, List.set_cons_zero, List.set_cons_succ]
    refine pl_val (v := ?_) rfl rfl (fun w' hw' => ?_) ?_; rotate_left; (· skip; go_simp; try with_reducible rfl); simp only [Act.put, List.setIfInBounds_toArray, List.set_cons_zero, List.set_cons_succ]
    refine pl_val (v := ?_) rfl rfl (fun w' hw' => ?_) ?_; rotate_left; (· skip; go_simp; try with_reducible rfl); simp only [Act.put, List.setIfInBounds_toArray, List.set_cons_zero, List.set_cons_succ]
    refine pl_done ?_
    go_wp2_with fail
    go_ret
    exact ⟨rfl, E5.out.drew⟩
  · refine pl_val (v := ?_) rfl rfl (fun w' hw' => ?_) ?_; rotate_left; (· skip; go_simp; try with_reducible rfl); simp only [Act.put, List.setIfInBounds_toArray, List.set_cons_zero, List.set_cons_succ]
    refine pl_val (v := ?_) rfl rfl (fun w' hw' => ?_) ?_; rotate_left; (· skip; go_simp; try with_reducible rfl); simp only [Act.put, List.setIfInBounds_toArray, List.set_cons_zero, List.set_cons_succ]
    refine pl_val (v := ?_) rfl rfl (fun w' hw' => ?_) ?_; rotate_left; (· skip; go_simp; try with_reducible rfl); simp only [Act.put, List.setIfInBounds_toArray, List.set_cons_zero, List.set_cons_succ]
    refine pl_val (v := ?_) rfl rfl (fun w' hw' => ?_) ?_; rotate_left; (· obtain ⟨q, q2, q3, q4, q5, q6, q7, q8, q9, q10, q11, q12, q13, q14⟩ := HC.out w' hw'; go_simp; try with_reducible rfl); simp only [Act.put, List.setIfInBounds_toArray, List.set_cons_zero, List.set_cons_succ]
    refine pl_val (v := ?_) rfl rfl (fun w' hw' => ?_) ?_; rotate_left; (· skip; go_simp; try with_reducible rfl); simp only [Act.put, List.setIfInBounds_toArray, List.set_cons_zero, List.set_cons_succ]
    refine pl_val (v := ?_) rfl rfl (fun w' hw' => ?_) ?_; rotate_left; (· obtain ⟨q, q2, q3, q4, q5, q6, q7, q8, q9, q10, q11, q12, q13, q14⟩ := HC.out w' hw'; go_simp; try with_reducible rfl); simp only [Act.put, List.setIfInBounds_toArray, List.set_cons_zero, List.set_cons_succ]
    refine pl_val (v := ?_) rfl rfl (fun w' hw' => ?_) ?_; rotate_left; (· skip; go_simp; try with_reducible rfl); simp only [Act.put, List.setIfInBounds_toArray, List.set_cons_zero, List.set_cons_succ]
    refine pl_call 23 #[.agg (AR.cs ⟨pa.pr, pa.off, pa.ct, pa.sz, pa.md, pa.h1, pa.h2, pa.g1, pa.g2, pa.nm, pa.n2, pa.dA, pa.dn, pa.dk⟩), .agg (AR.zero a.pr).cs] rfl rfl (by go_simp; simp [AR.cs, AR.zero]) ?_
    refine (csame_any pa (AR.zero a.pr) dl [] _ (HD5.out _ (Ext.refl _).drew) (Sees.nil _)).mono ?_
    rintro e w6 ⟨rfl, e6⟩
    refine ⟨_, rfl, e6, ?_⟩
    simp only [Act.put, List.setIfInBounds_toArray, List.set_cons_zero, List.set_cons_succ]
    refine pl_val (v := ?_) rfl rfl (fun w' hw' => ?_) ?_; rotate_left; (· skip; go_simp; try with_reducible rfl); simp only [Act.put, List.setIfInBounds_toArray, List.set_cons_zero, List.set_cons_succ]
    refine pl_val (v := ?_) rfl rfl (fun w' hw' => ?_) ?_; rotate_left; (· skip; go_simp; try with_reducible rfl); simp only [Act.put, List.setIfInBounds_toArray, List.set_cons_zero, List.set_cons_succ]
    refine pl_done ?_
    go_wp2_with fail
    go_ret
    exact ⟨rfl, E5.out.drew.trans e6⟩
end Go.Proofs.Ytpjigdfllbhknaa
