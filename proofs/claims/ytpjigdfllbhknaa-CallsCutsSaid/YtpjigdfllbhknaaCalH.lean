/-
  Layer 14: the document's example (Getattr) is written.
-/
import Derived.Test.YtpjigdfllbhknaaCalG
namespace Go.Proofs.Ytpjigdfllbhknaa
open Go Go.RowKit
set_option linter.unusedVariables false
set_option linter.unusedSimpArgs false
def AR.fl (a : AR) (lb : Nat) : Array Value := #[.int .i64 a.pr, .int .i64 a.off, .int .i64 a.ct, .int .i64 a.sz, .int .i64 a.md, .int .i64 a.h1, .int .i64 a.h2, .int .i64 a.g1, .int .i64 a.g2, .string ⟨a.nm.toArray⟩, .string ⟨a.n2.toArray⟩, .slice a.dA a.dn a.dk, .iface 52 (.pointer (some ⟨lb, 0, none⟩))]
theorem mY_handle (v : Value) (w : World) : (Go.method 226 52 v "truchman/calls.handle").run Try.prog w = .ok (75, v) w := by kernel_rfl
set_option maxRecDepth 20000 in
theorem fy_h (fb lb : Nat) (a : AR) (l : List UInt8) (w : World) (h : LaC w fb lb l (a.fl lb)) (hl : l.length ≤ 900000) (h0 : 0 ≤ a.h1) (h1 : a.h1 ≤ 4294967295) (k0 : 0 ≤ a.h2) (k1 : a.h2 ≤ 4294967295) :
    Calls Try.prog 42 #[.pointer (some ⟨fb, 0, none⟩)] w fun e w' => e = .returned (.tuple #[]) ∧ LaC w' fb lb (l ++ be4 a.h1 ++ be4 a.h2) (a.fl lb) ∧ On2 lb lb w w' := by
  have HC : Hid ((fun w' : World => w'.cell? ⟨fb, 12, none⟩ = some (.iface 52 (.pointer (some ⟨lb, 0, none⟩)))) w.drew) := Lib.hid ((cell_of_row w.drew fb 12 _ _ _ (show w.drew.heap[fb]? = _ from h.1)).trans rfl)
  have h9 := h.ext (Ext.refl w).drew
  have HK := Lib.hid (lay_handle fb lb 5 (a.fl lb) _ _ l _ h9 hl rfl rfl h0 h1 k0 k1)
  have mm := mY_handle
  clear h h9 hl h0 h1 k0 k1
  go_enter Try.func42, Try.ntmps42
  go_wp2_with fail
  refine wp_region_plS (fun w' : World => w'.cell? ⟨fb, 12, none⟩ = some (.iface 52 (.pointer (some ⟨lb, 0, none⟩)))) (.free 0 (.free 1 (.free 2 (.free 3 (.free 4 (.free 5 (.free 6 (.free 7 (.free 8 (.free 9 (.one 10 .nil))))))))))) (by kernel_rfl) (by kernel_rfl) (by kernel_rfl) (by kernel_rfl) ?_
  refine plS_val (v := ?_) rfl rfl HC.out (fun w' hw' => ?_) ?_; rotate_left; (· have q : w'.cell? ⟨fb, 12, none⟩ = some (.iface 52 (.pointer (some ⟨lb, 0, none⟩))) := hw'; go_simp; try with_reducible rfl); simp only [Act.put, List.setIfInBounds_toArray, List.set_cons_zero, List.set_cons_succ]
  refine plS_val (v := ?_) rfl rfl HC.out (fun w' hw' => ?_) ?_; rotate_left; (· have q : w'.cell? ⟨fb, 12, none⟩ = some (.iface 52 (.pointer (some ⟨lb, 0, none⟩))) := hw'; go_simp; try with_reducible rfl); simp only [Act.put, List.setIfInBounds_toArray, List.set_cons_zero, List.set_cons_succ]
  refine plS_val (v := ?_) rfl rfl HC.out (fun w' hw' => ?_) ?_; rotate_left; (· have q : w'.cell? ⟨fb, 12, none⟩ = some (.iface 52 (.pointer (some ⟨lb, 0, none⟩))) := hw'; go_simp; try with_reducible rfl); simp only [Act.put, List.setIfInBounds_toArray, List.set_cons_zero, List.set_cons_succ]
  refine plS_val (v := ?_) rfl rfl HC.out (fun w' hw' => ?_) ?_; rotate_left; (· have q : w'.cell? ⟨fb, 12, none⟩ = some (.iface 52 (.pointer (some ⟨lb, 0, none⟩))) := hw'; go_simp; try with_reducible rfl); simp only [Act.put, List.setIfInBounds_toArray, List.set_cons_zero, List.set_cons_succ]
  refine plS_val (v := ?_) rfl rfl HC.out (fun w' hw' => ?_) ?_; rotate_left; (· have q : w'.cell? ⟨fb, 12, none⟩ = some (.iface 52 (.pointer (some ⟨lb, 0, none⟩))) := hw'; go_simp; try with_reducible rfl); simp only [Act.put, List.setIfInBounds_toArray, List.set_cons_zero, List.set_cons_succ]
  refine plS_val (v := ?_) rfl rfl HC.out (fun w' hw' => ?_) ?_; rotate_left; (· have q : w'.cell? ⟨fb, 12, none⟩ = some (.iface 52 (.pointer (some ⟨lb, 0, none⟩))) := hw'; go_simp; try with_reducible rfl); simp only [Act.put, List.setIfInBounds_toArray, List.set_cons_zero, List.set_cons_succ]
  refine plS_val (v := ?_) rfl rfl HC.out (fun w' hw' => ?_) ?_; rotate_left; (· have q : w'.cell? ⟨fb, 12, none⟩ = some (.iface 52 (.pointer (some ⟨lb, 0, none⟩))) := hw'; go_simp; try with_reducible rfl); simp only [Act.put, List.setIfInBounds_toArray, List.set_cons_zero, List.set_cons_succ]
  refine plS_val (v := ?_) rfl rfl HC.out (fun w' hw' => ?_) ?_; rotate_left; (· have q : w'.cell? ⟨fb, 12, none⟩ = some (.iface 52 (.pointer (some ⟨lb, 0, none⟩))) := hw'; go_simp; try with_reducible rfl); simp only [Act.put, List.setIfInBounds_toArray, List.set_cons_zero, List.set_cons_succ]
  refine plS_val (v := ?_) rfl rfl HC.out (fun w' hw' => ?_) ?_; rotate_left; (· have q : w'.cell? ⟨fb, 12, none⟩ = some (.iface 52 (.pointer (some ⟨lb, 0, none⟩))) := hw'; go_simp; try with_reducible rfl); simp only [Act.put, List.setIfInBounds_toArray, List.set_cons_zero, List.set_cons_succ]
  refine plS_val (v := ?_) rfl rfl HC.out (fun w' hw' => ?_) ?_; rotate_left; (· have q : w'.cell? ⟨fb, 12, none⟩ = some (.iface 52 (.pointer (some ⟨lb, 0, none⟩))) := hw'; go_simp; try with_reducible rfl); simp only [Act.put, List.setIfInBounds_toArray, List.set_cons_zero, List.set_cons_succ]
  refine plS_call 75 #[.pointer (some ⟨lb, 0, none⟩), .pointer (some ⟨fb, 5, none⟩)] rfl rfl (by go_simp) ?_
  refine HK.out.mono ?_
  rintro e w1 ⟨rfl, h2, o2⟩
  refine ⟨_, rfl, (cell_of_row w1 fb 12 _ _ _ h2.1).trans rfl, ?_⟩
  simp only [Act.put, List.setIfInBounds_toArray, List.set_cons_zero, List.set_cons_succ]
  refine plS_done ?_
  go_wp2_with fail
  go_end0
  exact ⟨rfl, h2, (On2.of_ext (Ext.refl w).drew).trans o2⟩
set_option maxRecDepth 20000 in
set_option maxHeartbeats 4000000 in
theorem pass_get (fb lb : Nat) (a : AR) (w : World) (h : LaC w fb lb [] (a.fl lb)) (hp : a.pr = 1) (h0 : 0 ≤ a.h1) (h1 : a.h1 ≤ 4294967295) (k0 : 0 ≤ a.h2) (k1 : a.h2 ≤ 4294967295) :
    Calls Try.prog 29 #[.pointer (some ⟨fb, 0, none⟩)] w fun e w' => e = .returned (.tuple #[]) ∧ LaC w' fb lb (be4 a.h1 ++ be4 a.h2) (a.fl lb) ∧ On2 lb lb w w' := by
  have hfb : fb < w.heap.size := (Array.getElem?_eq_some_iff.1 h.1).1
  have hlb : lb < w.heap.size := by obtain ⟨_, _, _, _, _, h3, _⟩ := h; exact (Array.getElem?_eq_some_iff.1 h3).1
  have hmm := @run_makeMap Try.prog
  have hk := Try.underlying84
  have ht := Try.underlying85
  have hn : 10 < maxLen := by unfold maxLen; omega
  obtain ⟨mb, hmb⟩ : ∃ mb, w.heap.size = mb := ⟨_, rfl⟩
  have m0 := MapL.made Try.prog w 84 .i64
  have x0 : Ext w (w.alloc (.map #[] 0)) := (Ext.refl w).alloc _
  rw [hmb] at m0
  obtain ⟨w1, run1, m1, gr1⟩ := m0.put hk ht (by omega) 0 (.func (.func 42) #[.pointer (some ⟨fb, 0, none⟩)] #[]) rfl
  have x1 : Ext w w1 := x0.grown gr1 (fun k hk => by injection hk with hk; omega)
  obtain ⟨w2, run2, m2, gr2⟩ := m1.put hk ht (by omega) 1 (.func (.func 43) #[.pointer (some ⟨fb, 0, none⟩)] #[]) rfl
  have x2 : Ext w w2 := x1.grown gr2 (fun k hk => by injection hk with hk; omega)
  obtain ⟨w3, run3, m3, gr3⟩ := m2.put hk ht (by omega) 2 (.func (.func 44) #[.pointer (some ⟨fb, 0, none⟩)] #[]) rfl
  have x3 : Ext w w3 := x2.grown gr3 (fun k hk => by injection hk with hk; omega)
  obtain ⟨w4, run4, m4, gr4⟩ := m3.put hk ht (by omega) 3 (.func (.func 45) #[.pointer (some ⟨fb, 0, none⟩)] #[]) rfl
  have x4 : Ext w w4 := x3.grown gr4 (fun k hk => by injection hk with hk; omega)
  obtain ⟨w5, run5, m5, gr5⟩ := m4.put hk ht (by omega) 4 (.func (.func 46) #[.pointer (some ⟨fb, 0, none⟩)] #[]) rfl
  have x5 : Ext w w5 := x4.grown gr5 (fun k hk => by injection hk with hk; omega)
  obtain ⟨w6, run6, m6, gr6⟩ := m5.put hk ht (by omega) 5 (.func (.func 47) #[.pointer (some ⟨fb, 0, none⟩)] #[]) rfl
  have x6 : Ext w w6 := x5.grown gr6 (fun k hk => by injection hk with hk; omega)
  obtain ⟨w7, run7, m7, gr7⟩ := m6.put hk ht (by omega) 6 (.func (.func 48) #[.pointer (some ⟨fb, 0, none⟩)] #[]) rfl
  have x7 : Ext w w7 := x6.grown gr7 (fun k hk => by injection hk with hk; omega)
  obtain ⟨w8, run8, m8, gr8⟩ := m7.put hk ht (by omega) 7 (.func (.func 49) #[.pointer (some ⟨fb, 0, none⟩)] #[]) rfl
  have x8 : Ext w w8 := x7.grown gr8 (fun k hk => by injection hk with hk; omega)
  obtain ⟨w9, run9, m9, gr9⟩ := m8.put hk ht (by omega) 8 (.func (.func 50) #[.pointer (some ⟨fb, 0, none⟩)] #[]) rfl
  have x9 : Ext w w9 := x8.grown gr9 (fun k hk => by injection hk with hk; omega)
  have hL : MapL Try.prog w9 84 .i64 mb 9 (clos fb) := m9
  have HM := Lib.hid hL
  have HF9 := Lib.hid (h.ext x9)
  have X9 := Lib.hid x9
  have c0 := (cell_of_row w9 fb 0 _ _ _ (h.ext x9).1).trans (show _ = some (.int .i64 a.pr) from rfl)
  rw [hp] at c0
  have HFD := Lib.hid (fields_1 w9)
  clear h hL m0 m1 m2 m3 m4 m5 m6 m7 m8 m9 gr1 gr2 gr3 gr4 gr5 gr6 gr7 gr8 gr9 x0 x1 x2 x3 x4 x5 x6 x7 x8 x9
  go_enter Try.func29, Try.ntmps29
  go_wp2_with fail
  refine HFD.out.mono ?_
  rintro e w10 ⟨A, rfl, seeA, e10, hge⟩
  have SEEA := Lib.hid seeA
  have HGE := Lib.hid hge
  have HF10 := Lib.hid (HF9.out.ext e10)
  have HM10 := Lib.hid (HM.out.ext e10)
  have X10 := Lib.hid (X9.out.trans e10)
  clear seeA e10 hge c0 run1 run2 run3 run4 run5 run6 run7 run8 run9
  go_wp2_with fail
  go_loopw [32] (fun i wr => ∃ k : Nat, k ≤ 1 ∧ i = .int .i64 k ∧ LaC wr fb lb (if k = 0 then [] else be4 a.h1 ++ be4 a.h2) (a.fl lb) ∧ On2 lb lb w10 wr) (fun i _ => 1 - (intOf i).toNat)
  case atStart => exact ⟨0, by omega, rfl, HF10.out, On2.refl _ _ _⟩
  case round =>
    obtain ⟨k, hk', rfl, hfr, on⟩ := hrel
    have HFr := Lib.hid hfr
    have ON := Lib.hid on
    clear hfr on
    by_cases hkl : k < 1
    · obtain rfl : k = 0 := by omega
      obtain ⟨b, off, u, rfl, hu, hc, hbl⟩ := SEEA.out.at_ hkl
      have hcr' : wr.cell? ⟨b, off, none⟩ = some (.int .i64 0) := by
        have hlt : b < w10.heap.size := hbl
        have hge : w.heap.size ≤ b := Nat.le_trans X9.out.size (HGE.out _ rfl)
        have hu2 : u = .int .i64 0 := by simpa [fv] using hu.symm
        rw [World.cell?_of_block (ON.out.block b hlt (by omega) (by omega)), ← hu2]
        exact hc
      have hmr : MapL Try.prog wr 84 .i64 mb 9 (clos fb) := HM10.out.keep (ON.out.block mb HM10.out.lt (by omega) (by omega))
      have HL := Lib.hid (fun x hx => hmr.look1 (z := .nilFunc) hk ht (by kernel_rfl) x hx)
      have hlk : (Instr.lookup 85 (.map (some mb)) (.int .i64 0) false).run Try.prog wr = .ok (.func (.func 42) #[.pointer (some ⟨fb, 0, none⟩)] #[]) wr := HL.out 0 rfl
      clear hu hc hmr
      go_wp2_with fail
      refine (fy_h fb lb a [] _ HFr.out (by simp) h0 h1 k0 k1).mono ?_
      rintro e w11 ⟨rfl, hfr, on⟩
      have H11 := Lib.hid hfr
      have O11 := Lib.hid (ON.out.trans on)
      clear hfr on hlk hcr'
      go_wp2_with fail
      go_roundw
      case rel => exact ⟨1, by omega, rfl, by simpa using H11.out, O11.out⟩
      case measure => simp [intOf]
    · obtain rfl : k = 1 := by omega
      go_wp2_with fail
      go_end0
      exact ⟨rfl, by simpa using HFr.out, (On2.of_ext X10.out).trans ON.out⟩
end Go.Proofs.Ytpjigdfllbhknaa
