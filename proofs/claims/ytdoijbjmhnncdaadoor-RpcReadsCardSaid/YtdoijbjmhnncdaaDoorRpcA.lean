/-
  Layer 6: a message's bytes, on both sides.
-/
import Derived.Test.YtdoijbjmhnncdaaDoorXdrS
import Derived.Test.YtdoijbjmhnncdaaDoorMrk
namespace Go.Proofs.YtdoijbjmhnncdaaDoor
open Go Go.RowKit
set_option linter.unusedVariables false
set_option linter.unusedSimpArgs false
def numsB (zs : List Int) : List UInt8 := zs.flatMap be4
theorem numsB_len (zs : List Int) : (numsB zs).length = 4 * zs.length := by
  induction zs with
  | nil => rfl
  | cons a l ih =>
    have h : numsB (a :: l) = be4 a ++ numsB l := by simp [numsB]
    rw [h, List.length_append, ih, be4_length, List.length_cons]
    omega
theorem numsB_snoc (zs : List Int) (k : Nat) (x : Int) (hx : zs[k]? = some x) : numsB (zs.take (k + 1)) = numsB (zs.take k) ++ be4 x := by
  unfold numsB
  rw [List.take_add_one, hx]
  simp
def headZ (rep : Bool) (xid proc : Int) : List Int := if rep then [xid, 1, 0, proc] else [xid, 0, 2, 536870913, 1, proc]
def msgB (rep : Bool) (xid proc : Int) (body : List UInt8) : List UInt8 := numsB (headZ rep xid proc) ++ body
def U32s (zs : List Int) : Prop := ∀ x ∈ zs, 0 ≤ x ∧ x < 4294967296
theorem headZ_u32 {rep : Bool} {xid proc : Int} (h1 : 0 ≤ xid ∧ xid < 4294967296) (h2 : 0 ≤ proc ∧ proc < 4294967296) : U32s (headZ rep xid proc) := by
  intro x hx
  unfold headZ at hx
  cases rep <;> simp at hx <;> omega
/-- append(v, b...), v bytes of the call's own. -/
theorem own_bytesR {w : World} {base n m c : Nat} {v : Value} {A : Option Addr} {l r : List UInt8} (h : w.ownsRow base 5 1 v n (bs l)) (hs : Sees w A m c (bs r)) (hb : base ≤ w.heap.size) (hn : n + m ≤ 1000000) :
    ∃ A' c' w', (Builtin.append_ #[22, 22] 22 #[v, .slice A m c]).run Tryd.prog w = .ok (.slice A' (n + m) c') w' ∧ w'.ownsRow base 5 1 (.slice A' (n + m) c') (n + m) (bs (l ++ r)) ∧ Below base w w' := by
  obtain ⟨i0, hi, hz0, hz1, hz2⟩ := info_parts infoB
  obtain ⟨v', w', hrun, hown, hg, hat⟩ := run_append_sees (P := Tryd.prog) (w := w) base 22 22 5 i0 _ 1 Tryd.underlying22 hi hz0 hz1 hz2 rfl v n _ h
    A m c (bs r) hs (bs_one _) (by unfold maxLen; omega) (by omega) hb
  obtain ⟨A', c', rfl, _⟩ := Sees.of_own hown
  exact ⟨A', c', w', hrun, by rw [bs_append]; exact hown, Below.grown (Below.refl base w) hg hb fun k hk => (h.lt k hk).1⟩
theorem Ext.thenB {w a b : World} {base : Nat} (h : Ext w a) (k : Below base a b) (hb : w.heap.size ≤ base) : Ext w b := Below.trans h (Below.mono k hb)
theorem own_sh {w : World} {base : Nat} {v : Value} {n : Nat} {l : List UInt8} (h : w.ownsRow base 5 1 v n (bs l)) : ∃ A c, v = .slice A n c ∧ Sees w A n c (bs l) := Sees.of_own h
set_option maxRecDepth 20000 in
theorem numbers_own (base : Nat) (A : Option Addr) (n c : Nat) (l : List UInt8) (B : Option Addr) (m c2 : Nat) (zs : List Int) (w : World) (h : w.ownsRow base 5 1 (.slice A n c) n (bs l)) (hb : base ≤ w.heap.size) (hs : Sees w B m c2 (zs.map (Value.int .u32))) (hz : U32s zs) (hm : m ≤ 10) (hn : n ≤ 1000) :
    Calls Tryd.prog 33 #[.slice A n c, .slice B m c2] w fun e w' => ∃ v, e = .returned v ∧ w'.ownsRow base 5 1 v (n + 4 * m) (bs (l ++ numsB zs)) ∧ Ext w w' := by
  have hle := hs.le
  have hmx := hs.max
  have hlen := hs.len
  rw [List.length_map] at hlen
  unfold maxLen at hmx
  have H := Lib.hid hs
  have HO := Lib.hid h
  have HLEN := Lib.hid hlen
  have HZ := Lib.hid hz
  clear hs hlen h hz
  go_enter Tryd.func33, Tryd.ntmps33
  go_wp2_with fail
  go_loopw [0, 9] (fun bv iv wr => ∃ k : Nat, k ≤ m ∧ iv = .int .i64 (k : Int) ∧ wr.ownsRow base 5 1 bv (n + 4 * k) (bs (l ++ numsB (zs.take k))) ∧ Ext w wr) (fun _ iv _ => m - (intOf iv).toNat)
  case atStart => exact ⟨0, by omega, rfl, by simpa [numsB] using HO.out, Ext.refl _⟩
  case round =>
    obtain ⟨k, hk, rfl, hown, ext⟩ := hrel
    obtain ⟨Ab, cb, rfl, hsb⟩ := own_sh hown
    have HO1 := Lib.hid hown
    have EX := Lib.hid ext
    have HSB := Lib.hid hsb
    clear hown ext hsb
    by_cases hlt : k < m
    · obtain ⟨b, off, u, hA, hu, hc, _⟩ := (H.out.ext EX.out).at_ hlt
      subst hA
      obtain ⟨x, hx⟩ : ∃ x, zs[k]? = some x := ⟨zs[k]'(by rw [HLEN.out]; exact hlt), List.getElem?_eq_getElem _⟩
      have hu2 : u = .int .u32 x := by
        rw [List.getElem?_map, hx] at hu
        injection hu with hu
        exact hu.symm
      subst hu2
      obtain ⟨hx0, hx1⟩ := HZ.out x (List.mem_of_getElem? hx)
      have HX := Lib.hid hx
      clear hu hx
      go_wp2_with fail
      refine (xdr_u32 Ab (n + 4 * k) cb x _ wr HSB.out (by omega) hx0 hx1).mono ?_
      rintro e w1 ⟨v, rfl, hown1, e1⟩
      have HFIN : Hid (w1.ownsRow base 5 1 v (n + 4 * (k + 1)) (bs (l ++ numsB (zs.take (k + 1)))) ∧ Ext w w1) := Lib.hid ⟨by
        rw [numsB_snoc zs k x HX.out, ← List.append_assoc]
        exact own_mono hown1 (by have := EX.out.size; omega), EX.out.trans e1⟩
      obtain ⟨A1, c1, rfl, _⟩ := own_sh hown1
      clear hown1 e1 hc
      go_wp2_with fail
      go_roundw
      case rel => exact ⟨k + 1, by omega, by go_num, HFIN.out⟩
      case measure => simp [intOf]; omega
    · obtain rfl : k = m := by omega
      have HF := Lib.hid (show wr.ownsRow base 5 1 (.slice Ab (n + 4 * k) cb) (n + 4 * k) (bs (l ++ numsB zs)) from by
        have h1 := HO1.out
        rwa [List.take_of_length_le (by rw [HLEN.out]; exact Nat.le_refl _)] at h1)
      go_wp2
      go_ret
      exact ⟨_, rfl, HF.out, EX.out⟩
def WRes (w : World) (b : List UInt8) (e : Ending) (w' : World) : Prop := ∃ A n c, e = .returned (.slice A n c) ∧ w'.ownsRow w.heap.size 5 1 (.slice A n c) n (bs b) ∧ Ext w w'
set_option maxRecDepth 20000 in
theorem rwrite_any (rep : Bool) (xid proc : Int) (A : Option Addr) (n c : Nat) (body : List UInt8) (w : World) (h1 : 0 ≤ xid ∧ xid < 4294967296) (h2 : 0 ≤ proc ∧ proc < 4294967296) (hs : Sees w A n c (bs body)) (hn : n ≤ 1000) :
    Calls Tryd.prog 24 #[.agg #[.bool rep, .int .u32 xid, .int .u32 proc, .slice A n c]] w (WRes w (msgB rep xid proc body)) := by
  have HS := Lib.hid hs
  have H1 := Lib.hid h1
  have H2 := Lib.hid h2
  have hsl := hs.le
  have hsm := hs.max
  unfold maxLen at hsm
  clear hs h1 h2
  have hrow := heap_alloc_new w (.cells #[.bool rep, .int .u32 xid, .int .u32 proc, .slice A n c] 32)
  have e1 : Ext w (w.alloc (.cells #[.bool rep, .int .u32 xid, .int .u32 proc, .slice A n c] 32)) := (Ext.refl w).alloc _
  obtain ⟨w1, hw1⟩ : ∃ w1, w.alloc (.cells #[.bool rep, .int .u32 xid, .int .u32 proc, .slice A n c] 32) = w1 := ⟨_, rfl⟩
  rw [hw1] at hrow e1
  have x1 := cell_of_row w1 w.heap.size 1 _ _ _ hrow
  simp at x1
  have hsz := e1.size
  have HROW := Lib.hid hrow
  have E1 := Lib.hid e1
  clear hrow e1
  go_enter Tryd.func24, Tryd.ntmps24
  go_wp2_with fail
  refine (xdr_u32 none 0 0 xid [] w1 (by simpa [bs] using Sees.nil w1) (by omega) H1.out.1 H1.out.2).mono ?_
  rintro e w2 ⟨v, rfl, hown, e2⟩
  obtain ⟨A2, c2, rfl, _⟩ := own_sh hown
  have hrow2 := e2.heap HROW.out
  have y0 := cell_of_row w2 w.heap.size 0 _ _ _ hrow2
  have y2 := cell_of_row w2 w.heap.size 2 _ _ _ hrow2
  simp at y0 y2
  have E2 := Lib.hid (E1.out.trans e2)
  have HROW2 := Lib.hid hrow2
  have HO2 := Lib.hid hown
  have hsz2 := e2.size
  clear hown e2 hrow2 x1 hw1
  cases rep with
  | true =>
    have hs3 := sees_new w2 23 #[.int .u32 1, .int .u32 0, .int .u32 proc] (by simp [maxLen])
    have ea : Ext w2 (w2.alloc (.cells #[.int .u32 1, .int .u32 0, .int .u32 proc] 23)) := (Ext.refl w2).alloc _
    have HNM := Lib.hid (numbers_own w.heap.size A2 4 c2 (be4 xid) _ 3 3 [1, 0, proc] _ (own_ext (own_mono HO2.out (by omega)) ea) (by simp; omega) (by simpa using hs3) (by intro x hx; simp at hx; have := H2.out; omega) (by omega) (by omega))
    have EA := Lib.hid (E2.out.trans ea)
    clear hs3 ea
    go_wp2_with fail
    refine HNM.out.mono ?_
    rintro e w3 ⟨v3, rfl, hown3, e3⟩
    obtain ⟨A3, c3, rfl, _⟩ := own_sh hown3
    have hrow3 := (((Ext.refl w2).alloc (.cells #[.int .u32 1, .int .u32 0, .int .u32 proc] 23)).trans e3).heap HROW2.out
    have z3 := cell_of_row w3 w.heap.size 3 _ _ _ hrow3
    simp at z3
    have E3 := Lib.hid (EA.out.trans e3)
    obtain ⟨A4, c4, w4, hrun, hown4, hb4⟩ := own_bytesR hown3 (HS.out.ext E3.out) (by have := E3.out.size; omega) (by omega)
    have HF : Hid (WRes w (msgB true xid proc body) (.returned (.slice A4 (4 + 4 * 3 + n) c4)) w4) := Lib.hid ⟨A4, _, c4, rfl, by
      have e9 : msgB true xid proc body = be4 xid ++ numsB [1, 0, proc] ++ body := by simp [msgB, headZ, numsB]
      rw [e9]
      exact hown4, E3.out.thenB hb4 (Nat.le_refl _)⟩
    clear hown3 e3 hown4 hb4 hrow3 HNM y0 y2
    go_wp2_with (first | (at_builtin; refine wpList_append_run rfl (.tmp 19) (.tmp 21) _ rfl _ _ rfl rfl _ w4 hrun ?_) | fail)
    go_ret
    exact HF.out
  | false =>
    have hs3 := sees_new w2 23 #[.int .u32 0, .int .u32 2, .int .u32 536870913, .int .u32 1, .int .u32 proc] (by simp [maxLen])
    have ea : Ext w2 (w2.alloc (.cells #[.int .u32 0, .int .u32 2, .int .u32 536870913, .int .u32 1, .int .u32 proc] 23)) := (Ext.refl w2).alloc _
    have HNM := Lib.hid (numbers_own w.heap.size A2 4 c2 (be4 xid) _ 5 5 [0, 2, 536870913, 1, proc] _ (own_ext (own_mono HO2.out (by omega)) ea) (by simp; omega) (by simpa using hs3) (by intro x hx; simp at hx; have := H2.out; omega) (by omega) (by omega))
    have EA := Lib.hid (E2.out.trans ea)
    clear hs3 ea
    go_wp2_with fail
    refine HNM.out.mono ?_
    rintro e w3 ⟨v3, rfl, hown3, e3⟩
    obtain ⟨A3, c3, rfl, _⟩ := own_sh hown3
    have hrow3 := (((Ext.refl w2).alloc (.cells #[.int .u32 0, .int .u32 2, .int .u32 536870913, .int .u32 1, .int .u32 proc] 23)).trans e3).heap HROW2.out
    have z3 := cell_of_row w3 w.heap.size 3 _ _ _ hrow3
    simp at z3
    have E3 := Lib.hid (EA.out.trans e3)
    obtain ⟨A4, c4, w4, hrun, hown4, hb4⟩ := own_bytesR hown3 (HS.out.ext E3.out) (by have := E3.out.size; omega) (by omega)
    have HF : Hid (WRes w (msgB false xid proc body) (.returned (.slice A4 (4 + 4 * 5 + n) c4)) w4) := Lib.hid ⟨A4, _, c4, rfl, by
      have e9 : msgB false xid proc body = be4 xid ++ numsB [0, 2, 536870913, 1, proc] ++ body := by simp [msgB, headZ, numsB]
      rw [e9]
      exact hown4, E3.out.thenB hb4 (Nat.le_refl _)⟩
    clear hown3 e3 hown4 hb4 hrow3 HNM y0 y2
    go_wp2_with (first | (at_builtin; refine wpList_append_run rfl (.tmp 19) (.tmp 21) _ rfl _ _ rfl rfl _ w4 hrun ?_) | fail)
    go_ret
    exact HF.out
end Go.Proofs.YtdoijbjmhnncdaaDoor
