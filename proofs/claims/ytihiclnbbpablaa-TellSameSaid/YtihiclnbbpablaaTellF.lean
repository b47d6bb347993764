/-
  Layer 18: what is laid of all qids, of any field; a reply that is written.
-/
import Derived.Test.YtihiclnbbpablaaTellE
import Derived.ScopeJumps
namespace Go.Proofs.Ytihiclnbbpablaa
open Go Go.RowKit
set_option linter.unusedVariables false
set_option linter.unusedSimpArgs false
def qbs (l : List (Bool × Int × Int)) : List UInt8 := l.flatMap qb
theorem qbs_length : ∀ l : List (Bool × Int × Int), (qbs l).length = 13 * l.length
  | [] => rfl
  | q :: l => by
    have := qbs_length l
    simp only [qbs, List.flatMap_cons, List.length_append, qb_length] at this ⊢
    simp only [List.length_cons]
    omega
theorem qbs_take (l : List (Bool × Int × Int)) (k : Nat) (q : Bool × Int × Int) (h : l[k]? = some q) : qbs (l.take (k + 1)) = qbs (l.take k) ++ qb q := by
  rw [List.take_add_one, h]
  simp [qbs, List.flatMap_append]
theorem layqids_any (A : Option Addr) (n c : Nat) (l : List UInt8) (B : Option Addr) (m d : Nat) (ql : List (Bool × Int × Int)) (w : World) (hs : Sees w A n c (bs l)) (hn : n ≤ 800000) (hq : SeesQ w B m d ql) (hm : m ≤ 8) (hall : ql.all bq = true) :
    Calls Try.prog 60 #[.slice A n c, .slice B m d] w fun e w' => ∃ A' c', e = .returned (.slice A' (n + 2 + 13 * m) c') ∧ Sees w' A' (n + 2 + 13 * m) c' (bs (l ++ le 2 m ++ qbs ql)) ∧ Ext w w' := by
  have hmd := hq.2.2.1
  have hmx := hq.2.2.2.1
  have hql := hq.1
  unfold maxLen at hmx
  have HQ := Lib.hid hq
  have HA37 : Hid (∀ (k : Nat) q, ql[k]? = some q → bq q = true) := Lib.hid fun k q h => (List.all_eq_true.1 hall) q (List.mem_of_getElem? h)
  have HS := Lib.hid hs
  clear hq hall hs
  go_enter Try.func60, Try.ntmps60
  go_wp2_with fail
  refine wp_scope_jumps 0 (fun a' w' => Ext w w' ∧ ∃ (k ck : Nat) (Ak : Option Addr) (u6 u7 u8 u9 u10 u11 u12 u13 u14 u15 u16 u17 u18 u19 u20 u21 u22 u23 : Value), a' = { tmps := #[.slice Ak (n + 2 + 13 * k) ck, .slice B m d, undef, undef, .slice none 0 0, .int .i64 k, u6, u7, u8, u9, u10, u11, u12, u13, u14, u15, u16, u17, u18, u19, u20, u21, u22, u23], defers := [] } ∧ k ≤ m ∧ Sees w' Ak (n + 2 + 13 * k) ck (bs (l ++ le 2 m ++ qbs (ql.take k)))) (fun a' _ => m - (intOf (a'.tmps.getD 5 undef)).toNat) rfl ?_ ?_
  · go_wp2_with fail
    refine (lu_u16 A n c m l _ HS.out (by omega) (by omega)).mono ?_
    rintro e w1 ⟨v1, rfl, own1, e1⟩
    obtain ⟨A1, c1, rfl, see1⟩ := own_sees own1 rfl
    clear own1
    go_wp2_with fail
    go_step3
    by_cases hkn : 0 = m
    · subst hkn
      go_wp2_with fail
      simp only [Exit.jump]
      go_ret
      obtain rfl : ql = [] := List.eq_nil_of_length_eq_zero hql
      exact ⟨_, _, rfl, by simpa [qbs] using see1, e1⟩
    · obtain ⟨b, off, q, rfl, hq, c0, c1', c2, hb⟩ := HQ.out.at_ 0 (by omega)
      have x0 := e1.cell c0
      have x1 := e1.cell c1'
      have x2 := e1.cell c2
      have hb2 : b < w1.heap.size := by have := e1.size; omega
      clear c0 c1' c2 hb
      simp only [Nat.zero_mul, Nat.add_zero] at x0 x1 x2
      have HQk := Lib.hid hq
      clear hq
      go_wp2_with fail
      refine (lqid_any A1 _ c1 _ q w1 see1 (by omega) (HA37.out _ _ HQk.out)).mono ?_
      rintro e w2 ⟨A2, c2, rfl, see2, e2⟩
      have E2 := Lib.hid (e1.trans e2)
      have S2 := Lib.hid see2
      clear e2 e1 x0 x1 x2 see1 see2
      go_wp2_with fail
      go_step3
      refine ⟨rfl, E2.out, 1, c2, A2, _, _, _, _, _, _, _, _, _, _, _, _, _, _, _, _, _, _, rfl, by omega, ?_⟩
      rw [show (1 : Nat) = 0 + 1 from rfl, qbs_take _ _ _ HQk.out]
      simpa [qbs, List.append_assoc] using S2.out
  · rintro a' w' ⟨ext, k, ck, Ak, u6, u7, u8, u9, u10, u11, u12, u13, u14, u15, u16, u17, u18, u19, u20, u21, u22, u23, rfl, hk, seek⟩
    have SK := Lib.hid seek
    have EX := Lib.hid ext
    by_cases hkn : k = m
    · subst hkn
      clear seek ext
      go_wp2_with fail
      simp only [Exit.jump]
      go_ret
      have hs := SK.out
      rw [List.take_of_length_le (by omega)] at hs
      exact ⟨_, _, rfl, hs, EX.out⟩
    · obtain ⟨b, off, q, rfl, hq, c0, c1, c2, hb⟩ := HQ.out.at_ k (by omega)
      have x0 := ext.cell c0
      have x1 := ext.cell c1
      have x2 := ext.cell c2
      have hb2 : b < w'.heap.size := by have := ext.size; omega
      clear c0 c1 c2 hb seek ext
      have HQk := Lib.hid hq
      clear hq
      go_wp2_with fail
      refine (lqid_any Ak _ ck _ q w' SK.out (by omega) (HA37.out _ _ HQk.out)).mono ?_
      rintro e w2 ⟨A2, c2, rfl, see2, e2⟩
      have E2 := Lib.hid (EX.out.trans e2)
      have S2 := Lib.hid see2
      clear e2 x0 x1 x2 see2
      go_wp2_with fail
      go_step3
      refine ⟨rfl, ⟨E2.out, k + 1, c2, A2, _, _, _, _, _, _, _, _, _, _, _, _, _, _, _, _, _, _, rfl, by omega, ?_⟩, ?_⟩
      · rw [qbs_take _ _ _ HQk.out, ← List.append_assoc]
        exact S2.out
      · simp [intOf]
        omega
def ly (t : TL) : Nat → List UInt8
  | 0 => le 4 t.ms.toNat
  | 1 => le 2 t.nm.length ++ t.nm
  | 2 => qb t.q
  | 3 => le 2 t.cd.toNat
  | 4 => le 2 t.qn ++ qbs t.ql
  | 5 => le 4 t.io.toNat
  | 6 => le 4 t.dn ++ t.dl
  | 7 => le 4 t.ct.toNat
  | _ => sb t
theorem lay_0 (A : Option Addr) (n c : Nat) (l : List UInt8) (t : TL) (w : World) (hs : Sees w A n c (bs l)) (hn : n ≤ 700000) (ht : t.Ok w) (hb0 : bnd t 0 = true) :
    Calls Try.prog 37 #[.slice A n c, .agg t.cs, .int .i64 0] w fun e w' => ∃ A' c', e = .returned (.slice A' (n + (ly t 0).length) c') ∧ Sees w' A' (n + (ly t 0).length) c' (bs (l ++ ly t 0)) ∧ Ext w w' := by
  simp only [bnd, Bool.and_eq_true, decide_eq_true_eq] at hb0
  obtain ⟨w1, hw1⟩ : ∃ w1, w.alloc (.cells t.cs 29) = w1 := ⟨_, rfl⟩
  have e1 : Ext w w1 := by rw [← hw1]; exact (Ext.refl w).alloc _
  have hb : w1.heap[w.heap.size]? = some (.cells t.cs 29 (0, 0)) := by rw [← hw1]; exact heap_alloc_new w _
  have x3 := cell_of_row w1 w.heap.size 3 _ _ _ hb
  simp [TL.cs] at x3
  have E1 := Lib.hid e1
  have HS := Lib.hid (hs.ext e1)
  have HT := Lib.hid (ht.ext e1)
  clear hb e1 hs ht
  obtain ⟨v1, v2, v3⟩ := bi_nat hb0
  have HV : Hid (IntKind.u32.wrap t.ms = ((t.ms.toNat : Nat) : Int)) := Lib.hid (by show t.ms % 4294967296 = _; omega)
  have HB : Hid (t.ms.toNat < 4294967296) := Lib.hid (by omega)
  clear v1 v2 v3 hb0
  go_enter Try.func37, Try.ntmps37
  go_wp2_with fail
  first | rw [HV.out] | rw [show t.ms % 4294967296 = _ from HV.out]
  refine (lu_u32 A n c t.ms.toNat l _ HS.out (by omega) HB.out).mono ?_
  rintro e w2 ⟨u2, rfl, own2, e2⟩
  obtain ⟨A2, c2, rfl, see2⟩ := own_sees own2 (show n + 4 = n + (ly t 0).length from by simp [ly, le_length])
  clear own2
  go_wp2_with fail
  go_ret
  exact ⟨_, _, rfl, by simpa [ly, List.append_assoc] using see2, E1.out.trans e2⟩
theorem lay_1 (A : Option Addr) (n c : Nat) (l : List UInt8) (t : TL) (w : World) (hs : Sees w A n c (bs l)) (hn : n ≤ 700000) (ht : t.Ok w) (hb0 : bnd t 1 = true) :
    Calls Try.prog 37 #[.slice A n c, .agg t.cs, .int .i64 1] w fun e w' => ∃ A' c', e = .returned (.slice A' (n + (ly t 1).length) c') ∧ Sees w' A' (n + (ly t 1).length) c' (bs (l ++ ly t 1)) ∧ Ext w w' := by
  simp only [bnd, Bool.and_eq_true, decide_eq_true_eq] at hb0
  obtain ⟨w1, hw1⟩ : ∃ w1, w.alloc (.cells t.cs 29) = w1 := ⟨_, rfl⟩
  have e1 : Ext w w1 := by rw [← hw1]; exact (Ext.refl w).alloc _
  have hb : w1.heap[w.heap.size]? = some (.cells t.cs 29 (0, 0)) := by rw [← hw1]; exact heap_alloc_new w _
  have x6 := cell_of_row w1 w.heap.size 6 _ _ _ hb
  simp [TL.cs] at x6
  have E1 := Lib.hid e1
  have HS := Lib.hid (hs.ext e1)
  have HT := Lib.hid (ht.ext e1)
  clear hb e1 hs ht
  go_enter Try.func37, Try.ntmps37
  go_wp2_with fail
  refine (ltext_any A n c l t.nm _ HS.out (by omega) (by omega)).mono ?_
  rintro e w2 ⟨u2, rfl, own2, e2⟩
  obtain ⟨A2, c2, rfl, see2⟩ := own_sees own2 (show n + 2 + t.nm.length = n + (ly t 1).length from by simp [ly, le_length]; omega)
  clear own2
  go_wp2_with fail
  go_ret
  exact ⟨_, _, rfl, by simpa [ly, List.append_assoc] using see2, E1.out.trans e2⟩
theorem lay_2 (A : Option Addr) (n c : Nat) (l : List UInt8) (t : TL) (w : World) (hs : Sees w A n c (bs l)) (hn : n ≤ 700000) (ht : t.Ok w) (hb0 : bnd t 2 = true) :
    Calls Try.prog 37 #[.slice A n c, .agg t.cs, .int .i64 2] w fun e w' => ∃ A' c', e = .returned (.slice A' (n + (ly t 2).length) c') ∧ Sees w' A' (n + (ly t 2).length) c' (bs (l ++ ly t 2)) ∧ Ext w w' := by
  simp only [bnd, Bool.and_eq_true, decide_eq_true_eq] at hb0
  obtain ⟨w1, hw1⟩ : ∃ w1, w.alloc (.cells t.cs 29) = w1 := ⟨_, rfl⟩
  have e1 : Ext w w1 := by rw [← hw1]; exact (Ext.refl w).alloc _
  have hb : w1.heap[w.heap.size]? = some (.cells t.cs 29 (0, 0)) := by rw [← hw1]; exact heap_alloc_new w _
  have x7 := cell_of_row w1 w.heap.size 7 _ _ _ hb
  have x8 := cell_of_row w1 w.heap.size 8 _ _ _ hb
  have x9 := cell_of_row w1 w.heap.size 9 _ _ _ hb
  simp [TL.cs] at x7 x8 x9
  have E1 := Lib.hid e1
  have HS := Lib.hid (hs.ext e1)
  have HT := Lib.hid (ht.ext e1)
  clear hb e1 hs ht
  go_enter Try.func37, Try.ntmps37
  go_wp2_with fail
  refine (lqid_any A n c l t.q _ HS.out (by omega) hb0).mono ?_
  rw [show n + 13 = n + (ly t 2).length from by simp [ly, qb_length]]
  rintro e w2 ⟨A2, c2, rfl, see2, e2⟩
  go_wp2_with fail
  go_ret
  exact ⟨_, _, rfl, see2, E1.out.trans e2⟩
theorem lay_3 (A : Option Addr) (n c : Nat) (l : List UInt8) (t : TL) (w : World) (hs : Sees w A n c (bs l)) (hn : n ≤ 700000) (ht : t.Ok w) (hb0 : bnd t 3 = true) :
    Calls Try.prog 37 #[.slice A n c, .agg t.cs, .int .i64 3] w fun e w' => ∃ A' c', e = .returned (.slice A' (n + (ly t 3).length) c') ∧ Sees w' A' (n + (ly t 3).length) c' (bs (l ++ ly t 3)) ∧ Ext w w' := by
  simp only [bnd, Bool.and_eq_true, decide_eq_true_eq] at hb0
  obtain ⟨w1, hw1⟩ : ∃ w1, w.alloc (.cells t.cs 29) = w1 := ⟨_, rfl⟩
  have e1 : Ext w w1 := by rw [← hw1]; exact (Ext.refl w).alloc _
  have hb : w1.heap[w.heap.size]? = some (.cells t.cs 29 (0, 0)) := by rw [← hw1]; exact heap_alloc_new w _
  have x2 := cell_of_row w1 w.heap.size 2 _ _ _ hb
  simp [TL.cs] at x2
  have E1 := Lib.hid e1
  have HS := Lib.hid (hs.ext e1)
  have HT := Lib.hid (ht.ext e1)
  clear hb e1 hs ht
  obtain ⟨v1, v2, v3⟩ := bi_nat hb0
  have HV : Hid (IntKind.u16.wrap t.cd = ((t.cd.toNat : Nat) : Int)) := Lib.hid (by show t.cd % 65536 = _; omega)
  have HB : Hid (t.cd.toNat < 65536) := Lib.hid (by omega)
  clear v1 v2 v3 hb0
  go_enter Try.func37, Try.ntmps37
  go_wp2_with fail
  first | rw [HV.out] | rw [show t.cd % 65536 = _ from HV.out]
  refine (lu_u16 A n c t.cd.toNat l _ HS.out (by omega) HB.out).mono ?_
  rintro e w2 ⟨u2, rfl, own2, e2⟩
  obtain ⟨A2, c2, rfl, see2⟩ := own_sees own2 (show n + 2 = n + (ly t 3).length from by simp [ly, le_length])
  clear own2
  go_wp2_with fail
  go_ret
  exact ⟨_, _, rfl, by simpa [ly, List.append_assoc] using see2, E1.out.trans e2⟩
theorem lay_4 (A : Option Addr) (n c : Nat) (l : List UInt8) (t : TL) (w : World) (hs : Sees w A n c (bs l)) (hn : n ≤ 700000) (ht : t.Ok w) (hb0 : bnd t 4 = true) :
    Calls Try.prog 37 #[.slice A n c, .agg t.cs, .int .i64 4] w fun e w' => ∃ A' c', e = .returned (.slice A' (n + (ly t 4).length) c') ∧ Sees w' A' (n + (ly t 4).length) c' (bs (l ++ ly t 4)) ∧ Ext w w' := by
  simp only [bnd, Bool.and_eq_true, decide_eq_true_eq] at hb0
  obtain ⟨w1, hw1⟩ : ∃ w1, w.alloc (.cells t.cs 29) = w1 := ⟨_, rfl⟩
  have e1 : Ext w w1 := by rw [← hw1]; exact (Ext.refl w).alloc _
  have hb : w1.heap[w.heap.size]? = some (.cells t.cs 29 (0, 0)) := by rw [← hw1]; exact heap_alloc_new w _
  have x10 := cell_of_row w1 w.heap.size 10 _ _ _ hb
  simp [TL.cs] at x10
  have E1 := Lib.hid e1
  have HS := Lib.hid (hs.ext e1)
  have HT := Lib.hid (ht.ext e1)
  clear hb e1 hs ht
  go_enter Try.func37, Try.ntmps37
  go_wp2_with fail
  refine (layqids_any A n c l t.qA t.qn t.qk t.ql _ HS.out (by omega) HT.out.1 (by omega) hb0.2).mono ?_
  rw [show n + 2 + 13 * t.qn = n + (ly t 4).length from by simp [ly, le_length, qbs_length, HT.out.1.1]; omega]
  rintro e w2 ⟨A2, c2, rfl, see2, e2⟩
  go_wp2_with fail
  go_ret
  exact ⟨_, _, rfl, by simpa [ly, List.append_assoc] using see2, E1.out.trans e2⟩
theorem lay_5 (A : Option Addr) (n c : Nat) (l : List UInt8) (t : TL) (w : World) (hs : Sees w A n c (bs l)) (hn : n ≤ 700000) (ht : t.Ok w) (hb0 : bnd t 5 = true) :
    Calls Try.prog 37 #[.slice A n c, .agg t.cs, .int .i64 5] w fun e w' => ∃ A' c', e = .returned (.slice A' (n + (ly t 5).length) c') ∧ Sees w' A' (n + (ly t 5).length) c' (bs (l ++ ly t 5)) ∧ Ext w w' := by
  simp only [bnd, Bool.and_eq_true, decide_eq_true_eq] at hb0
  obtain ⟨w1, hw1⟩ : ∃ w1, w.alloc (.cells t.cs 29) = w1 := ⟨_, rfl⟩
  have e1 : Ext w w1 := by rw [← hw1]; exact (Ext.refl w).alloc _
  have hb : w1.heap[w.heap.size]? = some (.cells t.cs 29 (0, 0)) := by rw [← hw1]; exact heap_alloc_new w _
  have x4 := cell_of_row w1 w.heap.size 4 _ _ _ hb
  simp [TL.cs] at x4
  have E1 := Lib.hid e1
  have HS := Lib.hid (hs.ext e1)
  have HT := Lib.hid (ht.ext e1)
  clear hb e1 hs ht
  obtain ⟨v1, v2, v3⟩ := bi_nat hb0
  have HV : Hid (IntKind.u32.wrap t.io = ((t.io.toNat : Nat) : Int)) := Lib.hid (by show t.io % 4294967296 = _; omega)
  have HB : Hid (t.io.toNat < 4294967296) := Lib.hid (by omega)
  clear v1 v2 v3 hb0
  go_enter Try.func37, Try.ntmps37
  go_wp2_with fail
  first | rw [HV.out] | rw [show t.io % 4294967296 = _ from HV.out]
  refine (lu_u32 A n c t.io.toNat l _ HS.out (by omega) HB.out).mono ?_
  rintro e w2 ⟨u2, rfl, own2, e2⟩
  obtain ⟨A2, c2, rfl, see2⟩ := own_sees own2 (show n + 4 = n + (ly t 5).length from by simp [ly, le_length])
  clear own2
  go_wp2_with fail
  go_ret
  exact ⟨_, _, rfl, by simpa [ly, List.append_assoc] using see2, E1.out.trans e2⟩
theorem lay_6 (A : Option Addr) (n c : Nat) (l : List UInt8) (t : TL) (w : World) (hs : Sees w A n c (bs l)) (hn : n ≤ 700000) (ht : t.Ok w) (hb0 : bnd t 6 = true) :
    Calls Try.prog 37 #[.slice A n c, .agg t.cs, .int .i64 6] w fun e w' => ∃ A' c', e = .returned (.slice A' (n + (ly t 6).length) c') ∧ Sees w' A' (n + (ly t 6).length) c' (bs (l ++ ly t 6)) ∧ Ext w w' := by
  simp only [bnd, Bool.and_eq_true, decide_eq_true_eq] at hb0
  obtain ⟨w1, hw1⟩ : ∃ w1, w.alloc (.cells t.cs 29) = w1 := ⟨_, rfl⟩
  have e1 : Ext w w1 := by rw [← hw1]; exact (Ext.refl w).alloc _
  have hb : w1.heap[w.heap.size]? = some (.cells t.cs 29 (0, 0)) := by rw [← hw1]; exact heap_alloc_new w _
  have x11 := cell_of_row w1 w.heap.size 11 _ _ _ hb
  simp [TL.cs] at x11
  have E1 := Lib.hid e1
  have HS := Lib.hid (hs.ext e1)
  have HT := Lib.hid (ht.ext e1)
  clear hb e1 hs ht
  have hdl := HT.out.2.len
  rw [bs_length] at hdl
  go_enter Try.func37, Try.ntmps37
  go_wp2_with fail
  refine (ldata_any A n c t.dA t.dn t.dk l t.dl _ HS.out HT.out.2 (by omega) (by omega)).mono ?_
  rintro e w2 ⟨u2, rfl, own2, e2⟩
  obtain ⟨A2, c2, rfl, see2⟩ := own_sees own2 (show n + 4 + t.dn = n + (ly t 6).length from by simp [ly, le_length]; omega)
  clear own2
  go_wp2_with fail
  go_ret
  exact ⟨_, _, rfl, by simpa [ly, List.append_assoc] using see2, E1.out.trans e2⟩
theorem lay_7 (A : Option Addr) (n c : Nat) (l : List UInt8) (t : TL) (w : World) (hs : Sees w A n c (bs l)) (hn : n ≤ 700000) (ht : t.Ok w) (hb0 : bnd t 7 = true) :
    Calls Try.prog 37 #[.slice A n c, .agg t.cs, .int .i64 7] w fun e w' => ∃ A' c', e = .returned (.slice A' (n + (ly t 7).length) c') ∧ Sees w' A' (n + (ly t 7).length) c' (bs (l ++ ly t 7)) ∧ Ext w w' := by
  simp only [bnd, Bool.and_eq_true, decide_eq_true_eq] at hb0
  obtain ⟨w1, hw1⟩ : ∃ w1, w.alloc (.cells t.cs 29) = w1 := ⟨_, rfl⟩
  have e1 : Ext w w1 := by rw [← hw1]; exact (Ext.refl w).alloc _
  have hb : w1.heap[w.heap.size]? = some (.cells t.cs 29 (0, 0)) := by rw [← hw1]; exact heap_alloc_new w _
  have x5 := cell_of_row w1 w.heap.size 5 _ _ _ hb
  simp [TL.cs] at x5
  have E1 := Lib.hid e1
  have HS := Lib.hid (hs.ext e1)
  have HT := Lib.hid (ht.ext e1)
  clear hb e1 hs ht
  obtain ⟨v1, v2, v3⟩ := bi_nat hb0
  have HV : Hid (IntKind.u32.wrap t.ct = ((t.ct.toNat : Nat) : Int)) := Lib.hid (by show t.ct % 4294967296 = _; omega)
  have HB : Hid (t.ct.toNat < 4294967296) := Lib.hid (by omega)
  clear v1 v2 v3 hb0
  go_enter Try.func37, Try.ntmps37
  go_wp2_with fail
  first | rw [HV.out] | rw [show t.ct % 4294967296 = _ from HV.out]
  refine (lu_u32 A n c t.ct.toNat l _ HS.out (by omega) HB.out).mono ?_
  rintro e w2 ⟨u2, rfl, own2, e2⟩
  obtain ⟨A2, c2, rfl, see2⟩ := own_sees own2 (show n + 4 = n + (ly t 7).length from by simp [ly, le_length])
  clear own2
  go_wp2_with fail
  go_ret
  exact ⟨_, _, rfl, by simpa [ly, List.append_assoc] using see2, E1.out.trans e2⟩
theorem lay_8 (A : Option Addr) (n c : Nat) (l : List UInt8) (t : TL) (w : World) (hs : Sees w A n c (bs l)) (hn : n ≤ 700000) (ht : t.Ok w) (hb0 : bnd t 8 = true) :
    Calls Try.prog 37 #[.slice A n c, .agg t.cs, .int .i64 8] w fun e w' => ∃ A' c', e = .returned (.slice A' (n + (ly t 8).length) c') ∧ Sees w' A' (n + (ly t 8).length) c' (bs (l ++ ly t 8)) ∧ Ext w w' := by
  simp only [bnd, Bool.and_eq_true, decide_eq_true_eq] at hb0
  obtain ⟨w1, hw1⟩ : ∃ w1, w.alloc (.cells t.cs 29) = w1 := ⟨_, rfl⟩
  have e1 : Ext w w1 := by rw [← hw1]; exact (Ext.refl w).alloc _
  have hb : w1.heap[w.heap.size]? = some (.cells t.cs 29 (0, 0)) := by rw [← hw1]; exact heap_alloc_new w _
  have x12 := cell_of_row w1 w.heap.size 12 _ _ _ hb
  have x13 := cell_of_row w1 w.heap.size 13 _ _ _ hb
  have x14 := cell_of_row w1 w.heap.size 14 _ _ _ hb
  have x15 := cell_of_row w1 w.heap.size 15 _ _ _ hb
  have x16 := cell_of_row w1 w.heap.size 16 _ _ _ hb
  have x17 := cell_of_row w1 w.heap.size 17 _ _ _ hb
  simp [TL.cs] at x12 x13 x14 x15 x16 x17
  have E1 := Lib.hid e1
  have HS := Lib.hid (hs.ext e1)
  have HT := Lib.hid (ht.ext e1)
  clear hb e1 hs ht
  go_enter Try.func37, Try.ntmps37
  go_wp2_with fail
  refine (lstat_any A n c l t _ HS.out (by omega) hb0).mono ?_
  rintro e w2 ⟨A2, c2, rfl, see2, e2⟩
  go_wp2_with fail
  go_ret
  exact ⟨_, _, rfl, see2, E1.out.trans e2⟩
theorem lay_any (A : Option Addr) (n c : Nat) (l : List UInt8) (t : TL) (f : Nat) (hf : f ≤ 8) (w : World) (hs : Sees w A n c (bs l)) (hn : n ≤ 700000) (ht : t.Ok w) (hb0 : bnd t f = true) :
    Calls Try.prog 37 #[.slice A n c, .agg t.cs, .int .i64 ((f : Nat) : Int)] w fun e w' => ∃ A' c', e = .returned (.slice A' (n + (ly t f).length) c') ∧ Sees w' A' (n + (ly t f).length) c' (bs (l ++ ly t f)) ∧ Ext w w' := by
  match f, hf with
  | 0, _ => exact lay_0 A n c l t w hs hn ht hb0
  | 1, _ => exact lay_1 A n c l t w hs hn ht hb0
  | 2, _ => exact lay_2 A n c l t w hs hn ht hb0
  | 3, _ => exact lay_3 A n c l t w hs hn ht hb0
  | 4, _ => exact lay_4 A n c l t w hs hn ht hb0
  | 5, _ => exact lay_5 A n c l t w hs hn ht hb0
  | 6, _ => exact lay_6 A n c l t w hs hn ht hb0
  | 7, _ => exact lay_7 A n c l t w hs hn ht hb0
  | 8, _ => exact lay_8 A n c l t w hs hn ht hb0
end Go.Proofs.Ytihiclnbbpablaa
