/-
  Layer 6: the document's bytes of a message.
-/
import Derived.Test.YtdoijbjmhnncdaaDoorRpcB
namespace Go.Proofs.YtdoijbjmhnncdaaDoor
open Go Go.RowKit
set_option linter.unusedVariables false
set_option linter.unusedSimpArgs false
set_option maxRecDepth 20000 in
set_option maxHeartbeats 1000000 in
theorem rbytes_any (rep : Bool) (xid proc : Int) (body : List UInt8) (w : World) (h1 : 0 ≤ xid ∧ xid < 4294967296) (h2 : 0 ≤ proc ∧ proc < 4294967296) (hn : body.length ≤ 1000) :
    Calls Tryd.prog 7 #[.agg #[.bool rep, .int .u32 xid, .int .u32 proc, .string ⟨body.toArray⟩]] w (WRes w (msgB rep xid proc body)) := by
  have HZ := Lib.hid (headZ_u32 (rep := rep) h1 h2)
  clear h1 h2
  obtain ⟨w1, hw1⟩ : ∃ w1, w.alloc (.cells #[.bool rep, .int .u32 xid, .int .u32 proc, .string ⟨body.toArray⟩] 25) = w1 := ⟨_, rfl⟩
  have e1 : Ext w w1 := by rw [← hw1]; exact (Ext.refl w).alloc _
  have hb1 : w1.heap[w.heap.size]? = some (.cells #[.bool rep, .int .u32 xid, .int .u32 proc, .string ⟨body.toArray⟩] 25 (0, 0)) := by rw [← hw1]; exact heap_alloc_new w _
  obtain ⟨w2, hw2⟩ : ∃ w2, w1.alloc (.cells #[.int .u32 xid, .int .u32 0, .int .u32 2, .int .u32 536870913, .int .u32 1, .int .u32 proc] 23) = w2 := ⟨_, rfl⟩
  have e2 : Ext w1 w2 := by rw [← hw2]; exact (Ext.refl w1).alloc _
  have hs2 : Sees w2 (some ⟨w1.heap.size, 0, none⟩) 6 6 (#[.int .u32 xid, .int .u32 0, .int .u32 2, .int .u32 536870913, .int .u32 1, .int .u32 proc] : Array Value).toList := by
    rw [← hw2]
    exact sees_new w1 23 #[.int .u32 xid, .int .u32 0, .int .u32 2, .int .u32 536870913, .int .u32 1, .int .u32 proc] (by simp [maxLen])
  have hsz1 : w1.heap.size = w.heap.size + 1 := by rw [← hw1]; simp
  have hbx := e2.heap hb1
  have x1 := cell_of_row w1 w.heap.size 1 _ _ _ hb1
  have x2 := cell_of_row w1 w.heap.size 2 _ _ _ hb1
  have y0 := cell_of_row w2 w.heap.size 0 _ _ _ hbx
  have y1 := cell_of_row w2 w.heap.size 1 _ _ _ hbx
  have y2 := cell_of_row w2 w.heap.size 2 _ _ _ hbx
  simp at x1 x2 y0 y1 y2
  have HBX := Lib.hid hbx
  have E2 := Lib.hid (e1.trans e2)
  have HSZ1 := Lib.hid hsz1
  have HS2 := Lib.hid hs2
  clear hb1 hbx e1 e2 hs2 hsz1
  -- behind the numbers
  have key : ∀ (w3 : World) (B : Option Addr) (m c2 : Nat), Ext w2 w3 → Sees w3 B m c2 ((headZ rep xid proc).map (Value.int .u32)) → m ≤ 6 → True := fun _ _ _ _ _ _ _ => trivial
  clear key
  go_enter Tryd.func7, Tryd.ntmps7
  cases rep with
  | true =>
    obtain ⟨w3, hw3⟩ : ∃ w3, w2.alloc (.cells #[.int .u32 xid, .int .u32 1, .int .u32 0, .int .u32 proc] 23) = w3 := ⟨_, rfl⟩
    have e3 : Ext w2 w3 := by rw [← hw3]; exact (Ext.refl w2).alloc _
    have hs3 : Sees w3 (some ⟨w2.heap.size, 0, none⟩) 4 4 ((headZ true xid proc).map (Value.int .u32)) := by
      rw [← hw3]
      exact sees_new w2 23 #[.int .u32 xid, .int .u32 1, .int .u32 0, .int .u32 proc] (by simp [maxLen])
    have HB3 := Lib.hid (e3.heap HBX.out)
    have E3 := Lib.hid (E2.out.trans e3)
    have HS3 := Lib.hid hs3
    clear e3 hs3
    go_wp2_with fail
    clear hw1 hw2 hw3 x1 x2 y0 y1 y2
    go_loopw [4, 5] (fun bv iv wr => ∃ k : Nat, k ≤ 4 ∧ iv = .int .i64 (k : Int) ∧ wr.ownsRow w3.heap.size 5 1 bv (4 * k) (bs (numsB ((headZ true xid proc).take k))) ∧ Ext w3 wr) (fun _ iv _ => 4 - (intOf iv).toNat)
    case atStart => exact ⟨0, by omega, rfl, World.ownsRow_nil _ _ _ _, Ext.refl _⟩
    case round =>
      obtain ⟨k, hk, rfl, hown, ext⟩ := hrel
      obtain ⟨Ab, cb, rfl, hsb⟩ := own_sh hown
      have HO1 := Lib.hid hown
      have EX := Lib.hid ext
      have hsbm := hsb.max
      unfold maxLen at hsbm
      clear hown ext hsb
      by_cases hlt : k < 4
      · obtain ⟨b, off, u, hA, hu, hc, _⟩ := (HS3.out.ext EX.out).at_ hlt
        injection hA with hA
        injection hA with q1 q2
        subst q1 q2
        obtain ⟨x, hx⟩ : ∃ x, (headZ true xid proc)[k]? = some x := ⟨(headZ true xid proc)[k]'(by simp [headZ]; omega), List.getElem?_eq_getElem _⟩
        have hu2 : u = .int .u32 x := by
          rw [List.getElem?_map, hx] at hu
          injection hu with hu
          exact hu.symm
        subst hu2
        obtain ⟨hx0, hx1⟩ := HZ.out x (List.mem_of_getElem? hx)
        have HX := Lib.hid hx
        rw [Nat.zero_add] at hc
        clear hu hx
        go_wp2_with fail
        refine (ref_u32 x wr hx0 hx1).mono ?_
        rintro e w4 ⟨v, rfl, hown4, e4⟩
        obtain ⟨A4, c4, rfl, hs4⟩ := own_sh hown4
        obtain ⟨A5, c5, w5, hrun5, hown5, hb5⟩ := own_bytesR (own_ext HO1.out e4) hs4 (by have := EX.out.size; have := e4.size; omega) (by omega)
        have HFIN : Hid (w5.ownsRow w3.heap.size 5 1 (.slice A5 (4 * k + 4) c5) (4 * (k + 1)) (bs (numsB ((headZ true xid proc).take (k + 1)))) ∧ Ext w3 w5) := Lib.hid ⟨by
          rw [numsB_snoc _ k x HX.out]
          exact hown5, (EX.out.trans e4).thenB hb5 (Nat.le_refl _)⟩
        clear hown4 e4 hs4 hown5 hb5 hc
        go_wp2_with (first | (at_builtin; refine wpList_append_run rfl (.tmp 24) (.tmp 29) _ rfl _ _ rfl rfl _ w5 hrun5 ?_) | fail)
        go_roundw
        case rel => exact ⟨k + 1, by omega, by go_num, HFIN.out⟩
        case measure => simp [intOf]; omega
      · obtain rfl : k = 4 := by omega
        have hrow := (EX.out).heap HB3.out
        have z3 := cell_of_row wr w.heap.size 3 _ _ _ hrow
        simp at z3
        obtain ⟨cap, w4, hrun4, hom, e4⟩ := bytes_new wr body 0 (by unfold maxLen; omega) (Nat.zero_le _)
        obtain ⟨A5, c5, w5, hrun5, hown5, hb5⟩ := own_bytesR (own_ext HO1.out e4) hom.sees (by have := EX.out.size; have := e4.size; omega) (by omega)
        have HF : Hid (WRes w (msgB true xid proc body) (.returned (.slice A5 (4 * 4 + body.length) c5)) w5) := Lib.hid ⟨A5, _, c5, rfl, by
          rw [List.take_of_length_le (by simp [headZ])] at hown5
          exact own_mono hown5 E3.out.size, E3.out.trans ((EX.out.trans e4).thenB hb5 (Nat.le_refl _))⟩
        clear hrow hom e4 hown5 hb5
        go_wp2_with (first | (at_builtin; refine wpList_append_run rfl (.tmp 31) (.tmp 34) _ rfl _ _ rfl rfl _ w5 hrun5 ?_) | fail)
        go_ret
        exact HF.out
  | false =>
    have HB3 := Lib.hid HBX.out
    obtain ⟨w3, hw3⟩ : ∃ w3, w3 = w2 := ⟨_, rfl⟩
    subst hw3
    have E3 := Lib.hid E2.out
    have HS3 : Hid (Sees w3 (some ⟨w1.heap.size, 0, none⟩) 6 6 ((headZ false xid proc).map (Value.int .u32))) := Lib.hid HS2.out
    go_wp2_with fail
    clear hw1 hw2 x1 x2 y0 y1 y2
    go_loopw [4, 5] (fun bv iv wr => ∃ k : Nat, k ≤ 6 ∧ iv = .int .i64 (k : Int) ∧ wr.ownsRow w3.heap.size 5 1 bv (4 * k) (bs (numsB ((headZ false xid proc).take k))) ∧ Ext w3 wr) (fun _ iv _ => 6 - (intOf iv).toNat)
    case atStart => exact ⟨0, by omega, rfl, World.ownsRow_nil _ _ _ _, Ext.refl _⟩
    case round =>
      obtain ⟨k, hk, rfl, hown, ext⟩ := hrel
      obtain ⟨Ab, cb, rfl, hsb⟩ := own_sh hown
      have HO1 := Lib.hid hown
      have EX := Lib.hid ext
      have hsbm := hsb.max
      unfold maxLen at hsbm
      clear hown ext hsb
      by_cases hlt : k < 6
      · obtain ⟨b, off, u, hA, hu, hc, _⟩ := (HS3.out.ext EX.out).at_ hlt
        injection hA with hA
        injection hA with q1 q2
        subst q1 q2
        obtain ⟨x, hx⟩ : ∃ x, (headZ false xid proc)[k]? = some x := ⟨(headZ false xid proc)[k]'(by simp [headZ]; omega), List.getElem?_eq_getElem _⟩
        have hu2 : u = .int .u32 x := by
          rw [List.getElem?_map, hx] at hu
          injection hu with hu
          exact hu.symm
        subst hu2
        obtain ⟨hx0, hx1⟩ := HZ.out x (List.mem_of_getElem? hx)
        have HX := Lib.hid hx
        rw [Nat.zero_add] at hc
        clear hu hx
        go_wp2_with fail
        refine (ref_u32 x wr hx0 hx1).mono ?_
        rintro e w4 ⟨v, rfl, hown4, e4⟩
        obtain ⟨A4, c4, rfl, hs4⟩ := own_sh hown4
        obtain ⟨A5, c5, w5, hrun5, hown5, hb5⟩ := own_bytesR (own_ext HO1.out e4) hs4 (by have := EX.out.size; have := e4.size; omega) (by omega)
        have HFIN : Hid (w5.ownsRow w3.heap.size 5 1 (.slice A5 (4 * k + 4) c5) (4 * (k + 1)) (bs (numsB ((headZ false xid proc).take (k + 1)))) ∧ Ext w3 w5) := Lib.hid ⟨by
          rw [numsB_snoc _ k x HX.out]
          exact hown5, (EX.out.trans e4).thenB hb5 (Nat.le_refl _)⟩
        clear hown4 e4 hs4 hown5 hb5 hc
        go_wp2_with (first | (at_builtin; refine wpList_append_run rfl (.tmp 24) (.tmp 29) _ rfl _ _ rfl rfl _ w5 hrun5 ?_) | fail)
        go_roundw
        case rel => exact ⟨k + 1, by omega, by go_num, HFIN.out⟩
        case measure => simp [intOf]; omega
      · obtain rfl : k = 6 := by omega
        have hrow := (EX.out).heap HB3.out
        have z3 := cell_of_row wr w.heap.size 3 _ _ _ hrow
        simp at z3
        obtain ⟨cap, w4, hrun4, hom, e4⟩ := bytes_new wr body 0 (by unfold maxLen; omega) (Nat.zero_le _)
        obtain ⟨A5, c5, w5, hrun5, hown5, hb5⟩ := own_bytesR (own_ext HO1.out e4) hom.sees (by have := EX.out.size; have := e4.size; omega) (by omega)
        have HF : Hid (WRes w (msgB false xid proc body) (.returned (.slice A5 (4 * 6 + body.length) c5)) w5) := Lib.hid ⟨A5, _, c5, rfl, by
          rw [List.take_of_length_le (by simp [headZ])] at hown5
          exact own_mono hown5 E3.out.size, E3.out.trans ((EX.out.trans e4).thenB hb5 (Nat.le_refl _))⟩
        clear hrow hom e4 hown5 hb5
        go_wp2_with (first | (at_builtin; refine wpList_append_run rfl (.tmp 31) (.tmp 34) _ rfl _ _ rfl rfl _ w5 hrun5 ?_) | fail)
        go_ret
        exact HF.out
end Go.Proofs.YtdoijbjmhnncdaaDoor
