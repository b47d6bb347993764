/-
  The statement MuxRows: its walk.
-/
import Derived.Test.YtallbmobjhfhpaaMuxH
import Derived.Test.YtallbmobjhfhpaaMuxD
namespace Go.Proofs.Ytallbmobjhfhpaa
open Go Go.RowKit
set_option linter.unusedVariables false
set_option linter.unusedSimpArgs false
set_option maxRecDepth 20000 in
set_option maxHeartbeats 1000000 in
theorem msame2_any (g1 o1 g2 o2 n c1 c2 : Nat) (h1 : n ≤ c1) (h2 : n ≤ c2) (hn : n ≤ 1000) (X : Nat → Int) (w : World) (r1 : ∀ q, q < n → w.cell? ⟨g1, o1 + q, none⟩ = some (.int .u32 (X q))) (r2 : ∀ q, q < n → w.cell? ⟨g2, o2 + q, none⟩ = some (.int .u32 (X q))) :
    Calls Try.prog 19 #[.slice (some ⟨g1, o1, none⟩) n c1, .slice (some ⟨g2, o2, none⟩) n c2] w fun e w' => e = .returned (.bool true) ∧ Ext w w' := by
  have R1 := Lib.hid r1
  have R2 := Lib.hid r2
  clear r1 r2
  go_enter Try.func19, Try.ntmps19
  go_wp2_with fail
  go_loopw [5] (fun i wr => ∃ q : Nat, q ≤ n ∧ i = .int .i64 (q : Int) ∧ Ext w wr) (fun i _ => n - (intOf i).toNat)
  case atStart => exact ⟨0, by omega, rfl, Ext.refl _⟩
  case round =>
    obtain ⟨q, hq, rfl, ext⟩ := hrel
    have EX := Lib.hid ext
    clear ext
    by_cases hqn : q < n
    · have x1 := EX.out.cell (R1.out q hqn)
      have x2 := EX.out.cell (R2.out q hqn)
      go_wp2
      try go_quiet (fail)
      go_wp2
      go_roundw
      case rel => exact ⟨q + 1, by omega, by go_num, by first | exact EX.out | exact EX.out.drewN _⟩
      case measure => simp [intOf]; omega
    · obtain rfl : q = n := by omega
      go_wp2
      go_ret
      exact ⟨rfl, EX.out⟩
theorem put1 (a x : Int) (u v : Value) (h : ¬ x = a) : delL (putL [(a, u)] x v) x = [(a, u)] := by
  have h2 : (a == x) = false := by simpa using fun e : a = x => h e.symm
  have h3 : putL [(a, u)] x v = if x < a then [(x, v), (a, u)] else [(a, u), (x, v)] := by
    simp [putL, delL, insL, h2, List.filter]
  rw [h3]
  split
  · simp [delL, List.filter, h2]
  · simp [delL, List.filter, h2]
theorem has1 (a x : Int) (u : Value) (h : ¬ x = a) : hasL [(a, u)] x = false := by
  have h2 : (a == x) = false := by simpa using fun e : a = x => h e.symm
  simp [hasL, lkL, List.find?, h2]
theorem put2 (a x : Int) (u v : Value) (h : ¬ x = a) (X : Nat → Int) (h0 : X 0 = a) (h1 : X 1 = x) : (putL [(a, u)] x v).map (·.1) = irow X 2 ∧ (putL [(a, u)] x v).length = 2 := by
  have h2 : (a == x) = false := by simpa using fun e : a = x => h e.symm
  have h3 : putL [(a, u)] x v = if x < a then [(x, v), (a, u)] else [(a, u), (x, v)] := by
    simp [putL, delL, insL, h2, List.filter]
  rw [h3]
  have h4 : irow X 2 = insA (insA [] (X 0)) (X 1) := rfl
  rw [h4, h0, h1]
  by_cases q : x < a
  · have q2 : ¬ a < x := by omega
    simp [q, q2, insA, List.takeWhile, List.dropWhile]
  · have q2 : a < x := by omega
    simp [q, q2, insA, List.takeWhile, List.dropWhile]
theorem keyF_get (L : List (Int × Value)) (M : List Int) (h : L.map (·.1) = M) (k : Nat) (y : Int) (hy : M[k]? = some y) : keyF L k = y := by
  unfold keyF
  rw [h, List.getD_eq_getElem?_getD, hy]
  rfl
set_option maxRecDepth 20000 in
set_option maxHeartbeats 2000000 in
theorem mr_walk (first many : Int) (w : World) (hm0 : -9223372036854775808 ≤ many) (hm1 : many ≤ 9223372036854775807) (hf0 : 0 ≤ first) (hf1 : first < 4294967296) :
    Calls Try.prog 7 #[.int .u32 first, .int .i64 many] w fun e w' => e = .returned (.bool true) ∧ Ext w w' := by
  have HNE : Hid (∀ j : Nat, 0 < j → j < 1000 → ¬ nxt first j = first) := Lib.hid fun j h0 h1 e => by
    have := nxt_ne first 0 j h0 (by omega)
    rw [nxt_zero hf0 hf1] at this
    exact this e
  go_enter Try.func7, Try.ntmps7
  go_wp2_with fail
  refine (mnewI_ok first 3 3 rfl w (by omega) (by omega) hf0 hf1).mono ?_
  rintro e w1 ⟨tb, mb, rfl, hm, ht, hb, e1⟩
  have HM := Lib.hid hm
  have E1 := Lib.hid e1
  clear hm e1
  go_wp2_with fail
  refine (mcallI_at tb mb 3 first [] 1 (by omega) (by omega) 1 0 first (nxt first 1) (free_zero hf0 hf1 rfl) (by omega) (nxt_zero hf0 hf1) rfl w1 HM.out (by simp)).mono ?_
  rintro e w2 ⟨rfl, hm2, o2⟩
  have hm2' : MuxI w2 tb mb 3 (nxt first 1) [(first, .agg #[.int .u32 1, .int .i64 1])] := hm2
  have HM2 := Lib.hid hm2'
  have E2 := Lib.hid (o2.ext E1.out ht hb)
  clear hm2 hm2' o2 HM E1
  go_wp2_with fail
  refine (around_any many 20 w2 hm0 hm1 (by omega) (by omega)).mono ?_
  rintro e w3 ⟨rfl, rfl⟩
  have hr := aroundZ_bound many 20 (by omega)
  obtain ⟨r, hrr⟩ : ∃ r, aroundZ many 20 = r := ⟨_, rfl⟩
  rw [hrr] at hr ⊢
  obtain ⟨r0, r1⟩ := hr
  obtain ⟨n, rfl⟩ := Int.eq_ofNat_of_zero_le r0
  clear hrr r0
  go_wp2_with fail
  go_loopw [10, 11] (fun la i wr => ∃ j : Nat, j ≤ n ∧ la = .int .u32 (nxt first j) ∧ i = .int .i64 (j : Int) ∧ MuxI wr tb mb 3 (nxt first (j + 1)) [(first, .agg #[.int .u32 1, .int .i64 1])] ∧ Ext w wr) (fun _ i _ => n - (intOf i).toNat)
  case atStart => exact ⟨0, by omega, by rw [nxt_zero hf0 hf1], rfl, HM2.out, E2.out⟩
  case round =>
    obtain ⟨j, hj, rfl, rfl, hm, ext⟩ := hrel
    have HMr := Lib.hid hm
    have EX := Lib.hid ext
    have hne := HNE.out (j + 1) (by omega) (by omega)
    have hb0 := (nxt_bound first (j + 1)).1
    have hb1 := (nxt_bound first (j + 1)).2
    have hsc := nxt_succ first j
    clear hm ext
    by_cases hlt : j < n
    · go_wp2_with fail
      refine (mcallI_at tb mb 3 (nxt first (j + 1)) [(first, .agg #[.int .u32 1, .int .i64 1])] 2 (by omega) (by omega) (j : Int) 0 (nxt first (j + 1)) (nxt first (j + 1 + 1)) (free_zero hb0 hb1 (has1 _ _ _ hne)) (by omega) (nxt_zero hb0 hb1) (by rw [nxt_add]) wr HMr.out (by simp)).mono ?_
      rintro e w3 ⟨rfl, hm3, o3⟩
      have HM3 := Lib.hid hm3
      have E3 := Lib.hid (o3.ext EX.out ht hb)
      clear hm3 o3
      go_wp2_with fail
      refine (mmatchI_ok tb mb 3 _ _ (nxt first (j + 1)) 2 (.int .i64 (j : Int)) (lk_put_same _ _ _) hb0 hb1 w3 HM3.out).mono ?_
      rintro e w4 ⟨rfl, hm4, o4⟩
      rw [put1 _ _ _ _ hne] at hm4
      have HM4 := Lib.hid hm4
      have E4 := Lib.hid (o4.ext E3.out ht hb)
      clear hm4 o4
      go_wp2_with fail
      go_roundw
      case rel => exact ⟨j + 1, by omega, rfl, by go_num, HM4.out, E4.out⟩
      case measure => simp [intOf]; omega
    · obtain rfl : n = j := by omega
      go_wp2_with fail
      refine (mcallI_at tb mb 3 (nxt first (n + 1)) [(first, .agg #[.int .u32 1, .int .i64 1])] 3 (by omega) (by omega) 3 0 (nxt first (n + 1)) (nxt first (n + 1 + 1)) (free_zero hb0 hb1 (has1 _ _ _ hne)) (by omega) (nxt_zero hb0 hb1) (by rw [nxt_add]) wr HMr.out (by simp)).mono ?_
      rintro e w3 ⟨rfl, hm3, o3⟩
      have HM3 := Lib.hid hm3
      have E3 := Lib.hid (o3.ext EX.out ht hb)
      clear hm3 o3
      have HP := Lib.hid (put2 first (nxt first (n + 1)) (.agg #[.int .u32 1, .int .i64 1]) (.agg #[.int .u32 3, .int .i64 3]) hne (fun q => if q = 0 then first else nxt first (n + 1)) rfl rfl)
      obtain ⟨L2, hL2⟩ : ∃ L2, putL [(first, Value.agg #[.int .u32 1, .int .i64 1])] (nxt first (n + 1)) (.agg #[.int .u32 3, .int .i64 3]) = L2 := ⟨_, rfl⟩
      have HH : Hid (hasL L2 first = true) := Lib.hid (by rw [← hL2, has_put_other _ _ _ _ (fun e => hne e.symm)]; simp [hasL, lkL, List.find?])
      rw [hL2] at HP HM3
      clear hL2
      go_wp2_with fail
      refine (mhasI_any tb mb 3 _ L2 first true HH.out hf0 hf1 w3 HM3.out).mono ?_
      rintro e w4 ⟨rfl, e4⟩
      have HM4 := Lib.hid (HM3.out.ext e4)
      have E4 := Lib.hid (E3.out.trans e4)
      clear e4
      go_wp2_with fail
      refine (live_any tb mb 3 _ L2 w4 HM4.out (by rw [HP.out.2]; omega) (by rw [HP.out.2]; omega)).mono ?_
      rintro e w5 ⟨g5, c5, rfl, hc5, r5, hg5, e5⟩
      rw [HP.out.2] at hc5 r5
      rw [HP.out.2]
      have R5 := Lib.hid r5
      have E5 := Lib.hid (E4.out.trans e5)
      clear e5 r5
      go_wp2_with fail
      obtain ⟨cs6, hcs6⟩ : ∃ cs6 : Array Value, #[Value.int .u32 first, .int .u32 0, .int .i64 0, .int .u32 (nxt first (n + 1)), .int .u32 0, .int .i64 0] = cs6 := ⟨_, rfl⟩
      obtain ⟨W6, hW6⟩ : ∃ W6, w5.alloc (.cells cs6 65) = W6 := ⟨_, rfl⟩
      have hb6 : W6.heap[w5.heap.size]? = some (.cells cs6 65 (0, 0)) := by rw [← hW6]; exact heap_alloc_new w5 _
      have E6 := Lib.hid (show Ext w5 W6 by rw [← hW6]; exact (Ext.refl w5).alloc _)
      have HX6 : Hid (∀ i, i < 2 → ∃ g off, (some ⟨w5.heap.size, 0, none⟩ : Option Addr) = some ⟨g, off, none⟩ ∧ W6.cell? ⟨g, off + i * 3, none⟩ = some (.int .u32 ((fun q => if q = 0 then first else nxt first (n + 1)) i)) ∧ g < W6.heap.size) := Lib.hid fun i hi => by
        refine ⟨_, _, rfl, ?_, (Array.getElem?_eq_some_iff.1 hb6).1⟩
        rw [cell_of_row _ _ _ _ _ _ hb6, ← hcs6]
        have h01 : i = 0 ∨ i = 1 := by omega
        rcases h01 with rfl | rfl
        · rfl
        · rfl
      rw [hcs6, hW6]
      clear hb6
      refine (rlive_any (.int .u32 0) (.int .i64 0) (some ⟨w5.heap.size, 0, none⟩) 2 2 _ W6 (by omega) (by omega) (by omega) HX6.out).mono ?_
      rintro e w7 ⟨A7, c7, rfl, see7, e7⟩
      have E7 := Lib.hid ((E5.out.trans E6.out).trans e7)
      have R57 := Lib.hid ((R5.out.ext E6.out).ext e7)
      obtain ⟨g7, o7, _, rfl, _, _, _⟩ := see7.at_ (k := 0) (by omega)
      have hc7 := see7.le
      have HCS : Hid (∀ q, q < 2 → w7.cell? ⟨g7, o7 + q, none⟩ = some (.int .u32 (keyF L2 q))) := Lib.hid fun q hq => by
        obtain ⟨g, o, u, hA, hu, hcc, _⟩ := see7.at_ (k := q) hq
        obtain ⟨y, hy, rfl⟩ := u3_get _ q u hu
        injection hA with hA
        injection hA with q1 q2
        subst q1 q2
        rw [hcc, keyF_get L2 _ HP.out.1 q y hy]
      clear see7 e7 HX6
      go_wp2_with fail
      refine (msame2_any g5 0 g7 o7 2 c5 c7 hc5 hc7 (by omega) (keyF L2) w7 (fun q hq => by rw [Nat.zero_add]; exact R57.out.cell q hq) HCS.out).mono ?_
      rintro e w8 ⟨rfl, e8⟩
      have E8 := Lib.hid (E7.out.trans e8)
      clear e8
      go_wp2_with fail
      refine (mlives_any _).mono ?_
      rintro e w9 ⟨rfl, e9⟩
      have E9 := Lib.hid (E8.out.trans e9)
      go_wp2_with fail
      go_ret
      exact ⟨rfl, E9.out⟩
end Go.Proofs.Ytallbmobjhfhpaa
