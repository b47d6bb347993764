/-
  Layer 18: the statement TellBounds: its walk.
-/
import Derived.Test.YtihiclnbbpablaaTellH
import Derived.Test.YtihiclnbbpablaaCopy
namespace Go.Proofs.Ytihiclnbbpablaa
open Go Go.RowKit
set_option linter.unusedVariables false
set_option linter.unusedSimpArgs false
theorem sees_madeT (w : World) (K : Nat) (hK : K ≤ 4194304) : Sees (w.alloc (.cells (madeCells #[.int .u8 0] K) 5)) (some ⟨w.heap.size, 0, none⟩) K K (bs (zeros K)) := by
  obtain ⟨A, c, h1, h2⟩ := Sees.of_own (own_made w 0 K K (Nat.zero_le _) (Nat.le_refl _) hK)
  injection h1 with q1 q2 q3
  subst q1 q3
  exact h2
def zq (n : Nat) : List (Bool × Int × Int) := List.replicate n (false, 0, 0)
theorem zq_cells (n : Nat) (j : Nat) (u : Value) (h : ((zq n).flatMap qc)[j]? = some u) : (madeCells #[.bool false, .int .i64 0, .int .i64 0] (n * 3))[j]? = some u := by
  have hl : ((zq n).flatMap qc).length = n * 3 := by simp [zq, qc, List.length_flatMap]
  have hj : j < n * 3 := by have := (List.getElem?_eq_some_iff.1 h).1; omega
  have h3 : (zq n)[j / 3]? = some (false, 0, 0) := by simp [zq, List.getElem?_replicate]; omega
  have h4 := qcs_get (zq n) (j / 3) (j % 3) _ h3 (by omega)
  rw [Nat.div_add_mod j 3, h] at h4
  unfold madeCells
  rw [Array.getElem?_map, Array.getElem?_range, if_pos hj]
  have h5 : j % 3 = 0 ∨ j % 3 = 1 ∨ j % 3 = 2 := by omega
  rcases h5 with h5 | h5 | h5
  · rw [h5] at h4; simp [qc] at h4; simp [h5, h4]
  · rw [h5] at h4; simp [qc] at h4; simp [h5, h4]
  · rw [h5] at h4; simp [qc] at h4; simp [h5, h4]
theorem seesQ_made (w : World) (n : Nat) (hn : n ≤ 1000) : SeesQ (w.alloc (.cells (madeCells #[.bool false, .int .i64 0, .int .i64 0] (n * 3)) 23)) (some ⟨w.heap.size, 0, none⟩) n n (zq n) := by
  refine ⟨by simp [zq], by simp [zq, qc, List.length_flatMap], Nat.le_refl _, by unfold maxLen; omega, nofun, fun _ => ⟨_, _, rfl, fun j u hu => ?_⟩⟩
  rw [Nat.zero_add, cell_of_row _ w.heap.size j _ _ _ (heap_alloc_new w _)]
  exact zq_cells n j u hu
theorem infoQ : (Try.prog.info? 23).map (fun i => (i.zero, i.size, i.bytes)) = some (some (.agg #[.bool false, .int .i64 0, .int .i64 0]), 3, 24) := by kernel_rfl
theorem make_qids (n : Nat) (hn : n ≤ 1000) (w : World) :
    (Instr.makeSlice 24 (.int .i64 (n : Int)) (.int .i64 (n : Int))).run Try.prog w = .ok (.slice (some ⟨w.heap.size, 0, none⟩) n n) (w.alloc (.cells (madeCells #[.bool false, .int .i64 0, .int .i64 0] (n * 3)) 23)) := by
  obtain ⟨i0, hi⟩ : ∃ i, Try.prog.info? 23 = some i := by
    have := infoQ
    cases h : Try.prog.info? 23 with
    | none => rw [h] at this; cases this
    | some i => exact ⟨i, rfl⟩
  have hk := infoQ
  rw [hi] at hk
  simp at hk
  obtain ⟨hz, hs, hby⟩ := hk
  have h := run_make (P := Try.prog) w 24 23 i0 _ Try.underlying24 hi hz .i64 .i64 (n : Int) (n : Int) (by omega) (by omega) (by rw [hby]; omega) (by omega)
  rw [hs] at h
  simpa [Value.cells] using h
theorem zq_all (n : Nat) : (zq n).all bq = true := by
  simp [zq, List.all_replicate]
  right
  decide
theorem may_v (nm : List UInt8) : mayT (⟨101, 0, 0, 0, 0, 0, nm, (false, 0, 0), none, 0, 0, [], none, 0, 0, [], (false, 0, 0), 0, 0, []⟩ : TL) = decide ((nm.length : Int) ≤ 255) := by
  simp [mayT, fok, fl, mayR, wos, wo, tEq, TL.zero, bnd, bi]
theorem may_s (nm : List UInt8) : mayT (⟨125, 0, 0, 0, 0, 0, [], (false, 0, 0), none, 0, 0, [], none, 0, 0, [], (false, 0, 0), 0, 0, nm⟩ : TL) = decide ((nm.length : Int) ≤ 255) := by
  simp [mayT, fok, fl, mayR, wos, wo, tEq, TL.zero, bnd, bi, bst, bq]
theorem may_d (A : Option Addr) (n c : Nat) (l : List UInt8) : mayT (⟨117, 0, 0, 0, 0, 0, [], (false, 0, 0), none, 0, 0, [], A, n, c, l, (false, 0, 0), 0, 0, []⟩ : TL) = decide ((n : Int) ≤ 1024) := by
  simp [mayT, fok, fl, mayR, wos, wo, tEq, TL.zero, bnd, bi]
theorem may_q (A : Option Addr) (n c k : Nat) : mayT (⟨111, 0, 0, 0, 0, 0, [], (false, 0, 0), A, n, c, zq k, none, 0, 0, [], (false, 0, 0), 0, 0, []⟩ : TL) = decide ((n : Int) ≤ 8) := by
  simp [mayT, fok, fl, mayR, wos, wo, tEq, TL.zero, bnd, bi, zq_all]
set_option maxRecDepth 20000 in
set_option maxHeartbeats 2000000 in
theorem tb_walk (n m k : Int) (w : World) (hn0 : -9223372036854775808 ≤ n) (hn1 : n ≤ 9223372036854775807) (hm0 : -9223372036854775808 ≤ m) (hm1 : m ≤ 9223372036854775807) (hk0 : -9223372036854775808 ≤ k) (hk1 : k ≤ 9223372036854775807) :
    Calls Try.prog 7 #[.int .i64 n, .int .i64 m, .int .i64 k] w fun e w' => e = .returned (.bool true) ∧ Ext w w' := by
  go_enter Try.func7, Try.ntmps7
  go_wp2_with fail
  refine (around_any n 11 _ hn0 hn1 (by omega) (by omega)).mono ?_
  rintro e w1 ⟨rfl, rfl⟩
  have hr := aroundZ_bound n 11 (by omega)
  generalize aroundZ n 11 = n' at *
  obtain ⟨R, rfl⟩ := Int.eq_ofNat_of_zero_le hr.1
  have hR : R < 11 := by omega
  clear hr
  go_wp2_with fail
  refine (around_any m 11 _ hm0 hm1 (by omega) (by omega)).mono ?_
  rintro e w1 ⟨rfl, rfl⟩
  have hr := aroundZ_bound m 11 (by omega)
  generalize aroundZ m 11 = m' at *
  obtain ⟨D, rfl⟩ := Int.eq_ofNat_of_zero_le hr.1
  have hD : D < 11 := by omega
  clear hr
  go_wp2_with fail
  refine (around_any k 11 _ hk0 hk1 (by omega) (by omega)).mono ?_
  rintro e w1 ⟨rfl, rfl⟩
  have hr := aroundZ_bound k 11 (by omega)
  generalize aroundZ k 11 = k' at *
  obtain ⟨K, rfl⟩ := Int.eq_ofNat_of_zero_le hr.1
  have hK : K < 11 := by omega
  clear hr
  have hmk := fun w => make_bytes (250 + R) (250 + R) (Nat.le_refl _) (by omega) w
  have hzz : ((250 + R : Nat) : Int) = 250 + (R : Int) := by omega
  rw [hzz] at hmk
  have st := str_of (sees_madeT w (250 + R) (by omega))
  have E0 : Hid (Ext w (w.alloc (.cells (madeCells #[.int .u8 0] (250 + R)) 5))) := Lib.hid ((Ext.refl _).alloc _)
  clear hzz
  have HL : Hid ((zeros (250 + R)).length = 250 + R) := Lib.hid (by simp [zeros])
  go_wp2_with fail
  clear hmk st
  generalize zeros (250 + R) = nm at *
  generalize w.alloc (.cells (madeCells #[.int .u8 0] (250 + R)) 5) = w0 at *
  refine (tmay_any (⟨101, 0, 0, 0, 0, 0, nm, (false, 0, 0), none, 0, 0, [], none, 0, 0, [], (false, 0, 0), 0, 0, []⟩ : TL) w0 ⟨SeesQ.nil _, Sees.nil _⟩).mono ?_
  rintro e w1 ⟨rfl, e1⟩
  rw [may_v, HL.out, show ((250 + R : Nat) : Int) = 250 + (R : Int) from by omega]
  have E1 := Lib.hid (E0.out.trans e1)
  clear e1 E0
  go_wp2_with fail
  refine (tmay_any (⟨125, 0, 0, 0, 0, 0, [], (false, 0, 0), none, 0, 0, [], none, 0, 0, [], (false, 0, 0), 0, 0, nm⟩ : TL) w1 ⟨SeesQ.nil _, Sees.nil _⟩).mono ?_
  rintro e w2 ⟨rfl, e2⟩
  rw [may_s, HL.out, show ((250 + R : Nat) : Int) = 250 + (R : Int) from by omega]
  have E2 := Lib.hid (E1.out.trans e2)
  clear e2 E1
  have hmk := fun w => make_bytes (1020 + D) (1020 + D) (Nat.le_refl _) (by omega) w
  have hzz : ((1020 + D : Nat) : Int) = 1020 + (D : Int) := by omega
  rw [hzz] at hmk
  have SD := Lib.hid (sees_madeT w2 (1020 + D) (by omega))
  have E3 := Lib.hid (E2.out.alloc (.cells (madeCells #[.int .u8 0] (1020 + D)) 5))
  clear E2
  go_wp2_with fail
  clear hmk hzz
  refine (tmay_any (⟨117, 0, 0, 0, 0, 0, [], (false, 0, 0), none, 0, 0, [], some ⟨w2.heap.size, 0, none⟩, 1020 + D, 1020 + D, zeros (1020 + D), (false, 0, 0), 0, 0, []⟩ : TL) _ ⟨SeesQ.nil _, SD.out⟩).mono ?_
  rintro e w4 ⟨rfl, e4⟩
  rw [may_d, show ((1020 + D : Nat) : Int) = 1020 + (D : Int) from by omega]
  have E4 := Lib.hid (E3.out.trans e4)
  clear e4 E3 SD
  have hmk := fun w => make_qids K (by omega) w
  have SQ := Lib.hid (seesQ_made w4 K (by omega))
  have E5 := Lib.hid (E4.out.alloc (.cells (madeCells #[.bool false, .int .i64 0, .int .i64 0] (K * 3)) 23))
  clear E4
  go_wp2_with fail
  clear hmk
  refine (tmay_any (⟨111, 0, 0, 0, 0, 0, [], (false, 0, 0), some ⟨w4.heap.size, 0, none⟩, K, K, zq K, none, 0, 0, [], (false, 0, 0), 0, 0, []⟩ : TL) _ ⟨SQ.out, Sees.nil _⟩).mono ?_
  rintro e w6 ⟨rfl, e6⟩
  rw [may_q]
  have E6 := Lib.hid (E5.out.trans e6)
  clear e6 E5 SQ
  go_wp2_with fail
  refine (tlives_any _).mono ?_
  rintro e w7 ⟨rfl, e7⟩
  have E7 := Lib.hid (E6.out.trans e7)
  clear e7 E6
  go_wp2_with fail
  go_ret
  exact ⟨rfl, E7.out⟩
end Go.Proofs.Ytihiclnbbpablaa
