/-
  Layer 14: no beginning of what is written is read.
-/
import Derived.Test.YtpjigdfllbhknaaCao
import Derived.Test.YtpjigdfllbhknaaArgO
import Derived.Test.YtpjigdfllbhknaaMrk
namespace Go.Proofs.Ytpjigdfllbhknaa
open Go Go.RowKit
set_option linter.unusedVariables false
set_option linter.unusedSimpArgs false
set_option maxRecDepth 20000 in
set_option maxHeartbeats 2000000 in
theorem ccuts_walk (a0 : Value) (w : World) (w0 : Is_args w a0) :
    Calls Try.prog 9 #[a0] w fun e w' => e = .returned (.bool true) ∧ Ext w w' := by
  obtain ⟨a, l, rfl, ha, sa⟩ := args_open0 w0
  obtain ⟨ab, hab⟩ : ∃ ab, w.heap.size = ab := ⟨_, rfl⟩
  obtain ⟨w2, hw2⟩ : ∃ w2, w.alloc (.cells a.cs 26) = w2 := ⟨_, rfl⟩
  have e2 : Ext w w2 := by rw [← hw2]; exact (Ext.refl w).alloc _
  have ba : w2.heap[ab]? = some (.cells a.cs 26 (0, 0)) := by rw [← hw2, ← hab]; exact heap_alloc_new w _
  have HA := Lib.hid ha
  have HSA := Lib.hid (sa.ext e2)
  have E2 := Lib.hid e2
  have BA := Lib.hid ba
  have HI := Lib.hid (fun b : AR => arg_info b)
  have HU := Lib.hid (fun b : AR => AR.one b)
  clear ha w0 sa e2 ba
  go_enter Try.func9, Try.ntmps9
  go_wp2_with (first | (with_reducible refine wpList_load_row rfl 26 (.tmp 1) rfl ab rfl _ _ _ _ BA.out Try.underlying26 rfl (HI.out _) ?_) | fail)
  refine (good14 a l _ HA.out HSA.out).mono ?_
  rintro e w3 ⟨A0, n0, c0, rfl, s0, e3⟩
  have hn0 : n0 ≤ 30 := by have h9 := s0.len; rw [bs_length, List.length_take] at h9; omega
  have hbl := gd_bytes a A0 n0 c0 l
  have hgl := gdL_len a l
  have hok : (gdA a A0 n0 c0).ok := gdA_ok hn0
  have hsg := sees_gdA (a := a) s0
  have hpr : (gdA a A0 n0 c0).pr = gk a.pr := rfl
  obtain ⟨G, hG⟩ : ∃ G, gdA a A0 n0 c0 = G := ⟨_, rfl⟩
  obtain ⟨GL, hGL⟩ : ∃ G, gdL a l = G := ⟨_, rfl⟩
  rw [hG] at hbl hok hsg hpr ⊢
  rw [hGL] at hbl hgl hsg
  have hrc : ∀ m, m < (bytesB G GL (fld (gk a.pr))).length → rdK (gk a.pr) ((bytesB G GL (fld (gk a.pr))).take m) = 3 := fun m hm => rd_cut G GL hok (by omega) (gk a.pr) m hm
  obtain ⟨OB, hOB⟩ : ∃ OB, bytesB G GL (fld (gk a.pr)) = OB := ⟨_, rfl⟩
  rw [hOB] at hbl hrc
  obtain ⟨N, hN⟩ : ∃ N, OB.length = N := ⟨_, rfl⟩
  rw [hN] at hbl hrc
  obtain ⟨gb, hgb⟩ : ∃ gb, w3.heap.size = gb := ⟨_, rfl⟩
  have HXA : Hid ((w3.alloc (.cells #[.int .i64 0, .int .i64 0, .int .i64 0, .int .i64 0, .int .i64 0, .int .i64 0, .int .i64 0, .int .i64 0, .int .i64 0, .string ⟨#[]⟩, .string ⟨#[]⟩, .slice none 0 0] 26)).heap[gb]? = some (.cells #[.int .i64 0, .int .i64 0, .int .i64 0, .int .i64 0, .int .i64 0, .int .i64 0, .int .i64 0, .int .i64 0, .int .i64 0, .string ⟨#[]⟩, .string ⟨#[]⟩, .slice none 0 0] 26 (0, 0))) := Lib.hid (by rw [← hgb]; exact heap_alloc_new _ _)
  have e34 : Ext w3 ((w3.alloc (.cells #[.int .i64 0, .int .i64 0, .int .i64 0, .int .i64 0, .int .i64 0, .int .i64 0, .int .i64 0, .int .i64 0, .int .i64 0, .string ⟨#[]⟩, .string ⟨#[]⟩, .slice none 0 0] 26)).setRow gb G.cs) := below_setRow ((Ext.refl w3).alloc _) (by omega) _
  have HX4 : Hid (((w3.alloc (.cells #[.int .i64 0, .int .i64 0, .int .i64 0, .int .i64 0, .int .i64 0, .int .i64 0, .int .i64 0, .int .i64 0, .int .i64 0, .string ⟨#[]⟩, .string ⟨#[]⟩, .slice none 0 0] 26)).setRow gb G.cs).heap[gb]? = some (.cells G.cs 26 (0, 0))) := Lib.hid (setRow_heap _ gb _ _ _ _ HXA.out)
  have E4 := Lib.hid (E2.out.trans (e3.trans e34))
  have HBY := Lib.hid (bytes14 G GL ((w3.alloc (.cells #[.int .i64 0, .int .i64 0, .int .i64 0, .int .i64 0, .int .i64 0, .int .i64 0, .int .i64 0, .int .i64 0, .int .i64 0, .string ⟨#[]⟩, .string ⟨#[]⟩, .slice none 0 0] 26)).setRow gb G.cs) hok (by omega) (hsg.ext e34))
  rw [hpr, hOB, hN] at HBY
  have HBL := Lib.hid hbl
  have HN := Lib.hid hN
  have HPR : Hid (G.pr = gk a.pr) := Lib.hid hpr
  have HRCA := Lib.hid hrc
  clear hsg e34 e3 s0 hok hG hGL hOB hbl hN hpr hgl hrc
  go_wp2_with (first | (with_reducible refine wpList_store_row rfl 26 (.tmp 3) (.tmp 9) rfl gb _ rfl rfl _ _ HXA.out (HI.out _) rfl (HU.out _) ?_) | (with_reducible refine wpList_load_row rfl 26 (.tmp 3) rfl gb rfl _ _ _ _ HX4.out Try.underlying26 rfl (HI.out _) ?_) | fail)
  refine HBY.out.mono ?_
  rintro e w5 ⟨v12, rfl, own12, e5⟩
  obtain ⟨g12, cap12, rfl, om12⟩ := OwnM.of_own own12 HBL.out.1
  have E5 := Lib.hid (E4.out.trans e5)
  have HX5 := Lib.hid (e5.heap HX4.out)
  have S12 := Lib.hid om12.sees
  have hcap : N ≤ cap12 := om12.sees.le
  have HG0 : Hid (w5.cell? ⟨gb, 0, none⟩ = some (.int .i64 (gk a.pr))) := Lib.hid (by have h9 := (cell_of_row w5 gb 0 _ _ _ HX5.out).trans (show _ = some (.int .i64 G.pr) from rfl); rw [HPR.out] at h9; exact h9)
  clear own12 om12 e5
  go_wp2_with fail
  go_loopw [5] (fun kv wr => ∃ k : Nat, k ≤ N ∧ kv = .int .i64 (k : Int) ∧ Ext w5 wr) (fun kv _ => N - (intOf kv).toNat)
  case atStart => exact ⟨0, by omega, rfl, Ext.refl _⟩
  case round =>
    obtain ⟨k, hk, rfl, exti⟩ := hrel
    have EXI := Lib.hid exti
    clear exti
    by_cases hlt : k < N
    · have hlt' : (k : Int) < (N : Int) := by omega
      have hN3 : N ≤ 300 := HBL.out.2
      have hkc : k ≤ cap12 := by omega
      have HRC := Lib.hid (HRCA.out k hlt)
      have HS0 : Hid (Ext wr.drew wr.drew) := Lib.hid (Ext.refl _)
      have HGC : Hid (∀ w', Ext wr.drew w' → w'.cell? ⟨gb, 0, none⟩ = some (.int .i64 (gk a.pr))) := Lib.hid fun w' he => (EXI.out.trans ((Ext.refl wr).drew.trans he)).cell HG0.out
      have HSR : Hid (Sees wr.drew (some ⟨g12, 0, none⟩) k cap12 (bs (OB.take k))) := Lib.hid (by have h9 := (S12.out.ext (EXI.out.trans (Ext.refl wr).drew)).take k (by omega); rw [bs_take] at h9; exact h9)
      go_wp2_with fail
      refine wp_region_plS (fun v : World => Ext wr.drew v) (.free 0 (.free 1 (.free 2 (.free 3 (.free 4 (.fork 5 9 (.free 6 (.free 7 (.free 8 (.one 9 (.one 10 (.free 11 .nil)))))) (.one 5 (.free 6 (.free 7 (.free 8 (.one 10 (.free 11 .nil)))))))))))) (by kernel_rfl) (by kernel_rfl) (by kernel_rfl) (by kernel_rfl) ?_
      refine plS_val (v := ?_) rfl rfl HS0.out (fun w' hw' => ?_) ?_; rotate_left; (· skip; go_simp; try with_reducible rfl); simp only [Act.put, List.setIfInBounds_toArray, List.set_cons_zero, List.set_cons_succ]
      refine plS_val (v := .int .i64 (gk a.pr)) rfl rfl HS0.out (fun w' hw' => by have q := HGC.out w' hw'; go_simp; try rfl) ?_; simp only [Act.put, List.setIfInBounds_toArray, List.set_cons_zero, List.set_cons_succ]
      refine plS_val (v := ?_) rfl rfl HS0.out (fun w' hw' => ?_) ?_; rotate_left; (· skip; go_simp; try with_reducible rfl); simp only [Act.put, List.setIfInBounds_toArray, List.set_cons_zero, List.set_cons_succ]
      refine plS_val (v := ?_) rfl rfl HS0.out (fun w' hw' => ?_) ?_; rotate_left; (· skip; go_simp; try with_reducible rfl); simp only [Act.put, List.setIfInBounds_toArray, List.set_cons_zero, List.set_cons_succ]
      refine plS_val (v := .slice (some ⟨g12, 0, none⟩) k cap12) rfl rfl HS0.out (fun w' hw' => by go_simp; first | done | omega | (intro hx; omega)) ?_; simp only [Act.put, List.setIfInBounds_toArray, List.set_cons_zero, List.set_cons_succ]
      refine plS_fork ?_ ?_
      · refine plS_call 20 #[.int .i64 (gk a.pr), .slice (some ⟨g12, 0, none⟩) k cap12] rfl rfl (by go_simp) ?_
        refine (cread_any (gk a.pr) (some ⟨g12, 0, none⟩) k cap12 (OB.take k) _ HSR.out (by have := HBL.out; omega)).mono ?_
        rintro e wxc ⟨AX, nX, cX, rfl, sX, eX⟩
        have hz0 := rd_zero (gk a.pr) (OB.take k) (by rw [HRC.out]; omega)
        rw [hz0.1, HRC.out]
        rw [hz0.2] at sX
        obtain ⟨xb1, hxb1⟩ : ∃ xb1, wxc.heap.size = xb1 := ⟨_, rfl⟩
        have eA : Ext wr.drew wxc := eX
        have HEc := Lib.hid eA
        refine ⟨_, rfl, eA, ?_⟩; simp only [Act.put, List.setIfInBounds_toArray, List.set_cons_zero, List.set_cons_succ]
        refine plS_val (v := ?_) rfl rfl HEc.out (fun w' hw' => ?_) ?_; rotate_left; (· skip; go_simp; try with_reducible rfl); simp only [Act.put, List.setIfInBounds_toArray, List.set_cons_zero, List.set_cons_succ]
        refine plS_val (v := ?_) rfl rfl HEc.out (fun w' hw' => ?_) ?_; rotate_left; (· skip; go_simp; try with_reducible rfl); simp only [Act.put, List.setIfInBounds_toArray, List.set_cons_zero, List.set_cons_succ]
        refine plS_val (v := ?_) rfl rfl HEc.out (fun w' hw' => ?_) ?_; rotate_left; (· skip; go_simp; try with_reducible rfl); simp only [Act.put, List.setIfInBounds_toArray, List.set_cons_zero, List.set_cons_succ]
        have HXA : Hid ((wxc.alloc (.cells #[.int .i64 0, .int .i64 0, .int .i64 0, .int .i64 0, .int .i64 0, .int .i64 0, .int .i64 0, .int .i64 0, .int .i64 0, .string ⟨#[]⟩, .string ⟨#[]⟩, .slice none 0 0] 26)).heap[xb1]? = some (.cells #[.int .i64 0, .int .i64 0, .int .i64 0, .int .i64 0, .int .i64 0, .int .i64 0, .int .i64 0, .int .i64 0, .int .i64 0, .string ⟨#[]⟩, .string ⟨#[]⟩, .slice none 0 0] 26 (0, 0))) := Lib.hid (by rw [← hxb1]; exact heap_alloc_new _ _)
        refine plS_run (w' := wxc.alloc (.cells #[.int .i64 0, .int .i64 0, .int .i64 0, .int .i64 0, .int .i64 0, .int .i64 0, .int .i64 0, .int .i64 0, .int .i64 0, .string ⟨#[]⟩, .string ⟨#[]⟩, .slice none 0 0] 26)) (.pointer (some ⟨xb1, 0, none⟩)) rfl rfl (by have q := hxb1; go_simp; try (first | rfl | (rw [q]))) (eA.alloc _) ?_; simp only [Act.put, List.setIfInBounds_toArray, List.set_cons_zero, List.set_cons_succ]
        obtain ⟨wx, hwx⟩ : ∃ wx, (wxc.alloc (.cells #[.int .i64 0, .int .i64 0, .int .i64 0, .int .i64 0, .int .i64 0, .int .i64 0, .int .i64 0, .int .i64 0, .int .i64 0, .string ⟨#[]⟩, .string ⟨#[]⟩, .slice none 0 0] 26)).setRow xb1 ((AR.zero 0).wd AX nX cX).cs = wx := ⟨_, rfl⟩
        have eE : Ext wxc wx := by rw [← hwx]; exact below_setRow ((Ext.refl wxc).alloc _) (by omega) _
        have HEe := Lib.hid (eA.trans eE)
        have HXE : Hid (wx.heap[xb1]? = some (.cells ((AR.zero 0).wd AX nX cX).cs 26 (0, 0))) := Lib.hid (by rw [← hwx]; exact setRow_heap _ xb1 _ _ _ _ HXA.out)
        have HSE : Hid (Sees wx AX nX cX (bs [])) := Lib.hid (sX.ext eE)
        refine plS_void (w' := wx) rfl rfl (by rw [← hwx]; exact exec_storeRow 26 (.tmp 6) (.tmp 25) rfl xb1 _ rfl rfl 26 _ HXA.out (HI.out _) rfl (HU.out _)) HEe.out ?_
        refine plS_val (v := ?_) rfl rfl HEe.out (fun w' hw' => ?_) ?_; rotate_left; (· skip; go_simp; try with_reducible rfl); simp only [Act.put, List.setIfInBounds_toArray, List.set_cons_zero, List.set_cons_succ]
        refine plS_done ?_
        clear eA eE hwx HXA hxb1 eX sX HEc
        have HXq2 := HXE
        have HBX := trivial
        have HRF := Lib.hid (EXI.out.trans ((Ext.refl wr).drew.trans HEe.out))
        have HCE : Hid (cEq ((AR.zero 0).wd AX nX cX) (AR.zero 0) [] [] = true) := Lib.hid (cEq_self _ _ _ rfl)
        have HZA : Hid (∀ (j : Nat) (v : Value), ((AR.zero 0).wd AX nX cX).cs[j]? = some v → ((AR.zero 0).wd AX nX cX).cs[0 + j]? = some v) := Lib.hid fun j v h => by rw [Nat.zero_add]; exact h
        have HZS : Hid (Calls Try.prog 22 #[.agg ((AR.zero 0).wd AX nX cX).cs, .agg #[.int .i64 0, .int .i64 0, .int .i64 0, .int .i64 0, .int .i64 0, .int .i64 0, .int .i64 0, .int .i64 0, .int .i64 0, .string ⟨#[]⟩, .string ⟨#[]⟩, .slice none 0 0]] wx fun e w' => e = .returned (.bool true) ∧ Ext wx w') := Lib.hid (by
          have h9 := rsame14 ((AR.zero 0).wd AX nX cX) (AR.zero 0) [] [] wx HSE.out (Sees.nil _)
          rw [HCE.out] at h9
          exact h9)
        go_wp2_with (first | (with_reducible refine wpList_load_sub rfl 26 (.tmp 6) rfl xb1 0 rfl 26 _ _ _ _ HXq2.out HZA.out Try.underlying26 rfl (HI.out _) ?_) | fail)
        refine HZS.out.mono ?_
        rintro e w9 ⟨rfl, e9⟩
        have E9 := Lib.hid (HRF.out.trans e9)
        clear e9
        go_wp2_with fail
        go_roundw
        case rel => exact ⟨k + 1, by omega, by go_num, E9.out⟩
        case measure => simp [intOf]; omega
      · obtain ⟨xb1, hxb1⟩ : ∃ xb1, wr.drew.heap.size = xb1 := ⟨_, rfl⟩
        have HXA : Hid ((wr.drew.alloc (.cells #[.int .i64 0, .int .i64 0, .int .i64 0, .int .i64 0, .int .i64 0, .int .i64 0, .int .i64 0, .int .i64 0, .int .i64 0, .string ⟨#[]⟩, .string ⟨#[]⟩, .slice none 0 0] 26)).heap[xb1]? = some (.cells #[.int .i64 0, .int .i64 0, .int .i64 0, .int .i64 0, .int .i64 0, .int .i64 0, .int .i64 0, .int .i64 0, .int .i64 0, .string ⟨#[]⟩, .string ⟨#[]⟩, .slice none 0 0] 26 (0, 0))) := Lib.hid (by rw [← hxb1]; exact heap_alloc_new _ _)
        have e0 : Ext wr.drew (wr.drew.alloc (.cells #[.int .i64 0, .int .i64 0, .int .i64 0, .int .i64 0, .int .i64 0, .int .i64 0, .int .i64 0, .int .i64 0, .int .i64 0, .string ⟨#[]⟩, .string ⟨#[]⟩, .slice none 0 0] 26)) := (Ext.refl _).alloc _
        refine plS_run (w' := wr.drew.alloc (.cells #[.int .i64 0, .int .i64 0, .int .i64 0, .int .i64 0, .int .i64 0, .int .i64 0, .int .i64 0, .int .i64 0, .int .i64 0, .string ⟨#[]⟩, .string ⟨#[]⟩, .slice none 0 0] 26)) (.pointer (some ⟨xb1, 0, none⟩)) rfl rfl (by have q := hxb1; go_simp; try (first | rfl | (rw [q]))) e0 ?_; simp only [Act.put, List.setIfInBounds_toArray, List.set_cons_zero, List.set_cons_succ]
        refine plS_call 20 #[.int .i64 (gk a.pr), .slice (some ⟨g12, 0, none⟩) k cap12] rfl rfl (by go_simp) ?_
        refine (cread_any (gk a.pr) (some ⟨g12, 0, none⟩) k cap12 (OB.take k) _ (HSR.out.ext e0) (by have := HBL.out; omega)).mono ?_
        rintro e wxc ⟨AX, nX, cX, rfl, sX, eX⟩
        have hz0 := rd_zero (gk a.pr) (OB.take k) (by rw [HRC.out]; omega)
        rw [hz0.1, HRC.out]
        rw [hz0.2] at sX
        have eA : Ext wr.drew wxc := e0.trans eX
        have HEc := Lib.hid eA
        refine ⟨_, rfl, eA, ?_⟩; simp only [Act.put, List.setIfInBounds_toArray, List.set_cons_zero, List.set_cons_succ]
        refine plS_val (v := ?_) rfl rfl HEc.out (fun w' hw' => ?_) ?_; rotate_left; (· skip; go_simp; try with_reducible rfl); simp only [Act.put, List.setIfInBounds_toArray, List.set_cons_zero, List.set_cons_succ]
        refine plS_val (v := ?_) rfl rfl HEc.out (fun w' hw' => ?_) ?_; rotate_left; (· skip; go_simp; try with_reducible rfl); simp only [Act.put, List.setIfInBounds_toArray, List.set_cons_zero, List.set_cons_succ]
        refine plS_val (v := ?_) rfl rfl HEc.out (fun w' hw' => ?_) ?_; rotate_left; (· skip; go_simp; try with_reducible rfl); simp only [Act.put, List.setIfInBounds_toArray, List.set_cons_zero, List.set_cons_succ]
        have HXC := Lib.hid (eX.heap HXA.out)
        obtain ⟨wx, hwx⟩ : ∃ wx, wxc.setRow xb1 ((AR.zero 0).wd AX nX cX).cs = wx := ⟨_, rfl⟩
        have HEe : Hid (Ext wr.drew wx) := Lib.hid (by rw [← hwx]; exact below_setRow eA (by omega) _)
        have HXE : Hid (wx.heap[xb1]? = some (.cells ((AR.zero 0).wd AX nX cX).cs 26 (0, 0))) := Lib.hid (by rw [← hwx]; exact setRow_heap _ xb1 _ _ _ _ HXC.out)
        have HSE : Hid (Sees wx AX nX cX (bs [])) := Lib.hid (by rw [← hwx]; exact sees_offB sX HXC.out (fun i x h => by have hm := Array.mem_of_getElem? h; simp at hm) ⟨rfl, rfl, rfl, by simp [World.setRow], fun i hi h1 h2 => setRow_other _ _ _ _ h1⟩)
        refine plS_void (w' := wx) rfl rfl (by rw [← hwx]; exact exec_storeRow 26 (.tmp 6) (.tmp 25) rfl xb1 _ rfl rfl 26 _ HXC.out (HI.out _) rfl (HU.out _)) HEe.out ?_
        refine plS_val (v := ?_) rfl rfl HEe.out (fun w' hw' => ?_) ?_; rotate_left; (· skip; go_simp; try with_reducible rfl); simp only [Act.put, List.setIfInBounds_toArray, List.set_cons_zero, List.set_cons_succ]
        refine plS_done ?_
        clear eA e0 hwx HXA HXC hxb1 eX sX HEc
        have HXq2 := HXE
        have HBX := trivial
        have HRF := Lib.hid (EXI.out.trans ((Ext.refl wr).drew.trans HEe.out))
        have HCE : Hid (cEq ((AR.zero 0).wd AX nX cX) (AR.zero 0) [] [] = true) := Lib.hid (cEq_self _ _ _ rfl)
        have HZA : Hid (∀ (j : Nat) (v : Value), ((AR.zero 0).wd AX nX cX).cs[j]? = some v → ((AR.zero 0).wd AX nX cX).cs[0 + j]? = some v) := Lib.hid fun j v h => by rw [Nat.zero_add]; exact h
        have HZS : Hid (Calls Try.prog 22 #[.agg ((AR.zero 0).wd AX nX cX).cs, .agg #[.int .i64 0, .int .i64 0, .int .i64 0, .int .i64 0, .int .i64 0, .int .i64 0, .int .i64 0, .int .i64 0, .int .i64 0, .string ⟨#[]⟩, .string ⟨#[]⟩, .slice none 0 0]] wx fun e w' => e = .returned (.bool true) ∧ Ext wx w') := Lib.hid (by
          have h9 := rsame14 ((AR.zero 0).wd AX nX cX) (AR.zero 0) [] [] wx HSE.out (Sees.nil _)
          rw [HCE.out] at h9
          exact h9)
        go_wp2_with (first | (with_reducible refine wpList_load_sub rfl 26 (.tmp 6) rfl xb1 0 rfl 26 _ _ _ _ HXq2.out HZA.out Try.underlying26 rfl (HI.out _) ?_) | fail)
        refine HZS.out.mono ?_
        rintro e w9 ⟨rfl, e9⟩
        have E9 := Lib.hid (HRF.out.trans e9)
        clear e9
        go_wp2_with fail
        go_roundw
        case rel => exact ⟨k + 1, by omega, by go_num, E9.out⟩
        case measure => simp [intOf]; omega
    · obtain rfl : k = N := by omega
      go_wp2_with fail
      refine (lives14 _).mono ?_
      rintro e w9 ⟨rfl, e9⟩
      go_wp2_with fail
      go_ret
      exact ⟨rfl, E5.out.trans (EXI.out.trans e9)⟩
end Go.Proofs.Ytpjigdfllbhknaa
