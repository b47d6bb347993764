/-
  Layer 14: what is read of bytes, or the error: the program against the document.
-/
import Derived.Test.YtpjigdfllbhknaaCan
import Derived.Test.YtpjigdfllbhknaaCallsSame
import Derived.Test.YtpjigdfllbhknaaRws
namespace Go.Proofs.Ytpjigdfllbhknaa
open Go Go.RowKit
set_option linter.unusedVariables false
set_option linter.unusedSimpArgs false
set_option maxRecDepth 20000 in
set_option maxHeartbeats 4000000 in
theorem cr_walk (Ab : Option Addr) (nb cb : Nat) (lb : List UInt8) (a1 : Value) (at_ c proc : Int) (w : World) (hb : Sees w Ab nb cb (bs lb)) (w1 : Is_args w a1) (hat : I64 at_) (hc : 0 ≤ c ∧ c ≤ 255) (hp : I64 proc) :
    Calls Try.prog 5 #[.slice Ab nb cb, a1, .int .i64 at_, .int .u8 c, .int .i64 proc] w fun e w' => e = .returned (.bool true) ∧ Ext w w' := by
  obtain ⟨a, l, rfl, ha, sa⟩ := args_open w1
  obtain ⟨u, rfl⟩ : ∃ u : UInt8, c = (u.toNat : Int) := ⟨UInt8.ofNat c.toNat, (u8_of c hc.1 (by omega)).symm⟩
  obtain ⟨ab, hab⟩ : ∃ ab, w.heap.size = ab := ⟨_, rfl⟩
  obtain ⟨w2, hw2⟩ : ∃ w2, w.alloc (.cells a.cs 26) = w2 := ⟨_, rfl⟩
  have e2 : Ext w w2 := by rw [← hw2]; exact (Ext.refl w).alloc _
  have ba : w2.heap[ab]? = some (.cells a.cs 26 (0, 0)) := by rw [← hw2, ← hab]; exact heap_alloc_new w _
  have HA := Lib.hid ha
  have HSA := Lib.hid (sa.ext e2)
  have HSB := Lib.hid (hb.ext e2)
  have E2 := Lib.hid e2
  have BA := Lib.hid ba
  have HAT := Lib.hid hat
  have HP := Lib.hid hp
  have HI := Lib.hid (fun b : AR => arg_info b)
  have HU := Lib.hid (fun b : AR => AR.one b)
  clear ha hb hat hc hp w1 sa e2 ba
  go_enter Try.func5, Try.ntmps5
  go_wp2_with (first | (with_reducible refine wpList_load_row rfl 26 (.tmp 6) rfl ab rfl _ _ _ _ BA.out Try.underlying26 rfl (HI.out _) ?_) | fail)
  refine (good14 a l _ HA.out HSA.out).mono ?_
  rintro e w3 ⟨A0, n0, c0, rfl, s0, e3⟩
  have hn0 : n0 ≤ 30 := by have h9 := s0.len; rw [bs_length, List.length_take] at h9; omega
  have hbl := gd_bytes a A0 n0 c0 l
  have hgl := gdL_len a l
  have hok : (gdA a A0 n0 c0).ok := gdA_ok hn0
  have hsg := sees_gdA (a := a) s0
  have hpr : (gdA a A0 n0 c0).pr = gk a.pr := rfl
  obtain ⟨G, hG⟩ : ∃ G, gdA a A0 n0 c0 = G := ⟨_, rfl⟩
  obtain ⟨GL, hGL⟩ : ∃ G, gdL a l = G := ⟨_, rfl⟩
  rw [hG] at hbl hok hsg hpr ⊢
  rw [hGL] at hbl hgl hsg
  obtain ⟨OB, hOB⟩ : ∃ OB, bytesB G GL (fld (gk a.pr)) = OB := ⟨_, rfl⟩
  rw [hOB] at hbl
  obtain ⟨N, hN⟩ : ∃ N, OB.length = N := ⟨_, rfl⟩
  rw [hN] at hbl
  obtain ⟨gb, hgb⟩ : ∃ gb, w3.heap.size = gb := ⟨_, rfl⟩
  have HXA : Hid ((w3.alloc (.cells #[.int .i64 0, .int .i64 0, .int .i64 0, .int .i64 0, .int .i64 0, .int .i64 0, .int .i64 0, .int .i64 0, .int .i64 0, .string ⟨#[]⟩, .string ⟨#[]⟩, .slice none 0 0] 26)).heap[gb]? = some (.cells #[.int .i64 0, .int .i64 0, .int .i64 0, .int .i64 0, .int .i64 0, .int .i64 0, .int .i64 0, .int .i64 0, .int .i64 0, .string ⟨#[]⟩, .string ⟨#[]⟩, .slice none 0 0] 26 (0, 0))) := Lib.hid (by rw [← hgb]; exact heap_alloc_new _ _)
  have e34 : Ext w3 ((w3.alloc (.cells #[.int .i64 0, .int .i64 0, .int .i64 0, .int .i64 0, .int .i64 0, .int .i64 0, .int .i64 0, .int .i64 0, .int .i64 0, .string ⟨#[]⟩, .string ⟨#[]⟩, .slice none 0 0] 26)).setRow gb G.cs) := below_setRow ((Ext.refl w3).alloc _) (by omega) _
  have HX4 : Hid (((w3.alloc (.cells #[.int .i64 0, .int .i64 0, .int .i64 0, .int .i64 0, .int .i64 0, .int .i64 0, .int .i64 0, .int .i64 0, .int .i64 0, .string ⟨#[]⟩, .string ⟨#[]⟩, .slice none 0 0] 26)).setRow gb G.cs).heap[gb]? = some (.cells G.cs 26 (0, 0))) := Lib.hid (setRow_heap _ gb _ _ _ _ HXA.out)
  have E4 := Lib.hid (E2.out.trans (e3.trans e34))
  have HSB4 := Lib.hid (HSB.out.ext (e3.trans e34))
  have HBY := Lib.hid (bytes14 G GL ((w3.alloc (.cells #[.int .i64 0, .int .i64 0, .int .i64 0, .int .i64 0, .int .i64 0, .int .i64 0, .int .i64 0, .int .i64 0, .int .i64 0, .string ⟨#[]⟩, .string ⟨#[]⟩, .slice none 0 0] 26)).setRow gb G.cs) hok (by omega) (hsg.ext e34))
  rw [hpr, hOB, hN] at HBY
  have HBL := Lib.hid hbl
  have HN := Lib.hid hN
  have HPR : Hid (G.pr = gk a.pr) := Lib.hid hpr
  clear hsg e34 e3 s0 hok hG hGL hOB hbl hN hpr hgl
  go_wp2_with (first | (with_reducible refine wpList_store_row rfl 26 (.tmp 11) (.tmp 25) rfl gb _ rfl rfl _ _ HXA.out (HI.out _) rfl (HU.out _) ?_) | (with_reducible refine wpList_load_row rfl 26 (.tmp 11) rfl gb rfl _ _ _ _ HX4.out Try.underlying26 rfl (HI.out _) ?_) | fail)
  refine HBY.out.mono ?_
  rintro e w5 ⟨v12, rfl, own12, e5⟩
  obtain ⟨g12, cap12, rfl, om12⟩ := OwnM.of_own own12 HBL.out.1
  have E5 := Lib.hid (E4.out.trans e5)
  have HX5 := Lib.hid (e5.heap HX4.out)
  have HSB5 := Lib.hid (HSB4.out.ext e5)
  have OM12 := Lib.hid om12
  have hcap : N ≤ cap12 := om12.sees.le
  clear own12 om12 e5
  go_wp2_with fail
  refine (around_any at_ (N : Int) _ HAT.out.1 HAT.out.2 (by have := HBL.out; omega) (by have := HBL.out; omega)).mono ?_
  rintro e _ ⟨rfl, rfl⟩
  obtain ⟨K, hK, hKN⟩ : ∃ K : Nat, aroundZ at_ (N : Int) = K ∧ K < N := by
    have h9 := aroundZ_bound at_ (N : Int) (by have := HBL.out; omega)
    exact ⟨(aroundZ at_ (N : Int)).toNat, by omega, by omega⟩
  rw [hK]
  clear hK
  go_wp2_with fail
  refine (few_nat (some ⟨g12, 0, none⟩) N cap12 400 400 (bs OB) _ OM12.out.sees (fun u hu => bs_one OB u hu) (by omega) (by omega) rfl).mono ?_
  rintro e w6 ⟨v14, rfl, own14', e6⟩
  rw [bs_take, List.take_of_length_le (by rw [HN.out]; have := HBL.out; omega), Nat.min_eq_left (by have := HBL.out; omega)] at own14'
  obtain ⟨g14, cap14, rfl, om14⟩ := OwnM.of_own own14' HBL.out.1
  have hcap14 : N ≤ cap14 := om14.sees.le
  obtain ⟨o14, x14⟩ := om14.some_ K (by omega)
  have f14 := om14.frozen K (by omega)
  have hg14 : w5.heap.size ≤ g14 := om14.1
  have OM14 := Lib.hid (om14.set K hKN u)
  have E67 : Hid (Ext w5 (w6.setCell ⟨g14, K, none⟩ (.int .u8 (u.toNat : Int)))) := Lib.hid ((On2.set (tb := g14) (mb := g14) w6 ⟨g14, K, none⟩ _ (.inl rfl)).ext e6 hg14 hg14)
  obtain ⟨w7, hw7⟩ : ∃ w7, w6.setCell ⟨g14, K, none⟩ (.int .u8 (u.toNat : Int)) = w7 := ⟨_, rfl⟩
  rw [hw7] at OM14 E67
  have E7 := Lib.hid (E5.out.trans E67.out)
  have HX7 := Lib.hid (E67.out.heap HX5.out)
  have HSB7 := Lib.hid (HSB5.out.ext E67.out)
  have OM127 := Lib.hid (OM12.out.ext E67.out)
  clear own14' om14 e6 hg14
  go_wp2_with fail
  refine (few_nat (some ⟨g12, 0, none⟩) N cap12 400 400 (bs OB) _ OM127.out.sees (fun u hu => bs_one OB u hu) (by omega) (by omega) rfl).mono ?_
  rintro e w8 ⟨v15, rfl, own15, e8⟩
  rw [bs_take, List.take_of_length_le (by rw [HN.out]; have := HBL.out; omega), Nat.min_eq_left (by have := HBL.out; omega)] at own15
  obtain ⟨A15, c15, rfl, _⟩ := Sees.of_own own15
  obtain ⟨s8, hs8⟩ : ∃ s8, w8.heap.size = s8 := ⟨_, rfl⟩
  obtain ⟨v10, w10, hrun, own10, e10⟩ := push_bytes (a := w7) (own15.alloc (.cells #[.int .u8 (u.toNat : Int)] 5)) (r := [u]) (sees_new w8 5 #[.int .u8 (u.toNat : Int)] (by unfold maxLen; simp)) (by have := HBL.out; simp; omega) (e8.alloc _)
  obtain ⟨A10, c10, rfl, see10⟩ := Sees.of_own own10
  have E710 := Lib.hid e10
  have E10 := Lib.hid (E7.out.trans e10)
  have HX10 := Lib.hid (e10.heap HX7.out)
  have HSB10 := Lib.hid (HSB7.out.ext e10)
  have S12 := Lib.hid (OM127.out.sees.ext e10)
  have S14 := Lib.hid (OM14.out.sees.ext e10)
  have S15 := Lib.hid see10
  have SK : Hid (Sees w10 (some ⟨g12, 0, none⟩) K cap12 (bs (OB.take K))) := Lib.hid (by have h9 := S12.out.take K (by omega); rw [bs_take] at h9; exact h9)
  clear own15 own10 see10 e10 e8
  rw [hs8] at hrun
  go_wp2_with (first | (at_builtin; refine wpList_append_run rfl (.tmp 39) (.tmp 41) _ rfl _ _ rfl rfl _ w10 hrun ?_) | fail)
  have hkc : K ≤ cap12 := by omega
  refine wp_region_pl (.free 0 (.free 2 (.free 3 (.free 4 (.free 5 (.free 6 (.free 7 (.one 1 (.one 8 (.free 9 .nil)))))))))) (by kernel_rfl) (by kernel_rfl) (by kernel_rfl) (by kernel_rfl) ?_
  refine pl_val (v := ?_) rfl rfl (fun w' hw' => ?_) ?_; rotate_left; (· skip; go_simp; try with_reducible rfl); simp only [Act.put, List.setIfInBounds_toArray, List.set_cons_zero, List.set_cons_succ]
  refine pl_val (v := ?_) rfl rfl (fun w' hw' => ?_) ?_; rotate_left; (· skip; go_simp; try with_reducible rfl); simp only [Act.put, List.setIfInBounds_toArray, List.set_cons_zero, List.set_cons_succ]
  refine pl_val (v := ?_) rfl rfl (fun w' hw' => ?_) ?_; rotate_left; (· skip; go_simp; try with_reducible rfl); simp only [Act.put, List.setIfInBounds_toArray, List.set_cons_zero, List.set_cons_succ]
  refine pl_val (v := ?_) rfl rfl (fun w' hw' => ?_) ?_; rotate_left; (· skip; go_simp; try with_reducible rfl); simp only [Act.put, List.setIfInBounds_toArray, List.set_cons_zero, List.set_cons_succ]
  refine pl_val (v := ?_) rfl rfl (fun w' hw' => ?_) ?_; rotate_left; (· skip; go_simp; try with_reducible rfl); simp only [Act.put, List.setIfInBounds_toArray, List.set_cons_zero, List.set_cons_succ]
  refine pl_val (v := .slice (some ⟨g12, 0, none⟩) K cap12) rfl rfl (fun w' hw' => by go_simp; first | done | omega | (intro hx; omega)) ?_; simp only [Act.put, List.setIfInBounds_toArray, List.set_cons_zero, List.set_cons_succ]
  refine pl_val (v := ?_) rfl rfl (fun w' hw' => ?_) ?_; rotate_left; (· skip; go_simp; try with_reducible rfl); simp only [Act.put, List.setIfInBounds_toArray, List.set_cons_zero, List.set_cons_succ]
  refine pl_call 11 #[.slice Ab nb cb, .int .i64 80] rfl rfl (by go_simp) ?_
  refine (few_nat Ab nb cb 80 80 (bs lb) _ (HSB10.out.ext (Ext.refl w10).drew) (fun u hu => bs_one lb u hu) (by omega) (by omega) rfl).mono ?_
  rintro e w11 ⟨v11, rfl, own11, e11⟩
  obtain ⟨A11, c11, rfl, see11⟩ := Sees.of_own own11
  rw [bs_take] at see11
  refine ⟨_, rfl, e11, ?_⟩; simp only [Act.put, List.setIfInBounds_toArray, List.set_cons_zero, List.set_cons_succ]
  obtain ⟨qb, hqb⟩ : ∃ qb, w11.heap.size = qb := ⟨_, rfl⟩
  obtain ⟨w12, hw12⟩ : ∃ w12, w11.alloc (.cells #[.slice A11 (min nb 80) c11, .slice (some ⟨g12, 0, none⟩) N cap12, .slice (some ⟨g14, 0, none⟩) N cap14, .slice (some ⟨g12, 0, none⟩) K cap12, .slice A10 (N + [u].length) c10] 24) = w12 := ⟨_, rfl⟩
  have e12 : Ext w11 w12 := by rw [← hw12]; exact (Ext.refl w11).alloc _
  have q12 : w12.heap[qb]? = some (.cells #[.slice A11 (min nb 80) c11, .slice (some ⟨g12, 0, none⟩) N cap12, .slice (some ⟨g14, 0, none⟩) N cap14, .slice (some ⟨g12, 0, none⟩) K cap12, .slice A10 (N + [u].length) c10] 24 (0, 0)) := by rw [← hw12, ← hqb]; exact heap_alloc_new _ _
  refine pl_run (w' := w12) (.slice (some ⟨qb, 0, none⟩) 5 5) rfl rfl (by rw [← hw12, ← hqb]; go_simp; first | done | rfl | exact ⟨rfl, rfl⟩) e12 ?_; simp only [Act.put, List.setIfInBounds_toArray, List.set_cons_zero, List.set_cons_succ]
  refine pl_val (v := ?_) rfl rfl (fun w' hw' => ?_) ?_; rotate_left; (· skip; go_simp; try with_reducible rfl); simp only [Act.put, List.setIfInBounds_toArray, List.set_cons_zero, List.set_cons_succ]
  refine pl_done ?_
  have e1012 : Ext w10 w12 := ((Ext.refl w10).drew.trans e11).trans e12
  have HX12 := Lib.hid (e1012.heap HX10.out)
  have E12 := Lib.hid (E10.out.trans e1012)
  have HNL := Lib.hid HBL.out.2
  have h5 : ∀ i, i < 5 → ∃ A n c B, w12.cell? ⟨qb, i, none⟩ = some (.slice A n c) ∧ Sees w12 A n c (bs B) ∧ n ≤ 1000 := by
    intro i hi
    match i, hi with
    | 0, _ => exact ⟨_, _, _, _, (cell_of_row w12 qb 0 _ _ _ q12).trans rfl, see11.ext e12, by omega⟩
    | 1, _ => exact ⟨_, _, _, _, (cell_of_row w12 qb 1 _ _ _ q12).trans rfl, S12.out.ext e1012, by have := HNL.out; omega⟩
    | 2, _ => exact ⟨_, _, _, _, (cell_of_row w12 qb 2 _ _ _ q12).trans rfl, S14.out.ext e1012, by have := HNL.out; omega⟩
    | 3, _ => exact ⟨_, _, _, _, (cell_of_row w12 qb 3 _ _ _ q12).trans rfl, SK.out.ext e1012, by have := HNL.out; omega⟩
    | 4, _ => exact ⟨_, _, _, _, (cell_of_row w12 qb 4 _ _ _ q12).trans rfl, S15.out.ext e1012, by have := HNL.out; simp; omega⟩
    | n + 5, h => omega
  have H5 := Lib.hid h5
  clear h5 hw12 q12 e12 own11 see11 e11 e1012 hrun hs8 hkc hw7
  go_wp2_with fail
  have HG0 : Hid (w12.drew.cell? ⟨gb, 0, none⟩ = some (.int .i64 (gk a.pr))) := Lib.hid (by have h9 := (cell_of_row w12 gb 0 _ _ _ HX12.out).trans (show _ = some (.int .i64 G.pr) from rfl); rw [HPR.out] at h9; exact h9)
  refine wp_region_pl (.free 0 (.free 1 (.free 2 (.free 3 (.free 4 (.one 5 (.free 6 .nil))))))) (by kernel_rfl) (by kernel_rfl) (by kernel_rfl) (by kernel_rfl) ?_
  refine pl_val (v := ?_) rfl rfl (fun w' hw' => ?_) ?_; rotate_left; (· skip; go_simp; try with_reducible rfl); simp only [Act.put, List.setIfInBounds_toArray, List.set_cons_zero, List.set_cons_succ]
  refine pl_val (v := ?_) rfl rfl (fun w' hw' => ?_) ?_; rotate_left; (· skip; go_simp; try with_reducible rfl); simp only [Act.put, List.setIfInBounds_toArray, List.set_cons_zero, List.set_cons_succ]
  refine pl_val (v := .int .i64 (gk a.pr)) rfl rfl (fun w' hw' => by have q := hw'.cell HG0.out; go_simp; try rfl) ?_; simp only [Act.put, List.setIfInBounds_toArray, List.set_cons_zero, List.set_cons_succ]
  refine pl_val (v := ?_) rfl rfl (fun w' hw' => ?_) ?_; rotate_left; (· skip; go_simp; try with_reducible rfl); simp only [Act.put, List.setIfInBounds_toArray, List.set_cons_zero, List.set_cons_succ]
  refine pl_even 19 #[.int .i64 proc, .int .i64 18] (.int .i64 (aroundZ proc 18)) rfl rfl (fun w' hw' => by go_simp) (fun w' hw' => around_any proc 18 w' HP.out.1 HP.out.2 (by omega) (by omega)) ?_; simp only [Act.put, List.setIfInBounds_toArray, List.set_cons_zero, List.set_cons_succ]
  obtain ⟨pb, hpb⟩ : ∃ pb, w12.drew.heap.size = pb := ⟨_, rfl⟩
  obtain ⟨w13, hw13⟩ : ∃ w13, w12.drew.alloc (.cells #[.int .i64 proc, .int .i64 (gk a.pr), .int .i64 (aroundZ proc 18)] 3) = w13 := ⟨_, rfl⟩
  have e13 : Ext w12 w13 := by rw [← hw13]; exact (Ext.refl w12).drew.alloc _
  have e13d : Ext w12.drew w13 := by rw [← hw13]; exact (Ext.refl w12.drew).alloc _
  have q13 : w13.heap[pb]? = some (.cells #[.int .i64 proc, .int .i64 (gk a.pr), .int .i64 (aroundZ proc 18)] 3 (0, 0)) := by rw [← hw13, ← hpb]; exact heap_alloc_new _ _
  refine pl_run (w' := w13) (.slice (some ⟨pb, 0, none⟩) 3 3) rfl rfl (by rw [← hw13, ← hpb]; go_simp; first | done | rfl | exact ⟨rfl, rfl⟩) e13d ?_; simp only [Act.put, List.setIfInBounds_toArray, List.set_cons_zero, List.set_cons_succ]
  refine pl_val (v := ?_) rfl rfl (fun w' hw' => ?_) ?_; rotate_left; (· skip; go_simp; try with_reducible rfl); simp only [Act.put, List.setIfInBounds_toArray, List.set_cons_zero, List.set_cons_succ]
  refine pl_done ?_
  have h3 : ∀ q, q < 3 → ∃ z, w13.cell? ⟨pb, q, none⟩ = some (.int .i64 z) := by
    intro q hq
    match q, hq with
    | 0, _ => exact ⟨_, (cell_of_row w13 pb 0 _ _ _ q13).trans rfl⟩
    | 1, _ => exact ⟨_, (cell_of_row w13 pb 1 _ _ _ q13).trans rfl⟩
    | 2, _ => exact ⟨_, (cell_of_row w13 pb 2 _ _ _ q13).trans rfl⟩
    | n + 3, h => omega
  have H3 := Lib.hid h3
  have H5' : Hid (∀ i, i < 5 → ∃ A n c B, w13.cell? ⟨qb, i, none⟩ = some (.slice A n c) ∧ Sees w13 A n c (bs B) ∧ n ≤ 1000) := Lib.hid fun i hi => by
    obtain ⟨A, n, c, B, g1, g2, g3⟩ := H5.out i hi
    exact ⟨A, n, c, B, e13.cell g1, g2.ext e13, g3⟩
  have E13 := Lib.hid (E12.out.trans e13)
  clear h3 hw13 q13 e13 e13d
  go_wp2_with fail
  go_loopw [18] (fun iv wr => ∃ i : Nat, i ≤ 5 ∧ iv = .int .i64 (i : Int) ∧ Ext w13 wr) (fun iv _ => 5 - (intOf iv).toNat)
  case atStart => exact ⟨0, by omega, rfl, Ext.refl _⟩
  case round =>
    obtain ⟨i, hi, rfl, exti⟩ := hrel
    obtain ⟨wq, hwq⟩ : ∃ wq, wq = wr := ⟨_, rfl⟩
    subst hwq
    have EXI := Lib.hid exti
    clear exti
    by_cases hlt : i < 5
    · have hlt' : (i : Int) < 5 := by omega
      obtain ⟨A, n, c, B, hcB, hsB, hnB⟩ := H5'.out i hlt
      have HCB := Lib.hid hcB
      have HSBB := Lib.hid hsB
      clear hcB hsB
      go_wp2_with fail
      go_loopw [19] (fun kv wr => ∃ k : Nat, k ≤ 3 ∧ kv = .int .i64 (k : Int) ∧ Ext w13 wr) (fun kv _ => 3 - (intOf kv).toNat)
      case atStart => exact ⟨0, by omega, rfl, EXI.out⟩
      case round =>
        obtain ⟨k, hk, rfl, extk⟩ := hrel
        have EXK := Lib.hid extk
        clear extk
        by_cases hlk : k < 3
        · have hlk' : (k : Int) < 3 := by omega
          obtain ⟨z, hcz⟩ := H3.out k hlk
          have HCZ := Lib.hid hcz
          clear hcz
          go_wp2_with fail
          have HS0 : Hid (Ext wr.drew wr.drew) := Lib.hid (Ext.refl _)
          have HQ : Hid (∀ w', Ext wr.drew w' → w'.cell? ⟨pb, k, none⟩ = some (.int .i64 z) ∧ w'.cell? ⟨qb, i, none⟩ = some (.slice A n c)) := Lib.hid fun w' he => ⟨(EXK.out.trans ((Ext.refl wr).drew.trans he)).cell HCZ.out, (EXK.out.trans ((Ext.refl wr).drew.trans he)).cell HCB.out⟩
          have HSR : Hid (Sees wr.drew A n c (bs B)) := Lib.hid (HSBB.out.ext (EXK.out.trans (Ext.refl wr).drew))
          refine wp_region_plS (fun v : World => Ext wr.drew v) (.free 0 (.free 1 (.free 2 (.free 3 (.free 4 (.free 5 (.free 6 (.free 7 (.fork 8 12 (.free 9 (.free 10 (.free 11 (.one 12 (.one 13 (.free 14 .nil)))))) (.one 8 (.free 9 (.free 10 (.free 11 (.one 13 (.free 14 .nil))))))))))))))) (by kernel_rfl) (by kernel_rfl) (by kernel_rfl) (by kernel_rfl) ?_
          refine plS_val (v := ?_) rfl rfl HS0.out (fun w' hw' => ?_) ?_; rotate_left; (· skip; go_simp; try with_reducible rfl); simp only [Act.put, List.setIfInBounds_toArray, List.set_cons_zero, List.set_cons_succ]
          refine plS_val (v := ?_) rfl rfl HS0.out (fun w' hw' => ?_) ?_; rotate_left; (· skip; go_simp; try with_reducible rfl); simp only [Act.put, List.setIfInBounds_toArray, List.set_cons_zero, List.set_cons_succ]
          refine plS_val (v := ?_) rfl rfl HS0.out (fun w' hw' => ?_) ?_; rotate_left; (· skip; go_simp; try with_reducible rfl); simp only [Act.put, List.setIfInBounds_toArray, List.set_cons_zero, List.set_cons_succ]
          refine plS_val (v := .int .i64 z) rfl rfl HS0.out (fun w' hw' => by have q := (HQ.out w' hw').1; go_simp; try rfl) ?_; simp only [Act.put, List.setIfInBounds_toArray, List.set_cons_zero, List.set_cons_succ]
          refine plS_val (v := ?_) rfl rfl HS0.out (fun w' hw' => ?_) ?_; rotate_left; (· skip; go_simp; try with_reducible rfl); simp only [Act.put, List.setIfInBounds_toArray, List.set_cons_zero, List.set_cons_succ]
          refine plS_val (v := ?_) rfl rfl HS0.out (fun w' hw' => ?_) ?_; rotate_left; (· skip; go_simp; try with_reducible rfl); simp only [Act.put, List.setIfInBounds_toArray, List.set_cons_zero, List.set_cons_succ]
          refine plS_val (v := ?_) rfl rfl HS0.out (fun w' hw' => ?_) ?_; rotate_left; (· skip; go_simp; try with_reducible rfl); simp only [Act.put, List.setIfInBounds_toArray, List.set_cons_zero, List.set_cons_succ]
          refine plS_val (v := .slice A n c) rfl rfl HS0.out (fun w' hw' => by have q := (HQ.out w' hw').2; go_simp; try rfl) ?_; simp only [Act.put, List.setIfInBounds_toArray, List.set_cons_zero, List.set_cons_succ]
          refine plS_fork ?_ ?_
          · refine plS_call 20 #[.int .i64 z, .slice A n c] rfl rfl (by go_simp) ?_
            refine (cread_any z A n c B _ HSR.out (by omega)).mono ?_
            rintro e wxc ⟨AX, nX, cX, rfl, sX, esX⟩
            obtain ⟨xb1, hxb1⟩ : ∃ xb1, wxc.heap.size = xb1 := ⟨_, rfl⟩
            have eA : Ext wr.drew wxc := esX
            have HEc := Lib.hid eA
            refine ⟨_, rfl, eA, ?_⟩; simp only [Act.put, List.setIfInBounds_toArray, List.set_cons_zero, List.set_cons_succ]
            refine plS_val (v := ?_) rfl rfl HEc.out (fun w' hw' => ?_) ?_; rotate_left; (· skip; go_simp; try with_reducible rfl); simp only [Act.put, List.setIfInBounds_toArray, List.set_cons_zero, List.set_cons_succ]
            refine plS_val (v := ?_) rfl rfl HEc.out (fun w' hw' => ?_) ?_; rotate_left; (· skip; go_simp; try with_reducible rfl); simp only [Act.put, List.setIfInBounds_toArray, List.set_cons_zero, List.set_cons_succ]
            refine plS_val (v := ?_) rfl rfl HEc.out (fun w' hw' => ?_) ?_; rotate_left; (· skip; go_simp; try with_reducible rfl); simp only [Act.put, List.setIfInBounds_toArray, List.set_cons_zero, List.set_cons_succ]
            have HXA : Hid ((wxc.alloc (.cells #[.int .i64 0, .int .i64 0, .int .i64 0, .int .i64 0, .int .i64 0, .int .i64 0, .int .i64 0, .int .i64 0, .int .i64 0, .string ⟨#[]⟩, .string ⟨#[]⟩, .slice none 0 0] 26)).heap[xb1]? = some (.cells #[.int .i64 0, .int .i64 0, .int .i64 0, .int .i64 0, .int .i64 0, .int .i64 0, .int .i64 0, .int .i64 0, .int .i64 0, .string ⟨#[]⟩, .string ⟨#[]⟩, .slice none 0 0] 26 (0, 0))) := Lib.hid (by rw [← hxb1]; exact heap_alloc_new _ _)
            refine plS_run (w' := wxc.alloc (.cells #[.int .i64 0, .int .i64 0, .int .i64 0, .int .i64 0, .int .i64 0, .int .i64 0, .int .i64 0, .int .i64 0, .int .i64 0, .string ⟨#[]⟩, .string ⟨#[]⟩, .slice none 0 0] 26)) (.pointer (some ⟨xb1, 0, none⟩)) rfl rfl (by have q := hxb1; go_simp; try (first | rfl | (rw [q]))) (eA.alloc _) ?_; simp only [Act.put, List.setIfInBounds_toArray, List.set_cons_zero, List.set_cons_succ]
            obtain ⟨wx, hwx⟩ : ∃ wx, (wxc.alloc (.cells #[.int .i64 0, .int .i64 0, .int .i64 0, .int .i64 0, .int .i64 0, .int .i64 0, .int .i64 0, .int .i64 0, .int .i64 0, .string ⟨#[]⟩, .string ⟨#[]⟩, .slice none 0 0] 26)).setRow xb1 ((rdA z B).wd AX nX cX).cs = wx := ⟨_, rfl⟩
            have eE : Ext wxc wx := by rw [← hwx]; exact below_setRow ((Ext.refl wxc).alloc _) (by omega) _
            have HEe := Lib.hid (eA.trans eE)
            have HXE : Hid (wx.heap[xb1]? = some (.cells ((rdA z B).wd AX nX cX).cs 26 (0, 0))) := Lib.hid (by rw [← hwx]; exact setRow_heap _ xb1 _ _ _ _ HXA.out)
            have HSE := Lib.hid (sX.ext eE)
            refine plS_void (w' := wx) rfl rfl (by rw [← hwx]; exact exec_storeRow 26 (.tmp 20) (.tmp 76) rfl xb1 _ rfl rfl 26 _ HXA.out (HI.out _) rfl (HU.out _)) HEe.out ?_
            refine plS_val (v := ?_) rfl rfl HEe.out (fun w' hw' => ?_) ?_; rotate_left; (· skip; go_simp; try with_reducible rfl); simp only [Act.put, List.setIfInBounds_toArray, List.set_cons_zero, List.set_cons_succ]
            refine plS_done ?_
            clear eA eE hwx HXA hxb1 esX sX HEc
            have HEe1 := HEe
            have HXq := HXE
            have HSq := HSE
            clear HXE HSE HEe
            go_wp2_with fail
            have HS1 : Hid (Ext wx.drew wx.drew) := Lib.hid (Ext.refl _)
            have HQ1 : Hid (∀ w', Ext wx.drew w' → w'.cell? ⟨pb, k, none⟩ = some (.int .i64 z) ∧ w'.cell? ⟨qb, i, none⟩ = some (.slice A n c)) := Lib.hid fun w' he => HQ.out w' (HEe1.out.trans ((Ext.refl wx).drew.trans he))
            have HSR1 : Hid (Sees wx.drew A n c (bs B)) := Lib.hid (HSR.out.ext (HEe1.out.trans (Ext.refl wx).drew))
            refine wp_region_plS (fun v : World => Ext wx.drew v) (.free 0 (.free 1 (.free 2 (.free 3 (.free 4 (.free 5 (.free 6 (.free 7 (.fork 8 12 (.free 9 (.free 10 (.free 11 (.one 12 (.one 13 (.free 14 .nil)))))) (.one 8 (.free 9 (.free 10 (.free 11 (.one 13 (.free 14 .nil))))))))))))))) (by kernel_rfl) (by kernel_rfl) (by kernel_rfl) (by kernel_rfl) ?_
            refine plS_val (v := ?_) rfl rfl HS1.out (fun w' hw' => ?_) ?_; rotate_left; (· skip; go_simp; try with_reducible rfl); simp only [Act.put, List.setIfInBounds_toArray, List.set_cons_zero, List.set_cons_succ]
            refine plS_val (v := ?_) rfl rfl HS1.out (fun w' hw' => ?_) ?_; rotate_left; (· skip; go_simp; try with_reducible rfl); simp only [Act.put, List.setIfInBounds_toArray, List.set_cons_zero, List.set_cons_succ]
            refine plS_val (v := ?_) rfl rfl HS1.out (fun w' hw' => ?_) ?_; rotate_left; (· skip; go_simp; try with_reducible rfl); simp only [Act.put, List.setIfInBounds_toArray, List.set_cons_zero, List.set_cons_succ]
            refine plS_val (v := .int .i64 z) rfl rfl HS1.out (fun w' hw' => by have q := (HQ1.out w' hw').1; go_simp; try rfl) ?_; simp only [Act.put, List.setIfInBounds_toArray, List.set_cons_zero, List.set_cons_succ]
            refine plS_val (v := ?_) rfl rfl HS1.out (fun w' hw' => ?_) ?_; rotate_left; (· skip; go_simp; try with_reducible rfl); simp only [Act.put, List.setIfInBounds_toArray, List.set_cons_zero, List.set_cons_succ]
            refine plS_val (v := ?_) rfl rfl HS1.out (fun w' hw' => ?_) ?_; rotate_left; (· skip; go_simp; try with_reducible rfl); simp only [Act.put, List.setIfInBounds_toArray, List.set_cons_zero, List.set_cons_succ]
            refine plS_val (v := ?_) rfl rfl HS1.out (fun w' hw' => ?_) ?_; rotate_left; (· skip; go_simp; try with_reducible rfl); simp only [Act.put, List.setIfInBounds_toArray, List.set_cons_zero, List.set_cons_succ]
            refine plS_val (v := .slice A n c) rfl rfl HS1.out (fun w' hw' => by have q := (HQ1.out w' hw').2; go_simp; try rfl) ?_; simp only [Act.put, List.setIfInBounds_toArray, List.set_cons_zero, List.set_cons_succ]
            refine plS_fork ?_ ?_
            · refine plS_call 21 #[.int .i64 z, .slice A n c] rfl rfl (by go_simp) ?_
              refine (rread14 z A n c B _ HSR1.out ).mono ?_
              rintro e wyc ⟨AY, nY, cY, rfl, sY, esY⟩
              obtain ⟨yb1, hyb1⟩ : ∃ yb1, wyc.heap.size = yb1 := ⟨_, rfl⟩
              have eA : Ext wx.drew wyc := esY
              have HEc := Lib.hid eA
              refine ⟨_, rfl, eA, ?_⟩; simp only [Act.put, List.setIfInBounds_toArray, List.set_cons_zero, List.set_cons_succ]
              refine plS_val (v := ?_) rfl rfl HEc.out (fun w' hw' => ?_) ?_; rotate_left; (· skip; go_simp; try with_reducible rfl); simp only [Act.put, List.setIfInBounds_toArray, List.set_cons_zero, List.set_cons_succ]
              refine plS_val (v := ?_) rfl rfl HEc.out (fun w' hw' => ?_) ?_; rotate_left; (· skip; go_simp; try with_reducible rfl); simp only [Act.put, List.setIfInBounds_toArray, List.set_cons_zero, List.set_cons_succ]
              refine plS_val (v := ?_) rfl rfl HEc.out (fun w' hw' => ?_) ?_; rotate_left; (· skip; go_simp; try with_reducible rfl); simp only [Act.put, List.setIfInBounds_toArray, List.set_cons_zero, List.set_cons_succ]
              have HXA : Hid ((wyc.alloc (.cells #[.int .i64 0, .int .i64 0, .int .i64 0, .int .i64 0, .int .i64 0, .int .i64 0, .int .i64 0, .int .i64 0, .int .i64 0, .string ⟨#[]⟩, .string ⟨#[]⟩, .slice none 0 0] 26)).heap[yb1]? = some (.cells #[.int .i64 0, .int .i64 0, .int .i64 0, .int .i64 0, .int .i64 0, .int .i64 0, .int .i64 0, .int .i64 0, .int .i64 0, .string ⟨#[]⟩, .string ⟨#[]⟩, .slice none 0 0] 26 (0, 0))) := Lib.hid (by rw [← hyb1]; exact heap_alloc_new _ _)
              refine plS_run (w' := wyc.alloc (.cells #[.int .i64 0, .int .i64 0, .int .i64 0, .int .i64 0, .int .i64 0, .int .i64 0, .int .i64 0, .int .i64 0, .int .i64 0, .string ⟨#[]⟩, .string ⟨#[]⟩, .slice none 0 0] 26)) (.pointer (some ⟨yb1, 0, none⟩)) rfl rfl (by have q := hyb1; go_simp; try (first | rfl | (rw [q]))) (eA.alloc _) ?_; simp only [Act.put, List.setIfInBounds_toArray, List.set_cons_zero, List.set_cons_succ]
              obtain ⟨wy, hwy⟩ : ∃ wy, (wyc.alloc (.cells #[.int .i64 0, .int .i64 0, .int .i64 0, .int .i64 0, .int .i64 0, .int .i64 0, .int .i64 0, .int .i64 0, .int .i64 0, .string ⟨#[]⟩, .string ⟨#[]⟩, .slice none 0 0] 26)).setRow yb1 ((rdA z B).wd AY nY cY).cs = wy := ⟨_, rfl⟩
              have eE : Ext wyc wy := by rw [← hwy]; exact below_setRow ((Ext.refl wyc).alloc _) (by omega) _
              have HEe := Lib.hid (eA.trans eE)
              have HXE : Hid (wy.heap[yb1]? = some (.cells ((rdA z B).wd AY nY cY).cs 26 (0, 0))) := Lib.hid (by rw [← hwy]; exact setRow_heap _ yb1 _ _ _ _ HXA.out)
              have HSE := Lib.hid (sY.ext eE)
              refine plS_void (w' := wy) rfl rfl (by rw [← hwy]; exact exec_storeRow 26 (.tmp 22) (.tmp 88) rfl yb1 _ rfl rfl 26 _ HXA.out (HI.out _) rfl (HU.out _)) HEe.out ?_
              refine plS_val (v := ?_) rfl rfl HEe.out (fun w' hw' => ?_) ?_; rotate_left; (· skip; go_simp; try with_reducible rfl); simp only [Act.put, List.setIfInBounds_toArray, List.set_cons_zero, List.set_cons_succ]
              refine plS_done ?_
              clear eA eE hwy HXA hyb1 esY sY HEc
              have HEe2 := Lib.hid ((Ext.refl wx).drew.trans HEe.out)
              have HYq := HXE
              have HTq := HSE
              have HXY := Lib.hid (HEe2.out.heap HXq.out)
              have HsY := Lib.hid (HSq.out.ext HEe2.out)
              have HEQ : Hid (cEq ((rdA z B).wd AX nX cX) ((rdA z B).wd AY nY cY) (rdD z B) (rdD z B) = true) := Lib.hid (cEq_self _ _ _ rfl)
              have HZA : Hid (∀ (j : Nat) (v : Value), ((rdA z B).wd AX nX cX).cs[j]? = some v → ((rdA z B).wd AX nX cX).cs[0 + j]? = some v) := Lib.hid fun j v h => by rw [Nat.zero_add]; exact h
              have HZB : Hid (∀ (j : Nat) (v : Value), ((rdA z B).wd AY nY cY).cs[j]? = some v → ((rdA z B).wd AY nY cY).cs[0 + j]? = some v) := Lib.hid fun j v h => by rw [Nat.zero_add]; exact h
              have HRF := Lib.hid (EXK.out.trans ((Ext.refl wr).drew.trans (HEe1.out.trans HEe2.out)))
              go_wp2_with (first | (with_reducible refine wpList_load_sub rfl 26 (.tmp 20) rfl xb1 0 rfl 26 _ _ _ _ HXY.out HZA.out Try.underlying26 rfl (HI.out _) ?_) | (with_reducible refine wpList_load_sub rfl 26 (.tmp 22) rfl yb1 0 rfl 26 _ _ _ _ HYq.out HZB.out Try.underlying26 rfl (HI.out _) ?_) | fail)
              refine (rsame14 ((rdA z B).wd AX nX cX) ((rdA z B).wd AY nY cY) (rdD z B) (rdD z B) _ HsY.out HTq.out).mono ?_
              rintro e w9 ⟨rfl, e9⟩
              rw [HEQ.out]
              have E9 := Lib.hid (HRF.out.trans e9)
              clear e9
              go_wp2_with fail
              go_roundw
              case rel => exact ⟨k + 1, by omega, by go_num, E9.out⟩
              case measure => simp [intOf]; omega
            · obtain ⟨yb1, hyb1⟩ : ∃ yb1, wx.drew.heap.size = yb1 := ⟨_, rfl⟩
              have HXA : Hid ((wx.drew.alloc (.cells #[.int .i64 0, .int .i64 0, .int .i64 0, .int .i64 0, .int .i64 0, .int .i64 0, .int .i64 0, .int .i64 0, .int .i64 0, .string ⟨#[]⟩, .string ⟨#[]⟩, .slice none 0 0] 26)).heap[yb1]? = some (.cells #[.int .i64 0, .int .i64 0, .int .i64 0, .int .i64 0, .int .i64 0, .int .i64 0, .int .i64 0, .int .i64 0, .int .i64 0, .string ⟨#[]⟩, .string ⟨#[]⟩, .slice none 0 0] 26 (0, 0))) := Lib.hid (by rw [← hyb1]; exact heap_alloc_new _ _)
              have e0 : Ext wx.drew (wx.drew.alloc (.cells #[.int .i64 0, .int .i64 0, .int .i64 0, .int .i64 0, .int .i64 0, .int .i64 0, .int .i64 0, .int .i64 0, .int .i64 0, .string ⟨#[]⟩, .string ⟨#[]⟩, .slice none 0 0] 26)) := (Ext.refl _).alloc _
              refine plS_run (w' := wx.drew.alloc (.cells #[.int .i64 0, .int .i64 0, .int .i64 0, .int .i64 0, .int .i64 0, .int .i64 0, .int .i64 0, .int .i64 0, .int .i64 0, .string ⟨#[]⟩, .string ⟨#[]⟩, .slice none 0 0] 26)) (.pointer (some ⟨yb1, 0, none⟩)) rfl rfl (by have q := hyb1; go_simp; try (first | rfl | (rw [q]))) e0 ?_; simp only [Act.put, List.setIfInBounds_toArray, List.set_cons_zero, List.set_cons_succ]
              refine plS_call 21 #[.int .i64 z, .slice A n c] rfl rfl (by go_simp) ?_
              refine (rread14 z A n c B _ (HSR1.out.ext e0) ).mono ?_
              rintro e wyc ⟨AY, nY, cY, rfl, sY, esY⟩
              have eA : Ext wx.drew wyc := e0.trans esY
              have HEc := Lib.hid eA
              refine ⟨_, rfl, eA, ?_⟩; simp only [Act.put, List.setIfInBounds_toArray, List.set_cons_zero, List.set_cons_succ]
              refine plS_val (v := ?_) rfl rfl HEc.out (fun w' hw' => ?_) ?_; rotate_left; (· skip; go_simp; try with_reducible rfl); simp only [Act.put, List.setIfInBounds_toArray, List.set_cons_zero, List.set_cons_succ]
              refine plS_val (v := ?_) rfl rfl HEc.out (fun w' hw' => ?_) ?_; rotate_left; (· skip; go_simp; try with_reducible rfl); simp only [Act.put, List.setIfInBounds_toArray, List.set_cons_zero, List.set_cons_succ]
              refine plS_val (v := ?_) rfl rfl HEc.out (fun w' hw' => ?_) ?_; rotate_left; (· skip; go_simp; try with_reducible rfl); simp only [Act.put, List.setIfInBounds_toArray, List.set_cons_zero, List.set_cons_succ]
              have HXC := Lib.hid (esY.heap HXA.out)
              obtain ⟨wy, hwy⟩ : ∃ wy, wyc.setRow yb1 ((rdA z B).wd AY nY cY).cs = wy := ⟨_, rfl⟩
              have HEe : Hid (Ext wx.drew wy) := Lib.hid (by rw [← hwy]; exact below_setRow eA (by omega) _)
              have HXE : Hid (wy.heap[yb1]? = some (.cells ((rdA z B).wd AY nY cY).cs 26 (0, 0))) := Lib.hid (by rw [← hwy]; exact setRow_heap _ yb1 _ _ _ _ HXC.out)
              have HSE : Hid (Sees wy AY nY cY (bs (rdD z B))) := Lib.hid (by rw [← hwy]; exact sees_offB sY HXC.out (fun i x h => by have hm := Array.mem_of_getElem? h; simp at hm) ⟨rfl, rfl, rfl, by simp [World.setRow], fun i hi h1 h2 => setRow_other _ _ _ _ h1⟩)
              refine plS_void (w' := wy) rfl rfl (by rw [← hwy]; exact exec_storeRow 26 (.tmp 22) (.tmp 88) rfl yb1 _ rfl rfl 26 _ HXC.out (HI.out _) rfl (HU.out _)) HEe.out ?_
              refine plS_val (v := ?_) rfl rfl HEe.out (fun w' hw' => ?_) ?_; rotate_left; (· skip; go_simp; try with_reducible rfl); simp only [Act.put, List.setIfInBounds_toArray, List.set_cons_zero, List.set_cons_succ]
              refine plS_done ?_
              clear eA e0 hwy HXA HXC hyb1 esY sY HEc
              have HEe2 := Lib.hid ((Ext.refl wx).drew.trans HEe.out)
              have HYq := HXE
              have HTq := HSE
              have HXY := Lib.hid (HEe2.out.heap HXq.out)
              have HsY := Lib.hid (HSq.out.ext HEe2.out)
              have HEQ : Hid (cEq ((rdA z B).wd AX nX cX) ((rdA z B).wd AY nY cY) (rdD z B) (rdD z B) = true) := Lib.hid (cEq_self _ _ _ rfl)
              have HZA : Hid (∀ (j : Nat) (v : Value), ((rdA z B).wd AX nX cX).cs[j]? = some v → ((rdA z B).wd AX nX cX).cs[0 + j]? = some v) := Lib.hid fun j v h => by rw [Nat.zero_add]; exact h
              have HZB : Hid (∀ (j : Nat) (v : Value), ((rdA z B).wd AY nY cY).cs[j]? = some v → ((rdA z B).wd AY nY cY).cs[0 + j]? = some v) := Lib.hid fun j v h => by rw [Nat.zero_add]; exact h
              have HRF := Lib.hid (EXK.out.trans ((Ext.refl wr).drew.trans (HEe1.out.trans HEe2.out)))
              go_wp2_with (first | (with_reducible refine wpList_load_sub rfl 26 (.tmp 20) rfl xb1 0 rfl 26 _ _ _ _ HXY.out HZA.out Try.underlying26 rfl (HI.out _) ?_) | (with_reducible refine wpList_load_sub rfl 26 (.tmp 22) rfl yb1 0 rfl 26 _ _ _ _ HYq.out HZB.out Try.underlying26 rfl (HI.out _) ?_) | fail)
              refine (rsame14 ((rdA z B).wd AX nX cX) ((rdA z B).wd AY nY cY) (rdD z B) (rdD z B) _ HsY.out HTq.out).mono ?_
              rintro e w9 ⟨rfl, e9⟩
              rw [HEQ.out]
              have E9 := Lib.hid (HRF.out.trans e9)
              clear e9
              go_wp2_with fail
              go_roundw
              case rel => exact ⟨k + 1, by omega, by go_num, E9.out⟩
              case measure => simp [intOf]; omega
          · obtain ⟨xb1, hxb1⟩ : ∃ xb1, wr.drew.heap.size = xb1 := ⟨_, rfl⟩
            have HXA : Hid ((wr.drew.alloc (.cells #[.int .i64 0, .int .i64 0, .int .i64 0, .int .i64 0, .int .i64 0, .int .i64 0, .int .i64 0, .int .i64 0, .int .i64 0, .string ⟨#[]⟩, .string ⟨#[]⟩, .slice none 0 0] 26)).heap[xb1]? = some (.cells #[.int .i64 0, .int .i64 0, .int .i64 0, .int .i64 0, .int .i64 0, .int .i64 0, .int .i64 0, .int .i64 0, .int .i64 0, .string ⟨#[]⟩, .string ⟨#[]⟩, .slice none 0 0] 26 (0, 0))) := Lib.hid (by rw [← hxb1]; exact heap_alloc_new _ _)
            have e0 : Ext wr.drew (wr.drew.alloc (.cells #[.int .i64 0, .int .i64 0, .int .i64 0, .int .i64 0, .int .i64 0, .int .i64 0, .int .i64 0, .int .i64 0, .int .i64 0, .string ⟨#[]⟩, .string ⟨#[]⟩, .slice none 0 0] 26)) := (Ext.refl _).alloc _
            refine plS_run (w' := wr.drew.alloc (.cells #[.int .i64 0, .int .i64 0, .int .i64 0, .int .i64 0, .int .i64 0, .int .i64 0, .int .i64 0, .int .i64 0, .int .i64 0, .string ⟨#[]⟩, .string ⟨#[]⟩, .slice none 0 0] 26)) (.pointer (some ⟨xb1, 0, none⟩)) rfl rfl (by have q := hxb1; go_simp; try (first | rfl | (rw [q]))) e0 ?_; simp only [Act.put, List.setIfInBounds_toArray, List.set_cons_zero, List.set_cons_succ]
            refine plS_call 20 #[.int .i64 z, .slice A n c] rfl rfl (by go_simp) ?_
            refine (cread_any z A n c B _ (HSR.out.ext e0) (by omega)).mono ?_
            rintro e wxc ⟨AX, nX, cX, rfl, sX, esX⟩
            have eA : Ext wr.drew wxc := e0.trans esX
            have HEc := Lib.hid eA
            refine ⟨_, rfl, eA, ?_⟩; simp only [Act.put, List.setIfInBounds_toArray, List.set_cons_zero, List.set_cons_succ]
            refine plS_val (v := ?_) rfl rfl HEc.out (fun w' hw' => ?_) ?_; rotate_left; (· skip; go_simp; try with_reducible rfl); simp only [Act.put, List.setIfInBounds_toArray, List.set_cons_zero, List.set_cons_succ]
            refine plS_val (v := ?_) rfl rfl HEc.out (fun w' hw' => ?_) ?_; rotate_left; (· skip; go_simp; try with_reducible rfl); simp only [Act.put, List.setIfInBounds_toArray, List.set_cons_zero, List.set_cons_succ]
            refine plS_val (v := ?_) rfl rfl HEc.out (fun w' hw' => ?_) ?_; rotate_left; (· skip; go_simp; try with_reducible rfl); simp only [Act.put, List.setIfInBounds_toArray, List.set_cons_zero, List.set_cons_succ]
            have HXC := Lib.hid (esX.heap HXA.out)
            obtain ⟨wx, hwx⟩ : ∃ wx, wxc.setRow xb1 ((rdA z B).wd AX nX cX).cs = wx := ⟨_, rfl⟩
            have HEe : Hid (Ext wr.drew wx) := Lib.hid (by rw [← hwx]; exact below_setRow eA (by omega) _)
            have HXE : Hid (wx.heap[xb1]? = some (.cells ((rdA z B).wd AX nX cX).cs 26 (0, 0))) := Lib.hid (by rw [← hwx]; exact setRow_heap _ xb1 _ _ _ _ HXC.out)
            have HSE : Hid (Sees wx AX nX cX (bs (rdD z B))) := Lib.hid (by rw [← hwx]; exact sees_offB sX HXC.out (fun i x h => by have hm := Array.mem_of_getElem? h; simp at hm) ⟨rfl, rfl, rfl, by simp [World.setRow], fun i hi h1 h2 => setRow_other _ _ _ _ h1⟩)
            refine plS_void (w' := wx) rfl rfl (by rw [← hwx]; exact exec_storeRow 26 (.tmp 20) (.tmp 76) rfl xb1 _ rfl rfl 26 _ HXC.out (HI.out _) rfl (HU.out _)) HEe.out ?_
            refine plS_val (v := ?_) rfl rfl HEe.out (fun w' hw' => ?_) ?_; rotate_left; (· skip; go_simp; try with_reducible rfl); simp only [Act.put, List.setIfInBounds_toArray, List.set_cons_zero, List.set_cons_succ]
            refine plS_done ?_
            clear eA e0 hwx HXA HXC hxb1 esX sX HEc
            have HEe1 := HEe
            have HXq := HXE
            have HSq := HSE
            clear HXE HSE HEe
            go_wp2_with fail
            have HS1 : Hid (Ext wx.drew wx.drew) := Lib.hid (Ext.refl _)
            have HQ1 : Hid (∀ w', Ext wx.drew w' → w'.cell? ⟨pb, k, none⟩ = some (.int .i64 z) ∧ w'.cell? ⟨qb, i, none⟩ = some (.slice A n c)) := Lib.hid fun w' he => HQ.out w' (HEe1.out.trans ((Ext.refl wx).drew.trans he))
            have HSR1 : Hid (Sees wx.drew A n c (bs B)) := Lib.hid (HSR.out.ext (HEe1.out.trans (Ext.refl wx).drew))
            refine wp_region_plS (fun v : World => Ext wx.drew v) (.free 0 (.free 1 (.free 2 (.free 3 (.free 4 (.free 5 (.free 6 (.free 7 (.fork 8 12 (.free 9 (.free 10 (.free 11 (.one 12 (.one 13 (.free 14 .nil)))))) (.one 8 (.free 9 (.free 10 (.free 11 (.one 13 (.free 14 .nil))))))))))))))) (by kernel_rfl) (by kernel_rfl) (by kernel_rfl) (by kernel_rfl) ?_
            refine plS_val (v := ?_) rfl rfl HS1.out (fun w' hw' => ?_) ?_; rotate_left; (· skip; go_simp; try with_reducible rfl); simp only [Act.put, List.setIfInBounds_toArray, List.set_cons_zero, List.set_cons_succ]
            refine plS_val (v := ?_) rfl rfl HS1.out (fun w' hw' => ?_) ?_; rotate_left; (· skip; go_simp; try with_reducible rfl); simp only [Act.put, List.setIfInBounds_toArray, List.set_cons_zero, List.set_cons_succ]
            refine plS_val (v := ?_) rfl rfl HS1.out (fun w' hw' => ?_) ?_; rotate_left; (· skip; go_simp; try with_reducible rfl); simp only [Act.put, List.setIfInBounds_toArray, List.set_cons_zero, List.set_cons_succ]
            refine plS_val (v := .int .i64 z) rfl rfl HS1.out (fun w' hw' => by have q := (HQ1.out w' hw').1; go_simp; try rfl) ?_; simp only [Act.put, List.setIfInBounds_toArray, List.set_cons_zero, List.set_cons_succ]
            refine plS_val (v := ?_) rfl rfl HS1.out (fun w' hw' => ?_) ?_; rotate_left; (· skip; go_simp; try with_reducible rfl); simp only [Act.put, List.setIfInBounds_toArray, List.set_cons_zero, List.set_cons_succ]
            refine plS_val (v := ?_) rfl rfl HS1.out (fun w' hw' => ?_) ?_; rotate_left; (· skip; go_simp; try with_reducible rfl); simp only [Act.put, List.setIfInBounds_toArray, List.set_cons_zero, List.set_cons_succ]
            refine plS_val (v := ?_) rfl rfl HS1.out (fun w' hw' => ?_) ?_; rotate_left; (· skip; go_simp; try with_reducible rfl); simp only [Act.put, List.setIfInBounds_toArray, List.set_cons_zero, List.set_cons_succ]
            refine plS_val (v := .slice A n c) rfl rfl HS1.out (fun w' hw' => by have q := (HQ1.out w' hw').2; go_simp; try rfl) ?_; simp only [Act.put, List.setIfInBounds_toArray, List.set_cons_zero, List.set_cons_succ]
            refine plS_fork ?_ ?_
            · refine plS_call 21 #[.int .i64 z, .slice A n c] rfl rfl (by go_simp) ?_
              refine (rread14 z A n c B _ HSR1.out ).mono ?_
              rintro e wyc ⟨AY, nY, cY, rfl, sY, esY⟩
              obtain ⟨yb1, hyb1⟩ : ∃ yb1, wyc.heap.size = yb1 := ⟨_, rfl⟩
              have eA : Ext wx.drew wyc := esY
              have HEc := Lib.hid eA
              refine ⟨_, rfl, eA, ?_⟩; simp only [Act.put, List.setIfInBounds_toArray, List.set_cons_zero, List.set_cons_succ]
              refine plS_val (v := ?_) rfl rfl HEc.out (fun w' hw' => ?_) ?_; rotate_left; (· skip; go_simp; try with_reducible rfl); simp only [Act.put, List.setIfInBounds_toArray, List.set_cons_zero, List.set_cons_succ]
              refine plS_val (v := ?_) rfl rfl HEc.out (fun w' hw' => ?_) ?_; rotate_left; (· skip; go_simp; try with_reducible rfl); simp only [Act.put, List.setIfInBounds_toArray, List.set_cons_zero, List.set_cons_succ]
              refine plS_val (v := ?_) rfl rfl HEc.out (fun w' hw' => ?_) ?_; rotate_left; (· skip; go_simp; try with_reducible rfl); simp only [Act.put, List.setIfInBounds_toArray, List.set_cons_zero, List.set_cons_succ]
              have HXA : Hid ((wyc.alloc (.cells #[.int .i64 0, .int .i64 0, .int .i64 0, .int .i64 0, .int .i64 0, .int .i64 0, .int .i64 0, .int .i64 0, .int .i64 0, .string ⟨#[]⟩, .string ⟨#[]⟩, .slice none 0 0] 26)).heap[yb1]? = some (.cells #[.int .i64 0, .int .i64 0, .int .i64 0, .int .i64 0, .int .i64 0, .int .i64 0, .int .i64 0, .int .i64 0, .int .i64 0, .string ⟨#[]⟩, .string ⟨#[]⟩, .slice none 0 0] 26 (0, 0))) := Lib.hid (by rw [← hyb1]; exact heap_alloc_new _ _)
              refine plS_run (w' := wyc.alloc (.cells #[.int .i64 0, .int .i64 0, .int .i64 0, .int .i64 0, .int .i64 0, .int .i64 0, .int .i64 0, .int .i64 0, .int .i64 0, .string ⟨#[]⟩, .string ⟨#[]⟩, .slice none 0 0] 26)) (.pointer (some ⟨yb1, 0, none⟩)) rfl rfl (by have q := hyb1; go_simp; try (first | rfl | (rw [q]))) (eA.alloc _) ?_; simp only [Act.put, List.setIfInBounds_toArray, List.set_cons_zero, List.set_cons_succ]
              obtain ⟨wy, hwy⟩ : ∃ wy, (wyc.alloc (.cells #[.int .i64 0, .int .i64 0, .int .i64 0, .int .i64 0, .int .i64 0, .int .i64 0, .int .i64 0, .int .i64 0, .int .i64 0, .string ⟨#[]⟩, .string ⟨#[]⟩, .slice none 0 0] 26)).setRow yb1 ((rdA z B).wd AY nY cY).cs = wy := ⟨_, rfl⟩
              have eE : Ext wyc wy := by rw [← hwy]; exact below_setRow ((Ext.refl wyc).alloc _) (by omega) _
              have HEe := Lib.hid (eA.trans eE)
              have HXE : Hid (wy.heap[yb1]? = some (.cells ((rdA z B).wd AY nY cY).cs 26 (0, 0))) := Lib.hid (by rw [← hwy]; exact setRow_heap _ yb1 _ _ _ _ HXA.out)
              have HSE := Lib.hid (sY.ext eE)
              refine plS_void (w' := wy) rfl rfl (by rw [← hwy]; exact exec_storeRow 26 (.tmp 22) (.tmp 88) rfl yb1 _ rfl rfl 26 _ HXA.out (HI.out _) rfl (HU.out _)) HEe.out ?_
              refine plS_val (v := ?_) rfl rfl HEe.out (fun w' hw' => ?_) ?_; rotate_left; (· skip; go_simp; try with_reducible rfl); simp only [Act.put, List.setIfInBounds_toArray, List.set_cons_zero, List.set_cons_succ]
              refine plS_done ?_
              clear eA eE hwy HXA hyb1 esY sY HEc
              have HEe2 := Lib.hid ((Ext.refl wx).drew.trans HEe.out)
              have HYq := HXE
              have HTq := HSE
              have HXY := Lib.hid (HEe2.out.heap HXq.out)
              have HsY := Lib.hid (HSq.out.ext HEe2.out)
              have HEQ : Hid (cEq ((rdA z B).wd AX nX cX) ((rdA z B).wd AY nY cY) (rdD z B) (rdD z B) = true) := Lib.hid (cEq_self _ _ _ rfl)
              have HZA : Hid (∀ (j : Nat) (v : Value), ((rdA z B).wd AX nX cX).cs[j]? = some v → ((rdA z B).wd AX nX cX).cs[0 + j]? = some v) := Lib.hid fun j v h => by rw [Nat.zero_add]; exact h
              have HZB : Hid (∀ (j : Nat) (v : Value), ((rdA z B).wd AY nY cY).cs[j]? = some v → ((rdA z B).wd AY nY cY).cs[0 + j]? = some v) := Lib.hid fun j v h => by rw [Nat.zero_add]; exact h
              have HRF := Lib.hid (EXK.out.trans ((Ext.refl wr).drew.trans (HEe1.out.trans HEe2.out)))
              go_wp2_with (first | (with_reducible refine wpList_load_sub rfl 26 (.tmp 20) rfl xb1 0 rfl 26 _ _ _ _ HXY.out HZA.out Try.underlying26 rfl (HI.out _) ?_) | (with_reducible refine wpList_load_sub rfl 26 (.tmp 22) rfl yb1 0 rfl 26 _ _ _ _ HYq.out HZB.out Try.underlying26 rfl (HI.out _) ?_) | fail)
              refine (rsame14 ((rdA z B).wd AX nX cX) ((rdA z B).wd AY nY cY) (rdD z B) (rdD z B) _ HsY.out HTq.out).mono ?_
              rintro e w9 ⟨rfl, e9⟩
              rw [HEQ.out]
              have E9 := Lib.hid (HRF.out.trans e9)
              clear e9
              go_wp2_with fail
              go_roundw
              case rel => exact ⟨k + 1, by omega, by go_num, E9.out⟩
              case measure => simp [intOf]; omega
            · obtain ⟨yb1, hyb1⟩ : ∃ yb1, wx.drew.heap.size = yb1 := ⟨_, rfl⟩
              have HXA : Hid ((wx.drew.alloc (.cells #[.int .i64 0, .int .i64 0, .int .i64 0, .int .i64 0, .int .i64 0, .int .i64 0, .int .i64 0, .int .i64 0, .int .i64 0, .string ⟨#[]⟩, .string ⟨#[]⟩, .slice none 0 0] 26)).heap[yb1]? = some (.cells #[.int .i64 0, .int .i64 0, .int .i64 0, .int .i64 0, .int .i64 0, .int .i64 0, .int .i64 0, .int .i64 0, .int .i64 0, .string ⟨#[]⟩, .string ⟨#[]⟩, .slice none 0 0] 26 (0, 0))) := Lib.hid (by rw [← hyb1]; exact heap_alloc_new _ _)
              have e0 : Ext wx.drew (wx.drew.alloc (.cells #[.int .i64 0, .int .i64 0, .int .i64 0, .int .i64 0, .int .i64 0, .int .i64 0, .int .i64 0, .int .i64 0, .int .i64 0, .string ⟨#[]⟩, .string ⟨#[]⟩, .slice none 0 0] 26)) := (Ext.refl _).alloc _
              refine plS_run (w' := wx.drew.alloc (.cells #[.int .i64 0, .int .i64 0, .int .i64 0, .int .i64 0, .int .i64 0, .int .i64 0, .int .i64 0, .int .i64 0, .int .i64 0, .string ⟨#[]⟩, .string ⟨#[]⟩, .slice none 0 0] 26)) (.pointer (some ⟨yb1, 0, none⟩)) rfl rfl (by have q := hyb1; go_simp; try (first | rfl | (rw [q]))) e0 ?_; simp only [Act.put, List.setIfInBounds_toArray, List.set_cons_zero, List.set_cons_succ]
              refine plS_call 21 #[.int .i64 z, .slice A n c] rfl rfl (by go_simp) ?_
              refine (rread14 z A n c B _ (HSR1.out.ext e0) ).mono ?_
              rintro e wyc ⟨AY, nY, cY, rfl, sY, esY⟩
              have eA : Ext wx.drew wyc := e0.trans esY
              have HEc := Lib.hid eA
              refine ⟨_, rfl, eA, ?_⟩; simp only [Act.put, List.setIfInBounds_toArray, List.set_cons_zero, List.set_cons_succ]
              refine plS_val (v := ?_) rfl rfl HEc.out (fun w' hw' => ?_) ?_; rotate_left; (· skip; go_simp; try with_reducible rfl); simp only [Act.put, List.setIfInBounds_toArray, List.set_cons_zero, List.set_cons_succ]
              refine plS_val (v := ?_) rfl rfl HEc.out (fun w' hw' => ?_) ?_; rotate_left; (· skip; go_simp; try with_reducible rfl); simp only [Act.put, List.setIfInBounds_toArray, List.set_cons_zero, List.set_cons_succ]
              refine plS_val (v := ?_) rfl rfl HEc.out (fun w' hw' => ?_) ?_; rotate_left; (· skip; go_simp; try with_reducible rfl); simp only [Act.put, List.setIfInBounds_toArray, List.set_cons_zero, List.set_cons_succ]
              have HXC := Lib.hid (esY.heap HXA.out)
              obtain ⟨wy, hwy⟩ : ∃ wy, wyc.setRow yb1 ((rdA z B).wd AY nY cY).cs = wy := ⟨_, rfl⟩
              have HEe : Hid (Ext wx.drew wy) := Lib.hid (by rw [← hwy]; exact below_setRow eA (by omega) _)
              have HXE : Hid (wy.heap[yb1]? = some (.cells ((rdA z B).wd AY nY cY).cs 26 (0, 0))) := Lib.hid (by rw [← hwy]; exact setRow_heap _ yb1 _ _ _ _ HXC.out)
              have HSE : Hid (Sees wy AY nY cY (bs (rdD z B))) := Lib.hid (by rw [← hwy]; exact sees_offB sY HXC.out (fun i x h => by have hm := Array.mem_of_getElem? h; simp at hm) ⟨rfl, rfl, rfl, by simp [World.setRow], fun i hi h1 h2 => setRow_other _ _ _ _ h1⟩)
              refine plS_void (w' := wy) rfl rfl (by rw [← hwy]; exact exec_storeRow 26 (.tmp 22) (.tmp 88) rfl yb1 _ rfl rfl 26 _ HXC.out (HI.out _) rfl (HU.out _)) HEe.out ?_
              refine plS_val (v := ?_) rfl rfl HEe.out (fun w' hw' => ?_) ?_; rotate_left; (· skip; go_simp; try with_reducible rfl); simp only [Act.put, List.setIfInBounds_toArray, List.set_cons_zero, List.set_cons_succ]
              refine plS_done ?_
              clear eA e0 hwy HXA HXC hyb1 esY sY HEc
              have HEe2 := Lib.hid ((Ext.refl wx).drew.trans HEe.out)
              have HYq := HXE
              have HTq := HSE
              have HXY := Lib.hid (HEe2.out.heap HXq.out)
              have HsY := Lib.hid (HSq.out.ext HEe2.out)
              have HEQ : Hid (cEq ((rdA z B).wd AX nX cX) ((rdA z B).wd AY nY cY) (rdD z B) (rdD z B) = true) := Lib.hid (cEq_self _ _ _ rfl)
              have HZA : Hid (∀ (j : Nat) (v : Value), ((rdA z B).wd AX nX cX).cs[j]? = some v → ((rdA z B).wd AX nX cX).cs[0 + j]? = some v) := Lib.hid fun j v h => by rw [Nat.zero_add]; exact h
              have HZB : Hid (∀ (j : Nat) (v : Value), ((rdA z B).wd AY nY cY).cs[j]? = some v → ((rdA z B).wd AY nY cY).cs[0 + j]? = some v) := Lib.hid fun j v h => by rw [Nat.zero_add]; exact h
              have HRF := Lib.hid (EXK.out.trans ((Ext.refl wr).drew.trans (HEe1.out.trans HEe2.out)))
              go_wp2_with (first | (with_reducible refine wpList_load_sub rfl 26 (.tmp 20) rfl xb1 0 rfl 26 _ _ _ _ HXY.out HZA.out Try.underlying26 rfl (HI.out _) ?_) | (with_reducible refine wpList_load_sub rfl 26 (.tmp 22) rfl yb1 0 rfl 26 _ _ _ _ HYq.out HZB.out Try.underlying26 rfl (HI.out _) ?_) | fail)
              refine (rsame14 ((rdA z B).wd AX nX cX) ((rdA z B).wd AY nY cY) (rdD z B) (rdD z B) _ HsY.out HTq.out).mono ?_
              rintro e w9 ⟨rfl, e9⟩
              rw [HEQ.out]
              have E9 := Lib.hid (HRF.out.trans e9)
              clear e9
              go_wp2_with fail
              go_roundw
              case rel => exact ⟨k + 1, by omega, by go_num, E9.out⟩
              case measure => simp [intOf]; omega
        · obtain rfl : k = 3 := by omega
          go_wp2_with fail
          go_roundw
          case rel => exact ⟨i + 1, by omega, by go_num, EXK.out⟩
          case measure => simp [intOf]; omega
    · obtain rfl : i = 5 := by omega
      go_wp2_with fail
      refine (lives14 _).mono ?_
      rintro e w9 ⟨rfl, e9⟩
      go_wp2_with fail
      go_ret
      exact ⟨rfl, E13.out.trans (EXI.out.trans e9)⟩
end Go.Proofs.Ytpjigdfllbhknaa
