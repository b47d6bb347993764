/-
  Layer 14: what is written is read as it was.
-/
import Derived.Test.YtpjigdfllbhknaaCao
import Derived.Test.YtpjigdfllbhknaaArgO
namespace Go.Proofs.Ytpjigdfllbhknaa
open Go Go.RowKit
set_option linter.unusedVariables false
set_option linter.unusedSimpArgs false
set_option maxRecDepth 20000 in
set_option maxHeartbeats 1000000 in
theorem cround_walk (a0 : Value) (w : World) (w0 : Is_args w a0) :
    Calls Try.prog 6 #[a0] w fun e w' => e = .returned (.bool true) ∧ Ext w w' := by
  obtain ⟨a, l, rfl, ha, sa⟩ := args_open0 w0
  obtain ⟨ab, hab⟩ : ∃ ab, w.heap.size = ab := ⟨_, rfl⟩
  obtain ⟨w2, hw2⟩ : ∃ w2, w.alloc (.cells a.cs 26) = w2 := ⟨_, rfl⟩
  have e2 : Ext w w2 := by rw [← hw2]; exact (Ext.refl w).alloc _
  have ba : w2.heap[ab]? = some (.cells a.cs 26 (0, 0)) := by rw [← hw2, ← hab]; exact heap_alloc_new w _
  have HA := Lib.hid ha
  have HSA := Lib.hid (sa.ext e2)
  have E2 := Lib.hid e2
  have BA := Lib.hid ba
  have HI := Lib.hid (fun b : AR => arg_info b)
  have HU := Lib.hid (fun b : AR => AR.one b)
  clear ha w0 sa e2 ba
  go_enter Try.func6, Try.ntmps6
  go_wp2_with (first | (with_reducible refine wpList_load_row rfl 26 (.tmp 1) rfl ab rfl _ _ _ _ BA.out Try.underlying26 rfl (HI.out _) ?_) | fail)
  refine (good14 a l _ HA.out HSA.out).mono ?_
  rintro e w3 ⟨A0, n0, c0, rfl, s0, e3⟩
  have hn0 : n0 ≤ 30 := by have h9 := s0.len; rw [bs_length, List.length_take] at h9; omega
  have hbl := gd_bytes a A0 n0 c0 l
  have hgl := gdL_len a l
  have hok : (gdA a A0 n0 c0).ok := gdA_ok hn0
  have hsg := sees_gdA (a := a) s0
  have hpr : (gdA a A0 n0 c0).pr = gk a.pr := rfl
  have hmay := gd_may a A0 n0 c0 l hn0
  have hmod := gd_mod a A0 n0 c0 l
  have hgf := gd_fields a A0 n0 c0 l
  have hf : ¬ fld (gk a.pr) = [] := by
    rcases gk_cases a.pr with h | h | h | h | h | h | h | h | h | h | h <;> rw [h] <;> simp [fld]
  obtain ⟨G, hG⟩ : ∃ G, gdA a A0 n0 c0 = G := ⟨_, rfl⟩
  obtain ⟨GL, hGL⟩ : ∃ G, gdL a l = G := ⟨_, rfl⟩
  rw [hG] at hbl hok hsg hpr hmay hmod hgf ⊢
  rw [hGL] at hbl hgl hsg hmay hmod hgf
  have hrd := rd_ok G GL hok (by omega) (gk a.pr) hf
  obtain ⟨OB, hOB⟩ : ∃ OB, bytesB G GL (fld (gk a.pr)) = OB := ⟨_, rfl⟩
  rw [hOB] at hbl hmod hrd
  obtain ⟨gb, hgb⟩ : ∃ gb, w3.heap.size = gb := ⟨_, rfl⟩
  have HXA : Hid ((w3.alloc (.cells #[.int .i64 0, .int .i64 0, .int .i64 0, .int .i64 0, .int .i64 0, .int .i64 0, .int .i64 0, .int .i64 0, .int .i64 0, .string ⟨#[]⟩, .string ⟨#[]⟩, .slice none 0 0] 26)).heap[gb]? = some (.cells #[.int .i64 0, .int .i64 0, .int .i64 0, .int .i64 0, .int .i64 0, .int .i64 0, .int .i64 0, .int .i64 0, .int .i64 0, .string ⟨#[]⟩, .string ⟨#[]⟩, .slice none 0 0] 26 (0, 0))) := Lib.hid (by rw [← hgb]; exact heap_alloc_new _ _)
  have e34 : Ext w3 ((w3.alloc (.cells #[.int .i64 0, .int .i64 0, .int .i64 0, .int .i64 0, .int .i64 0, .int .i64 0, .int .i64 0, .int .i64 0, .int .i64 0, .string ⟨#[]⟩, .string ⟨#[]⟩, .slice none 0 0] 26)).setRow gb G.cs) := below_setRow ((Ext.refl w3).alloc _) (by omega) _
  have HX4 : Hid (((w3.alloc (.cells #[.int .i64 0, .int .i64 0, .int .i64 0, .int .i64 0, .int .i64 0, .int .i64 0, .int .i64 0, .int .i64 0, .int .i64 0, .string ⟨#[]⟩, .string ⟨#[]⟩, .slice none 0 0] 26)).setRow gb G.cs).heap[gb]? = some (.cells G.cs 26 (0, 0))) := Lib.hid (setRow_heap _ gb _ _ _ _ HXA.out)
  have E4 := Lib.hid (E2.out.trans (e3.trans e34))
  have HWR := Lib.hid (cwrite_ok G GL ((w3.alloc (.cells #[.int .i64 0, .int .i64 0, .int .i64 0, .int .i64 0, .int .i64 0, .int .i64 0, .int .i64 0, .int .i64 0, .int .i64 0, .string ⟨#[]⟩, .string ⟨#[]⟩, .slice none 0 0] 26)).setRow gb G.cs) (hsg.ext e34) hmay)
  rw [hpr, hOB] at HWR
  have HSG := Lib.hid (hsg.ext e34)
  have HBL := Lib.hid hbl
  have HMOD := Lib.hid hmod
  have HPR : Hid (G.pr = gk a.pr) := Lib.hid hpr
  have HRD := Lib.hid hrd
  have HGF := Lib.hid hgf
  clear hsg e34 e3 s0 hok hG hGL hOB hbl hpr hgl hmay hmod hgf hf hrd
  go_wp2_with (first | (with_reducible refine wpList_store_row rfl 26 (.tmp 3) (.tmp 9) rfl gb _ rfl rfl _ _ HXA.out (HI.out _) rfl (HU.out _) ?_) | (with_reducible refine wpList_load_row rfl 26 (.tmp 3) rfl gb rfl _ _ _ _ HX4.out Try.underlying26 rfl (HI.out _) ?_) | fail)
  refine HWR.out.mono ?_
  rintro e w5 ⟨A5, n5, c5, rfl, s5, e5⟩
  have hn5 : OB.length = n5 := by have h9 := s5.len; rwa [bs_length] at h9
  have E5 := Lib.hid (E4.out.trans e5)
  have HX5 := Lib.hid (e5.heap HX4.out)
  have HSG5 := Lib.hid (HSG.out.ext e5)
  have S5 := Lib.hid s5
  have HM4 : Hid ((n5 : Int) % 4 = 0) := Lib.hid (by have := HMOD.out; omega)
  have HN5 : Hid (n5 ≤ 300) := Lib.hid (by have := HBL.out.2; omega)
  have q0 : w5.cell? ⟨gb, 0, none⟩ = some (.int .i64 (gk a.pr)) := by have h9 := (cell_of_row w5 gb 0 _ _ _ HX5.out).trans (show _ = some (.int .i64 G.pr) from rfl); rw [HPR.out] at h9; exact h9
  clear s5 e5 hn5
  go_wp2_with fail
  refine (cread_any (gk a.pr) A5 n5 c5 OB _ S5.out (by have := HN5.out; omega)).mono ?_
  rintro e w6 ⟨A6, n6, c6, rfl, s6, e6⟩
  rw [HRD.out.1]
  obtain ⟨x, hx⟩ : ∃ x, (rdA (gk a.pr) OB).wd A6 n6 c6 = x := ⟨_, rfl⟩
  have hxd : x.dA = A6 ∧ x.dn = n6 ∧ x.dk = c6 := by rw [← hx]; exact ⟨rfl, rfl, rfl⟩
  have hxe : x.wd none 0 0 = G.wd none 0 0 := by rw [← hx, ← HGF.out.1, HRD.out.2.1]; rfl
  rw [HRD.out.2.2, HGF.out.2] at s6
  rw [hx]
  obtain ⟨xb, hxb⟩ : ∃ xb, w6.heap.size = xb := ⟨_, rfl⟩
  have HXB : Hid ((w6.alloc (.cells #[.int .i64 0, .int .i64 0, .int .i64 0, .int .i64 0, .int .i64 0, .int .i64 0, .int .i64 0, .int .i64 0, .int .i64 0, .string ⟨#[]⟩, .string ⟨#[]⟩, .slice none 0 0] 26)).heap[xb]? = some (.cells #[.int .i64 0, .int .i64 0, .int .i64 0, .int .i64 0, .int .i64 0, .int .i64 0, .int .i64 0, .int .i64 0, .int .i64 0, .string ⟨#[]⟩, .string ⟨#[]⟩, .slice none 0 0] 26 (0, 0))) := Lib.hid (by rw [← hxb]; exact heap_alloc_new _ _)
  have e67 : Ext w6 ((w6.alloc (.cells #[.int .i64 0, .int .i64 0, .int .i64 0, .int .i64 0, .int .i64 0, .int .i64 0, .int .i64 0, .int .i64 0, .int .i64 0, .string ⟨#[]⟩, .string ⟨#[]⟩, .slice none 0 0] 26)).setRow xb x.cs) := below_setRow ((Ext.refl w6).alloc _) (by omega) _
  have HX7 : Hid (((w6.alloc (.cells #[.int .i64 0, .int .i64 0, .int .i64 0, .int .i64 0, .int .i64 0, .int .i64 0, .int .i64 0, .int .i64 0, .int .i64 0, .string ⟨#[]⟩, .string ⟨#[]⟩, .slice none 0 0] 26)).setRow xb x.cs).heap[xb]? = some (.cells x.cs 26 (0, 0))) := Lib.hid (setRow_heap _ xb _ _ _ _ HXB.out)
  have HG7 := Lib.hid ((e6.trans e67).heap HX5.out)
  have E7 := Lib.hid (E5.out.trans (e6.trans e67))
  have SX7 : Hid (Sees ((w6.alloc (.cells #[.int .i64 0, .int .i64 0, .int .i64 0, .int .i64 0, .int .i64 0, .int .i64 0, .int .i64 0, .int .i64 0, .int .i64 0, .string ⟨#[]⟩, .string ⟨#[]⟩, .slice none 0 0] 26)).setRow xb x.cs) x.dA x.dn x.dk (bs GL)) := Lib.hid (by rw [hxd.1, hxd.2.1, hxd.2.2]; exact s6.ext e67)
  have SG7 := Lib.hid (HSG5.out.ext (e6.trans e67))
  have HCE : Hid (cEq x G GL GL = true) := Lib.hid (cEq_self _ _ _ hxe)
  have HZA : Hid (∀ (j : Nat) (v : Value), x.cs[j]? = some v → x.cs[0 + j]? = some v) := Lib.hid fun j v h => by rw [Nat.zero_add]; exact h
  have HZB : Hid (∀ (j : Nat) (v : Value), G.cs[j]? = some v → G.cs[0 + j]? = some v) := Lib.hid fun j v h => by rw [Nat.zero_add]; exact h
  clear hxd hxe hx s6 e6 e67
  go_wp2_with (first | (with_reducible refine wpList_store_row rfl 26 (.tmp 6) (.tmp 20) rfl xb _ rfl rfl _ _ HXB.out (HI.out _) rfl (HU.out _) ?_) | (with_reducible refine wpList_load_sub rfl 26 (.tmp 6) rfl xb 0 rfl 26 _ _ _ _ HX7.out HZA.out Try.underlying26 rfl (HI.out _) ?_) | (with_reducible refine wpList_load_sub rfl 26 (.tmp 3) rfl gb 0 rfl 26 _ _ _ _ HG7.out HZB.out Try.underlying26 rfl (HI.out _) ?_) | fail)
  refine (rsame14 x G GL GL _ SX7.out SG7.out).mono ?_
  rintro e w8 ⟨rfl, e8⟩
  rw [HCE.out]
  have E8 := Lib.hid (E7.out.trans e8)
  have HX8 := Lib.hid (e8.heap HX7.out)
  have HG8 := Lib.hid (e8.heap HG7.out)
  have SX8 := Lib.hid (SX7.out.ext e8)
  have SG8 := Lib.hid (SG7.out.ext e8)
  clear e8
  go_wp2_with (first | (with_reducible refine wpList_load_sub rfl 26 (.tmp 6) rfl xb 0 rfl 26 _ _ _ _ HX8.out HZA.out Try.underlying26 rfl (HI.out _) ?_) | (with_reducible refine wpList_load_sub rfl 26 (.tmp 3) rfl gb 0 rfl 26 _ _ _ _ HG8.out HZB.out Try.underlying26 rfl (HI.out _) ?_) | fail)
  refine (csame_any x G GL GL _ SX8.out SG8.out).mono ?_
  rintro e w9 ⟨rfl, e9⟩
  rw [HCE.out]
  have E9 := Lib.hid (E8.out.trans e9)
  have hm4 := HM4.out
  clear e9
  go_wp2_with fail
  refine (lives14 _).mono ?_
  rintro e w10 ⟨rfl, e10⟩
  go_wp2_with fail
  go_ret
  exact ⟨rfl, E9.out.trans e10⟩
end Go.Proofs.Ytpjigdfllbhknaa
