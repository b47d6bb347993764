/-
  Layer 18: the statement TellErrors: its walk.
-/
import Derived.Test.YtihiclnbbpablaaTellJ
namespace Go.Proofs.Ytihiclnbbpablaa
open Go Go.RowKit
set_option linter.unusedVariables false
set_option linter.unusedSimpArgs false
set_option maxRecDepth 100000 in
set_option maxHeartbeats 2000000 in
theorem te_walk (t c : Int) (w : World) (ht0 : -9223372036854775808 ≤ t) (ht1 : t ≤ 9223372036854775807) (hc0 : -9223372036854775808 ≤ c) (hc1 : c ≤ 9223372036854775807) :
    Calls Try.prog 9 #[.int .i64 t, .int .i64 c] w fun e w' => e = .returned (.bool true) ∧ Ext w w' := by
  go_enter Try.func9, Try.ntmps9
  go_wp2_with fail
  refine (around_any t 65536 _ ht0 ht1 (by omega) (by omega)).mono ?_
  rintro e w1 ⟨rfl, rfl⟩
  have hr := aroundZ_bound t 65536 (by omega)
  generalize aroundZ t 65536 = t' at *
  obtain ⟨Tg, rfl⟩ := Int.eq_ofNat_of_zero_le hr.1
  have hT : Tg < 65536 := by omega
  clear hr
  go_wp2_with fail
  refine (around_any c 65536 _ hc0 hc1 (by omega) (by omega)).mono ?_
  rintro e w1 ⟨rfl, rfl⟩
  have hr := aroundZ_bound c 65536 (by omega)
  generalize aroundZ c 65536 = c' at *
  obtain ⟨C, rfl⟩ := Int.eq_ofNat_of_zero_le hr.1
  have hC : C < 65536 := by omega
  clear hr
  go_wp2_with fail
  refine (terror_any (Tg : Int) (C : Int) w).mono ?_
  rintro e w1 ⟨rfl, e1⟩
  have E1 := Lib.hid e1
  clear e1
  have HL : Hid ((tw (TL.err (Tg : Int) (C : Int))).length = 9) := Lib.hid (by rw [tw_err]; simp [lpk, le_length])
  have HT : Hid (tw (TL.err (Tg : Int) (C : Int)) = lpk 107 Tg (le 2 C)) := Lib.hid (by rw [tw_err]; rfl)
  go_wp2_with fail
  refine (twrite_ok (TL.err Tg C) w1 (TL.err_ok _ _ _) (may_err Tg C (by simp [bi]; omega) (by simp [bi]; omega))).mono ?_
  rintro e w2 ⟨v2, rfl, own2, e2⟩
  obtain ⟨A2, c2, rfl, see2⟩ := own_sees own2 HL.out
  rw [HT.out] at see2
  have E2 := Lib.hid (E1.out.trans e2)
  have S2 := Lib.hid see2
  clear own2 see2 e2 E1
  go_wp2_with fail
  refine (tread_err Tg C hT hC A2 9 c2 w2 S2.out).mono ?_
  rintro e w3 ⟨rfl, e3⟩
  have E3 := Lib.hid (E2.out.trans e3)
  have HZ0 : Hid ((w3.alloc (.cells #[.int .i64 0, .int .i64 0, .int .i64 0, .int .i64 0, .int .i64 0, .int .i64 0, .string ⟨#[]⟩, .bool false, .int .i64 0, .int .i64 0, .slice none 0 0, .slice none 0 0, .bool false, .int .i64 0, .int .i64 0, .int .i64 0, .int .i64 0, .string ⟨#[]⟩] 29)).heap[w3.heap.size]? = some (.cells #[.int .i64 0, .int .i64 0, .int .i64 0, .int .i64 0, .int .i64 0, .int .i64 0, .string ⟨#[]⟩, .bool false, .int .i64 0, .int .i64 0, .slice none 0 0, .slice none 0 0, .bool false, .int .i64 0, .int .i64 0, .int .i64 0, .int .i64 0, .string ⟨#[]⟩] 29 (0, 0))) := Lib.hid (heap_alloc_new w3 _)
  have HI := Lib.hid (tl_info (TL.err Tg C))
  have HS : Hid ((#[.int .i64 0, .int .i64 0, .int .i64 0, .int .i64 0, .int .i64 0, .int .i64 0, .string ⟨#[]⟩, .bool false, .int .i64 0, .int .i64 0, .slice none 0 0, .slice none 0 0, .bool false, .int .i64 0, .int .i64 0, .int .i64 0, .int .i64 0, .string ⟨#[]⟩] : Array Value).size = (TL.err Tg C).cs.size) := Lib.hid rfl
  have HU := Lib.hid (TL.one (TL.err Tg C))
  obtain ⟨w4, hw4⟩ : ∃ W, (w3.alloc (.cells #[.int .i64 0, .int .i64 0, .int .i64 0, .int .i64 0, .int .i64 0, .int .i64 0, .string ⟨#[]⟩, .bool false, .int .i64 0, .int .i64 0, .slice none 0 0, .slice none 0 0, .bool false, .int .i64 0, .int .i64 0, .int .i64 0, .int .i64 0, .string ⟨#[]⟩] 29)).setRow w3.heap.size (TL.err Tg C).cs = W := ⟨_, rfl⟩
  have hb4 : w4.heap[w3.heap.size]? = some (.cells (TL.err Tg C).cs 29 (0, 0)) := by rw [← hw4]; exact setRow_heap _ _ _ _ _ _ HZ0.out
  have E4 : Hid (Ext w w4) := Lib.hid (by rw [← hw4]; exact below_setRow (E3.out.alloc _) E3.out.size _)
  have x0 := cell_of_row w4 w3.heap.size 0 _ _ _ hb4
  have x1 := cell_of_row w4 w3.heap.size 1 _ _ _ hb4
  have x2 := cell_of_row w4 w3.heap.size 2 _ _ _ hb4
  simp [TL.cs, TL.err] at x0 x1 x2
  rw [← hw4] at x0 x1 x2
  have E5 : Hid (Ext w ((w3.alloc (.cells #[.int .i64 0, .int .i64 0, .int .i64 0, .int .i64 0, .int .i64 0, .int .i64 0, .string ⟨#[]⟩, .bool false, .int .i64 0, .int .i64 0, .slice none 0 0, .slice none 0 0, .bool false, .int .i64 0, .int .i64 0, .int .i64 0, .int .i64 0, .string ⟨#[]⟩] 29)).setRow w3.heap.size (TL.err Tg C).cs)) := Lib.hid (by rw [hw4]; exact E4.out)
  clear e3 hb4 hw4 E4
  go_wp2_with (first | (refine wpList_store_row rfl 29 (.tmp 9) (.tmp 25) rfl w3.heap.size (TL.err Tg C).cs rfl rfl _ _ HZ0.out HI.out HS.out HU.out ?_) | fail)
  refine (tlives_any _).mono ?_
  rintro e w6 ⟨rfl, e6⟩
  have E6 := Lib.hid (E5.out.trans e6)
  go_wp2_with fail
  go_ret
  exact ⟨rfl, E6.out⟩
end Go.Proofs.Ytihiclnbbpablaa
