/-
  Layer 18: an error's reply; the example is met.
-/
import Derived.Test.YtihiclnbbpablaaTellG
namespace Go.Proofs.Ytihiclnbbpablaa
open Go Go.RowKit
set_option linter.unusedVariables false
set_option linter.unusedSimpArgs false
def TL.err (tag code : Int) : TL := ⟨107, tag, code, 0, 0, 0, [], (false, 0, 0), none, 0, 0, [], none, 0, 0, [], (false, 0, 0), 0, 0, []⟩
theorem TL.err_ok (tag code : Int) (w : World) : (TL.err tag code).Ok w := ⟨SeesQ.nil w, Sees.nil w⟩
theorem terror_any (tag code : Int) (w : World) : Calls Try.prog 25 #[.int .i64 tag, .int .i64 code] w fun e w' => e = .returned (.agg (TL.err tag code).cs) ∧ Ext w w' := by
  have HI := Lib.hid (tl_info (TL.err tag code))
  have HS : Hid ((#[.int .i64 0, .int .i64 0, .int .i64 0, .int .i64 0, .int .i64 0, .int .i64 0, .string ⟨#[]⟩, .bool false, .int .i64 0, .int .i64 0, .slice none 0 0, .slice none 0 0, .bool false, .int .i64 0, .int .i64 0, .int .i64 0, .int .i64 0, .string ⟨#[]⟩] : Array Value).size = (TL.err tag code).cs.size) := Lib.hid rfl
  have HU := Lib.hid (TL.one (TL.err tag code))
  have HZ0 : Hid ((w.alloc (.cells #[.int .i64 0, .int .i64 0, .int .i64 0, .int .i64 0, .int .i64 0, .int .i64 0, .string ⟨#[]⟩, .bool false, .int .i64 0, .int .i64 0, .slice none 0 0, .slice none 0 0, .bool false, .int .i64 0, .int .i64 0, .int .i64 0, .int .i64 0, .string ⟨#[]⟩] 29)).heap[w.heap.size]? = some (.cells #[.int .i64 0, .int .i64 0, .int .i64 0, .int .i64 0, .int .i64 0, .int .i64 0, .string ⟨#[]⟩, .bool false, .int .i64 0, .int .i64 0, .slice none 0 0, .slice none 0 0, .bool false, .int .i64 0, .int .i64 0, .int .i64 0, .int .i64 0, .string ⟨#[]⟩] 29 (0, 0))) := Lib.hid (heap_alloc_new w _)
  have HG := Lib.hid (setRow_heap (w.alloc (.cells #[.int .i64 0, .int .i64 0, .int .i64 0, .int .i64 0, .int .i64 0, .int .i64 0, .string ⟨#[]⟩, .bool false, .int .i64 0, .int .i64 0, .slice none 0 0, .slice none 0 0, .bool false, .int .i64 0, .int .i64 0, .int .i64 0, .int .i64 0, .string ⟨#[]⟩] 29)) w.heap.size _ (TL.err tag code).cs _ _ HZ0.out)
  have EG : Hid (Ext w ((w.alloc (.cells #[.int .i64 0, .int .i64 0, .int .i64 0, .int .i64 0, .int .i64 0, .int .i64 0, .string ⟨#[]⟩, .bool false, .int .i64 0, .int .i64 0, .slice none 0 0, .slice none 0 0, .bool false, .int .i64 0, .int .i64 0, .int .i64 0, .int .i64 0, .string ⟨#[]⟩] 29)).setRow w.heap.size (TL.err tag code).cs)) := Lib.hid (below_setRow ((Ext.refl w).alloc _) (Nat.le_refl _) _)
  go_enter Try.func25, Try.ntmps25
  go_wp2_with (first | (refine wpList_store_row rfl 29 (.tmp 4) (.tmp 7) rfl w.heap.size (TL.err tag code).cs rfl rfl _ _ HZ0.out HI.out HS.out HU.out ?_) | fail)
  refine bodyPost_ret (results_cell_row rfl _ _ w.heap.size _ _ (0, 0) _ rfl HG.out Try.underlying29 rfl HI.out) rfl ?_
  exact ⟨rfl, EG.out⟩
theorem may_err (tag code : Int) (h1 : bi tag 65535 = true) (h2 : bi code 65535 = true) : mayT (TL.err tag code) = true := by
  simp [mayT, fok, fl, mayR, wos, wo, tEq, TL.zero, TL.err, bnd, h1, h2]
theorem tw_err (tag code : Int) : tw (TL.err tag code) = lpk 107 tag.toNat (le 2 code.toNat) := by
  simp [tw, TL.err, fl, bd, ly]
set_option maxRecDepth 20000 in
theorem tlives_any (w : World) : Calls Try.prog 17 #[] w fun e w' => e = .returned (.bool true) ∧ Ext w w' := by
  have hb : tw (TL.err 1 2) = [9, 0, 0, 0, 107, 1, 0, 2, 0] := by rw [tw_err]; decide
  have HB := Lib.hid hb
  clear hb
  go_enter Try.func17, Try.ntmps17
  go_wp2_with fail
  refine (terror_any 1 2 w).mono ?_
  rintro e w1 ⟨rfl, e1⟩
  go_wp2_with fail
  refine (twrite_ok (TL.err 1 2) w1 (TL.err_ok _ _ _) (may_err 1 2 (by decide) (by decide))).mono ?_
  rintro e w2 ⟨v2, rfl, own2, e2⟩
  rw [HB.out] at own2
  have own2' : w2.ownsRow _ 5 1 v2 9 (bs [9, 0, 0, 0, 107, 1, 0, 2, 0]) := own2
  obtain ⟨A2, c2, rfl, see2⟩ := Sees.of_own own2'
  have st := str_of see2
  have E2 := Lib.hid (e1.trans e2)
  clear own2 own2' see2 e1 e2
  go_wp2_with fail
  go_ret
  exact ⟨by simp, E2.out⟩
end Go.Proofs.Ytihiclnbbpablaa
