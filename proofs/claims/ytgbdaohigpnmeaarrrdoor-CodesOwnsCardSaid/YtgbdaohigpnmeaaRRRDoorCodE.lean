/-
  Layer 8: the list of all errors.
-/
import Derived.Test.YtgbdaohigpnmeaaRRRDoorCodesTotal
namespace Go.Proofs.YtgbdaohigpnmeaaRRRDoor
open Go Go.RowKit
set_option linter.unusedVariables false
set_option linter.unusedSimpArgs false

theorem infoE : (Tryd.prog.info? 22).map (fun i => (i.zero, i.size, i.bytes)) = some (some (.int .i64 0), 1, 8) := by kernel_rfl
/-- A new block of cells, and the slice of all of it. -/
theorem own_newC (w : World) (e : TypeId) (cs : Array Value) (base : Nat) (hb : base ≤ w.heap.size) (hm : cs.size ≤ maxLen) :
    (w.alloc (.cells cs e)).ownsRow base e 1 (.slice (some ⟨w.heap.size, 0, none⟩) cs.size cs.size) cs.size cs.toList :=
  ⟨by simp, .inr ⟨w.heap.size, cs.size, cs, rfl, hb, heap_alloc_new w _, Nat.le_refl _, hm, by simp, List.take_of_length_le (by simp)⟩⟩
theorem sees_newC (w : World) (e : TypeId) (cs : Array Value) (hm : cs.size ≤ maxLen) : Sees (w.alloc (.cells cs e)) (some ⟨w.heap.size, 0, none⟩) cs.size cs.size cs.toList := by
  obtain ⟨A, c, h1, h2⟩ := Sees.of_own (own_newC w e cs 0 (Nat.zero_le _) hm)
  injection h1 with a b c
  subst a c
  exact h2

theorem own_monoC {w : World} {base base' : Nat} {e : TypeId} {v : Value} {n : Nat} {xs : List Value} (h : w.ownsRow base e 1 v n xs) (hb : base' ≤ base) : w.ownsRow base' e 1 v n xs := by
  obtain ⟨h1, h2⟩ := h
  refine ⟨h1, ?_⟩
  rcases h2 with h2 | ⟨g, cap, cur, hv, hg, r⟩
  · exact .inl h2
  · exact .inr ⟨g, cap, cur, hv, by omega, r⟩
theorem own_extC {w w' : World} {base : Nat} {e : TypeId} {v : Value} {n : Nat} {xs : List Value} (h : w.ownsRow base e 1 v n xs) (he : Ext w w') : w'.ownsRow base e 1 v n xs := by
  obtain ⟨h1, h2⟩ := h
  refine ⟨h1, ?_⟩
  rcases h2 with h2 | ⟨g, cap, cur, hv, hg, hh, r⟩
  · exact .inl h2
  · exact .inr ⟨g, cap, cur, hv, hg, he.heap hh, r⟩

theorem errs_take (k : Nat) (hk : k < 19) : errsV.toList.take (k + 1) = errsV.toList.take k ++ [.int .i64 (errs.getD k 0)] := by
  have h : k = 0 ∨ k = 1 ∨ k = 2 ∨ k = 3 ∨ k = 4 ∨ k = 5 ∨ k = 6 ∨ k = 7 ∨ k = 8 ∨ k = 9 ∨ k = 10 ∨ k = 11 ∨ k = 12 ∨ k = 13 ∨ k = 14 ∨ k = 15 ∨ k = 16 ∨ k = 17 ∨ k = 18 := by omega
  rcases h with rfl | rfl | rfl | rfl | rfl | rfl | rfl | rfl | rfl | rfl | rfl | rfl | rfl | rfl | rfl | rfl | rfl | rfl | rfl
  all_goals rfl
set_option maxHeartbeats 1000000 in
theorem all_any (w : World) (ht : Tab w) :
    Calls Tryd.prog 20 #[] w fun x w' => ∃ v, x = .returned v ∧ w'.ownsRow w.heap.size 22 1 v 19 errsV.toList ∧ Ext w w' := by
  obtain ⟨i0, hi, hz0, hz1, hz2⟩ := info_parts infoE
  obtain ⟨t0, fr0, hg0⟩ := ht
  have hsz : (Tryd.prog.info? 44).map (·.size) = some tabC.size := by rw [tabC_size]; kernel_rfl
  have HZ := Lib.hid hsz
  clear hsz
  go_enter Tryd.func20, Tryd.ntmps20
  go_wp2_with (first | (with_reducible refine wpList_load_row rfl 44 (.global 0) rfl 0 rfl t0 tabC fr0 _ hg0 Tryd.underlying44 rfl HZ.out ?_) | fail)
  clear hg0
  go_loopw [1, 5] (fun v i wr => ∃ k : Nat, k ≤ 19 ∧ i = .int .i64 k ∧ wr.ownsRow w.heap.size 22 1 v k (errsV.toList.take k) ∧ Ext w wr) (fun _ i _ => 19 - (intOf i).toNat)
  case atStart => exact ⟨0, by omega, rfl, World.ownsRow_nil _ _ _ _, Ext.refl _⟩
  case round =>
    obtain ⟨k, hk, rfl, own, ext⟩ := hrel
    by_cases hlt : k < 19
    · have hidx := idx_tab k hlt
      have htk := errs_take k hlt
      unfold rowC at hidx
      generalize errs.getD k 0 = r1 at *
      generalize sts.getD k 0 = r2 at *
      generalize txs.getD k [] = r4 at *
      have hs1 := sees_newC (wr.alloc (.cells #[.int .i64 r1, .int .u32 r2, .int .i64 (k : Int), .string ⟨r4.toArray⟩] 38)) 22 #[.int .i64 r1] (by simp [maxLen])
      have hsz2 : (wr.alloc (.cells #[.int .i64 r1, .int .u32 r2, .int .i64 (k : Int), .string ⟨r4.toArray⟩] 38)).heap.size = wr.heap.size + 1 := by
        show (wr.heap.push _).size = _
        simp
      rw [hsz2] at hs1
      have eA : Ext wr ((wr.alloc (.cells #[.int .i64 r1, .int .u32 r2, .int .i64 (k : Int), .string ⟨r4.toArray⟩] 38)).alloc (.cells #[.int .i64 r1] 22)) := ((Ext.refl _).alloc _).alloc _
      have ownA : ((wr.alloc (.cells #[.int .i64 r1, .int .u32 r2, .int .i64 (k : Int), .string ⟨r4.toArray⟩] 38)).alloc (.cells #[.int .i64 r1] 22)).ownsRow w.heap.size 22 1 _ k (errsV.toList.take k) := (own.alloc _).alloc _
      obtain ⟨v3, w3, hrun3, own3, hg3, _⟩ := run_append_sees (P := Tryd.prog) w.heap.size 24 24 22 i0 _ 8 Tryd.underlying24 hi hz0 hz1 hz2 rfl _ _ _ ownA _ _ _ _ hs1 (by simp [Value.oneCell']) (by simp; unfold maxLen; omega) (by simp; omega) (by have := ext.size; have := eA.size; omega)
      have ext3 : Ext w w3 := (ext.trans eA).grown hg3 fun k hk => (ownA.lt k hk).1
      have own4 : w3.ownsRow w.heap.size 22 1 v3 (k + 1) (errsV.toList.take (k + 1)) := by
        rw [htk]
        exact own3
      have HOwn := Lib.hid own4
      clear own own3 own4 ownA hg3 ext eA hs1 hsz2 htk
      go_wp2_with (first | (at_builtin; refine wpList_append_run rfl (.tmp 8) (.tmp 11) _ rfl _ _ rfl rfl v3 w3 hrun3 ?_) | fail)
      go_roundw
      case rel => exact ⟨k + 1, by omega, by go_num, HOwn.out, ext3⟩
      case measure => simp [intOf]; omega
    · obtain rfl : k = 19 := by omega
      go_wp2
      go_ret
      exact ⟨_, rfl, own, ext⟩
end Go.Proofs.YtgbdaohigpnmeaaRRRDoor
