/-
  Lists of bytes that are the same: the document's helper says so.
-/
import Derived.Test.YtjdcbmelladceaaRwb
namespace Go.Proofs.Ytjdcbmelladceaa
open Go Go.RowKit
set_option linter.unusedVariables false
set_option linter.unusedSimpArgs false
set_option maxRecDepth 20000 in
set_option maxHeartbeats 1000000 in
theorem sameB_eq (A A2 : Option Addr) (n c c2 : Nat) (rs : List (List UInt8)) (w : World) (h1 : SeesB w A n c rs) (h2 : SeesB w A2 n c2 rs) :
    Calls Try.prog 26 #[.slice A n c, .slice A2 n c2] w fun e w' => e = .returned (.bool true) ∧ Ext w w' := by
  have hl := h1.len
  have hl2 := h2.len
  unfold maxLen at hl hl2
  have H1 := Lib.hid h1
  have H2 := Lib.hid h2
  have hrl := Lib.hid hl.1
  have hn1 := hl.2
  have hn2 := hl2.2
  clear h1 h2 hl hl2
  go_enter Try.func26, Try.ntmps26
  go_wp2_with fail
  go_loopw [5] (fun i wr => ∃ k : Nat, k ≤ n ∧ i = .int .i64 k ∧ Ext w wr) (fun i _ => n - (intOf i).toNat)
  case atStart => exact ⟨0, by omega, rfl, Ext.refl _⟩
  case round =>
    obtain ⟨k, hk, rfl, ext⟩ := hrel
    by_cases hlt : k < n
    · obtain ⟨r, hr⟩ : ∃ r, rs[k]? = some r := ⟨rs[k]'(by rw [hrl.out]; exact hlt), List.getElem?_eq_getElem (by rw [hrl.out]; exact hlt)⟩
      obtain ⟨b, off, A', n', c', rfl, hc1, hs1⟩ := (H1.out.ext ext).at_ k r hr
      obtain ⟨b2, off2, A2', n2', c2', rfl, hc2, hs2⟩ := (H2.out.ext ext).at_ k r hr
      have hd1 : ∀ w', Ext wr.drew w' → w'.cell? ⟨b, off + k, none⟩ = some (.slice A' n' c') := fun w' he => ((Ext.refl wr).drew.trans he).cell hc1
      have hd2 : ∀ w', Ext wr.drew w' → w'.cell? ⟨b2, off2 + k, none⟩ = some (.slice A2' n2' c2') := fun w' he => ((Ext.refl wr).drew.trans he).cell hc2
      have ht1 : ∀ w', Ext wr.drew w' → (convert 33 9 (.slice A' n' c')).run Try.prog w' = .ok (.string ⟨r.toArray⟩) w' := fun w' he => str_of (hs1.ext ((Ext.refl wr).drew.trans he))
      have ht2 : ∀ w', Ext wr.drew w' → (convert 33 9 (.slice A2' n2' c2')).run Try.prog w' = .ok (.string ⟨r.toArray⟩) w' := fun w' he => str_of (hs2.ext ((Ext.refl wr).drew.trans he))
      have EX := Lib.hid ext
      clear hc1 hc2 hs1 hs2 ext hr
      go_wp2_with fail
      refine wp_region_ord [0, 1, 2, 3, 4, 5, 6, 7, 8, 9, 10] [] (by kernel_rfl) (by kernel_rfl) rfl (by kernel_rfl) ?_
      iterate 11 (refine lex_val (v := ?_) rfl rfl (fun w' hw' => ?_) ?_; rotate_left; (· go_simp; try with_reducible rfl); simp only [Act.put, List.setIfInBounds_toArray, List.set_cons_zero, List.set_cons_succ])
      refine lex_done ?_
      clear hd1 hd2 ht1 ht2
      go_wp2
      go_roundw
      case rel => exact ⟨k + 1, by omega, by go_num, EX.out.drew⟩
      case measure => simp [intOf]; omega
    · obtain rfl : k = n := by omega
      go_wp2
      go_ret
      exact ⟨rfl, ext⟩
end Go.Proofs.Ytjdcbmelladceaa
