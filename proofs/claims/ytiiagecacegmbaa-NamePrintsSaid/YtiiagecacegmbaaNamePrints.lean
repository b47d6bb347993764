/-
  The statement NamePrints: its walk.
-/
import Derived.Test.YtiiagecacegmbaaNamX
import Derived.Test.YtiiagecacegmbaaNamS
namespace Go.Proofs.Ytiiagecacegmbaa
open Go Go.RowKit
set_option linter.unusedVariables false
set_option linter.unusedSimpArgs false
theorem byteB_good (c : UInt8) : ∀ b ∈ byteB c, 33 ≤ b.toNat ∧ b.toNat ≤ 126 := by
  have h : ∀ k : Fin 256, ∀ b ∈ byteB (UInt8.ofNat k.val), 33 ≤ b.toNat ∧ b.toNat ≤ 126 := by decide +kernel
  have h1 := h ⟨c.toNat, c.toNat_lt⟩
  simpa using h1
theorem print_good (t : List UInt8) : ∀ b ∈ printB t, 33 ≤ b.toNat ∧ b.toNat ≤ 126 := by
  intro b hb
  unfold printB at hb
  split at hb
  · simp at hb; subst hb; decide
  · split at hb
    · simp at hb
      rcases hb with rfl | rfl | rfl <;> decide
    · obtain ⟨c, _, hc⟩ := List.mem_flatMap.1 hb
      exact byteB_good c b hc
set_option maxHeartbeats 4000000 in
set_option maxRecDepth 20000 in
theorem np_walk (s : List UInt8) (c : Int) (w : World) (hs : s.length ≤ maxLen) (hc0 : 0 ≤ c) (hc1 : c ≤ 255) :
    Calls Try.prog 10 #[.string ⟨s.toArray⟩, .int .u8 c] w fun e w' => e = .returned (.bool true) ∧ Ext w w' := by
  have HSH := Lib.hid (fun w => short_any s 40 w hs (by omega))
  have hsl : Hid ((s.take 40).length ≤ 40) := Lib.hid (by rw [List.length_take]; omega)
  generalize s.take 40 = t0 at *
  obtain ⟨cb, rfl⟩ : ∃ cb : UInt8, c = (cb.toNat : Int) := ⟨UInt8.ofNat c.toNat, (u8_of c hc0 (by omega)).symm⟩
  go_enter Try.func10, Try.ntmps10
  go_wp2_with fail
  refine wp_region_ordQ [0, 1, 2, 3, 4, 5, 6] [3, 5] (by kernel_rfl) (by kernel_rfl) rfl (by kernel_rfl) ?_
  iterate 1 (refine lexQ_val (v := ?_) rfl rfl (fun w' hw' => ?_) ?_; rotate_left; (· go_simp; try with_reducible rfl); simp only [Act.put, List.setIfInBounds_toArray, List.set_cons_zero, List.set_cons_succ])
  refine lexQ_even 32 #[.string ⟨s.toArray⟩, .int .i64 40] (.string ⟨t0.toArray⟩) rfl rfl (fun w' hw' => by go_simp) (fun w' hw' => HSH.out w') ?_
  simp only [Act.put, List.setIfInBounds_toArray, List.set_cons_zero, List.set_cons_succ]
  iterate 1 (refine lexQ_val (v := ?_) rfl rfl (fun w' hw' => ?_) ?_; rotate_left; (· go_simp; try with_reducible rfl); simp only [Act.put, List.setIfInBounds_toArray, List.set_cons_zero, List.set_cons_succ])
  have s2 := sees_new w.drew 5 #[.int .u8 (cb.toNat : Int)] (by simp [maxLen])
  have s2' : Sees (w.drew.alloc (.cells #[.int .u8 (cb.toNat : Int)] 5)) (some ⟨w.heap.size, 0, none⟩) 1 1 (bs [cb]) := s2
  have hstr : ∀ w', Ext (w.drew.alloc (.cells #[.int .u8 (cb.toNat : Int)] 5)) w' → (convert 22 9 (.slice (some ⟨w.heap.size, 0, none⟩) 1 1)).run Try.prog w' = .ok (.string ⟨#[cb]⟩) w' := fun w' he => str_of (s2'.ext he)
  refine lexQ_run (w' := w.drew.alloc (.cells #[.int .u8 (cb.toNat : Int)] 5)) (.slice (some ⟨w.heap.size, 0, none⟩) 1 1) rfl rfl ?_ ((Ext.refl _).alloc _) ?_
  · go_simp
  simp only [Act.put, List.setIfInBounds_toArray, List.set_cons_zero, List.set_cons_succ]
  have ext1 : Ext w (w.drew.alloc (.cells #[.int .u8 (cb.toNat : Int)] 5)) := (Ext.refl w).drew.alloc _
  clear s2 s2'
  generalize hw1 : w.drew.alloc (.cells #[.int .u8 (cb.toNat : Int)] 5) = w1 at *
  clear hw1
  refine lexQ_val (.string ⟨#[cb]⟩) rfl rfl (fun w' hw' => ?_) ?_
  · have := hstr w' hw'
    go_simp
  simp only [Act.put, List.setIfInBounds_toArray, List.set_cons_zero, List.set_cons_succ]
  obtain ⟨tx, htx⟩ : ∃ tx, tx = #[Value.string ⟨t0.toArray⟩, .string ⟨#[cb]⟩, .string ⟨#[]⟩, .string ⟨#[45]⟩, .string ⟨#[45, 45]⟩, .string ⟨#[37, 50, 100]⟩] := ⟨_, rfl⟩
  refine lexQ_run (w' := w1.alloc (.cells tx 9)) (.slice (some ⟨w1.heap.size, 0, none⟩) 6 6) rfl rfl ?_ ((Ext.refl _).alloc _) ?_
  · rw [htx]
    go_simp
  simp only [Act.put, List.setIfInBounds_toArray, List.set_cons_zero, List.set_cons_succ]
  iterate 1 (refine lexQ_val (v := ?_) rfl rfl (fun w' hw' => ?_) ?_; rotate_left; (· go_simp; try with_reducible rfl); simp only [Act.put, List.setIfInBounds_toArray, List.set_cons_zero, List.set_cons_succ])
  refine lexQ_done ?_
  clear hstr
  have ext3 : Ext w (w1.alloc (.cells tx 9)) := ext1.alloc _
  have HK : Hid (∀ k, k < 6 → ∃ t : List UInt8, t.length ≤ 60 ∧ ∀ w', Ext (w1.alloc (.cells tx 9)) w' → w'.cell? ⟨w1.heap.size, k, none⟩ = some (.string ⟨t.toArray⟩)) := Lib.hid fun k hk => by
    have hb := heap_alloc_new w1 (.cells tx 9)
    have h6 : k = 0 ∨ k = 1 ∨ k = 2 ∨ k = 3 ∨ k = 4 ∨ k = 5 := by omega
    have key : ∀ t : List UInt8, tx[k]? = some (.string ⟨t.toArray⟩) → t.length ≤ 60 → ∃ t : List UInt8, t.length ≤ 60 ∧ ∀ w', Ext (w1.alloc (.cells tx 9)) w' → w'.cell? ⟨w1.heap.size, k, none⟩ = some (.string ⟨t.toArray⟩) := fun t ht hl =>
      ⟨t, hl, fun w' he => by rw [cell_of_row w' w1.heap.size k tx _ _ (he.heap hb)]; exact ht⟩
    rcases h6 with rfl | rfl | rfl | rfl | rfl | rfl
    · exact key t0 (by rw [htx]; rfl) (by have := hsl.out; omega)
    · exact key [cb] (by rw [htx]; rfl) (by simp)
    · exact key [] (by rw [htx]; rfl) (by simp)
    · exact key [45] (by rw [htx]; rfl) (by simp)
    · exact key [45, 45] (by rw [htx]; rfl) (by simp)
    · exact key [37, 50, 100] (by rw [htx]; rfl) (by simp)
  have Ext3 := Lib.hid ext3
  clear htx ext1 ext3
  generalize hw3 : w1.alloc (.cells tx 9) = w3 at *
  generalize w1.heap.size = z at *
  clear hw3
  go_wp2_with fail
  go_loopw [6] (fun i wr => ∃ k : Nat, k ≤ 6 ∧ i = .int .i64 k ∧ Ext w3 wr) (fun i _ => 6 - (intOf i).toNat)
  case atStart => exact ⟨0, by omega, rfl, Ext.refl _⟩
  case round =>
    obtain ⟨k, hk, rfl, extk⟩ := hrel
    by_cases hlt : k < 6
    · obtain ⟨t, ht, hcell⟩ := HK.out k hlt
      have HP := Lib.hid (fun w => print_any t w (by omega))
      have HR := Lib.hid (fun w => rprint_any t w (by omega))
      have hsc := scan_print t
      have hle := print_le t
      have HG := Lib.hid (print_good t)
      have HS := Lib.hid (fun w => scan_any (printB t) w (by omega))
      rw [hsc.1, hsc.2] at HS
      clear hsc
      generalize printB t = p at *
      have hc1 := hcell wr extk
      have hpz : (ByteArray.mk p.toArray).size = p.length := by simp [ByteArray.size]
      go_wp2_with fail
      refine (HP.out _).mono ?_
      rintro e w4 ⟨rfl, e4⟩
      go_wp2_with fail
      refine (HS.out _).mono ?_
      rintro e w5 ⟨rfl, e5⟩
      have hc2 := hcell w5 (extk.trans (e4.trans e5))
      go_wp2_with fail
      refine (HR.out _).mono ?_
      rintro e w6 ⟨rfl, e6⟩
      have hc3 := hcell w6 ((extk.trans (e4.trans e5)).trans e6)
      have Ext6 := Lib.hid ((extk.trans (e4.trans e5)).trans e6)
      clear hc1 hc2 hcell e4 e5 e6 extk
      go_wp2_with fail
      go_loop [10] (fun j => ∃ m : Nat, m ≤ p.length ∧ j = .int .i64 m) (fun j => p.length - (intOf j).toNat)
      case atStart => exact ⟨0, by omega, rfl⟩
      case round =>
        obtain ⟨m, hm, rfl⟩ := hrel
        by_cases hmt : m < p.length
        · have hix := idx_str p m hmt
          have hg := HG.out p[m] (List.getElem_mem hmt)
          generalize p[m] = b at *
          have g1 : ¬ ((b.toNat : Int) < 33) := by omega
          have g2 : ¬ ((126 : Int) < (b.toNat : Int)) := by omega
          have g3 : decide ((b.toNat : Int) < 33) = false := by simpa using g1
          go_wp2
          go_round
          case rel => exact ⟨m + 1, by omega, by go_num⟩
          case measure => simp [intOf]; omega
        · obtain rfl : m = p.length := by omega
          go_wp2
          go_roundw
          case rel => exact ⟨k + 1, by omega, by go_num, Ext6.out⟩
          case measure => simp [intOf]; omega
    · obtain rfl : k = 6 := by omega
      go_wp2_with fail
      refine (lives9 _).mono ?_
      rintro e w6 ⟨rfl, e6⟩
      go_wp2
      go_ret
      exact ⟨rfl, Ext3.out.trans (extk.trans e6)⟩
end Go.Proofs.Ytiiagecacegmbaa
