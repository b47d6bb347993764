/-
  Layer 22: the example is met; the statement TagsNews: its walk.
-/
import Derived.Test.YtnbeeglomciieaaTagD
namespace Go.Proofs.Ytnbeeglomciieaa
open Go Go.RowKit
set_option linter.unusedVariables false
set_option linter.unusedSimpArgs false
set_option maxRecDepth 100000 in
theorem glives_any (w : World) : Calls Try.prog 21 #[] w fun e w' => e = .returned (.bool true) ∧ Ext w w' := by
  go_enter Try.func21, Try.ntmps21
  go_wp2_with fail
  refine (tnew_ok 1 (by omega) (by omega) w).mono ?_
  rintro e w1 ⟨tb, rfl, ht, hb, e1⟩
  have HT := Lib.hid ht
  have E1 := Lib.hid e1
  clear ht e1
  go_wp2_with fail
  refine (tput_ok tb 1 [] (120, 3) w1 HT.out rfl (by simp)).mono ?_
  rintro e w2 ⟨rfl, ht2, o2⟩
  have HT2 := Lib.hid ht2
  have E2 := Lib.hid (o2.ext E1.out hb)
  clear ht2 o2
  go_wp2_with fail
  refine (tput_twice tb 1 _ (124, 3) w2 HT2.out rfl).mono ?_
  rintro e w3 ⟨rfl, e3⟩
  have HT3 := Lib.hid (HT2.out.ext e3)
  have E3 := Lib.hid (E2.out.trans e3)
  clear e3
  go_wp2_with fail
  refine (tput_full tb 1 _ (120, 4) w3 HT3.out rfl rfl).mono ?_
  rintro e w4 ⟨rfl, e4⟩
  have E4 := Lib.hid (E3.out.trans e4)
  clear e4
  go_wp2_with fail
  go_ret
  exact ⟨rfl, E4.out⟩
def Lk (m : Nat) : List (Int × Int) := (List.range m).map fun (j : Nat) => ((120 : Int), ((j : Nat) : Int))
theorem Lk_len (m : Nat) : (Lk m).length = m := by simp [Lk]
theorem Lk_succ (m : Nat) : Lk m ++ [(120, (m : Int))] = Lk (m + 1) := by simp [Lk, List.range_succ]
theorem Lk_has (m k : Nat) (h : m ≤ k) : hasT (Lk m) (k : Int) = false := by
  unfold hasT
  have : (Lk m).findIdx? (fun p => p.2 == (k : Int)) = none := by
    rw [List.findIdx?_eq_none_iff]
    intro p hp
    simp only [Lk, List.mem_map, List.mem_range] at hp
    obtain ⟨j, hj, rfl⟩ := hp
    simp
    omega
  rw [this]
  rfl
set_option maxRecDepth 100000 in
set_option maxHeartbeats 4000000 in
theorem gn_walk (most : Int) (w : World) (h0 : -9223372036854775808 ≤ most) (h1 : most ≤ 9223372036854775807) :
    Calls Try.prog 4 #[.int .i64 most] w fun e w' => e = .returned (.bool true) ∧ Ext w w' := by
  go_enter Try.func4, Try.ntmps4
  go_wp2_with fail
  refine (around_any most 11 _ h0 h1 (by omega) (by omega)).mono ?_
  rintro e w1 ⟨rfl, rfl⟩
  have hr := aroundZ_bound most 11 (by omega)
  obtain ⟨r, hrr⟩ : ∃ r, aroundZ most 11 = r := ⟨_, rfl⟩
  rw [hrr] at hr ⊢
  clear hrr
  obtain ⟨ab, hab⟩ : ∃ ab, w.heap.size = ab := ⟨_, rfl⟩
  obtain ⟨A, hA⟩ : ∃ A : Nat → Int, A = fun j => if j = 0 then most else r := ⟨_, rfl⟩
  have HAB : Hid (∀ j, -9223372036854775808 ≤ A j ∧ A j ≤ 9223372036854775807) := Lib.hid fun j => by
    rw [hA]
    by_cases hj : j = 0
    · simp only [hj, if_true]; exact ⟨h0, h1⟩
    · simp only [hj, if_false]; omega
  have HA0 : Hid (∀ j, j < 2 → (w.alloc (.cells #[.int .i64 most, .int .i64 r] 3)).cell? ⟨ab, j, none⟩ = some (.int .i64 (A j))) := Lib.hid fun j hj => by
    rw [← hab, cell_of_row _ _ j _ _ _ (heap_alloc_new w _), hA]
    have h01 : j = 0 ∨ j = 1 := by omega
    rcases h01 with rfl | rfl <;> rfl
  have E0 : Hid (Ext w (w.alloc (.cells #[.int .i64 most, .int .i64 r] 3))) := Lib.hid ((Ext.refl w).alloc _)
  clear hA hr h0 h1
  go_wp2_with fail
  go_loopw [4] (fun iv wr => ∃ i : Nat, i ≤ 2 ∧ iv = .int .i64 i ∧ (∀ j, j < 2 → wr.cell? ⟨ab, j, none⟩ = some (.int .i64 (A j))) ∧ Ext w wr) (fun iv _ => 2 - (intOf iv).toNat)
  case atStart => exact ⟨0, by omega, rfl, HA0.out, E0.out⟩
  case round =>
    obtain ⟨i, hi, rfl, hac, ext⟩ := hrel
    have HA := Lib.hid hac
    have EX := Lib.hid ext
    have hws := ext.size
    by_cases hi2 : i < 2
    · have xc := hac i hi2
      have hvb := HAB.out i
      generalize hAi : A i = v at xc hvb
      obtain ⟨hv0, hv1⟩ := hvb
      clear hac ext
      by_cases hlo : v < 1
      · have hbad : v < 1 ∨ 8 < v := .inl hlo
        go_wp2_with fail
        refine (tnew_no v (by omega) hv0 hv1 wr).mono ?_
        rintro e w3 ⟨rfl, e3⟩
        have x3 := e3.cell xc
        have E3 := Lib.hid (EX.out.trans e3)
        have HA3 : Hid (∀ j, j < 2 → w3.cell? ⟨ab, j, none⟩ = some (.int .i64 (A j))) := Lib.hid fun j hj => e3.cell (HA.out j hj)
        clear e3 xc
        go_wp2_with fail
        go_loopw [8] (fun kv wq => kv = .int .i64 0 ∧ w3 = wq) (fun _ _ => 0)
        case atStart => exact ⟨rfl, rfl⟩
        case round =>
          obtain ⟨rfl, rfl⟩ := hrel
          go_wp2_with fail
          go_roundw
          case rel => exact ⟨i + 1, by omega, by go_num, HA3.out, E3.out⟩
          case measure => simp [intOf]; omega
      by_cases hup : 8 < v
      · have hbad : v < 1 ∨ 8 < v := .inr hup
        go_wp2_with fail
        refine (tnew_no v (by omega) hv0 hv1 wr).mono ?_
        rintro e w3 ⟨rfl, e3⟩
        have x3 := e3.cell xc
        have E3 := Lib.hid (EX.out.trans e3)
        have HA3 : Hid (∀ j, j < 2 → w3.cell? ⟨ab, j, none⟩ = some (.int .i64 (A j))) := Lib.hid fun j hj => e3.cell (HA.out j hj)
        clear e3 xc
        go_wp2_with fail
        go_loopw [8] (fun kv wq => kv = .int .i64 0 ∧ w3 = wq) (fun _ _ => 0)
        case atStart => exact ⟨rfl, rfl⟩
        case round =>
          obtain ⟨rfl, rfl⟩ := hrel
          go_wp2_with fail
          go_roundw
          case rel => exact ⟨i + 1, by omega, by go_num, HA3.out, E3.out⟩
          case measure => simp [intOf]; omega
      · obtain ⟨V, rfl⟩ := Int.eq_ofNat_of_zero_le (show 0 ≤ v by omega)
        have hV1 : 1 ≤ V := by omega
        have hV8 : V ≤ 8 := by omega
        go_wp2_with fail
        refine (tnew_ok V hV1 hV8 wr).mono ?_
        rintro e w3 ⟨tb, rfl, ht3, hb3, e3⟩
        have x3 := e3.cell xc
        have E3 := Lib.hid (EX.out.trans e3)
        have HT3 := Lib.hid ht3
        have hab3 : ab < wr.heap.size := (World.block_lt_of_cell? wr ⟨ab, i, none⟩ xc)
        have HA3 : Hid (∀ j, j < 2 → w3.cell? ⟨ab, j, none⟩ = some (.int .i64 (A j))) := Lib.hid fun j hj => e3.cell (HA.out j hj)
        clear e3 xc ht3
        go_wp2_with fail
        go_loopw [8] (fun kv wq => ∃ k : Nat, k ≤ 9 ∧ kv = .int .i64 k ∧ TagT wq tb V (Lk (min k V)) ∧ (∀ j, j < 2 → wq.cell? ⟨ab, j, none⟩ = some (.int .i64 (A j))) ∧ Ext w wq) (fun kv _ => 9 - (intOf kv).toNat)
        case atStart => exact ⟨0, by omega, rfl, by rw [Nat.zero_min, show Lk 0 = [] from rfl]; exact HT3.out, HA3.out, E3.out⟩
        case round =>
          obtain ⟨k, hk, rfl, htk, hak, extk⟩ := hrel
          have HTk := Lib.hid htk
          have HAk := Lib.hid hak
          have EXk := Lib.hid extk
          have xk := hak i hi2
          rw [hAi] at xk
          clear htk hak extk x3
          by_cases hk9 : k < 9
          · by_cases hkV : k < V
            · have hkV' : (k : Int) < (V : Int) := by omega
              rw [Nat.min_eq_left (by omega)] at HTk
              go_wp2_with fail
              refine (tput_ok tb V (Lk k) (120, (k : Int)) _ HTk.out (Lk_has k k (Nat.le_refl _)) (by rw [Lk_len]; exact hkV)).mono ?_
              rintro e w5 ⟨rfl, ht5, o5⟩
              rw [Lk_succ] at ht5
              have HT5 : Hid (TagT w5 tb V (Lk (min (k + 1) V))) := Lib.hid (by rw [Nat.min_eq_left (by omega)]; exact ht5)
              have HA5 : Hid (∀ j, j < 2 → w5.cell? ⟨ab, j, none⟩ = some (.int .i64 (A j))) := Lib.hid fun j hj => by
                have hc := HAk.out j hj
                have hlt := World.block_lt_of_cell? _ ⟨ab, j, none⟩ hc
                rw [World.cell?_of_block (o5.block ab hlt (fun e => by injection e; omega))]
                exact hc
              have x5 := HA5.out i hi2
              rw [hAi] at x5
              have E5 := Lib.hid (o5.ext EXk.out (by omega))
              clear ht5 o5 xk
              go_wp2_with fail
              go_roundw
              case rel => exact ⟨k + 1, by omega, by go_num, HT5.out, HA5.out, E5.out⟩
              case measure => simp [intOf]; omega
            · have hkV' : ¬ (k : Int) < (V : Int) := by omega
              rw [Nat.min_eq_right (by omega)] at HTk
              go_wp2_with fail
              refine (tput_full tb V (Lk V) (120, (k : Int)) _ HTk.out (Lk_has V k (by omega)) (Lk_len V)).mono ?_
              rintro e w5 ⟨rfl, e5⟩
              have HT5 : Hid (TagT w5 tb V (Lk (min (k + 1) V))) := Lib.hid (by rw [Nat.min_eq_right (by omega)]; exact HTk.out.ext e5)
              have HA5 : Hid (∀ j, j < 2 → w5.cell? ⟨ab, j, none⟩ = some (.int .i64 (A j))) := Lib.hid fun j hj => e5.cell (HAk.out j hj)
              have x5 := e5.cell xk
              have E5 := Lib.hid (EXk.out.trans e5)
              clear e5 xk
              go_wp2_with fail
              go_roundw
              case rel => exact ⟨k + 1, by omega, by go_num, HT5.out, HA5.out, E5.out⟩
              case measure => simp [intOf]; omega
          · obtain rfl : k = 9 := by omega
            go_wp2_with fail
            go_roundw
            case rel => exact ⟨i + 1, by omega, by go_num, HAk.out, EXk.out⟩
            case measure => simp [intOf]; omega
    · obtain rfl : i = 2 := by omega
      clear hac
      go_wp2_with fail
      refine (glives_any _).mono ?_
      rintro e w3 ⟨rfl, e3⟩
      go_wp2_with fail
      go_ret
      exact ⟨rfl, EX.out.trans e3⟩
end Go.Proofs.Ytnbeeglomciieaa
