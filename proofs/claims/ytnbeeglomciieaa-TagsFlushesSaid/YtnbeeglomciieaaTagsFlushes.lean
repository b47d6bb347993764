/-
  Layer 22: a tag that is flushed; the statement TagsFlushes: its walk.
-/
import Derived.Test.YtnbeeglomciieaaTagF
import Derived.Test.YtnbeeglomciieaaTagsNews
namespace Go.Proofs.Ytnbeeglomciieaa
open Go Go.RowKit
set_option linter.unusedVariables false
set_option linter.unusedSimpArgs false
theorem tlen_any (tb most : Nat) (L : List (Int × Int)) (w : World) (h : TagT w tb most L) : Calls Try.prog 23 #[.pointer (some ⟨tb, 0, none⟩)] w fun e w' => e = .returned (.int .i64 (L.length : Int)) ∧ w = w' := by
  have c1 := (cell_of_row w tb 1 _ _ _ h.1).trans (show _ = some (.int .i64 (L.length : Int)) from rfl)
  clear h
  go_enter Try.func23, Try.ntmps23
  go_wp2
  go_ret
  exact ⟨rfl, rfl⟩
theorem tflush_no (tb most : Nat) (L : List (Int × Int)) (tag : Int) (w : World) (h : TagT w tb most L) (hh : hasT L tag = false) :
    Calls Try.prog 14 #[.pointer (some ⟨tb, 0, none⟩), .int .i64 tag] w fun e w' => e = .returned (.bool false) ∧ Ext w w' := by
  have HF := Lib.hid (tfind_any tb most L tag w h)
  have hf : fndV L tag = .tuple #[.int .i64 0, .iface 25 (.int .i64 6)] := by
    unfold hasT at hh
    unfold fndV
    rw [Option.isSome_eq_false_iff, Option.isNone_iff_eq_none] at hh
    rw [hh]
  rw [hf] at HF
  clear h hh hf
  go_enter Try.func14, Try.ntmps14
  go_wp2_with fail
  refine HF.out.mono ?_
  rintro e w1 ⟨rfl, e1⟩
  go_wp2_with fail
  refine (eis_same 6 _).mono ?_
  rintro e w2 ⟨rfl, e2⟩
  go_wp2_with fail
  go_ret
  exact ⟨rfl, e1.trans e2⟩
theorem tflush_ok (tb most : Nat) (A B : List (Int × Int)) (q : Int × Int) (w : World) (h : TagT w tb most (A ++ q :: B)) (hA : ∀ p ∈ A, ¬ p.2 = q.2) :
    Calls Try.prog 14 #[.pointer (some ⟨tb, 0, none⟩), .int .i64 q.2] w fun e w' => e = .returned (.bool true) ∧ TagT w' tb most (A ++ B) ∧ OnT tb w w' := by
  have HF := Lib.hid (tfind_any tb most (A ++ q :: B) q.2 w h)
  have hf : fndV (A ++ q :: B) q.2 = .tuple #[.int .i64 (A.length : Int), .nilIface] := by
    have : ((A ++ q :: B).findIdx? fun p => p.2 == q.2) = some A.length := by
      rw [List.findIdx?_append, List.findIdx?_eq_none_iff.2 (fun p hp => by simpa using hA p hp)]
      simp [List.findIdx?_cons]
    unfold fndV
    rw [this]
  rw [hf] at HF
  have HT := Lib.hid h
  have hk8 : (A.length : Int) < 8 := by have := h.2.1; have := h.2.2; rw [List.length_append, List.length_cons] at *; omega
  clear h hf hA
  go_enter Try.func14, Try.ntmps14
  go_wp2_with fail
  refine HF.out.mono ?_
  rintro e w1 ⟨rfl, e1⟩
  go_wp2_with fail
  refine (eis_nil 6 _).mono ?_
  rintro e w2 ⟨rfl, e2⟩
  go_wp2_with fail
  refine (tpick_ok tb most A B q w2 (HT.out.ext (e1.trans e2))).mono ?_
  rintro e w3 ⟨rfl, ht3, o3⟩
  go_wp2_with fail
  go_ret
  exact ⟨rfl, ht3, (OnT.of_ext (e1.trans e2)).trans o3⟩
/-- Requests with tags from 100 + i on. -/
def Gr (i : Nat) : Nat → List (Int × Int)
  | 0 => []
  | d + 1 => ((124 : Int), (100 + (i : Int))) :: Gr (i + 1) d
theorem Gr_len : ∀ d i, (Gr i d).length = d
  | 0, _ => rfl
  | d + 1, i => by simp [Gr, Gr_len d]
theorem Gr_mem : ∀ d i (p : Int × Int), p ∈ Gr i d → 100 + (i : Int) ≤ p.2 ∧ p.2 < 100 + (i : Int) + (d : Int)
  | 0, i, p, h => by cases h
  | d + 1, i, p, h => by
    rcases List.mem_cons.1 h with rfl | h
    · constructor <;> simp <;> omega
    · have := Gr_mem d (i + 1) p h
      omega
theorem Gr_app : ∀ d e i, Gr i (d + e) = Gr i d ++ Gr (i + d) e
  | 0, e, i => by simp [Gr]
  | d + 1, e, i => by
    rw [show d + 1 + e = (d + e) + 1 from by omega, Gr, Gr, Gr_app d e (i + 1), show i + 1 + d = i + (d + 1) from by omega]
    rfl
theorem Gr_no (L : List (Int × Int)) (tag : Int) (h : ∀ p ∈ L, ¬ p.2 = tag) : hasT L tag = false := by
  unfold hasT
  rw [List.findIdx?_eq_none_iff.2 (fun p hp => by simpa using h p hp)]
  rfl
/-- What waits when i have been looked at, but the k-th. -/
def Gw (n k i : Nat) : List (Int × Int) := if i ≤ k then Gr i (k - i) ++ Gr (k + 1) (n - k - 1) else Gr i (n - i)
set_option maxRecDepth 100000 in
set_option maxHeartbeats 4000000 in
theorem gf_walk (many which : Int) (w : World) (h0 : -9223372036854775808 ≤ many) (h1 : many ≤ 9223372036854775807) (k0 : -9223372036854775808 ≤ which) (k1 : which ≤ 9223372036854775807) :
    Calls Try.prog 7 #[.int .i64 many, .int .i64 which] w fun e w' => e = .returned (.bool true) ∧ Ext w w' := by
  go_enter Try.func7, Try.ntmps7
  go_wp2_with fail
  refine (tnew_ok 8 (by omega) (by omega) w).mono ?_
  rintro e w1 ⟨tb, rfl, ht, hb, e1⟩
  have HT := Lib.hid ht
  have E1 := Lib.hid e1
  clear ht e1
  go_wp2_with fail
  refine (around_any many 8 w1 h0 h1 (by omega) (by omega)).mono ?_
  rintro e w2 ⟨rfl, rfl⟩
  have hr := aroundZ_bound many 8 (by omega)
  obtain ⟨r, hrr⟩ : ∃ r, aroundZ many 8 = r := ⟨_, rfl⟩
  rw [hrr] at hr ⊢
  obtain ⟨R, rfl⟩ := Int.eq_ofNat_of_zero_le hr.1
  obtain ⟨n, hn⟩ : ∃ n, 1 + R = n := ⟨_, rfl⟩
  have hn8 : n ≤ 8 := by omega
  have hn1 : 1 ≤ n := by omega
  have hnZ : 1 + (R : Int) = (n : Int) := by omega
  clear hrr hr
  go_wp2_with fail
  go_loopw [8] (fun iv wr => ∃ i : Nat, i ≤ n ∧ iv = .int .i64 i ∧ TagT wr tb 8 (Gr 0 i) ∧ Ext w wr) (fun iv _ => n - (intOf iv).toNat)
  case atStart => exact ⟨0, by omega, rfl, HT.out, E1.out⟩
  case round =>
    obtain ⟨i, hi, rfl, hti, ext⟩ := hrel
    have HTi := Lib.hid hti
    have EX := Lib.hid ext
    clear hti ext
    by_cases hin : i < n
    · have happ : Gr 0 i ++ [((124 : Int), (100 + (i : Int)))] = Gr 0 (i + 1) := by rw [Gr_app i 1 0, Nat.zero_add]; rfl
      have HAPP := Lib.hid happ
      have hinZ : (i : Int) < (n : Int) := by omega
      clear happ
      go_wp2_with fail
      refine (tput_ok tb 8 (Gr 0 i) (124, 100 + (i : Int)) _ HTi.out (Gr_no _ _ fun p hp => by have := Gr_mem i 0 p hp; simp at this ⊢; omega) (by rw [Gr_len]; omega)).mono ?_
      rintro e w5 ⟨rfl, ht5, o5⟩
      rw [HAPP.out] at ht5
      have HT5 := Lib.hid ht5
      have E5 := Lib.hid (o5.ext EX.out hb)
      clear ht5 o5
      go_wp2_with fail
      go_roundw
      case rel => exact ⟨i + 1, by omega, by go_num, HT5.out, E5.out⟩
      case measure => simp [intOf]; omega
    · obtain rfl : i = n := by omega
      have hnn : ¬ (i : Int) < (i : Int) := by omega
      go_wp2_with fail
      refine (around_any which (i : Int) wr k0 k1 (by omega) (by omega)).mono ?_
      rintro e w2 ⟨rfl, rfl⟩
      have hr := aroundZ_bound which (i : Int) (by omega)
      obtain ⟨r, hrr⟩ : ∃ r, aroundZ which (i : Int) = r := ⟨_, rfl⟩
      rw [hrr] at hr ⊢
      obtain ⟨k, rfl⟩ := Int.eq_ofNat_of_zero_le hr.1
      have hkn : k < i := by have := hr.2; omega
      clear hrr hr
      have hsplit : Gr 0 i = Gr 0 k ++ ((124 : Int), (100 + (k : Int))) :: Gr (k + 1) (i - k - 1) := by
        rw [show i = k + ((i - k - 1) + 1) from by omega, Gr_app k _ 0, Nat.zero_add, Gr, show k + (i - k - 1 + 1) - k - 1 = i - k - 1 from by omega]
      rw [hsplit] at HTi
      clear hsplit
      go_wp2_with fail
      refine (tflush_ok tb 8 (Gr 0 k) (Gr (k + 1) (i - k - 1)) (124, 100 + (k : Int)) _ HTi.out fun p hp => by have := Gr_mem k 0 p hp; simp at this ⊢; omega).mono ?_
      rintro e w3 ⟨rfl, ht3, o3⟩
      have HT3 := Lib.hid ht3
      have E3 := Lib.hid (o3.ext EX.out hb)
      clear ht3 o3
      go_wp2_with fail
      refine (tflush_no tb 8 _ (100 + (k : Int)) _ HT3.out (Gr_no _ _ fun p hp => by
        rcases List.mem_append.1 hp with hp | hp
        · have := Gr_mem _ _ p hp; simp at this ⊢; omega
        · have := Gr_mem _ _ p hp; simp at this ⊢; omega)).mono ?_
      rintro e w4 ⟨rfl, e4⟩
      have HT4 : Hid (TagT w4 tb 8 (Gw i k 0)) := Lib.hid (by
        unfold Gw
        rw [if_pos (by omega), Nat.sub_zero]
        exact HT3.out.ext e4)
      have E4 := Lib.hid (E3.out.trans e4)
      clear e4
      go_wp2_with fail
      go_loopw [12] (fun jv wq => ∃ j : Nat, j ≤ i ∧ jv = .int .i64 j ∧ TagT wq tb 8 (Gw i k j) ∧ Ext w wq) (fun jv _ => i - (intOf jv).toNat)
      case atStart => exact ⟨0, by omega, rfl, HT4.out, E4.out⟩
      case round =>
        obtain ⟨j, hj, rfl, htj, extj⟩ := hrel
        have HTj := Lib.hid htj
        have EXj := Lib.hid extj
        clear htj extj
        by_cases hji : j < i
        · have hjZ : (j : Int) < (i : Int) := by omega
          by_cases hjk : j = k
          · subst hjk
            have hg : Gw i j j = Gw i j (j + 1) := by
              unfold Gw
              rw [if_pos (Nat.le_refl _), if_neg (by omega), Nat.sub_self, show i - j - 1 = i - (j + 1) from by omega]
              rfl
            rw [hg] at HTj
            clear hg
            go_wp2_with fail
            go_roundw
            case rel => exact ⟨j + 1, by omega, by go_num, HTj.out, EXj.out⟩
            case measure => simp [intOf]; omega
          · have hjkZ : ¬ (j : Int) = (k : Int) := by omega
            have hg : Gw i k j = ((124 : Int), (100 + (j : Int))) :: Gw i k (j + 1) := by
              unfold Gw
              by_cases h : j ≤ k
              · rw [if_pos h, if_pos (by omega), show k - j = (k - (j + 1)) + 1 from by omega, Gr]
                rfl
              · rw [if_neg h, if_neg (by omega), show i - j = (i - (j + 1)) + 1 from by omega, Gr]
            rw [hg] at HTj
            clear hg
            go_wp2_with fail
            refine (tpick_ok tb 8 [] (Gw i k (j + 1)) (124, 100 + (j : Int)) _ HTj.out).mono ?_
            rintro e w5 ⟨rfl, ht5, o5⟩
            obtain ⟨w6, hw6⟩ : ∃ w6, (w5.alloc (.cells #[.int .i64 0, .int .i64 0, .int .i64 0, .int .i64 0, .int .i64 0, .int .i64 0, .int .i64 0, .int .i64 0, .int .i64 0, .int .i64 0, .string ⟨#[]⟩, .slice none 0 0, .int .i64 0, .slice none 0 0] 32)).setRow w5.heap.size (akA (124, 100 + (j : Int))) = w6 := ⟨_, rfl⟩
            have hz5 := heap_alloc_new w5 (.cells #[.int .i64 0, .int .i64 0, .int .i64 0, .int .i64 0, .int .i64 0, .int .i64 0, .int .i64 0, .int .i64 0, .int .i64 0, .int .i64 0, .string ⟨#[]⟩, .slice none 0 0, .int .i64 0, .slice none 0 0] 32)
            have hb6 : w6.heap[w5.heap.size]? = some (.cells (akA (124, 100 + (j : Int))) 32 (0, 0)) := by rw [← hw6]; exact setRow_heap _ _ _ _ _ _ hz5
            have e56 : Ext w5 w6 := by rw [← hw6]; exact (OnT.row _ _).ext ((Ext.refl w5).alloc _) (Nat.le_refl _)
            have HZ5 := Lib.hid hz5
            have HT6 := Lib.hid (ht5.ext e56)
            have E6 := Lib.hid ((o5.ext EXj.out hb).trans e56)
            have HIj := Lib.hid (ak_info (124, 100 + (j : Int)))
            have HUj := Lib.hid (ak_one (124, 100 + (j : Int)))
            have HSj : Hid ((#[.int .i64 0, .int .i64 0, .int .i64 0, .int .i64 0, .int .i64 0, .int .i64 0, .int .i64 0, .int .i64 0, .int .i64 0, .int .i64 0, .string ⟨#[]⟩, .slice none 0 0, .int .i64 0, .slice none 0 0] : Array Value).size = (akA (124, 100 + (j : Int))).size) := Lib.hid rfl
            have x1 := (cell_of_row w6 w5.heap.size 1 _ _ _ hb6).trans (show _ = some (.int .i64 (100 + (j : Int))) from rfl)
            rw [← hw6] at x1 HT6 E6
            clear ht5 o5 hz5 hb6 e56 hw6
            go_wp2_with (first | (refine wpList_store_row rfl 32 (.tmp 13) (.tmp 60) rfl w5.heap.size (akA (124, 100 + (j : Int))) rfl rfl _ _ HZ5.out HIj.out HSj.out HUj.out ?_) | fail)
            go_roundw
            case rel => exact ⟨j + 1, by omega, by go_num, HT6.out, E6.out⟩
            case measure => simp [intOf]; omega
        · obtain rfl : j = i := by omega
          have hg : Gw j k j = [] := by
            unfold Gw
            rw [if_neg (by omega), Nat.sub_self]
            rfl
          rw [hg] at HTj
          clear hg
          go_wp2_with fail
          refine (tlen_any tb 8 [] _ HTj.out).mono ?_
          rintro e w5 ⟨rfl, rfl⟩
          go_wp2_with fail
          refine (glives_any _).mono ?_
          rintro e w6 ⟨rfl, e6⟩
          go_wp2_with fail
          go_ret
          exact ⟨rfl, EXj.out.trans e6⟩
end Go.Proofs.Ytnbeeglomciieaa
