/-
  Layer 9: prints: the code's own.
-/
import Derived.Test.YtiiagecacegmbaaNamA
import Derived.Test.YtiiagecacegmbaaBld
namespace Go.Proofs.Ytiiagecacegmbaa
open Go Go.RowKit
set_option linter.unusedVariables false
set_option linter.unusedSimpArgs false
def hexD : List UInt8 := [48, 49, 50, 51, 52, 53, 54, 55, 56, 57, 97, 98, 99, 100, 101, 102]
def plainB (c : UInt8) : Bool := decide (32 < c.toNat) && decide (c.toNat < 127) && !(c == 37)
def escB (c : UInt8) : List UInt8 := [37, hexD.getD (c.toNat / 16) 0, hexD.getD (c.toNat % 16) 0]
def byteB (c : UInt8) : List UInt8 := if plainB c then [c] else escB c
def printB (t : List UInt8) : List UInt8 := if t = [] then [45] else if t = [45] then [37, 50, 100] else t.flatMap byteB
theorem c_eq37 (c : UInt8) : ((c.toNat : Int) == 37) = (c == 37) := by
  by_cases h : c = 37
  · subst h; rfl
  · have h2 : ¬ c.toNat = 37 := fun e => h (UInt8.toNat_inj.1 (by simpa using e))
    have h3 : (c == 37) = false := by simpa using h
    rw [h3]
    simp
    omega
set_option maxRecDepth 20000 in
theorem plain_any (c : UInt8) (w : World) :
    Calls Try.prog 54 #[.int .u8 (c.toNat : Int)] w fun e w' => e = .returned (.bool (plainB c)) ∧ w = w' := by
  have h37 := c_eq37 c
  have hb : c.toNat < 256 := c.toNat_lt
  have HV : Hid (plainB c = (decide (32 < c.toNat) && decide (c.toNat < 127) && !(c == 37))) := Lib.hid rfl
  generalize (c == 37) = e at *
  generalize hn : c.toNat = n at *
  clear hn
  go_enter Try.func54, Try.ntmps54
  by_cases h1 : 32 < n
  all_goals by_cases h2 : n < 127
  all_goals
    go_wp2
    all_goals
      go_ret
      exact ⟨by rw [HV.out]; simp [h1, h2] <;> simp [bne, h37], rfl⟩
theorem u8_and15 (n : Nat) (h : n < 256) : bits .and .u8 (n : Int) 15 = (n : Int) % 16 := by
  have : ∀ k : Fin 256, bits .and .u8 (k.val : Int) 15 = (k.val : Int) % 16 := by decide +kernel
  exact this ⟨n, h⟩
theorem hex_at (i : Nat) (h : i < 16) : (ByteArray.mk #[48, 49, 50, 51, 52, 53, 54, 55, 56, 57, 97, 98, 99, 100, 101, 102]).extract i (i + 1) = ⟨#[hexD.getD i 0]⟩ := by
  have h : i = 0 ∨ i = 1 ∨ i = 2 ∨ i = 3 ∨ i = 4 ∨ i = 5 ∨ i = 6 ∨ i = 7 ∨ i = 8 ∨ i = 9 ∨ i = 10 ∨ i = 11 ∨ i = 12 ∨ i = 13 ∨ i = 14 ∨ i = 15 := by omega
  rcases h with rfl | rfl | rfl | rfl | rfl | rfl | rfl | rfl | rfl | rfl | rfl | rfl | rfl | rfl | rfl | rfl <;> rfl
set_option maxRecDepth 20000 in
theorem esc_any (c : UInt8) (w : World) :
    Calls Try.prog 53 #[.int .u8 (c.toNat : Int)] w fun e w' => e = .returned (.string ⟨(escB c).toArray⟩) ∧ w' = w.drew := by
  have hb : c.toNat < 256 := c.toNat_lt
  have hx1 := hex_at (c.toNat / 16) (by omega)
  have hx2 := hex_at (c.toNat % 16) (by omega)
  have hout : escB c = [37, hexD.getD (c.toNat / 16) 0, hexD.getD (c.toNat % 16) 0] := rfl
  rw [hout]
  clear hout
  generalize hexD.getD (c.toNat / 16) 0 = a at *
  generalize hexD.getD (c.toNat % 16) 0 = b at *
  generalize c.toNat = n at *
  have hw1 : IntKind.u8.wrap ((n : Int) / 16 + 1) = (n : Int) / 16 + 1 := by
    show ((n : Int) / 16 + 1) % 256 = (n : Int) / 16 + 1
    omega
  have hw2 : IntKind.u8.wrap ((n : Int) % 16 + 1) = (n : Int) % 16 + 1 := by
    show ((n : Int) % 16 + 1) % 256 = (n : Int) % 16 + 1
    omega
  have hbi := u8_and15 n hb
  go_enter Try.func53, Try.ntmps53
  go_wp2
  refine wp_region_ord [0, 1, 2, 3, 4, 5, 6, 7, 8, 9, 10, 11, 12, 13, 14] [] (by kernel_rfl) (by kernel_rfl) rfl (by kernel_rfl) ?_
  iterate 5 (refine lex_val (v := ?_) rfl rfl (fun w' hw' => ?_) ?_; rotate_left; (· go_simp; try with_reducible rfl); simp only [Act.put, List.setIfInBounds_toArray, List.set_cons_zero, List.set_cons_succ])
  refine lex_val (v := .string ⟨#[a]⟩) rfl rfl (fun w' hw' => ?_) ?_
  · go_simp
    rw [if_pos (by omega), if_pos (by omega)]
    have e1 : ((n : Int) / 16).toNat = n / 16 := by omega
    have e2 : ((n : Int) / 16 + 1).toNat = n / 16 + 1 := by omega
    rw [e1, e2, hx1]
  simp only [Act.put, List.setIfInBounds_toArray, List.set_cons_zero, List.set_cons_succ]
  iterate 6 (refine lex_val (v := ?_) rfl rfl (fun w' hw' => ?_) ?_; rotate_left; (· go_simp; try with_reducible rfl); simp only [Act.put, List.setIfInBounds_toArray, List.set_cons_zero, List.set_cons_succ])
  refine lex_val (v := .string ⟨#[b]⟩) rfl rfl (fun w' hw' => ?_) ?_
  · go_simp
    rw [if_pos (by omega), if_pos (by omega)]
    have e1 : ((n : Int) % 16).toNat = n % 16 := by omega
    have e2 : ((n : Int) % 16 + 1).toNat = n % 16 + 1 := by omega
    rw [e1, e2, hx2]
  simp only [Act.put, List.setIfInBounds_toArray, List.set_cons_zero, List.set_cons_succ]
  repeat (refine lex_val (v := ?_) rfl rfl (fun w' hw' => ?_) ?_; rotate_left; (· go_simp; try with_reducible rfl); simp only [Act.put, List.setIfInBounds_toArray, List.set_cons_zero, List.set_cons_succ])
  refine lex_done ?_
  go_wp2
  go_ret
  exact ⟨rfl, rfl⟩
/-- The bytes printed so far. -/
def upto (t : List UInt8) (k : Nat) : List UInt8 := (t.take k).flatMap byteB
theorem upto_zero (t : List UInt8) : upto t 0 = [] := by simp [upto]
theorem upto_all (t : List UInt8) : upto t t.length = t.flatMap byteB := by simp [upto]
theorem upto_succ (t : List UInt8) (k : Nat) (h : k < t.length) : upto t (k + 1) = upto t k ++ byteB t[k] := by
  unfold upto
  rw [List.take_succ_eq_append_getElem h, List.flatMap_append]
  simp
theorem byteB_le (c : UInt8) : (byteB c).length ≤ 3 := by
  unfold byteB
  split
  · simp
  · simp [escB]
theorem upto_le (t : List UInt8) (k : Nat) : (upto t k).length ≤ 3 * k := by
  induction k with
  | zero => simp [upto]
  | succ k ih =>
    by_cases h : k < t.length
    · rw [upto_succ t k h, List.length_append]
      have := byteB_le t[k]
      omega
    · have : upto t (k + 1) = upto t k := by
        unfold upto
        rw [List.take_of_length_le (by omega), List.take_of_length_le (by omega)]
      rw [this]
      omega
theorem Ext.of_below' {w a b : World} (h : Ext w a) (k : Below w.heap.size a b) : Ext w b := Below.trans h k
set_option maxHeartbeats 2000000 in
set_option maxRecDepth 20000 in
theorem print_any (t : List UInt8) (w : World) (ht : t.length ≤ 1000000) :
    Calls Try.prog 33 #[.string ⟨t.toArray⟩] w fun e w' => e = .returned (.string ⟨(printB t).toArray⟩) ∧ Ext w w' := by
  have hsz : (ByteArray.mk t.toArray).size = t.length := by simp [ByteArray.size]
  go_enter Try.func33, Try.ntmps33
  by_cases h0 : t = []
  · subst h0
    go_wp2
    go_ret
    exact ⟨rfl, Ext.refl _⟩
  by_cases h1 : t = [45]
  · subst h1
    have hi := idx_str [45] 0 (by simp) w
    have he := Lib.hid (fun w => esc_any 45 w)
    go_wp2_with (go_at_call 53; refine (he.out _).mono ?_)
    rintro e w1 ⟨rfl, rfl⟩
    go_wp2
    go_ret
    exact ⟨rfl, (Ext.refl _).drew⟩
  have hq0 : (t == []) = false := by simpa using h0
  have hq1 : (t == [45]) = false := by simpa using h1
  have HV : Hid (printB t = t.flatMap byteB) := Lib.hid (by unfold printB; rw [if_neg h0, if_neg h1])
  have H0 := Lib.hid h0
  have H1 := Lib.hid h1
  go_wp2_with fail
  go_loopw [14] (fun i wr => ∃ k : Nat, k ≤ t.length ∧ i = .int .i64 k ∧ Lib.IsBuilder TB 5 w.heap.size w.heap.size (Lib.byteCells (upto t k)) wr ∧ Ext w wr) (fun i _ => t.length - (intOf i).toNat)
  case atStart =>
    refine ⟨0, by omega, rfl, ?_, ?_⟩
    · rw [upto_zero]; exact Lib.fresh_isBuilder TB 5 w
    · exact (Ext.refl w).alloc _
  case round =>
    obtain ⟨k, hk, rfl, hbld, ext⟩ := hrel
    have HB := Lib.hid hbld
    have hs := ext.size
    have hul := upto_le t k
    have HX := Lib.hid ext
    clear hbld
    by_cases hlt : k < t.length
    · have hix := idx_str t k hlt
      have HS := Lib.hid (upto_succ t k hlt)
      generalize t[k] = c at *
      generalize hpre : upto t k = pre at *
      have HP := Lib.hid (fun w => plain_any c w)
      cases hp : plainB c with
      | true =>
        rw [hp] at HP
        have HY : Hid (byteB c = [c]) := Lib.hid (by simp [byteB, hp])
        go_wp2_with (go_at_call 54; refine (HP.out _).mono ?_)
        rintro e w1 ⟨rfl, rfl⟩
        go_wp2_with (go_at_call 55; refine (bbyte _ _ _ _ _ HB.out (by rw [Lib.byteCells_length]; omega) hs).mono ?_)
        rintro e w2 ⟨rfl, b2, e2⟩
        have B2 := Lib.hid b2
        have E2 := Lib.hid (Ext.of_below' HX.out e2)
        clear b2 e2
        go_wp2
        go_roundw
        case rel =>
          refine ⟨k + 1, by omega, by go_num, ?_, E2.out⟩
          rw [HS.out, HY.out, Lib.byteCells_append]
          exact B2.out
        case measure => simp [intOf]; omega
      | false =>
        rw [hp] at HP
        have HY : Hid (byteB c = escB c) := Lib.hid (by simp [byteB, hp])
        have HE := Lib.hid (fun w => esc_any c w)
        have hel : (ByteArray.mk (escB c).toArray).size = 3 := rfl
        have hec : Hid (Lib.strCells ⟨(escB c).toArray⟩ = Lib.byteCells (escB c)) := Lib.hid rfl
        generalize escB c = ec at *
        go_wp2_with (go_at_call 54; refine (HP.out _).mono ?_)
        rintro e w1 ⟨rfl, rfl⟩
        go_wp2_with (go_at_call 53; refine (HE.out _).mono ?_)
        rintro e w2 ⟨rfl, rfl⟩
        have HD : Hid (Lib.IsBuilder TB 5 w.heap.size w.heap.size (Lib.byteCells pre) wr.drew) := Lib.hid HB.out
        go_wp2_with (go_at_call 56; refine (btext _ _ _ _ _ HD.out (by rw [Lib.byteCells_length, hel]; omega) hs).mono ?_)
        rintro e w2 ⟨rfl, b2, e2⟩
        have B2 := Lib.hid b2
        have E2 := Lib.hid (Ext.of_below' HX.out.drew e2)
        clear b2 e2
        go_wp2
        go_roundw
        case rel =>
          refine ⟨k + 1, by omega, by go_num, ?_, E2.out⟩
          rw [HS.out, HY.out, Lib.byteCells_append, ← hec.out]
          exact B2.out
        case measure => simp [intOf]; omega
    · obtain rfl : k = t.length := by omega
      rw [upto_all] at HB
      go_wp2_with (go_at_call 57; refine (Try.Builder_String_any _ _ _ _ HB.out hs).mono ?_)
      rintro e w1 ⟨rfl, e1⟩
      have E2 := Lib.hid (Ext.of_below' HX.out e1)
      go_wp2
      go_ret
      exact ⟨by rw [HV.out]; rfl, E2.out⟩
end Go.Proofs.Ytiiagecacegmbaa
