/-
  Layer 14: a frame that is passed through by the hand that looks.
-/
import Derived.Test.YtpjigdfllbhknaaCalC
namespace Go.Proofs.Ytpjigdfllbhknaa
open Go Go.RowKit
set_option linter.unusedVariables false
set_option linter.unusedSimpArgs false
set_option maxRecDepth 20000 in
set_option maxHeartbeats 4000000 in
theorem pass_any (fb lb : Nat) (g : Bool) (a : AR) (w : World) (h : FrC w fb lb g (a.fc lb)) :
    Calls Try.prog 29 #[.pointer (some ⟨fb, 0, none⟩)] w fun e w' => e = .returned (.tuple #[]) ∧ FrC w' fb lb (psA (a, g) (fl a.pr)).2 ((psA (a, g) (fl a.pr)).1.fc lb) ∧ On2 fb lb w w' := by
  have hfb : fb < w.heap.size := (Array.getElem?_eq_some_iff.1 h.1).1
  have hlb : lb < w.heap.size := (Array.getElem?_eq_some_iff.1 h.2.1).1
  have hmm := @run_makeMap Try.prog
  have hk := Try.underlying84
  have ht := Try.underlying85
  have hn : 10 < maxLen := by unfold maxLen; omega
  obtain ⟨mb, hmb⟩ : ∃ mb, w.heap.size = mb := ⟨_, rfl⟩
  have m0 := MapL.made Try.prog w 84 .i64
  have x0 : Ext w (w.alloc (.map #[] 0)) := (Ext.refl w).alloc _
  rw [hmb] at m0
  obtain ⟨w1, run1, m1, gr1⟩ := m0.put hk ht (by omega) 0 (.func (.func 42) #[.pointer (some ⟨fb, 0, none⟩)] #[]) rfl
  have x1 : Ext w w1 := x0.grown gr1 (fun k hk => by injection hk with hk; omega)
  obtain ⟨w2, run2, m2, gr2⟩ := m1.put hk ht (by omega) 1 (.func (.func 43) #[.pointer (some ⟨fb, 0, none⟩)] #[]) rfl
  have x2 : Ext w w2 := x1.grown gr2 (fun k hk => by injection hk with hk; omega)
  obtain ⟨w3, run3, m3, gr3⟩ := m2.put hk ht (by omega) 2 (.func (.func 44) #[.pointer (some ⟨fb, 0, none⟩)] #[]) rfl
  have x3 : Ext w w3 := x2.grown gr3 (fun k hk => by injection hk with hk; omega)
  obtain ⟨w4, run4, m4, gr4⟩ := m3.put hk ht (by omega) 3 (.func (.func 45) #[.pointer (some ⟨fb, 0, none⟩)] #[]) rfl
  have x4 : Ext w w4 := x3.grown gr4 (fun k hk => by injection hk with hk; omega)
  obtain ⟨w5, run5, m5, gr5⟩ := m4.put hk ht (by omega) 4 (.func (.func 46) #[.pointer (some ⟨fb, 0, none⟩)] #[]) rfl
  have x5 : Ext w w5 := x4.grown gr5 (fun k hk => by injection hk with hk; omega)
  obtain ⟨w6, run6, m6, gr6⟩ := m5.put hk ht (by omega) 5 (.func (.func 47) #[.pointer (some ⟨fb, 0, none⟩)] #[]) rfl
  have x6 : Ext w w6 := x5.grown gr6 (fun k hk => by injection hk with hk; omega)
  obtain ⟨w7, run7, m7, gr7⟩ := m6.put hk ht (by omega) 6 (.func (.func 48) #[.pointer (some ⟨fb, 0, none⟩)] #[]) rfl
  have x7 : Ext w w7 := x6.grown gr7 (fun k hk => by injection hk with hk; omega)
  obtain ⟨w8, run8, m8, gr8⟩ := m7.put hk ht (by omega) 7 (.func (.func 49) #[.pointer (some ⟨fb, 0, none⟩)] #[]) rfl
  have x8 : Ext w w8 := x7.grown gr8 (fun k hk => by injection hk with hk; omega)
  obtain ⟨w9, run9, m9, gr9⟩ := m8.put hk ht (by omega) 8 (.func (.func 50) #[.pointer (some ⟨fb, 0, none⟩)] #[]) rfl
  have x9 : Ext w w9 := x8.grown gr9 (fun k hk => by injection hk with hk; omega)
  have hL : MapL Try.prog w9 84 .i64 mb 9 (clos fb) := m9
  have HM := Lib.hid hL
  have HF9 := Lib.hid (h.ext x9)
  have X9 := Lib.hid x9
  have HFL := Lib.hid (fl_le a.pr)
  have c0 := (cell_of_row w9 fb 0 _ _ _ (h.ext x9).1).trans (show _ = some (.int .i64 a.pr) from rfl)
  have HFD := Lib.hid (fields_any a.pr w9)
  obtain ⟨l, hl⟩ : ∃ l, fl a.pr = l := ⟨_, rfl⟩
  rw [hl] at HFL HFD ⊢
  have hl4 : l.length ≤ 4 := HFL.out.1
  clear h hL m0 m1 m2 m3 m4 m5 m6 m7 m8 m9 gr1 gr2 gr3 gr4 gr5 gr6 gr7 gr8 gr9 x0 x1 x2 x3 x4 x5 x6 x7 x8 x9 hl
  go_enter Try.func29, Try.ntmps29
  go_wp2_with fail
  refine HFD.out.mono ?_
  rintro e w10 ⟨A, rfl, seeA, e10, hge⟩
  have SEEA := Lib.hid seeA
  have HGE := Lib.hid hge
  have HF10 := Lib.hid (HF9.out.ext e10)
  have HM10 := Lib.hid (HM.out.ext e10)
  have X10 := Lib.hid (X9.out.trans e10)
  clear seeA e10 hge c0 run1 run2 run3 run4 run5 run6 run7 run8 run9
  go_wp2_with fail
  go_loopw [32] (fun i wr => ∃ k : Nat, k ≤ l.length ∧ i = .int .i64 k ∧ FrC wr fb lb (psA (a, g) (l.take k)).2 ((psA (a, g) (l.take k)).1.fc lb) ∧ On2 fb lb w10 wr) (fun i _ => l.length - (intOf i).toNat)
  case atStart => exact ⟨0, by omega, rfl, HF10.out, On2.refl _ _ _⟩
  case round =>
    obtain ⟨k, hk', rfl, hfr, on⟩ := hrel
    have HFr := Lib.hid hfr
    have ON := Lib.hid on
    clear hfr on
    by_cases hkl : k < l.length
    · obtain ⟨b, off, u, rfl, hu, hc, hbl⟩ := SEEA.out.at_ hkl
      obtain ⟨f, hf, rfl⟩ := fv_get l k u hu
      have hf8 : f ≤ 8 := HFL.out.2 f (List.mem_of_getElem? hf)
      have hcr : wr.cell? ⟨b, off + k, none⟩ = some (.int .i64 (f : Int)) := by
        have hlt : b < w10.heap.size := hbl
        have hge : w.heap.size ≤ b := Nat.le_trans X9.out.size (HGE.out _ rfl)
        rw [World.cell?_of_block (ON.out.block b hlt (by omega) (by omega))]
        exact hc
      have hmr : MapL Try.prog wr 84 .i64 mb 9 (clos fb) := HM10.out.keep (ON.out.block mb HM10.out.lt (by omega) (by omega))
      have HL := Lib.hid (fun x hx => hmr.look1 (z := .nilFunc) hk ht (by kernel_rfl) x hx)
      have HPT := Lib.hid (psA_take (a, g) l k f hf)
      clear hf hu hc hmr
      obtain ⟨⟨a', g'⟩, hag⟩ : ∃ p, psA (a, g) (l.take k) = p := ⟨_, rfl⟩
      rw [hag] at HFr HPT
      have hf9 : f = 0 ∨ f = 1 ∨ f = 2 ∨ f = 3 ∨ f = 4 ∨ f = 5 ∨ f = 6 ∨ f = 7 ∨ f = 8 := by omega
      clear hf8
      rcases hf9 with rfl | rfl | rfl | rfl | rfl | rfl | rfl | rfl | rfl
      · have hlk : (Instr.lookup 85 (.map (some mb)) (.int .i64 0) false).run Try.prog wr = .ok (.func (.func 42) #[.pointer (some ⟨fb, 0, none⟩)] #[]) wr := HL.out 0 rfl
        have hcr' : wr.cell? ⟨b, off + k, none⟩ = some (.int .i64 0) := hcr
        clear hcr
        go_wp2_with fail
        refine (fm_0 fb lb g' a' _ HFr.out).mono ?_
        rintro e w11 ⟨rfl, hfr, on⟩
        have H11 : Hid (FrC w11 fb lb (psA (a, g) (l.take (k + 1))).2 ((psA (a, g) (l.take (k + 1))).1.fc lb)) := Lib.hid (by rw [HPT.out]; exact hfr)
        have O11 := Lib.hid (ON.out.trans on)
        clear hfr on hlk hcr'
        go_wp2_with fail
        go_roundw
        case rel => exact ⟨k + 1, by omega, by go_num, H11.out, O11.out⟩
        case measure => simp [intOf]; omega
      · have hlk : (Instr.lookup 85 (.map (some mb)) (.int .i64 1) false).run Try.prog wr = .ok (.func (.func 43) #[.pointer (some ⟨fb, 0, none⟩)] #[]) wr := HL.out 1 rfl
        have hcr' : wr.cell? ⟨b, off + k, none⟩ = some (.int .i64 1) := hcr
        clear hcr
        go_wp2_with fail
        refine (fm_1 fb lb g' a' _ HFr.out).mono ?_
        rintro e w11 ⟨rfl, hfr, on⟩
        have H11 : Hid (FrC w11 fb lb (psA (a, g) (l.take (k + 1))).2 ((psA (a, g) (l.take (k + 1))).1.fc lb)) := Lib.hid (by rw [HPT.out]; exact hfr)
        have O11 := Lib.hid (ON.out.trans on)
        clear hfr on hlk hcr'
        go_wp2_with fail
        go_roundw
        case rel => exact ⟨k + 1, by omega, by go_num, H11.out, O11.out⟩
        case measure => simp [intOf]; omega
      · have hlk : (Instr.lookup 85 (.map (some mb)) (.int .i64 2) false).run Try.prog wr = .ok (.func (.func 44) #[.pointer (some ⟨fb, 0, none⟩)] #[]) wr := HL.out 2 rfl
        have hcr' : wr.cell? ⟨b, off + k, none⟩ = some (.int .i64 2) := hcr
        clear hcr
        go_wp2_with fail
        refine (fm_2 fb lb g' a' _ HFr.out).mono ?_
        rintro e w11 ⟨rfl, hfr, on⟩
        have H11 : Hid (FrC w11 fb lb (psA (a, g) (l.take (k + 1))).2 ((psA (a, g) (l.take (k + 1))).1.fc lb)) := Lib.hid (by rw [HPT.out]; exact hfr)
        have O11 := Lib.hid (ON.out.trans on)
        clear hfr on hlk hcr'
        go_wp2_with fail
        go_roundw
        case rel => exact ⟨k + 1, by omega, by go_num, H11.out, O11.out⟩
        case measure => simp [intOf]; omega
      · have hlk : (Instr.lookup 85 (.map (some mb)) (.int .i64 3) false).run Try.prog wr = .ok (.func (.func 45) #[.pointer (some ⟨fb, 0, none⟩)] #[]) wr := HL.out 3 rfl
        have hcr' : wr.cell? ⟨b, off + k, none⟩ = some (.int .i64 3) := hcr
        clear hcr
        go_wp2_with fail
        refine (fm_3 fb lb g' a' _ HFr.out).mono ?_
        rintro e w11 ⟨rfl, hfr, on⟩
        have H11 : Hid (FrC w11 fb lb (psA (a, g) (l.take (k + 1))).2 ((psA (a, g) (l.take (k + 1))).1.fc lb)) := Lib.hid (by rw [HPT.out]; exact hfr)
        have O11 := Lib.hid (ON.out.trans on)
        clear hfr on hlk hcr'
        go_wp2_with fail
        go_roundw
        case rel => exact ⟨k + 1, by omega, by go_num, H11.out, O11.out⟩
        case measure => simp [intOf]; omega
      · have hlk : (Instr.lookup 85 (.map (some mb)) (.int .i64 4) false).run Try.prog wr = .ok (.func (.func 46) #[.pointer (some ⟨fb, 0, none⟩)] #[]) wr := HL.out 4 rfl
        have hcr' : wr.cell? ⟨b, off + k, none⟩ = some (.int .i64 4) := hcr
        clear hcr
        go_wp2_with fail
        refine (fm_4 fb lb g' a' _ HFr.out).mono ?_
        rintro e w11 ⟨rfl, hfr, on⟩
        have H11 : Hid (FrC w11 fb lb (psA (a, g) (l.take (k + 1))).2 ((psA (a, g) (l.take (k + 1))).1.fc lb)) := Lib.hid (by rw [HPT.out]; exact hfr)
        have O11 := Lib.hid (ON.out.trans on)
        clear hfr on hlk hcr'
        go_wp2_with fail
        go_roundw
        case rel => exact ⟨k + 1, by omega, by go_num, H11.out, O11.out⟩
        case measure => simp [intOf]; omega
      · have hlk : (Instr.lookup 85 (.map (some mb)) (.int .i64 5) false).run Try.prog wr = .ok (.func (.func 47) #[.pointer (some ⟨fb, 0, none⟩)] #[]) wr := HL.out 5 rfl
        have hcr' : wr.cell? ⟨b, off + k, none⟩ = some (.int .i64 5) := hcr
        clear hcr
        go_wp2_with fail
        refine (fm_5 fb lb g' a' _ HFr.out).mono ?_
        rintro e w11 ⟨rfl, hfr, on⟩
        have H11 : Hid (FrC w11 fb lb (psA (a, g) (l.take (k + 1))).2 ((psA (a, g) (l.take (k + 1))).1.fc lb)) := Lib.hid (by rw [HPT.out]; exact hfr)
        have O11 := Lib.hid (ON.out.trans on)
        clear hfr on hlk hcr'
        go_wp2_with fail
        go_roundw
        case rel => exact ⟨k + 1, by omega, by go_num, H11.out, O11.out⟩
        case measure => simp [intOf]; omega
      · have hlk : (Instr.lookup 85 (.map (some mb)) (.int .i64 6) false).run Try.prog wr = .ok (.func (.func 48) #[.pointer (some ⟨fb, 0, none⟩)] #[]) wr := HL.out 6 rfl
        have hcr' : wr.cell? ⟨b, off + k, none⟩ = some (.int .i64 6) := hcr
        clear hcr
        go_wp2_with fail
        refine (fm_6 fb lb g' a' _ HFr.out).mono ?_
        rintro e w11 ⟨rfl, hfr, on⟩
        have H11 : Hid (FrC w11 fb lb (psA (a, g) (l.take (k + 1))).2 ((psA (a, g) (l.take (k + 1))).1.fc lb)) := Lib.hid (by rw [HPT.out]; exact hfr)
        have O11 := Lib.hid (ON.out.trans on)
        clear hfr on hlk hcr'
        go_wp2_with fail
        go_roundw
        case rel => exact ⟨k + 1, by omega, by go_num, H11.out, O11.out⟩
        case measure => simp [intOf]; omega
      · have hlk : (Instr.lookup 85 (.map (some mb)) (.int .i64 7) false).run Try.prog wr = .ok (.func (.func 49) #[.pointer (some ⟨fb, 0, none⟩)] #[]) wr := HL.out 7 rfl
        have hcr' : wr.cell? ⟨b, off + k, none⟩ = some (.int .i64 7) := hcr
        clear hcr
        go_wp2_with fail
        refine (fm_7 fb lb g' a' _ HFr.out).mono ?_
        rintro e w11 ⟨rfl, hfr, on⟩
        have H11 : Hid (FrC w11 fb lb (psA (a, g) (l.take (k + 1))).2 ((psA (a, g) (l.take (k + 1))).1.fc lb)) := Lib.hid (by rw [HPT.out]; exact hfr)
        have O11 := Lib.hid (ON.out.trans on)
        clear hfr on hlk hcr'
        go_wp2_with fail
        go_roundw
        case rel => exact ⟨k + 1, by omega, by go_num, H11.out, O11.out⟩
        case measure => simp [intOf]; omega
      · have hlk : (Instr.lookup 85 (.map (some mb)) (.int .i64 8) false).run Try.prog wr = .ok (.func (.func 50) #[.pointer (some ⟨fb, 0, none⟩)] #[]) wr := HL.out 8 rfl
        have hcr' : wr.cell? ⟨b, off + k, none⟩ = some (.int .i64 8) := hcr
        clear hcr
        go_wp2_with fail
        refine (fm_8 fb lb g' a' _ HFr.out).mono ?_
        rintro e w11 ⟨rfl, hfr, on⟩
        have H11 : Hid (FrC w11 fb lb (psA (a, g) (l.take (k + 1))).2 ((psA (a, g) (l.take (k + 1))).1.fc lb)) := Lib.hid (by rw [HPT.out]; exact hfr)
        have O11 := Lib.hid (ON.out.trans on)
        clear hfr on hlk hcr'
        go_wp2_with fail
        go_roundw
        case rel => exact ⟨k + 1, by omega, by go_num, H11.out, O11.out⟩
        case measure => simp [intOf]; omega
    · obtain rfl : k = l.length := by omega
      rw [List.take_length] at HFr
      go_wp2_with fail
      go_end0
      exact ⟨rfl, HFr.out, (On2.of_ext X10.out).trans ON.out⟩
end Go.Proofs.Ytpjigdfllbhknaa
