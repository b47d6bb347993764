/-
  Layer 6: a header's number, and a number that is one of these.
-/
import Derived.Test.YtdoijbjmhnncdaaDoorRpcD
namespace Go.Proofs.YtdoijbjmhnncdaaDoor
open Go Go.RowKit
set_option linter.unusedVariables false
set_option linter.unusedSimpArgs false
def numE (e : Int) (l : List UInt8) : Int := if 4 ≤ l.length then e else ferr e 3
theorem u32_any (g : Nat) (e : Int) (l : List UInt8) (w : World) (h : Rdr w g e l) :
    Calls Tryd.prog 26 #[.pointer (some ⟨g, 0, none⟩)] w fun x w' => x = .returned (.int .u32 (numN l)) ∧ Rdr w' g (numE e l) (numL l) ∧ Onl g w w' := by
  by_cases hk : 4 ≤ l.length
  · rw [numN, numE, numL, if_pos hk, if_pos hk, if_pos hk]
    exact u32_ok g e l w h hk
  · rw [numN, numE, numL, if_neg hk, if_neg hk, if_neg hk]
    exact u32_few g e l w h (by omega)
theorem HdS.setAt {w : World} {hb rb at_ : Nat} {e : Int} {l : List UInt8} {F : Option (Int × Int)} (h : HdS w hb rb e l at_ F) (k : Nat) : HdS (w.setCell ⟨hb, 1, none⟩ (.int .i64 (k : Int))) hb rb e l k F := by
  obtain ⟨fp, h1, h2, h3, h4⟩ := h
  refine ⟨fp, by simpa using heap_setCell_same w hb 1 _ _ (.int .i64 (k : Int)) h1, rdr_setOther h2 h3 ⟨_, _, _, _, h1⟩, h3, h4.kept ((Kp.refl _ _).set hb 1 _ (fun q => q.1 rfl))⟩
theorem HdS.number {w w1 : World} {hb rb at_ : Nat} {e e' : Int} {l l' : List UInt8} {F : Option (Int × Int)} (h : HdS w hb rb e l at_ F) (hr : Rdr w1 rb e' l') (ho : Onl rb w w1) : HdS w1 hb rb e' l' at_ F := by
  obtain ⟨fp, h1, h2, h3, h4⟩ := h
  have hlt := (Array.getElem?_eq_some_iff.1 h1).1
  exact ⟨fp, (ho.block hb hlt (fun q => h3 (by injection q))).trans h1, hr, h3, h4.kept (kp_onl ho (.inr rfl))⟩
def numF (F : Option (Int × Int)) (e : Int) (at_ : Nat) : Option (Int × Int) := if e = 0 then F else orF F e (at_ : Int)
theorem hnumber_any (hb rb at_ : Nat) (e : Int) (l : List UInt8) (F : Option (Int × Int)) (w : World) (h : HdS w hb rb e l at_ F) (hat : at_ ≤ 1000000) :
    Calls Tryd.prog 20 #[.pointer (some ⟨hb, 0, none⟩)] w fun r w' => r = .returned (.int .u32 (numN l)) ∧ HdS w' hb rb (numE e l) (numL l) (at_ + 4) (numF F (numE e l) at_) ∧ Kp (TwoH hb rb) w w' := by
  have H := Lib.hid h
  obtain ⟨fp, h1, h2, h3, h4⟩ := h
  have c0 := cell_of_row w hb 0 _ _ _ h1
  simp at c0
  have HR := Lib.hid h2
  clear h1 h2 h3 h4
  go_enter Tryd.func20, Tryd.ntmps20
  go_wp2_with fail
  refine (u32_any rb e l w HR.out).mono ?_
  rintro x w1 ⟨rfl, hr, ho⟩
  have H1 := Lib.hid (H.out.number hr ho)
  have K1 := Lib.hid (kp_onl (hb := hb) ho (.inr rfl))
  clear hr ho c0
  have h1 := H1.out
  obtain ⟨fp1, h1, h2, h3, h4⟩ := h1
  have c0 := cell_of_row w1 hb 0 _ _ _ h1
  have c1 := cell_of_row w1 hb 1 _ _ _ h1
  simp at c0 c1
  have f1 := Lib.frozen_of_heap h1 1
  have HR1 := Lib.hid h2
  clear h1 h2 h3 h4
  go_wp2_with fail
  refine (errno_any rb _ _ w1 HR1.out).mono ?_
  rintro x w2 ⟨rfl, rfl⟩
  by_cases he : numE e l = 0
  · have he' : (numE e l == 0) = true := by simpa using he
    have HF : Hid (HdS (w1.setCell ⟨hb, 1, none⟩ (.int .i64 ((at_ + 4 : Nat) : Int))) hb rb (numE e l) (numL l) (at_ + 4) (numF F (numE e l) at_) ∧ Kp (TwoH hb rb) w (w1.setCell ⟨hb, 1, none⟩ (.int .i64 ((at_ + 4 : Nat) : Int)))) := Lib.hid ⟨by rw [numF, if_pos he]; exact H1.out.setAt _, K1.out.set hb 1 _ (fun q => q.1 rfl)⟩
    have hcast : ((at_ + 4 : Nat) : Int) = (at_ : Int) + 4 := by omega
    rw [hcast] at HF
    go_wp2_with fail
    go_ret
    exact ⟨rfl, HF.out⟩
  · have he' : (numE e l == 0) = false := by simpa using he
    go_wp2_with fail
    refine (hfail_any hb rb at_ _ _ F _ _ w1 H1.out).mono ?_
    rintro x w2 ⟨rfl, hd2, k2⟩
    have HF : Hid (HdS (w2.setCell ⟨hb, 1, none⟩ (.int .i64 ((at_ + 4 : Nat) : Int))) hb rb (numE e l) (numL l) (at_ + 4) (numF F (numE e l) at_) ∧ Kp (TwoH hb rb) w (w2.setCell ⟨hb, 1, none⟩ (.int .i64 ((at_ + 4 : Nat) : Int)))) := Lib.hid ⟨by rw [numF, if_neg he]; exact hd2.setAt _, (K1.out.trans k2).set hb 1 _ (fun q => q.1 rfl)⟩
    have hcast : ((at_ + 4 : Nat) : Int) = (at_ : Int) + 4 := by omega
    rw [hcast] at HF
    clear c0 c1 f1
    obtain ⟨fp2, h1, h2, h3, h4⟩ := hd2
    have c1 := cell_of_row w2 hb 1 _ _ _ h1
    simp at c1
    have f1 := Lib.frozen_of_heap h1 1
    clear h1 h2 h3 h4 k2
    go_wp2_with fail
    go_ret
    exact ⟨rfl, HF.out⟩
/-- A number that is to be one of these: the fault where it is none of them. -/
def choF (F : Option (Int × Int)) (n : Int) (zs : List Int) (at_ : Nat) : Option (Int × Int) := if n ∈ zs then F else orF F 2 (at_ : Int)
theorem hchoice_any (hb rb at_ : Nat) (e : Int) (l : List UInt8) (F : Option (Int × Int)) (B : Option Addr) (m c : Nat) (zs : List Int) (w : World) (h : HdS w hb rb e l at_ F) (hat : at_ ≤ 1000000) (hs : Sees w B m c (zs.map (Value.int .u32))) (hm : m ≤ 10)
    (hfar : ∀ b o g, B = some ⟨b, o, g⟩ → TwoH hb rb b) :
    Calls Tryd.prog 21 #[.pointer (some ⟨hb, 0, none⟩), .slice B m c] w fun r w' => r = .returned (.int .u32 (numN l)) ∧ HdS w' hb rb (numE e l) (numL l) (at_ + 4) (choF (numF F (numE e l) at_) (numN l) zs at_) ∧ Kp (TwoH hb rb) w w' := by
  have H := Lib.hid h
  obtain ⟨fp, h1, h2, h3, h4⟩ := h
  have c1 := cell_of_row w hb 1 _ _ _ h1
  simp at c1
  have HS := Lib.hid hs
  have hlen := hs.len
  rw [List.length_map] at hlen
  have HLEN := Lib.hid hlen
  have hle := hs.le
  have hmx := hs.max
  unfold maxLen at hmx
  clear h1 h2 h3 h4 hs hlen
  go_enter Tryd.func21, Tryd.ntmps21
  go_wp2_with fail
  refine (hnumber_any hb rb at_ e l F w H.out hat).mono ?_
  rintro x w1 ⟨rfl, hd, k1⟩
  have HD := Lib.hid hd
  have K1 := Lib.hid k1
  have HS1 : Hid (∀ k < m, ∃ u : Int, zs[k]? = some u ∧ ∃ b off, B = some ⟨b, off, none⟩ ∧ w1.cell? ⟨b, off + k, none⟩ = some (.int .u32 u)) := Lib.hid fun k hk => by
    obtain ⟨b, off, u, hA, hu, hc, _⟩ := HS.out.at_ hk
    obtain ⟨x, hx⟩ : ∃ x, zs[k]? = some x := ⟨zs[k]'(by rw [HLEN.out]; exact hk), List.getElem?_eq_getElem _⟩
    have hu2 : u = .int .u32 x := by
      rw [List.getElem?_map, hx] at hu
      injection hu with hu
      exact hu.symm
    subst hu2
    have hlt : b < w.heap.size := by
      cases hh : w.heap[b]? with
      | none => simp [World.cell?, hh] at hc
      | some _ => exact (Array.getElem?_eq_some_iff.1 hh).1
    refine ⟨x, hx, b, off, hA, ?_⟩
    rw [World.cell?_of_block (w := w) (w' := w1) (k1.block b (hfar b off none hA) hlt)]
    exact hc
  clear hd k1 hfar c1
  go_wp2_with fail
  go_loopw [17] (fun iv wr => ∃ k : Nat, k ≤ m ∧ iv = .int .i64 (k : Int) ∧ wr = w1 ∧ numN l ∉ zs.take k) (fun iv _ => m - (intOf iv).toNat)
  case atStart => exact ⟨0, by omega, rfl, rfl, by simp⟩
  case round =>
    obtain ⟨k, hk, rfl, rfl, hno⟩ := hrel
    have HNO := Lib.hid hno
    clear hno
    by_cases hlt : k < m
    · obtain ⟨x, hx, b, off, hA, hc⟩ := HS1.out k hlt
      subst hA
      have HX := Lib.hid hx
      clear hx
      by_cases hq : numN l = x
      · have hq' : (numN l == x) = true := by simpa using hq
        have HIN : Hid (numN l ∈ zs) := Lib.hid (hq ▸ List.mem_of_getElem? HX.out)
        clear hq
        go_wp2_with fail
        go_ret
        exact ⟨rfl, by rw [choF, if_pos HIN.out]; exact HD.out, K1.out⟩
      · have hq' : (numN l == x) = false := by simpa using hq
        go_wp2_with fail
        go_roundw
        case rel =>
          refine ⟨k + 1, by omega, by go_num, trivial, ?_⟩
          rw [List.take_add_one, HX.out]
          simp only [List.mem_append, Option.toList_some, List.mem_singleton, not_or]
          exact ⟨HNO.out, hq⟩
        case measure => simp [intOf]; omega
    · obtain rfl : k = m := by omega
      have HN : Hid (numN l ∉ zs) := Lib.hid (by
        have h1 := HNO.out
        rwa [List.take_of_length_le (by rw [HLEN.out]; exact Nat.le_refl _)] at h1)
      go_wp2_with fail
      refine (hfail_any hb rb (at_ + 4) _ _ _ 2 (at_ : Int) wr HD.out).mono ?_
      rintro x w2 ⟨rfl, hd2, k2⟩
      have HF : Hid (HdS w2 hb rb (numE e l) (numL l) (at_ + 4) (choF (numF F (numE e l) at_) (numN l) zs at_) ∧ Kp (TwoH hb rb) w w2) := Lib.hid ⟨by rw [choF, if_neg HN.out]; exact hd2, K1.out.trans k2⟩
      clear hd2 k2
      go_wp2_with fail
      go_ret
      exact ⟨rfl, HF.out⟩
end Go.Proofs.YtdoijbjmhnncdaaDoor
