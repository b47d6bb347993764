/-
  Layer 18: a reply that is written; an error's reply; the example is met.
-/
import Derived.Test.YtihiclnbbpablaaTellF
namespace Go.Proofs.Ytihiclnbbpablaa
open Go Go.RowKit
set_option linter.unusedVariables false
set_option linter.unusedSimpArgs false
theorem ly_le (t : TL) (f : Nat) (w : World) (h : t.Ok w) (hb : bnd t f = true) : (ly t f).length ≤ 2000 := by
  have hd := h.2.len
  rw [bs_length] at hd
  have hq := h.1.1
  match f with
  | 0 => simp [ly, le_length]
  | 1 => simp only [bnd, decide_eq_true_eq] at hb; simp [ly, le_length]; omega
  | 2 => simp [ly, qb_length]
  | 3 => simp [ly, le_length]
  | 4 => simp only [bnd, Bool.and_eq_true, decide_eq_true_eq] at hb; simp [ly, le_length, qbs_length]; omega
  | 5 => simp [ly, le_length]
  | 6 => simp only [bnd, decide_eq_true_eq] at hb; simp [ly, le_length]; omega
  | 7 => simp [ly, le_length]
  | k + 8 =>
    have hb2 : bst t = true := by simpa [bnd] using hb
    simp only [bst, Bool.and_eq_true, decide_eq_true_eq] at hb2
    show (sb t).length ≤ 2000
    simp [sb, le_length, qb_length]
    omega
def bd (t : TL) (l : List Nat) : List UInt8 := l.flatMap (ly t)
theorem bd_take (t : TL) (l : List Nat) (k f : Nat) (h : l[k]? = some f) : bd t (l.take (k + 1)) = bd t (l.take k) ++ ly t f := by
  rw [bd, List.take_add_one, h]
  simp [bd]
theorem bd_le (t : TL) (w : World) (h : t.Ok w) : ∀ (l : List Nat), l.all (bnd t) = true → (bd t l).length ≤ 2000 * l.length
  | [], _ => by simp [bd]
  | f :: l, ha => by
    simp only [List.all_cons, Bool.and_eq_true] at ha
    have h1 := bd_le t w h l ha.2
    have h2 := ly_le t f w h ha.1
    simp only [bd, List.flatMap_cons, List.length_append, List.length_cons] at h1 ⊢
    omega
/-- A reply's bytes. -/
def tw (t : TL) : List UInt8 := lpk t.ty.toNat t.tg.toNat (bd t (fl t.ty))
theorem fok_le (k : Int) (h : fok k = true) : 0 ≤ k ∧ k ≤ 127 := by
  simp only [fok, Bool.or_eq_true, beq_iff_eq] at h
  omega
theorem twrite_no (t : TL) (w : World) (h : t.Ok w) (hm : mayT t = false) : Calls Try.prog 14 #[.agg t.cs] w fun e w' => e = .returned (.tuple #[.slice none 0 0, .int .i64 1]) ∧ Ext w w' := by
  obtain ⟨w1, hw1⟩ : ∃ w1, w.alloc (.cells t.cs 29) = w1 := ⟨_, rfl⟩
  have e1 : Ext w w1 := by rw [← hw1]; exact (Ext.refl w).alloc _
  have hb : w1.heap[w.heap.size]? = some (.cells t.cs 29 (0, 0)) := by rw [← hw1]; exact heap_alloc_new w _
  have HB1 := Lib.hid hb
  have E1 := Lib.hid e1
  have HM := Lib.hid (tmay_any t w1 (h.ext e1))
  have HI := Lib.hid (tl_info t)
  rw [hm] at HM
  clear hb e1 h hm
  go_enter Try.func14, Try.ntmps14
  go_wp2_with (first | (with_reducible refine wpList_load_row rfl 29 (.tmp 1) rfl w.heap.size rfl _ _ _ _ HB1.out Try.underlying29 rfl HI.out ?_) | fail)
  refine HM.out.mono ?_
  rintro e w2 ⟨rfl, e2⟩
  have E2 := Lib.hid (E1.out.trans e2)
  go_wp2_with fail
  go_ret2
  exact ⟨rfl, E2.out⟩
set_option maxRecDepth 20000 in
set_option maxHeartbeats 2000000 in
theorem twrite_ok (t : TL) (w : World) (h : t.Ok w) (hm : mayT t = true) : Calls Try.prog 14 #[.agg t.cs] w fun e w' => ∃ v, e = .returned (.tuple #[v, .int .i64 0]) ∧ w'.ownsRow w.heap.size 5 1 v (tw t).length (bs (tw t)) ∧ Ext w w' := by
  obtain ⟨w1, hw1⟩ : ∃ w1, w.alloc (.cells t.cs 29) = w1 := ⟨_, rfl⟩
  have e1 : Ext w w1 := by rw [← hw1]; exact (Ext.refl w).alloc _
  have hb : w1.heap[w.heap.size]? = some (.cells t.cs 29 (0, 0)) := by rw [← hw1]; exact heap_alloc_new w _
  have HB1 := Lib.hid hb
  have E1 := Lib.hid e1
  have HOK := Lib.hid (h.ext e1)
  have HM := Lib.hid (tmay_any t w1 (h.ext e1))
  have HI := Lib.hid (tl_info t)
  rw [hm] at HM
  simp only [mayT, Bool.and_eq_true] at hm
  obtain ⟨hfok, ⟨htg, hall⟩, _⟩ := hm
  obtain ⟨g1, g2, g3⟩ := bi_nat htg
  have hk := fok_le _ hfok
  have HFL := Lib.hid (fl_le t.ty)
  have HF := Lib.hid (fun w' => fields_any t.ty w')
  rw [hfok] at HF
  have HK : Hid (IntKind.u8.wrap t.ty = ((t.ty.toNat : Nat) : Int)) := Lib.hid (by show t.ty % 256 = _; omega)
  have HT : Hid (IntKind.u16.wrap t.tg = ((t.tg.toNat : Nat) : Int)) := Lib.hid (by show t.tg % 65536 = _; omega)
  have HKB : Hid (t.ty.toNat < 256) := Lib.hid (by omega)
  have HTB : Hid (t.tg.toNat < 65536) := Lib.hid (by omega)
  have HTW : Hid (∀ l, fl t.ty = l → tw t = lpk t.ty.toNat t.tg.toNat (bd t l)) := Lib.hid fun l h => by rw [← h]; rfl
  obtain ⟨l, hl⟩ : ∃ l, fl t.ty = l := ⟨_, rfl⟩
  have HTW2 := Lib.hid (HTW.out l hl)
  rw [hl] at hall HFL HF
  have HALL := Lib.hid hall
  have hl2 : l.length ≤ 2 := HFL.out.1
  have HLE : Hid (∀ k, (bd t (l.take k)).length ≤ 4000) := Lib.hid fun k => by
    have h1 := bd_le t w h (l.take k) (List.all_eq_true.2 fun f hf => (List.all_eq_true.1 hall) f (List.mem_of_mem_take hf))
    have h2 : (l.take k).length ≤ 2 := by rw [List.length_take]; omega
    omega
  clear hb e1 h hfok htg hall g1 g2 g3 hk HTW hl
  go_enter Try.func14, Try.ntmps14
  go_wp2_with (first | (with_reducible refine wpList_load_row rfl 29 (.tmp 1) rfl w.heap.size rfl _ _ _ _ HB1.out Try.underlying29 rfl HI.out ?_) | fail)
  refine HM.out.mono ?_
  rintro e w2 ⟨rfl, e2⟩
  have hb2 := e2.heap HB1.out
  have x0 := cell_of_row w2 w.heap.size 0 _ _ _ hb2
  simp [TL.cs] at x0
  have E2 := Lib.hid (E1.out.trans e2)
  have HB2 := Lib.hid hb2
  have HOK2 := Lib.hid (HOK.out.ext e2)
  clear hb2 e2 HM HB1 E1 HOK
  go_wp2_with fail
  refine (HF.out w2).mono ?_
  rintro e w3 ⟨A, rfl, seeA, e3⟩
  have HB3 := Lib.hid (e3.heap HB2.out)
  have E3 := Lib.hid (E2.out.trans e3)
  have HOK3 := Lib.hid (HOK2.out.ext e3)
  have SEEA := Lib.hid seeA
  clear x0 e3 seeA HB2 E2 HOK2 HF
  go_wp2_with fail
  go_loopw [4, 20] (fun v i wr => ∃ (k ck : Nat) (Ak : Option Addr), k ≤ l.length ∧ v = .slice Ak (bd t (l.take k)).length ck ∧ i = .int .i64 k ∧ Sees wr Ak (bd t (l.take k)).length ck (bs (bd t (l.take k))) ∧ Ext w3 wr) (fun _ i _ => l.length - (intOf i).toNat)
  case atStart => exact ⟨0, 0, none, by omega, rfl, rfl, Sees.nil _, Ext.refl _⟩
  case round =>
    obtain ⟨k, ck, Ak, hk, rfl, rfl, seek, ext⟩ := hrel
    have hle := HLE.out k
    by_cases hkl : k < l.length
    · obtain ⟨b, off, u, rfl, hu, hc, _⟩ := SEEA.out.at_ hkl
      obtain ⟨f, hf, rfl⟩ := fv_get l k u hu
      have hf8 : f ≤ 8 := HFL.out.2 f (List.mem_of_getElem? hf)
      have hcr := ext.cell hc
      have HF8 := Lib.hid hf
      have HBF := Lib.hid ((List.all_eq_true.1 HALL.out) f (List.mem_of_getElem? hf))
      have HBR := Lib.hid (ext.heap HB3.out)
      have EX := Lib.hid ext
      have SK := Lib.hid seek
      clear hf hu hc ext seek
      go_wp2_with (first | (with_reducible refine wpList_load_row rfl 29 (.tmp 1) rfl w.heap.size rfl _ _ _ _ HBR.out Try.underlying29 rfl HI.out ?_) | fail)
      refine (lay_any Ak _ ck _ t f hf8 _ SK.out (by omega) (HOK3.out.ext EX.out) HBF.out).mono ?_
      rintro e w4 ⟨A4, c4, rfl, see4, e4⟩
      have hlk : (bd t (l.take k)).length + (ly t f).length = (bd t (l.take (k + 1))).length := by rw [bd_take _ _ _ _ HF8.out, List.length_append]
      rw [hlk, ← bd_take _ _ _ _ HF8.out] at see4
      rw [hlk]
      have E4 := Lib.hid (EX.out.trans e4)
      have S4 := Lib.hid see4
      clear hlk see4 e4 hcr hle
      go_wp2_with fail
      go_roundw
      case rel => exact ⟨k + 1, c4, A4, by omega, rfl, by go_num, S4.out, E4.out⟩
      case measure => simp [intOf]; omega
    · obtain rfl : k = l.length := by omega
      rw [List.take_length] at seek hle ⊢
      have hbr := ext.heap HB3.out
      have x0 := cell_of_row wr w.heap.size 0 _ _ _ hbr
      have x1 := cell_of_row wr w.heap.size 1 _ _ _ hbr
      simp [TL.cs] at x0 x1
      have EX := Lib.hid ext
      have SK := Lib.hid seek
      clear hbr ext seek
      go_wp2_with fail
      first | rw [HK.out] | rw [show t.ty % 256 = _ from HK.out]
      first | rw [HT.out] | rw [show t.tg % 65536 = _ from HT.out]
      refine (lpack_any t.ty.toNat t.tg.toNat Ak _ ck _ _ SK.out HKB.out HTB.out (by omega)).mono ?_
      rintro e w5 ⟨v5, rfl, own5, e5⟩
      have hsz : w.heap.size ≤ wr.heap.size := (E3.out.trans EX.out).size
      have own6 := own_mono own5 hsz
      rw [← HTW2.out] at own6
      have O5 := Lib.hid own6
      have E5 := Lib.hid ((E3.out.trans EX.out).trans e5)
      clear own5 own6 hsz e5
      go_wp2_with fail
      go_ret2
      exact ⟨_, rfl, O5.out, E5.out⟩
end Go.Proofs.Ytihiclnbbpablaa
