/-
  Layer 14: the hand that reads fields: each of its ways with one field.
-/
import Derived.Test.YtpjigdfllbhknaaCalV
import Derived.Test.YtpjigdfllbhknaaCalR
import Derived.Test.YtpjigdfllbhknaaXdrS
namespace Go.Proofs.Ytpjigdfllbhknaa
open Go Go.RowKit
set_option linter.unusedVariables false
set_option linter.unusedSimpArgs false
/-! What the reader leaves, as plain functions. -/
def u4N (l : List UInt8) : Int := if 4 ≤ l.length then num4 l else 0
def u4L (l : List UInt8) : List UInt8 := if 4 ≤ l.length then l.drop 4 else []
def u4E (e : Int) (l : List UInt8) : Int := if 4 ≤ l.length then e else ferr e 3
def u8N (l : List UInt8) : Int := if 8 ≤ l.length then num8 l else 0
def u8L (l : List UInt8) : List UInt8 := if 8 ≤ l.length then l.drop 8 else []
def u8E (e : Int) (l : List UInt8) : Int := if 8 ≤ l.length then e else ferr e 3
def txM (l : List UInt8) : Nat := (num4 l).toNat
def txC (m : Int) (l : List UInt8) : Int :=
  if l.length < 4 then 3 else if m < (txM l : Int) then 4 else if l.length - 4 < txM l + pad (txM l) then 3
  else if (List.range (pad (txM l))).all (fun k => (l.drop 4).getD (txM l + k) 0 == 0) then 0 else 2
def txN (m : Int) (l : List UInt8) : List UInt8 := if txC m l = 0 then (l.drop 4).take (txM l) else []
def txL (m : Int) (l : List UInt8) : List UInt8 := if txC m l = 0 then l.drop (4 + (txM l + pad (txM l))) else []
def txE (e m : Int) (l : List UInt8) : Int := if txC m l = 0 then e else ferr e (txC m l)
theorem txM_eq (l : List UInt8) : num4 l = (txM l : Int) := by
  have := num4_bound l
  unfold txM
  omega
theorem u4N_bound (l : List UInt8) : W32 (u4N l) := by
  have := num4_bound l
  unfold u4N W32
  split <;> omega
theorem num8_bound (l : List UInt8) : 0 ≤ num8 l ∧ num8 l < 18446744073709551616 := by
  have h1 := num4_bound l
  have h2 := num4_bound (l.drop 4)
  unfold num8
  omega
theorem u8N_bound (l : List UInt8) : 0 ≤ u8N l ∧ u8N l < 18446744073709551616 := by
  have := num8_bound l
  unfold u8N
  split <;> omega
theorem u32_all (g : Nat) (e : Int) (l : List UInt8) (w : World) (h : Rdr w g e l) :
    Calls Try.prog 96 #[.pointer (some ⟨g, 0, none⟩)] w fun x w' => x = .returned (.int .u32 (u4N l)) ∧ Rdr w' g (u4E e l) (u4L l) ∧ Onl g w w' := by
  by_cases hk : 4 ≤ l.length
  · simp only [u4N, u4E, u4L, if_pos hk]; exact u32_ok g e l w h hk
  · simp only [u4N, u4E, u4L, if_neg hk]; exact u32_few g e l w h (by omega)
theorem u64_all (g : Nat) (e : Int) (l : List UInt8) (w : World) (h : Rdr w g e l) :
    Calls Try.prog 97 #[.pointer (some ⟨g, 0, none⟩)] w fun x w' => x = .returned (.int .u64 (u8N l)) ∧ Rdr w' g (u8E e l) (u8L l) ∧ Onl g w w' := by
  by_cases hk : 8 ≤ l.length
  · simp only [u8N, u8E, u8L, if_pos hk]; exact u64_ok g e l w h hk
  · simp only [u8N, u8E, u8L, if_neg hk]; exact u64_few g e l w h (by omega)
/-- The first byte behind a text that is not 0. -/
theorem first_bad (l : List UInt8) (M : Nat) : ∀ p, ¬ (List.range p).all (fun k => l.getD (M + k) 0 == 0) = true → ∃ j, j < p ∧ (∀ k, k < j → l.getD (M + k) 0 = 0) ∧ l.getD (M + j) 0 ≠ 0
  | 0, h => absurd (by simp) h
  | p + 1, h => by
    by_cases hp : (List.range p).all (fun k => l.getD (M + k) 0 == 0) = true
    · refine ⟨p, by omega, fun k hk => ?_, fun hz => h ?_⟩
      · have := List.all_eq_true.1 hp k (List.mem_range.2 hk)
        simpa using this
      · rw [List.range_succ, List.all_append, hp]
        simp only [List.all_cons, List.all_nil, Bool.and_true, Bool.true_and, hz]
        rfl
    · obtain ⟨j, h1, h2, h3⟩ := first_bad l M p hp
      exact ⟨j, by omega, h2, h3⟩
theorem txC_pad {m : Int} {l : List UInt8} (h : txC m l = 0) : 4 ≤ l.length ∧ (txM l : Int) ≤ m ∧ txM l + pad (txM l) ≤ l.length - 4 ∧ ∀ k, k < pad (txM l) → (l.drop 4).getD (txM l + k) 0 = 0 := by
  unfold txC at h
  split at h
  · omega
  · split at h
    · omega
    · split at h
      · omega
      · split at h
        · rename_i h1 h2 h3 h4
          refine ⟨by omega, by omega, by omega, fun k hk => ?_⟩
          have := List.all_eq_true.1 h4 k (List.mem_range.2 hk)
          simpa using this
        · omega
theorem text_all (g : Nat) (e most : Int) (l : List UInt8) (w : World) (h : Rdr w g e l) (hl : l.length ≤ 4194304) :
    Calls Try.prog 95 #[.pointer (some ⟨g, 0, none⟩), .int .i64 most] w fun x w' => ∃ A c, x = .returned (.slice A (txN most l).length c) ∧ Sees w' A (txN most l).length c (bs (txN most l)) ∧ Rdr w' g (txE e most l) (txL most l) ∧ Onl g w w' := by
  by_cases h1 : l.length < 4
  · have hc : txC most l = 3 := by unfold txC; rw [if_pos h1]
    simp only [txN, txE, txL, hc, show ¬ (3 : Int) = 0 by omega, if_false]
    exact text_few g e most l w h h1
  · by_cases h2 : most < (txM l : Int)
    · have hc : txC most l = 4 := by unfold txC; rw [if_neg h1, if_pos h2]
      simp only [txN, txE, txL, hc, show ¬ (4 : Int) = 0 by omega, if_false]
      exact text_range g e most l _ w h (by omega) (txM_eq l) h2
    · by_cases h3 : l.length - 4 < txM l + pad (txM l)
      · have hc : txC most l = 3 := by unfold txC; rw [if_neg h1, if_neg h2, if_pos h3]
        simp only [txN, txE, txL, hc, show ¬ (3 : Int) = 0 by omega, if_false]
        exact text_short g e most l _ w h (by omega) (txM_eq l) (by omega) h3
      · by_cases h4 : (List.range (pad (txM l))).all (fun k => (l.drop 4).getD (txM l + k) 0 == 0) = true
        · have hc : txC most l = 0 := by unfold txC; rw [if_neg h1, if_neg h2, if_neg h3, if_pos h4]
          have hn : ((l.drop 4).take (txM l)).length = txM l := by rw [List.length_take, List.length_drop]; omega
          simp only [txN, txE, txL, hc, if_true, hn]
          exact text_ok g e most l _ w h (by omega) (txM_eq l) (by omega) (by omega) hl (txC_pad hc).2.2.2
        · have hc : txC most l = 2 := by unfold txC; rw [if_neg h1, if_neg h2, if_neg h3, if_neg h4]
          obtain ⟨j, j1, j2, j3⟩ := first_bad (l.drop 4) (txM l) _ h4
          simp only [txN, txE, txL, hc, show ¬ (2 : Int) = 0 by omega, if_false]
          exact text_bad g e most l _ j w h (by omega) (txM_eq l) (by omega) (by omega) hl j1 j2 j3
theorem onl_on2 {g : Nat} {w w' : World} (h : Onl g w w') : On2 g g w w' := ⟨h.os, h.tape, h.output, h.size, fun k hk h1 _ => h.block k hk (fun e => h1 (by injection e))⟩
theorem rdr_off {w w' : World} {g t : Nat} {e : Int} {l : List UInt8} {cs : Array Value} {ty : TypeId} {fr : Nat × Nat} (h : Rdr w g e l) (hb : w.heap[t]? = some (.cells cs ty fr)) (hq : ∀ (i : Nat) (x : Int), ¬ cs[i]? = some (Value.int .u8 x)) (ho : On2 t t w w') (hne : ¬ g = t) : Rdr w' g e l := by
  obtain ⟨A, n, c, h1, h2⟩ := h
  exact ⟨A, n, c, ho.heap h1 hne hne, sees_offB h2 hb hq ho⟩
/-- The frame's block, the hand's, the reader's; the data that the frame has. -/
structure RdC (w : World) (fb hb g : Nat) (cs : Array Value) (k e : Int) (l : List UInt8) (dA : Option Addr) (dn dk : Nat) (d : List UInt8) : Prop where
  fr : w.heap[fb]? = some (.cells cs 59 (0, 0))
  nb : ∀ (i : Nat) (x : Int), ¬ cs[i]? = some (Value.int .u8 x)
  hd : w.heap[hb]? = some (.cells #[.pointer (some ⟨g, 0, none⟩), .int .i64 k] 68 (0, 0))
  rd : Rdr w g e l
  da : Sees w dA dn dk (bs d)
  n1 : ¬ fb = hb
  n2 : ¬ fb = g
  n3 : ¬ hb = g
section
variable {w w' : World} {fb hb g : Nat} {cs : Array Value} {k e : Int} {l : List UInt8} {dA : Option Addr} {dn dk : Nat} {d : List UInt8}
theorem RdC.ext (h : RdC w fb hb g cs k e l dA dn dk d) (he : Ext w w') : RdC w' fb hb g cs k e l dA dn dk d :=
  ⟨he.heap h.fr, h.nb, he.heap h.hd, h.rd.ext he, h.da.ext he, h.n1, h.n2, h.n3⟩
theorem RdC.read {e' : Int} {l' : List UInt8} (h : RdC w fb hb g cs k e l dA dn dk d) (hr : Rdr w' g e' l') (ho : Onl g w w') : RdC w' fb hb g cs k e' l' dA dn dk d :=
  ⟨(onl_on2 ho).heap h.fr h.n2 h.n2, h.nb, (onl_on2 ho).heap h.hd h.n3 h.n3, hr, h.da.onl h.rd ho, h.n1, h.n2, h.n3⟩
theorem RdC.set (h : RdC w fb hb g cs k e l dA dn dk d) (i : Nat) (v : Value) (hv : ∀ x, ¬ v = Value.int .u8 x) : RdC (w.setCell ⟨fb, i, none⟩ v) fb hb g (cs.setIfInBounds i v) k e l dA dn dk d := by
  have ho : On2 fb fb w (w.setCell ⟨fb, i, none⟩ v) := On2.set w _ _ (.inl rfl)
  refine ⟨set_blkC h.fr i v, fun j x hj => ?_, ho.heap h.hd (fun e => h.n1 e.symm) (fun e => h.n1 e.symm), rdr_off h.rd h.fr h.nb ho (fun e => h.n2 e.symm), sees_offB h.da h.fr h.nb ho, h.n1, h.n2, h.n3⟩
  rw [Array.getElem?_setIfInBounds] at hj
  split at hj
  · split at hj
    · injection hj with hj; exact hv x hj
    · cases hj
  · exact h.nb j x hj
theorem RdC.keep (h : RdC w fb hb g cs k e l dA dn dk d) (k' : Int) : RdC (w.setCell ⟨hb, 1, none⟩ (.int .i64 k')) fb hb g cs k' e l dA dn dk d := by
  have ho : On2 hb hb w (w.setCell ⟨hb, 1, none⟩ (.int .i64 k')) := On2.set w _ _ (.inl rfl)
  have hq : ∀ (i : Nat) (x : Int), ¬ (#[.pointer (some ⟨g, 0, none⟩), .int .i64 k] : Array Value)[i]? = some (Value.int .u8 x) := fun i x h => by have hm := Array.mem_of_getElem? h; simp at hm
  exact ⟨ho.heap h.fr h.n1 h.n1, h.nb, by simpa using set_blkC h.hd 1 (.int .i64 k'), rdr_off h.rd h.hd hq ho (fun e => h.n3 e.symm), sees_offB h.da h.hd hq ho, h.n1, h.n2, h.n3⟩
end
def S3 (fb hb g : Nat) (b : Nat) : Prop := b = fb ∨ b = hb ∨ b = g
/-- What the hand keeps. -/
def kp (k e : Int) : Int := if k = 0 then e else k
section
variable (fb hb g i : Nat) (cs : Array Value) (k e : Int) (l : List UInt8) (dA : Option Addr) (dn dk : Nat) (d : List UInt8) (w : World)
set_option maxRecDepth 20000 in
theorem keep_any (x : Int) (h : RdC w fb hb g cs k e l dA dn dk d) :
    Calls Try.prog 33 #[.pointer (some ⟨hb, 0, none⟩), .int .i64 x] w fun y w' => y = .returned (.tuple #[]) ∧ RdC w' fb hb g cs (kp k x) e l dA dn dk d ∧ OnP (S3 fb hb g) w w' := by
  have q1 := cell_of_row w hb 1 _ _ _ h.hd
  simp at q1
  have f1 := blk_freeC h.hd 1
  have HK := Lib.hid (h.keep x)
  have HH := Lib.hid h
  by_cases hk : k = 0
  · subst hk
    clear h
    go_enter Try.func33, Try.ntmps33
    go_wp2_with fail
    go_end0
    exact ⟨rfl, by simp only [kp, if_true]; exact HK.out, OnP.of_on2 (On2.set w _ _ (.inl rfl)) (.inr (.inl rfl)) (.inr (.inl rfl)) ⟩
  · clear h
    go_enter Try.func33, Try.ntmps33
    go_wp2_with fail
    go_end0
    exact ⟨rfl, by simp only [kp, if_neg hk]; exact HH.out, OnP.refl _ _⟩
set_option maxRecDepth 20000 in
theorem read_number (h : RdC w fb hb g cs k e l dA dn dk d) (hi : ∃ o, cs[i]? = some o) :
    Calls Try.prog 92 #[.pointer (some ⟨hb, 0, none⟩), .pointer (some ⟨fb, i, none⟩)] w fun y w' => y = .returned (.tuple #[]) ∧ RdC w' fb hb g (cs.setIfInBounds i (.int .i64 (u4N l))) k (u4E e l) (u4L l) dA dn dk d ∧ OnP (S3 fb hb g) w w' := by
  have q0 := cell_of_row w hb 0 _ _ _ h.hd
  simp at q0
  have HH := Lib.hid h
  have HI := Lib.hid hi
  have HW : Hid (wrap64 (u4N l) = u4N l) := Lib.hid (by have := u4N_bound l; unfold W32 at this; unfold wrap64; omega)
  clear h hi
  go_enter Try.func92, Try.ntmps92
  go_wp2_with fail
  refine (u32_all g e l w HH.out.rd).mono ?_
  rintro y w2 ⟨rfl, hr, ho⟩
  have H2 := HH.out.read hr ho
  obtain ⟨o2, x2⟩ : ∃ o, w2.cell? ⟨fb, i, none⟩ = some o := by obtain ⟨o, ho⟩ := HI.out; exact ⟨o, (cell_of_row w2 fb i _ _ _ H2.fr).trans ho⟩
  have f2 := blk_freeC H2.fr i
  have H3 := Lib.hid (H2.set i (.int .i64 (u4N l)) (fun x hx => by injection hx with h1; cases h1))
  have O3 := Lib.hid (OnP.trans (OnP.of_on2 (S := S3 fb hb g) (onl_on2 ho) (.inr (.inr rfl)) (.inr (.inr rfl))) (OnP.of_on2 (S := S3 fb hb g) (On2.set w2 ⟨fb, i, none⟩ (.int .i64 (u4N l)) (.inl rfl)) (.inl rfl) (.inl rfl)))
  clear hr ho H2
  go_wp2_with fail
  go_end0
  rw [HW.out]
  exact ⟨rfl, H3.out, O3.out⟩
set_option maxRecDepth 20000 in
theorem read_text (h : RdC w fb hb g cs k e l dA dn dk d) (hi : ∃ o, cs[i]? = some o) (hl : l.length ≤ 4194304) :
    Calls Try.prog 94 #[.pointer (some ⟨hb, 0, none⟩), .pointer (some ⟨fb, i, none⟩)] w fun y w' => y = .returned (.tuple #[]) ∧ RdC w' fb hb g (cs.setIfInBounds i (.string ⟨(txN 64 l).toArray⟩)) k (txE e 64 l) (txL 64 l) dA dn dk d ∧ OnP (S3 fb hb g) w w' := by
  have q0 := cell_of_row w hb 0 _ _ _ h.hd
  simp at q0
  have HH := Lib.hid h
  have HI := Lib.hid hi
  have HL := Lib.hid hl
  clear h hi hl
  go_enter Try.func94, Try.ntmps94
  go_wp2_with fail
  refine (text_all g e 64 l w HH.out.rd HL.out).mono ?_
  rintro y w2 ⟨A, c, rfl, see, hr, ho⟩
  have xs := str_of see
  have H2 := HH.out.read hr ho
  obtain ⟨o2, x2⟩ : ∃ o, w2.cell? ⟨fb, i, none⟩ = some o := by obtain ⟨o, ho⟩ := HI.out; exact ⟨o, (cell_of_row w2 fb i _ _ _ H2.fr).trans ho⟩
  have f2 := blk_freeC H2.fr i
  have H3 := Lib.hid (H2.set i (.string ⟨(txN 64 l).toArray⟩) (fun x hx => by cases hx))
  have O3 := Lib.hid (OnP.trans (OnP.of_on2 (S := S3 fb hb g) (onl_on2 ho) (.inr (.inr rfl)) (.inr (.inr rfl))) (OnP.of_on2 (S := S3 fb hb g) (On2.set w2 ⟨fb, i, none⟩ (.string ⟨(txN 64 l).toArray⟩) (.inl rfl)) (.inl rfl) (.inl rfl)))
  clear hr ho H2
  go_wp2_with fail
  go_end0
  exact ⟨rfl, H3.out, O3.out⟩
set_option maxRecDepth 20000 in
theorem read_data (h : RdC w fb hb g cs k e l dA dn dk d) (hi : ∃ o, cs[i]? = some o) (hl : l.length ≤ 4194304) :
    Calls Try.prog 90 #[.pointer (some ⟨hb, 0, none⟩), .pointer (some ⟨fb, i, none⟩)] w fun y w' => y = .returned (.tuple #[]) ∧ (∃ A n c, RdC w' fb hb g (cs.setIfInBounds i (.slice A n c)) k (txE e 2048 l) (txL 2048 l) A n c (txN 2048 l)) ∧ OnP (S3 fb hb g) w w' := by
  have q0 := cell_of_row w hb 0 _ _ _ h.hd
  simp at q0
  have HH := Lib.hid h
  have HI := Lib.hid hi
  have HL := Lib.hid hl
  clear h hi hl
  go_enter Try.func90, Try.ntmps90
  go_wp2_with fail
  refine (text_all g e 2048 l w HH.out.rd HL.out).mono ?_
  rintro y w2 ⟨A, c, rfl, see, hr, ho⟩
  have H2 := HH.out.read hr ho
  obtain ⟨o2, x2⟩ : ∃ o, w2.cell? ⟨fb, i, none⟩ = some o := by obtain ⟨o, ho⟩ := HI.out; exact ⟨o, (cell_of_row w2 fb i _ _ _ H2.fr).trans ho⟩
  have f2 := blk_freeC H2.fr i
  have H3 := Lib.hid (({ H2 with da := see } : RdC w2 fb hb g cs k (txE e 2048 l) (txL 2048 l) A (txN 2048 l).length c (txN 2048 l)).set i (.slice A (txN 2048 l).length c) (fun x hx => by cases hx))
  have O3 := Lib.hid (OnP.trans (OnP.of_on2 (S := S3 fb hb g) (onl_on2 ho) (.inr (.inr rfl)) (.inr (.inr rfl))) (OnP.of_on2 (S := S3 fb hb g) (On2.set w2 ⟨fb, i, none⟩ (.slice A (txN 2048 l).length c) (.inl rfl)) (.inl rfl) (.inl rfl)))
  clear hr ho H2
  go_wp2_with fail
  go_end0
  exact ⟨rfl, ⟨A, _, c, H3.out⟩, O3.out⟩
set_option maxRecDepth 20000 in
theorem read_handle (h : RdC w fb hb g cs k e l dA dn dk d) (hi : ∃ o, cs[i]? = some o) (hj : ∃ o, cs[i + 1]? = some o) :
    Calls Try.prog 91 #[.pointer (some ⟨hb, 0, none⟩), .pointer (some ⟨fb, i, none⟩)] w fun y w' => y = .returned (.tuple #[]) ∧ RdC w' fb hb g ((cs.setIfInBounds i (.int .i64 (u4N l))).setIfInBounds (i + 1) (.int .i64 (u4N (u4L l)))) k (u4E (u4E e l) (u4L l)) (u4L (u4L l)) dA dn dk d ∧ OnP (S3 fb hb g) w w' := by
  have H1 := Lib.hid (read_number fb hb g i cs k e l dA dn dk d w h hi)
  have HJ : Hid (∃ o, (cs.setIfInBounds i (.int .i64 (u4N l)))[i + 1]? = some o) := Lib.hid (by obtain ⟨o, ho⟩ := hj; exact ⟨o, by rw [Array.getElem?_setIfInBounds, if_neg (by omega)]; exact ho⟩)
  clear h hi hj
  go_enter Try.func91, Try.ntmps91
  go_wp2_with fail
  refine H1.out.mono ?_
  rintro y w1 ⟨rfl, h1, o1⟩
  go_wp2_with fail
  refine (read_number fb hb g (i + 1) _ k _ _ dA dn dk d w1 h1 HJ.out).mono ?_
  rintro y w2 ⟨rfl, h2, o2⟩
  go_wp2_with fail
  go_end0
  exact ⟨rfl, h2, o1.trans o2⟩
/-- What a place's number is as an int. -/
def ofU (n : Int) : Int := wrap64 n
def plK (k n : Int) : Int := if (4611686018427387904 : Int) < n then kp k 4 else k
set_option maxRecDepth 20000 in
theorem read_place (h : RdC w fb hb g cs k e l dA dn dk d) (hi : ∃ o, cs[i]? = some o) :
    Calls Try.prog 93 #[.pointer (some ⟨hb, 0, none⟩), .pointer (some ⟨fb, i, none⟩)] w fun y w' => y = .returned (.tuple #[]) ∧ RdC w' fb hb g (cs.setIfInBounds i (.int .i64 (ofU (u8N l)))) (plK k (u8N l)) (u8E e l) (u8L l) dA dn dk d ∧ OnP (S3 fb hb g) w w' := by
  have q0 := cell_of_row w hb 0 _ _ _ h.hd
  simp at q0
  have HH := Lib.hid h
  have HI := Lib.hid hi
  clear h hi
  go_enter Try.func93, Try.ntmps93
  go_wp2_with fail
  refine (u64_all g e l w HH.out.rd).mono ?_
  rintro y w2 ⟨rfl, hr, ho⟩
  have H2 := Lib.hid (HH.out.read hr ho)
  have O2 := Lib.hid (OnP.of_on2 (S := S3 fb hb g) (onl_on2 ho) (.inr (.inr rfl)) (.inr (.inr rfl)))
  clear hr ho
  obtain ⟨n, hn0⟩ : ∃ n, u8N l = n := ⟨_, rfl⟩
  rw [hn0]
  have HN0 := Lib.hid hn0
  clear hn0
  by_cases hn : (4611686018427387904 : Int) < n
  · have HP : Hid (plK k n = kp k 4) := Lib.hid (if_pos hn)
    go_wp2_with fail
    refine (keep_any fb hb g cs k _ _ dA dn dk d _ 4 H2.out).mono ?_
    rintro y w3 ⟨rfl, h3, o3⟩
    obtain ⟨o2, x2⟩ : ∃ o, w3.cell? ⟨fb, i, none⟩ = some o := by obtain ⟨o, ho⟩ := HI.out; exact ⟨o, (cell_of_row w3 fb i _ _ _ h3.fr).trans ho⟩
    have f2 := blk_freeC h3.fr i
    have H4 := Lib.hid (h3.set i (.int .i64 (ofU n)) (fun x hx => by injection hx with h1; cases h1))
    have O4 := Lib.hid ((O2.out.trans o3).trans (OnP.of_on2 (S := S3 fb hb g) (On2.set w3 ⟨fb, i, none⟩ (.int .i64 (ofU n)) (.inl rfl)) (.inl rfl) (.inl rfl)))
    clear h3 o3
    go_wp2_with fail
    go_end0
    exact ⟨rfl, by rw [HN0.out, HP.out]; exact H4.out, O4.out⟩
  · have HP : Hid (plK k n = k) := Lib.hid (if_neg hn)
    obtain ⟨o2, x2⟩ : ∃ o, w2.cell? ⟨fb, i, none⟩ = some o := by obtain ⟨o, ho⟩ := HI.out; exact ⟨o, (cell_of_row w2 fb i _ _ _ H2.out.fr).trans ho⟩
    have f2 := blk_freeC H2.out.fr i
    have H4 := Lib.hid (H2.out.set i (.int .i64 (ofU n)) (fun x hx => by injection hx with h1; cases h1))
    have O4 := Lib.hid (O2.out.trans (OnP.of_on2 (S := S3 fb hb g) (On2.set w2 ⟨fb, i, none⟩ (.int .i64 (ofU n)) (.inl rfl)) (.inl rfl) (.inl rfl)))
    go_wp2_with fail
    go_end0
    exact ⟨rfl, by rw [HN0.out, HP.out]; exact H4.out, O4.out⟩
end
theorem mR_text (v : Value) (w : World) : (Go.method 226 64 v "truchman/calls.text").run Try.prog w = .ok (94, v) w := by kernel_rfl
theorem cR_text (args : Array Value) (w : World) : (callFunc 94 args).run Try.prog w = .ok (Next.enter 94 args) w := by kernel_rfl
theorem mR_place (v : Value) (w : World) : (Go.method 226 64 v "truchman/calls.place").run Try.prog w = .ok (93, v) w := by kernel_rfl
theorem cR_place (args : Array Value) (w : World) : (callFunc 93 args).run Try.prog w = .ok (Next.enter 93 args) w := by kernel_rfl
theorem mR_number (v : Value) (w : World) : (Go.method 226 64 v "truchman/calls.number").run Try.prog w = .ok (92, v) w := by kernel_rfl
theorem cR_number (args : Array Value) (w : World) : (callFunc 92 args).run Try.prog w = .ok (Next.enter 92 args) w := by kernel_rfl
theorem mR_data (v : Value) (w : World) : (Go.method 226 64 v "truchman/calls.data").run Try.prog w = .ok (90, v) w := by kernel_rfl
theorem cR_data (args : Array Value) (w : World) : (callFunc 90 args).run Try.prog w = .ok (Next.enter 90 args) w := by kernel_rfl
theorem mR_handle (v : Value) (w : World) : (Go.method 226 64 v "truchman/calls.handle").run Try.prog w = .ok (91, v) w := by kernel_rfl
theorem cR_handle (args : Array Value) (w : World) : (callFunc 91 args).run Try.prog w = .ok (Next.enter 91 args) w := by kernel_rfl
end Go.Proofs.Ytpjigdfllbhknaa
