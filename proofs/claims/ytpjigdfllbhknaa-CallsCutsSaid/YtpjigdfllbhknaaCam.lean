/-
  Layer 14: what is read of bytes, by the document.
-/
import Derived.Test.YtpjigdfllbhknaaCalZ
import Derived.Test.YtpjigdfllbhknaaXdrQ
import Derived.Test.YtpjigdfllbhknaaCalW
namespace Go.Proofs.Ytpjigdfllbhknaa
open Go Go.RowKit
set_option linter.unusedVariables false
set_option linter.unusedSimpArgs false
theorem ru32_all (h : Nat) (e : Int) (l : List UInt8) (w : World) (hr : Rfr w h e l) :
    Calls Try.prog 35 #[.pointer (some ⟨h, 0, none⟩)] w fun x w' => x = .returned (.int .u32 (u4N l)) ∧ Rfr w' h (u4E e l) (u4L l) ∧ Onl h w w' := by
  by_cases hk : 4 ≤ l.length
  · simp only [u4N, u4E, u4L, if_pos hk]; exact ru32_ok h e l w hr hk
  · simp only [u4N, u4E, u4L, if_neg hk]; exact ru32_few h e l w hr (by omega)
theorem ru64_all (h : Nat) (e : Int) (l : List UInt8) (w : World) (hr : Rfr w h e l) :
    Calls Try.prog 37 #[.pointer (some ⟨h, 0, none⟩)] w fun x w' => x = .returned (.int .u64 (u8N l)) ∧ Rfr w' h (u8E e l) (u8L l) ∧ Onl h w w' := by
  by_cases hk : 8 ≤ l.length
  · simp only [u8N, u8E, u8L, if_pos hk]; exact ru64_ok h e l w hr hk
  · simp only [u8N, u8E, u8L, if_neg hk]; exact ru64_few h e l w hr (by omega)
theorem rtext_all (g : Nat) (e most : Int) (l : List UInt8) (w : World) (h : Rfr w g e l) :
    Calls Try.prog 36 #[.pointer (some ⟨g, 0, none⟩), .int .i64 most] w fun x w' => ∃ A c, x = .returned (.slice A (txN most l).length c) ∧ Sees w' A (txN most l).length c (bs (txN most l)) ∧ Rfr w' g (txE e most l) (txL most l) ∧ Onl g w w' := by
  by_cases h1 : l.length < 4
  · have hc : txC most l = 3 := by unfold txC; rw [if_pos h1]
    simp only [txN, txE, txL, hc, show ¬ (3 : Int) = 0 by omega, if_false]
    exact rtext_few g e most l w h h1
  · by_cases h2 : most < (txM l : Int)
    · have hc : txC most l = 4 := by unfold txC; rw [if_neg h1, if_pos h2]
      simp only [txN, txE, txL, hc, show ¬ (4 : Int) = 0 by omega, if_false]
      exact rtext_range g e most l _ w h (by omega) (txM_eq l) h2
    · by_cases h3 : l.length - 4 < txM l + pad (txM l)
      · have hc : txC most l = 3 := by unfold txC; rw [if_neg h1, if_neg h2, if_pos h3]
        simp only [txN, txE, txL, hc, show ¬ (3 : Int) = 0 by omega, if_false]
        exact rtext_short g e most l _ w h (by omega) (txM_eq l) (by omega) h3
      · by_cases h4 : (List.range (pad (txM l))).all (fun k => (l.drop 4).getD (txM l + k) 0 == 0) = true
        · have hc : txC most l = 0 := by unfold txC; rw [if_neg h1, if_neg h2, if_neg h3, if_pos h4]
          have hn : ((l.drop 4).take (txM l)).length = txM l := by rw [List.length_take, List.length_drop]; omega
          simp only [txN, txE, txL, hc, if_true, hn]
          exact rtext_ok g e most l _ w h (by omega) (txM_eq l) (by omega) (by omega) (txC_pad hc).2.2.2
        · have hc : txC most l = 2 := by unfold txC; rw [if_neg h1, if_neg h2, if_neg h3, if_neg h4]
          obtain ⟨j, j1, j2, j3⟩ := first_bad (l.drop 4) (txM l) _ h4
          simp only [txN, txE, txL, hc, show ¬ (2 : Int) = 0 by omega, if_false]
          exact rtext_bad g e most l _ j w h (by omega) (txM_eq l) (by omega) (by omega) j1 j2 j3
/-- What is read so far, by the document: its struct's block, its reader's, the result's. -/
structure RxC (w : World) (xb h zb : Nat) (cs : Array Value) (e : Int) (l : List UInt8) (dA : Option Addr) (dn dk : Nat) (d : List UInt8) : Prop where
  fr : w.heap[xb]? = some (.cells cs 26 (0, 0))
  nb : ∀ (i : Nat) (x : Int), ¬ cs[i]? = some (Value.int .u8 x)
  rd : Rfr w h e l
  da : Sees w dA dn dk (bs d)
  zr : w.heap[zb]? = some (.cells #[.int .i64 0, .int .i64 0, .int .i64 0, .int .i64 0, .int .i64 0, .int .i64 0, .int .i64 0, .int .i64 0, .int .i64 0, .string ⟨#[]⟩, .string ⟨#[]⟩, .slice none 0 0] 26 (0, 0))
  n1 : ¬ xb = h
  n2 : ¬ zb = xb
  n3 : ¬ zb = h
section
variable {w w' : World} {xb h zb : Nat} {cs : Array Value} {e : Int} {l : List UInt8} {dA : Option Addr} {dn dk : Nat} {d : List UInt8}
theorem RxC.ext (k : RxC w xb h zb cs e l dA dn dk d) (he : Ext w w') : RxC w' xb h zb cs e l dA dn dk d :=
  ⟨he.heap k.fr, k.nb, k.rd.ext he, k.da.ext he, he.heap k.zr, k.n1, k.n2, k.n3⟩
theorem RxC.read {e' : Int} {l' : List UInt8} (k : RxC w xb h zb cs e l dA dn dk d) (hr : Rfr w' h e' l') (ho : Onl h w w') : RxC w' xb h zb cs e' l' dA dn dk d :=
  ⟨(onl_on2 ho).heap k.fr k.n1 k.n1, k.nb, hr, k.da.onP k.rd.plain ho, (onl_on2 ho).heap k.zr k.n3 k.n3, k.n1, k.n2, k.n3⟩
theorem RxC.plain (k : RxC w xb h zb cs e l dA dn dk d) : Plain w xb := ⟨_, _, _, k.fr, fun i x hx => k.nb i x hx⟩
theorem RxC.set (k : RxC w xb h zb cs e l dA dn dk d) (i : Nat) (v : Value) (hv : ∀ x, ¬ v = Value.int .u8 x) : RxC (w.setCell ⟨xb, i, none⟩ v) xb h zb (cs.setIfInBounds i v) e l dA dn dk d := by
  have ho : Onl xb w (w.setCell ⟨xb, i, none⟩ v) := Onl.set w i v
  refine ⟨set_blkC k.fr i v, fun j x hj => ?_, k.rd.onP k.plain ho (fun e => k.n1 e.symm), k.da.onP k.plain ho, (onl_on2 ho).heap k.zr k.n2 k.n2, k.n1, k.n2, k.n3⟩
  rw [Array.getElem?_setIfInBounds] at hj
  split at hj
  · split at hj
    · injection hj with hj; exact hv x hj
    · cases hj
  · exact k.nb j x hj
end
def S2 (xb h : Nat) (b : Nat) : Prop := b = xb ∨ b = h
theorem psR_k (l : List Nat) : ∀ s : RS, ¬ s.k = 0 → (psR s l).k = s.k := by
  induction l with
  | nil => intro s _; rfl
  | cons g l ih =>
    intro s hs
    have e1 : (stR s g).k = s.k := by
      rcases g with _ | _ | _ | _ | _ | _ | _ | _ | g <;> first | rfl | (show plK s.k _ = s.k; unfold plK kp; split <;> simp [hs])
    exact (ih (stR s g) (by rw [e1]; exact hs)).trans e1
theorem psR_e (l : List Nat) : ∀ s : RS, ¬ s.e = 0 → s.l = [] → s.k = 0 → (psR s l).e = s.e ∧ (psR s l).l = [] ∧ (psR s l).k = 0 := by
  induction l with
  | nil => intro s h1 h2 h3; exact ⟨rfl, h2, h3⟩
  | cons g l ih =>
    intro s h1 h2 h3
    have hf : ∀ x, ferr s.e x = s.e := fun x => by unfold ferr; rw [if_neg h1]
    have q1 : u4L [] = [] := rfl
    have q2 : u8L [] = [] := rfl
    have q3 : ∀ m, txL m [] = [] := fun m => rfl
    have q4 : ∀ e, u4E e [] = ferr e 3 := fun e => rfl
    have q5 : ∀ e, u8E e [] = ferr e 3 := fun e => rfl
    have q6 : ∀ e m, txE e m [] = ferr e 3 := fun e m => rfl
    have q7 : plK 0 (u8N []) = 0 := rfl
    have e1 : (stR s g).e = s.e ∧ (stR s g).l = [] ∧ (stR s g).k = 0 := by
      rcases g with _ | _ | _ | _ | _ | _ | _ | _ | g <;> simp only [stR, h2, h3, q1, q2, q3, q4, q5, q6, q7, hf, and_self]
    obtain ⟨a1, a2, a3⟩ := e1
    obtain ⟨b1, b2, b3⟩ := ih (stR s g) (by rw [a1]; exact h1) a2 a3
    exact ⟨b1.trans a1, b2, b3⟩
theorem kn_fl (p : Int) (h : ¬ fl p = []) : kn p = true := by
  unfold kn
  rw [decide_eq_true_iff]
  exact List.length_pos_iff.2 h
/-- An error on the way is what is told in the end. -/
theorem rd_place (p : Int) (b : List UInt8) (j x : Nat) (hx : (fl p)[j]? = some x) (hk : (stR (psR ⟨AR.zero p, [], 0, 0, b⟩ ((fl p).take j)) x).k = 4) : rdK p b = 4 := by
  have hj : j < (fl p).length := (List.getElem?_eq_some_iff.1 hx).1
  have hg : (fl p)[j] = x := (List.getElem?_eq_some_iff.1 hx).2
  have e9 : rdS p b = psR (stR (psR ⟨AR.zero p, [], 0, 0, b⟩ ((fl p).take j)) x) ((fl p).drop (j + 1)) := by
    unfold rdS
    conv => lhs; rw [← List.take_append_drop j (fl p), List.drop_eq_getElem_cons hj, hg]
    unfold psR
    rw [List.foldl_append, List.foldl_cons]
  have hkn := kn_fl p (fun e => by rw [e] at hj; simp at hj)
  unfold rdK
  rw [if_pos hkn, e9, psR_k _ _ (by rw [hk]; omega), hk]
  rfl
theorem rd_err (p : Int) (b : List UInt8) (j x : Nat) (e : Int) (hx : (fl p)[j]? = some x) (he : (stR (psR ⟨AR.zero p, [], 0, 0, b⟩ ((fl p).take j)) x).e = e) (h0 : ¬ e = 0) (hl : (stR (psR ⟨AR.zero p, [], 0, 0, b⟩ ((fl p).take j)) x).l = [])
    (hk : (stR (psR ⟨AR.zero p, [], 0, 0, b⟩ ((fl p).take j)) x).k = 0) : rdK p b = e := by
  have hj : j < (fl p).length := (List.getElem?_eq_some_iff.1 hx).1
  have hg : (fl p)[j] = x := (List.getElem?_eq_some_iff.1 hx).2
  have e9 : rdS p b = psR (stR (psR ⟨AR.zero p, [], 0, 0, b⟩ ((fl p).take j)) x) ((fl p).drop (j + 1)) := by
    unfold rdS
    conv => lhs; rw [← List.take_append_drop j (fl p), List.drop_eq_getElem_cons hj, hg]
    unfold psR
    rw [List.foldl_append, List.foldl_cons]
  have hkn := kn_fl p (fun e => by rw [e] at hj; simp at hj)
  obtain ⟨a1, a2, a3⟩ := psR_e ((fl p).drop (j + 1)) _ (by rw [he]; exact h0) hl hk
  unfold rdK
  rw [if_pos hkn, e9, a1, a2, a3, he]
  simp [kp, rend]
theorem rd_zero (p : Int) (b : List UInt8) (h : ¬ rdK p b = 0) : rdA p b = AR.zero 0 ∧ rdD p b = [] := ⟨by unfold rdA; rw [if_neg h], by unfold rdD; rw [if_neg h]⟩
set_option maxRecDepth 20000 in
set_option maxHeartbeats 16000000 in
theorem rread14 (p : Int) (A : Option Addr) (n c : Nat) (b : List UInt8) (w : World) (hs : Sees w A n c (bs b)) :
    Calls Try.prog 21 #[.int .i64 p, .slice A n c] w (RdRes p b w) := by
  obtain ⟨zb, hzb⟩ : ∃ zb, w.heap.size = zb := ⟨_, rfl⟩
  obtain ⟨w1, hw1⟩ : ∃ w1, w.alloc (.cells #[.int .i64 0, .int .i64 0, .int .i64 0, .int .i64 0, .int .i64 0, .int .i64 0, .int .i64 0, .int .i64 0, .int .i64 0, .string ⟨#[]⟩, .string ⟨#[]⟩, .slice none 0 0] 26) = w1 := ⟨_, rfl⟩
  have e1 : Ext w w1 := by rw [← hw1]; exact (Ext.refl w).alloc _
  have hz : w1.heap[zb]? = some (.cells #[.int .i64 0, .int .i64 0, .int .i64 0, .int .i64 0, .int .i64 0, .int .i64 0, .int .i64 0, .int .i64 0, .int .i64 0, .string ⟨#[]⟩, .string ⟨#[]⟩, .slice none 0 0] 26 (0, 0)) := by rw [← hw1, ← hzb]; exact heap_alloc_new w _
  have E1 := Lib.hid e1
  have HZ1 := Lib.hid hz
  have HFD := Lib.hid (fields14 p w1)
  have HI := Lib.hid (fun b : AR => arg_info b)
  have HU := Lib.hid (fun b : AR => AR.one b)
  have HSB := Lib.hid (hs.ext e1)
  clear e1 hz hs
  go_enter Try.func21, Try.ntmps21
  go_wp2_with fail
  refine HFD.out.mono ?_
  rintro e w2 ⟨rfl, e2⟩
  have E2 := Lib.hid (E1.out.trans e2)
  have HZ2 := Lib.hid (e2.heap HZ1.out)
  have HSB2 := Lib.hid (HSB.out.ext e2)
  clear e2
  have HIz := Lib.hid (HI.out (AR.zero 0))
  have HUz := Lib.hid (HU.out (AR.zero 0))
  by_cases hf : fld p = []
  · have hfl : fl p = [] := by rw [fld_fl, List.map_eq_nil_iff] at hf; exact hf
    have hkn : kn p = false := by unfold kn; rw [hfl]; rfl
    have hK : rdK p b = 2 := by unfold rdK; rw [hkn]; rfl
    have HA : Hid (rdA p b = AR.zero 0 ∧ rdD p b = [] ∧ rdK p b = 2) := Lib.hid ⟨(rd_zero p b (by rw [hK]; omega)).1, (rd_zero p b (by rw [hK]; omega)).2, hK⟩
    have HG := Lib.hid (setRow_heap w2 zb _ (AR.zero 0).cs _ _ HZ2.out)
    have EG := Lib.hid (below_setRow E2.out (by omega : w.heap.size ≤ zb) (AR.zero 0).cs)
    rw [hf]
    clear hfl hkn hK hf
    go_wp2_with (first | (with_reducible refine wpList_store_row rfl 26 (.tmp 4) (.tmp 15) rfl zb _ rfl rfl _ _ HZ2.out HIz.out rfl HUz.out ?_) | fail)
    refine bodyPost_ret (results_cell_tmp2 rfl _ _ zb _ _ (0, 0) _ rfl HG.out Try.underlying26 rfl HIz.out) rfl ?_
    obtain ⟨g1, g2, g3⟩ := HA.out
    exact ⟨none, 0, 0, by rw [g1, g3]; rfl, by rw [g2]; exact Sees.nil _, EG.out⟩
  · have hfe : (fld p).isEmpty = false := by simpa using hf
    obtain ⟨h, hh⟩ : ∃ h, w2.heap.size = h := ⟨_, rfl⟩
    obtain ⟨w3, hw3⟩ : ∃ w3, w2.alloc (.cells #[.slice A n c, .int .i64 0, .int .i64 0] 73) = w3 := ⟨_, rfl⟩
    have e3 : Ext w2 w3 := by rw [← hw3]; exact (Ext.refl w2).alloc _
    have h3 : w3.heap[h]? = some (.cells #[.slice A n c, .int .i64 0, .int .i64 0] 73 (0, 0)) := by rw [← hw3, ← hh]; exact heap_alloc_new w2 _
    have hrf : Rfr w3 h 0 b := ⟨A, n, c, b, 0, h3, HSB2.out.ext e3, Nat.zero_le _, fun _ => rfl, fun e => absurd rfl e⟩
    obtain ⟨xb, hxb⟩ : ∃ xb, w3.heap.size = xb := ⟨_, rfl⟩
    have hhl : h < xb := by rw [← hxb]; exact (Array.getElem?_eq_some_iff.1 h3).1
    have hzl : zb < h := by rw [← hh]; exact (Array.getElem?_eq_some_iff.1 HZ2.out).1
    have HXA : Hid ((w3.alloc (.cells #[.int .i64 0, .int .i64 0, .int .i64 0, .int .i64 0, .int .i64 0, .int .i64 0, .int .i64 0, .int .i64 0, .int .i64 0, .string ⟨#[]⟩, .string ⟨#[]⟩, .slice none 0 0] 26)).heap[xb]? = some (.cells #[.int .i64 0, .int .i64 0, .int .i64 0, .int .i64 0, .int .i64 0, .int .i64 0, .int .i64 0, .int .i64 0, .int .i64 0, .string ⟨#[]⟩, .string ⟨#[]⟩, .slice none 0 0] 26 (0, 0))) := Lib.hid (by rw [← hxb]; exact heap_alloc_new _ _)
    have e34 : Ext w3 ((w3.alloc (.cells #[.int .i64 0, .int .i64 0, .int .i64 0, .int .i64 0, .int .i64 0, .int .i64 0, .int .i64 0, .int .i64 0, .int .i64 0, .string ⟨#[]⟩, .string ⟨#[]⟩, .slice none 0 0] 26)).setRow xb (AR.zero p).cs) := below_setRow ((Ext.refl w3).alloc _) (by omega) _
    have hx4 : ((w3.alloc (.cells #[.int .i64 0, .int .i64 0, .int .i64 0, .int .i64 0, .int .i64 0, .int .i64 0, .int .i64 0, .int .i64 0, .int .i64 0, .string ⟨#[]⟩, .string ⟨#[]⟩, .slice none 0 0] 26)).setRow xb (AR.zero p).cs).heap[xb]? = some (.cells (AR.zero p).cs 26 (0, 0)) := setRow_heap _ xb _ _ _ _ HXA.out
    have HX0 : Hid (RxC ((w3.alloc (.cells #[.int .i64 0, .int .i64 0, .int .i64 0, .int .i64 0, .int .i64 0, .int .i64 0, .int .i64 0, .int .i64 0, .int .i64 0, .string ⟨#[]⟩, .string ⟨#[]⟩, .slice none 0 0] 26)).setRow xb (AR.zero p).cs) xb h zb (((AR.zero p).wd none 0 0).cs) 0 b none 0 0 []) := Lib.hid
      { fr := hx4, nb := AR.noB _, rd := hrf.ext e34, da := Sees.nil _, zr := e34.heap (e3.heap HZ2.out), n1 := by omega, n2 := by omega, n3 := by omega }
    have HIp := Lib.hid (HI.out (AR.zero p))
    have HUp := Lib.hid (HU.out (AR.zero p))
    have E4 := Lib.hid (E2.out.trans (e3.trans e34))
    have HSZ : Hid (∀ i, S2 xb h i → w.heap.size ≤ i) := Lib.hid (fun i hi => by rcases hi with rfl | rfl <;> omega)
    have HZW : Hid (w.heap.size ≤ zb) := Lib.hid (by omega)
    have HPE : Hid (psR ⟨AR.zero p, [], 0, 0, b⟩ ((fl p).take 0) = ⟨AR.zero p, [], 0, 0, b⟩) := Lib.hid rfl
    have hlen : (fld p).length = (fl p).length := by rw [fld_fl, List.length_map]
    have HLEN := Lib.hid hlen
    clear e3 e34 hx4 hrf h3 hlen
    go_wp2_with (first | (with_reducible refine wpList_store_row rfl 26 (.tmp 8) (.tmp 20) rfl xb _ rfl rfl _ _ HXA.out HIp.out rfl HUp.out ?_) | fail)
    obtain ⟨w4, hw4⟩ : ∃ w4, (w3.alloc (.cells #[.int .i64 0, .int .i64 0, .int .i64 0, .int .i64 0, .int .i64 0, .int .i64 0, .int .i64 0, .int .i64 0, .int .i64 0, .string ⟨#[]⟩, .string ⟨#[]⟩, .slice none 0 0] 26)).setRow xb (AR.zero p).cs = w4 := ⟨_, rfl⟩
    rw [hw4] at HX0 E4 ⊢
    clear HXA hw3 hw4
    have hfl4 := (fl_le p).1
    go_loopw [9] (fun iv wr => ∃ j : Nat, j ≤ (fl p).length ∧ iv = .int .i64 (j : Int) ∧ ((∃ A n c, RxC wr xb h zb (((psR ⟨AR.zero p, [], 0, 0, b⟩ ((fl p).take j)).a.wd A n c).cs) 0 (psR ⟨AR.zero p, [], 0, 0, b⟩ ((fl p).take j)).l A n c (psR ⟨AR.zero p, [], 0, 0, b⟩ ((fl p).take j)).d) ∧ (psR ⟨AR.zero p, [], 0, 0, b⟩ ((fl p).take j)).e = 0 ∧ (psR ⟨AR.zero p, [], 0, 0, b⟩ ((fl p).take j)).k = 0) ∧ OnP (S2 xb h) w4 wr) (fun iv _ => (fl p).length - (intOf iv).toNat)
    case atStart => exact ⟨0, by omega, rfl, ⟨⟨none, 0, 0, HX0.out⟩, rfl, rfl⟩, OnP.refl _ _⟩
    case round =>
      obtain ⟨j, hj, rfl, ⟨⟨A1, n1, c1, hx⟩, he0, hk0⟩, on⟩ := hrel
      have ON := Lib.hid on
      clear on
      by_cases hjl : j < (fl p).length
      · obtain ⟨x, hx0⟩ : ∃ x, (fl p)[j]? = some x := ⟨_, List.getElem?_eq_getElem hjl⟩
        have h8 : x ≤ 8 := (fl_le p).2 x (List.mem_of_getElem? hx0)
        have hidx : ∀ hp, (ByteArray.mk (fld p).toArray)[j]'hp = ltr x := fun hp => by
          have e1 : (fld p)[j]? = some (ltr x) := by rw [fld_fl, List.getElem?_map, hx0]; rfl
          have e2 : j < (fld p).length := (List.getElem?_eq_some_iff.1 e1).1
          exact (List.getElem?_eq_some_iff.1 e1).2
        have hjf : j < (fld p).length := by rw [HLEN.out]; exact hjl
        have HNX : Hid (psR ⟨AR.zero p, [], 0, 0, b⟩ ((fl p).take (j + 1)) = stR (psR ⟨AR.zero p, [], 0, 0, b⟩ ((fl p).take j)) x) := Lib.hid (by
          have hg : (fl p)[j] = x := (List.getElem?_eq_some_iff.1 hx0).2
          unfold psR
          rw [List.take_succ_eq_append_getElem hjl, hg, List.foldl_append]
          rfl)
        have HPL := Lib.hid (rd_place p b j x hx0)
        have HER := Lib.hid (fun e => rd_err p b j x e hx0)
        obtain ⟨s, hs⟩ : ∃ s, psR ⟨AR.zero p, [], 0, 0, b⟩ ((fl p).take j) = s := ⟨_, rfl⟩
        rw [hs] at hx he0 hk0 HNX HPL HER
        have HX := Lib.hid hx
        have HK := Lib.hid hk0
        have HEE := Lib.hid he0
        clear hx hk0 he0 hs hx0
        have x9 : x = 0 ∨ x = 1 ∨ x = 2 ∨ x = 3 ∨ x = 4 ∨ x = 5 ∨ x = 6 ∨ x = 7 ∨ x = 8 := by omega
        clear h8
        rcases x9 with rfl | rfl | rfl | rfl | rfl | rfl | rfl | rfl | rfl
        · have hidx' : ∀ hp, (ByteArray.mk (fld p).toArray)[j]'hp = 104 := hidx
          clear hidx
          have hwr : wrap64 (u4N (s.l)) = u4N (s.l) := by have := u4N_bound (s.l); unfold W32 at this; unfold wrap64; omega
          have hwr2 : wrap64 (u4N (u4L s.l)) = u4N (u4L s.l) := by have := u4N_bound (u4L s.l); unfold W32 at this; unfold wrap64; omega
          go_wp2_with fail
          refine (ru32_all h _ _ _ HX.out.rd).mono ?_
          rintro y wq ⟨rfl, hr, ho⟩
          have H2 := HX.out.read hr ho
          obtain ⟨o2, x2⟩ : ∃ o, wq.cell? ⟨xb, 5, none⟩ = some o := ⟨_, (cell_of_row wq xb 5 _ _ _ H2.fr).trans rfl⟩
          have f2 := blk_freeC H2.fr 5
          have H3 := Lib.hid (H2.set 5 (.int .i64 (u4N s.l)) (fun x hx => by injection hx with h1; cases h1))
          obtain ⟨w5, hw5⟩ : ∃ w5, wq.setCell ⟨xb, 5, none⟩ (.int .i64 (u4N s.l)) = w5 := ⟨_, rfl⟩
          rw [hw5] at H3
          have O5 : Hid (OnP (S2 xb h) wr w5) := Lib.hid (by rw [← hw5]; exact OnP.trans (OnP.of_on2 (S := S2 xb h) (onl_on2 ho) (.inr rfl) (.inr rfl)) (OnP.of_on2 (S := S2 xb h) (On2.set wq ⟨xb, 5, none⟩ (.int .i64 (u4N s.l)) (.inl rfl)) (.inl rfl) (.inl rfl)))
          clear hr ho H2
          go_wp2_with fail
          refine (ru32_all h _ _ _ H3.out.rd).mono ?_
          rintro y wq2 ⟨rfl, hr, ho⟩
          have H2 := H3.out.read hr ho
          obtain ⟨o3, x3⟩ : ∃ o, wq2.cell? ⟨xb, 6, none⟩ = some o := ⟨_, (cell_of_row wq2 xb 6 _ _ _ H2.fr).trans rfl⟩
          have f3 := blk_freeC H2.fr 6
          have H4 := Lib.hid (H2.set 6 (.int .i64 (u4N (u4L s.l))) (fun x hx => by injection hx with h1; cases h1))
          obtain ⟨w6, hw6⟩ : ∃ w6, wq2.setCell ⟨xb, 6, none⟩ (.int .i64 (u4N (u4L s.l))) = w6 := ⟨_, rfl⟩
          rw [hw6] at H4
          have O6 : Hid (OnP (S2 xb h) w5 w6) := Lib.hid (by rw [← hw6]; exact OnP.trans (OnP.of_on2 (S := S2 xb h) (onl_on2 ho) (.inr rfl) (.inr rfl)) (OnP.of_on2 (S := S2 xb h) (On2.set wq2 ⟨xb, 6, none⟩ (.int .i64 (u4N (u4L s.l))) (.inl rfl)) (.inl rfl) (.inl rfl)))
          clear hr ho H2
          obtain ⟨er, her⟩ : ∃ er, u4E (u4E 0 s.l) (u4L s.l) = er := ⟨_, rfl⟩
          have HSE : Hid ((stR s 0).e = er) := Lib.hid (by rw [← her]; show _ = _; simp only [stR, HEE.out])
          have HSK : Hid ((stR s 0).k = 0) := Lib.hid (HK.out)
          have HX6 : Hid (RxC w6 xb h zb (((stR s 0).a.wd A1 n1 c1).cs) er (stR s 0).l A1 n1 c1 (stR s 0).d) := Lib.hid (by rw [← her]; exact H4.out)
          have ON6 := Lib.hid (ON.out.trans (O5.out.trans O6.out))
          have HX6Z := Lib.hid HX6.out.zr
          have ce := HX6.out.rd.err.1
          have HS0 : Hid ((fun v : World => v.cell? ⟨h, 2, none⟩ = some (.int .i64 er)) w6.drew) := Lib.hid ce
          have HNIL : Hid (¬ er = 0 → (stR s 0).l = []) := Lib.hid (fun hne => by
            obtain ⟨_, _, _, _, _, _, _, _, _, hq⟩ := HX6.out.rd
            exact hq hne)
          by_cases hz9 : er = 0
          · subst hz9
            go_wp2_with fail
            go_roundw
            case rel => exact ⟨j + 1, by omega, by go_num, by rw [HNX.out]; exact ⟨⟨_, _, _, HX6.out⟩, HSE.out, HSK.out⟩, ON6.out⟩
            case measure => simp [intOf]; omega
          · have HKK : Hid (rdK p b = er) := Lib.hid (HER.out er HSE.out hz9 (HNIL.out hz9) HSK.out)
            have HA : Hid (rdA p b = AR.zero 0 ∧ rdD p b = []) := Lib.hid (rd_zero p b (by rw [HKK.out]; exact hz9))
            have HG : Hid ((w6.drew.setRow zb (AR.zero 0).cs).heap[zb]? = _) := Lib.hid (setRow_heap w6.drew zb _ (AR.zero 0).cs _ _ HX6Z.out)
            have EG : Hid (Ext w (w6.drew.setRow zb (AR.zero 0).cs)) := Lib.hid (below_setRow (ON6.out.ext E4.out HSZ.out).drew HZW.out (AR.zero 0).cs)
            have HZ7d : Hid (w6.drew.heap[zb]? = _) := Lib.hid HX6Z.out
            have HNE := Lib.hid HX6.out.n3
            have HC8 : Hid ((w6.drew.setRow zb (AR.zero 0).cs).cell? ⟨h, 2, none⟩ = some (.int .i64 er)) := Lib.hid ((World.cell?_of_block (setRow_other _ _ _ _ (fun e => HNE.out e.symm))).trans HS0.out)
            go_wp2_with fail
            refine wp_region_plS (fun v : World => v.cell? ⟨h, 2, none⟩ = some (.int .i64 er)) (.free 0 (.free 1 (.free 2 (.free 3 (.free 4 (.one 5 (.free 6 .nil))))))) (by kernel_rfl) (by kernel_rfl) (by kernel_rfl) (by kernel_rfl) ?_
            refine plS_val (v := .agg (AR.zero 0).cs) rfl rfl HS0.out (fun w' hw' => exec_build _ _ rfl _ (by kernel_rfl)) ?_; simp only [Act.put, List.setIfInBounds_toArray, List.set_cons_zero, List.set_cons_succ]
            refine plS_val (v := ?_) rfl rfl HS0.out (fun w' hw' => ?_) ?_; rotate_left; (· skip; go_simp; try with_reducible rfl); simp only [Act.put, List.setIfInBounds_toArray, List.set_cons_zero, List.set_cons_succ]
            refine plS_val (v := ?_) rfl rfl HS0.out (fun w' hw' => ?_) ?_; rotate_left; (· skip; go_simp; try with_reducible rfl); simp only [Act.put, List.setIfInBounds_toArray, List.set_cons_zero, List.set_cons_succ]
            refine plS_val (v := ?_) rfl rfl HS0.out (fun w' hw' => ?_) ?_; rotate_left; (· skip; go_simp; try with_reducible rfl); simp only [Act.put, List.setIfInBounds_toArray, List.set_cons_zero, List.set_cons_succ]
            refine plS_val (v := .int .i64 er) rfl rfl HS0.out (fun w' hw' => by have q : w'.cell? ⟨h, 2, none⟩ = some (.int .i64 er) := hw'; go_simp; try rfl) ?_; simp only [Act.put, List.setIfInBounds_toArray, List.set_cons_zero, List.set_cons_succ]
            refine plS_void (w' := w6.drew.setRow zb (AR.zero 0).cs) rfl rfl (exec_storeRow 26 (.tmp 4) (.tmp 102) rfl zb _ rfl rfl 26 _ HZ7d.out HIz.out rfl HUz.out) HC8.out ?_
            refine plS_val (v := ?_) rfl rfl HC8.out (fun w' hw' => ?_) ?_; rotate_left; (· skip; go_simp; try with_reducible rfl); simp only [Act.put, List.setIfInBounds_toArray, List.set_cons_zero, List.set_cons_succ]
            refine plS_done ?_
            go_wp2_with fail
            refine bodyPost_ret (results_cell_tmp2 rfl _ _ zb _ _ (0, 0) _ rfl HG.out Try.underlying26 rfl HIz.out) rfl ?_
            exact ⟨none, 0, 0, by rw [HA.out.1, HKK.out]; rfl, by rw [HA.out.2]; exact Sees.nil _, EG.out⟩
        · have hidx' : ∀ hp, (ByteArray.mk (fld p).toArray)[j]'hp = 105 := hidx
          clear hidx
          have hwr : wrap64 (u4N (s.l)) = u4N (s.l) := by have := u4N_bound (s.l); unfold W32 at this; unfold wrap64; omega
          have hwr2 : wrap64 (u4N (u4L s.l)) = u4N (u4L s.l) := by have := u4N_bound (u4L s.l); unfold W32 at this; unfold wrap64; omega
          go_wp2_with fail
          refine (ru32_all h _ _ _ HX.out.rd).mono ?_
          rintro y wq ⟨rfl, hr, ho⟩
          have H2 := HX.out.read hr ho
          obtain ⟨o2, x2⟩ : ∃ o, wq.cell? ⟨xb, 7, none⟩ = some o := ⟨_, (cell_of_row wq xb 7 _ _ _ H2.fr).trans rfl⟩
          have f2 := blk_freeC H2.fr 7
          have H3 := Lib.hid (H2.set 7 (.int .i64 (u4N s.l)) (fun x hx => by injection hx with h1; cases h1))
          obtain ⟨w5, hw5⟩ : ∃ w5, wq.setCell ⟨xb, 7, none⟩ (.int .i64 (u4N s.l)) = w5 := ⟨_, rfl⟩
          rw [hw5] at H3
          have O5 : Hid (OnP (S2 xb h) wr w5) := Lib.hid (by rw [← hw5]; exact OnP.trans (OnP.of_on2 (S := S2 xb h) (onl_on2 ho) (.inr rfl) (.inr rfl)) (OnP.of_on2 (S := S2 xb h) (On2.set wq ⟨xb, 7, none⟩ (.int .i64 (u4N s.l)) (.inl rfl)) (.inl rfl) (.inl rfl)))
          clear hr ho H2
          go_wp2_with fail
          refine (ru32_all h _ _ _ H3.out.rd).mono ?_
          rintro y wq2 ⟨rfl, hr, ho⟩
          have H2 := H3.out.read hr ho
          obtain ⟨o3, x3⟩ : ∃ o, wq2.cell? ⟨xb, 8, none⟩ = some o := ⟨_, (cell_of_row wq2 xb 8 _ _ _ H2.fr).trans rfl⟩
          have f3 := blk_freeC H2.fr 8
          have H4 := Lib.hid (H2.set 8 (.int .i64 (u4N (u4L s.l))) (fun x hx => by injection hx with h1; cases h1))
          obtain ⟨w6, hw6⟩ : ∃ w6, wq2.setCell ⟨xb, 8, none⟩ (.int .i64 (u4N (u4L s.l))) = w6 := ⟨_, rfl⟩
          rw [hw6] at H4
          have O6 : Hid (OnP (S2 xb h) w5 w6) := Lib.hid (by rw [← hw6]; exact OnP.trans (OnP.of_on2 (S := S2 xb h) (onl_on2 ho) (.inr rfl) (.inr rfl)) (OnP.of_on2 (S := S2 xb h) (On2.set wq2 ⟨xb, 8, none⟩ (.int .i64 (u4N (u4L s.l))) (.inl rfl)) (.inl rfl) (.inl rfl)))
          clear hr ho H2
          obtain ⟨er, her⟩ : ∃ er, u4E (u4E 0 s.l) (u4L s.l) = er := ⟨_, rfl⟩
          have HSE : Hid ((stR s 1).e = er) := Lib.hid (by rw [← her]; show _ = _; simp only [stR, HEE.out])
          have HSK : Hid ((stR s 1).k = 0) := Lib.hid (HK.out)
          have HX6 : Hid (RxC w6 xb h zb (((stR s 1).a.wd A1 n1 c1).cs) er (stR s 1).l A1 n1 c1 (stR s 1).d) := Lib.hid (by rw [← her]; exact H4.out)
          have ON6 := Lib.hid (ON.out.trans (O5.out.trans O6.out))
          have HX6Z := Lib.hid HX6.out.zr
          have ce := HX6.out.rd.err.1
          have HS0 : Hid ((fun v : World => v.cell? ⟨h, 2, none⟩ = some (.int .i64 er)) w6.drew) := Lib.hid ce
          have HNIL : Hid (¬ er = 0 → (stR s 1).l = []) := Lib.hid (fun hne => by
            obtain ⟨_, _, _, _, _, _, _, _, _, hq⟩ := HX6.out.rd
            exact hq hne)
          by_cases hz9 : er = 0
          · subst hz9
            go_wp2_with fail
            go_roundw
            case rel => exact ⟨j + 1, by omega, by go_num, by rw [HNX.out]; exact ⟨⟨_, _, _, HX6.out⟩, HSE.out, HSK.out⟩, ON6.out⟩
            case measure => simp [intOf]; omega
          · have HKK : Hid (rdK p b = er) := Lib.hid (HER.out er HSE.out hz9 (HNIL.out hz9) HSK.out)
            have HA : Hid (rdA p b = AR.zero 0 ∧ rdD p b = []) := Lib.hid (rd_zero p b (by rw [HKK.out]; exact hz9))
            have HG : Hid ((w6.drew.setRow zb (AR.zero 0).cs).heap[zb]? = _) := Lib.hid (setRow_heap w6.drew zb _ (AR.zero 0).cs _ _ HX6Z.out)
            have EG : Hid (Ext w (w6.drew.setRow zb (AR.zero 0).cs)) := Lib.hid (below_setRow (ON6.out.ext E4.out HSZ.out).drew HZW.out (AR.zero 0).cs)
            have HZ7d : Hid (w6.drew.heap[zb]? = _) := Lib.hid HX6Z.out
            have HNE := Lib.hid HX6.out.n3
            have HC8 : Hid ((w6.drew.setRow zb (AR.zero 0).cs).cell? ⟨h, 2, none⟩ = some (.int .i64 er)) := Lib.hid ((World.cell?_of_block (setRow_other _ _ _ _ (fun e => HNE.out e.symm))).trans HS0.out)
            go_wp2_with fail
            refine wp_region_plS (fun v : World => v.cell? ⟨h, 2, none⟩ = some (.int .i64 er)) (.free 0 (.free 1 (.free 2 (.free 3 (.free 4 (.one 5 (.free 6 .nil))))))) (by kernel_rfl) (by kernel_rfl) (by kernel_rfl) (by kernel_rfl) ?_
            refine plS_val (v := .agg (AR.zero 0).cs) rfl rfl HS0.out (fun w' hw' => exec_build _ _ rfl _ (by kernel_rfl)) ?_; simp only [Act.put, List.setIfInBounds_toArray, List.set_cons_zero, List.set_cons_succ]
            refine plS_val (v := ?_) rfl rfl HS0.out (fun w' hw' => ?_) ?_; rotate_left; (· skip; go_simp; try with_reducible rfl); simp only [Act.put, List.setIfInBounds_toArray, List.set_cons_zero, List.set_cons_succ]
            refine plS_val (v := ?_) rfl rfl HS0.out (fun w' hw' => ?_) ?_; rotate_left; (· skip; go_simp; try with_reducible rfl); simp only [Act.put, List.setIfInBounds_toArray, List.set_cons_zero, List.set_cons_succ]
            refine plS_val (v := ?_) rfl rfl HS0.out (fun w' hw' => ?_) ?_; rotate_left; (· skip; go_simp; try with_reducible rfl); simp only [Act.put, List.setIfInBounds_toArray, List.set_cons_zero, List.set_cons_succ]
            refine plS_val (v := .int .i64 er) rfl rfl HS0.out (fun w' hw' => by have q : w'.cell? ⟨h, 2, none⟩ = some (.int .i64 er) := hw'; go_simp; try rfl) ?_; simp only [Act.put, List.setIfInBounds_toArray, List.set_cons_zero, List.set_cons_succ]
            refine plS_void (w' := w6.drew.setRow zb (AR.zero 0).cs) rfl rfl (exec_storeRow 26 (.tmp 4) (.tmp 102) rfl zb _ rfl rfl 26 _ HZ7d.out HIz.out rfl HUz.out) HC8.out ?_
            refine plS_val (v := ?_) rfl rfl HC8.out (fun w' hw' => ?_) ?_; rotate_left; (· skip; go_simp; try with_reducible rfl); simp only [Act.put, List.setIfInBounds_toArray, List.set_cons_zero, List.set_cons_succ]
            refine plS_done ?_
            go_wp2_with fail
            refine bodyPost_ret (results_cell_tmp2 rfl _ _ zb _ _ (0, 0) _ rfl HG.out Try.underlying26 rfl HIz.out) rfl ?_
            exact ⟨none, 0, 0, by rw [HA.out.1, HKK.out]; rfl, by rw [HA.out.2]; exact Sees.nil _, EG.out⟩
        · have hidx' : ∀ hp, (ByteArray.mk (fld p).toArray)[j]'hp = 110 := hidx
          clear hidx
          go_wp2_with fail
          refine (rtext_all h _ 64 _ _ HX.out.rd).mono ?_
          rintro y wq ⟨A3, c3, rfl, see, hr, ho⟩
          have xs := str_of see
          have H2 := HX.out.read hr ho
          obtain ⟨o2, x2⟩ : ∃ o, wq.cell? ⟨xb, 9, none⟩ = some o := ⟨_, (cell_of_row wq xb 9 _ _ _ H2.fr).trans rfl⟩
          have f2 := blk_freeC H2.fr 9
          have H3 := Lib.hid (H2.set 9 (.string ⟨(txN 64 s.l).toArray⟩) (fun x hx => by cases hx))
          obtain ⟨w6, hw6⟩ : ∃ w6, wq.setCell ⟨xb, 9, none⟩ (.string ⟨(txN 64 s.l).toArray⟩) = w6 := ⟨_, rfl⟩
          rw [hw6] at H3
          have O5 : Hid (OnP (S2 xb h) wr w6) := Lib.hid (by rw [← hw6]; exact OnP.trans (OnP.of_on2 (S := S2 xb h) (onl_on2 ho) (.inr rfl) (.inr rfl)) (OnP.of_on2 (S := S2 xb h) (On2.set wq ⟨xb, 9, none⟩ (.string ⟨(txN 64 s.l).toArray⟩) (.inl rfl)) (.inl rfl) (.inl rfl)))
          clear hr ho H2
          obtain ⟨er, her⟩ : ∃ er, txE 0 64 s.l = er := ⟨_, rfl⟩
          have HSE : Hid ((stR s 2).e = er) := Lib.hid (by rw [← her]; show _ = _; simp only [stR, HEE.out])
          have HSK : Hid ((stR s 2).k = 0) := Lib.hid (HK.out)
          have HX6 : Hid (RxC w6 xb h zb (((stR s 2).a.wd A1 n1 c1).cs) er (stR s 2).l A1 n1 c1 (stR s 2).d) := Lib.hid (by rw [← her]; exact H3.out)
          have ON6 := Lib.hid (ON.out.trans O5.out)
          have HX6Z := Lib.hid HX6.out.zr
          have ce := HX6.out.rd.err.1
          have HS0 : Hid ((fun v : World => v.cell? ⟨h, 2, none⟩ = some (.int .i64 er)) w6.drew) := Lib.hid ce
          have HNIL : Hid (¬ er = 0 → (stR s 2).l = []) := Lib.hid (fun hne => by
            obtain ⟨_, _, _, _, _, _, _, _, _, hq⟩ := HX6.out.rd
            exact hq hne)
          by_cases hz9 : er = 0
          · subst hz9
            go_wp2_with fail
            go_roundw
            case rel => exact ⟨j + 1, by omega, by go_num, by rw [HNX.out]; exact ⟨⟨_, _, _, HX6.out⟩, HSE.out, HSK.out⟩, ON6.out⟩
            case measure => simp [intOf]; omega
          · have HKK : Hid (rdK p b = er) := Lib.hid (HER.out er HSE.out hz9 (HNIL.out hz9) HSK.out)
            have HA : Hid (rdA p b = AR.zero 0 ∧ rdD p b = []) := Lib.hid (rd_zero p b (by rw [HKK.out]; exact hz9))
            have HG : Hid ((w6.drew.setRow zb (AR.zero 0).cs).heap[zb]? = _) := Lib.hid (setRow_heap w6.drew zb _ (AR.zero 0).cs _ _ HX6Z.out)
            have EG : Hid (Ext w (w6.drew.setRow zb (AR.zero 0).cs)) := Lib.hid (below_setRow (ON6.out.ext E4.out HSZ.out).drew HZW.out (AR.zero 0).cs)
            have HZ7d : Hid (w6.drew.heap[zb]? = _) := Lib.hid HX6Z.out
            have HNE := Lib.hid HX6.out.n3
            have HC8 : Hid ((w6.drew.setRow zb (AR.zero 0).cs).cell? ⟨h, 2, none⟩ = some (.int .i64 er)) := Lib.hid ((World.cell?_of_block (setRow_other _ _ _ _ (fun e => HNE.out e.symm))).trans HS0.out)
            go_wp2_with fail
            refine wp_region_plS (fun v : World => v.cell? ⟨h, 2, none⟩ = some (.int .i64 er)) (.free 0 (.free 1 (.free 2 (.free 3 (.free 4 (.one 5 (.free 6 .nil))))))) (by kernel_rfl) (by kernel_rfl) (by kernel_rfl) (by kernel_rfl) ?_
            refine plS_val (v := .agg (AR.zero 0).cs) rfl rfl HS0.out (fun w' hw' => exec_build _ _ rfl _ (by kernel_rfl)) ?_; simp only [Act.put, List.setIfInBounds_toArray, List.set_cons_zero, List.set_cons_succ]
            refine plS_val (v := ?_) rfl rfl HS0.out (fun w' hw' => ?_) ?_; rotate_left; (· skip; go_simp; try with_reducible rfl); simp only [Act.put, List.setIfInBounds_toArray, List.set_cons_zero, List.set_cons_succ]
            refine plS_val (v := ?_) rfl rfl HS0.out (fun w' hw' => ?_) ?_; rotate_left; (· skip; go_simp; try with_reducible rfl); simp only [Act.put, List.setIfInBounds_toArray, List.set_cons_zero, List.set_cons_succ]
            refine plS_val (v := ?_) rfl rfl HS0.out (fun w' hw' => ?_) ?_; rotate_left; (· skip; go_simp; try with_reducible rfl); simp only [Act.put, List.setIfInBounds_toArray, List.set_cons_zero, List.set_cons_succ]
            refine plS_val (v := .int .i64 er) rfl rfl HS0.out (fun w' hw' => by have q : w'.cell? ⟨h, 2, none⟩ = some (.int .i64 er) := hw'; go_simp; try rfl) ?_; simp only [Act.put, List.setIfInBounds_toArray, List.set_cons_zero, List.set_cons_succ]
            refine plS_void (w' := w6.drew.setRow zb (AR.zero 0).cs) rfl rfl (exec_storeRow 26 (.tmp 4) (.tmp 102) rfl zb _ rfl rfl 26 _ HZ7d.out HIz.out rfl HUz.out) HC8.out ?_
            refine plS_val (v := ?_) rfl rfl HC8.out (fun w' hw' => ?_) ?_; rotate_left; (· skip; go_simp; try with_reducible rfl); simp only [Act.put, List.setIfInBounds_toArray, List.set_cons_zero, List.set_cons_succ]
            refine plS_done ?_
            go_wp2_with fail
            refine bodyPost_ret (results_cell_tmp2 rfl _ _ zb _ _ (0, 0) _ rfl HG.out Try.underlying26 rfl HIz.out) rfl ?_
            exact ⟨none, 0, 0, by rw [HA.out.1, HKK.out]; rfl, by rw [HA.out.2]; exact Sees.nil _, EG.out⟩
        · have hidx' : ∀ hp, (ByteArray.mk (fld p).toArray)[j]'hp = 106 := hidx
          clear hidx
          go_wp2_with fail
          refine (rtext_all h _ 64 _ _ HX.out.rd).mono ?_
          rintro y wq ⟨A3, c3, rfl, see, hr, ho⟩
          have xs := str_of see
          have H2 := HX.out.read hr ho
          obtain ⟨o2, x2⟩ : ∃ o, wq.cell? ⟨xb, 10, none⟩ = some o := ⟨_, (cell_of_row wq xb 10 _ _ _ H2.fr).trans rfl⟩
          have f2 := blk_freeC H2.fr 10
          have H3 := Lib.hid (H2.set 10 (.string ⟨(txN 64 s.l).toArray⟩) (fun x hx => by cases hx))
          obtain ⟨w6, hw6⟩ : ∃ w6, wq.setCell ⟨xb, 10, none⟩ (.string ⟨(txN 64 s.l).toArray⟩) = w6 := ⟨_, rfl⟩
          rw [hw6] at H3
          have O5 : Hid (OnP (S2 xb h) wr w6) := Lib.hid (by rw [← hw6]; exact OnP.trans (OnP.of_on2 (S := S2 xb h) (onl_on2 ho) (.inr rfl) (.inr rfl)) (OnP.of_on2 (S := S2 xb h) (On2.set wq ⟨xb, 10, none⟩ (.string ⟨(txN 64 s.l).toArray⟩) (.inl rfl)) (.inl rfl) (.inl rfl)))
          clear hr ho H2
          obtain ⟨er, her⟩ : ∃ er, txE 0 64 s.l = er := ⟨_, rfl⟩
          have HSE : Hid ((stR s 3).e = er) := Lib.hid (by rw [← her]; show _ = _; simp only [stR, HEE.out])
          have HSK : Hid ((stR s 3).k = 0) := Lib.hid (HK.out)
          have HX6 : Hid (RxC w6 xb h zb (((stR s 3).a.wd A1 n1 c1).cs) er (stR s 3).l A1 n1 c1 (stR s 3).d) := Lib.hid (by rw [← her]; exact H3.out)
          have ON6 := Lib.hid (ON.out.trans O5.out)
          have HX6Z := Lib.hid HX6.out.zr
          have ce := HX6.out.rd.err.1
          have HS0 : Hid ((fun v : World => v.cell? ⟨h, 2, none⟩ = some (.int .i64 er)) w6.drew) := Lib.hid ce
          have HNIL : Hid (¬ er = 0 → (stR s 3).l = []) := Lib.hid (fun hne => by
            obtain ⟨_, _, _, _, _, _, _, _, _, hq⟩ := HX6.out.rd
            exact hq hne)
          by_cases hz9 : er = 0
          · subst hz9
            go_wp2_with fail
            go_roundw
            case rel => exact ⟨j + 1, by omega, by go_num, by rw [HNX.out]; exact ⟨⟨_, _, _, HX6.out⟩, HSE.out, HSK.out⟩, ON6.out⟩
            case measure => simp [intOf]; omega
          · have HKK : Hid (rdK p b = er) := Lib.hid (HER.out er HSE.out hz9 (HNIL.out hz9) HSK.out)
            have HA : Hid (rdA p b = AR.zero 0 ∧ rdD p b = []) := Lib.hid (rd_zero p b (by rw [HKK.out]; exact hz9))
            have HG : Hid ((w6.drew.setRow zb (AR.zero 0).cs).heap[zb]? = _) := Lib.hid (setRow_heap w6.drew zb _ (AR.zero 0).cs _ _ HX6Z.out)
            have EG : Hid (Ext w (w6.drew.setRow zb (AR.zero 0).cs)) := Lib.hid (below_setRow (ON6.out.ext E4.out HSZ.out).drew HZW.out (AR.zero 0).cs)
            have HZ7d : Hid (w6.drew.heap[zb]? = _) := Lib.hid HX6Z.out
            have HNE := Lib.hid HX6.out.n3
            have HC8 : Hid ((w6.drew.setRow zb (AR.zero 0).cs).cell? ⟨h, 2, none⟩ = some (.int .i64 er)) := Lib.hid ((World.cell?_of_block (setRow_other _ _ _ _ (fun e => HNE.out e.symm))).trans HS0.out)
            go_wp2_with fail
            refine wp_region_plS (fun v : World => v.cell? ⟨h, 2, none⟩ = some (.int .i64 er)) (.free 0 (.free 1 (.free 2 (.free 3 (.free 4 (.one 5 (.free 6 .nil))))))) (by kernel_rfl) (by kernel_rfl) (by kernel_rfl) (by kernel_rfl) ?_
            refine plS_val (v := .agg (AR.zero 0).cs) rfl rfl HS0.out (fun w' hw' => exec_build _ _ rfl _ (by kernel_rfl)) ?_; simp only [Act.put, List.setIfInBounds_toArray, List.set_cons_zero, List.set_cons_succ]
            refine plS_val (v := ?_) rfl rfl HS0.out (fun w' hw' => ?_) ?_; rotate_left; (· skip; go_simp; try with_reducible rfl); simp only [Act.put, List.setIfInBounds_toArray, List.set_cons_zero, List.set_cons_succ]
            refine plS_val (v := ?_) rfl rfl HS0.out (fun w' hw' => ?_) ?_; rotate_left; (· skip; go_simp; try with_reducible rfl); simp only [Act.put, List.setIfInBounds_toArray, List.set_cons_zero, List.set_cons_succ]
            refine plS_val (v := ?_) rfl rfl HS0.out (fun w' hw' => ?_) ?_; rotate_left; (· skip; go_simp; try with_reducible rfl); simp only [Act.put, List.setIfInBounds_toArray, List.set_cons_zero, List.set_cons_succ]
            refine plS_val (v := .int .i64 er) rfl rfl HS0.out (fun w' hw' => by have q : w'.cell? ⟨h, 2, none⟩ = some (.int .i64 er) := hw'; go_simp; try rfl) ?_; simp only [Act.put, List.setIfInBounds_toArray, List.set_cons_zero, List.set_cons_succ]
            refine plS_void (w' := w6.drew.setRow zb (AR.zero 0).cs) rfl rfl (exec_storeRow 26 (.tmp 4) (.tmp 102) rfl zb _ rfl rfl 26 _ HZ7d.out HIz.out rfl HUz.out) HC8.out ?_
            refine plS_val (v := ?_) rfl rfl HC8.out (fun w' hw' => ?_) ?_; rotate_left; (· skip; go_simp; try with_reducible rfl); simp only [Act.put, List.setIfInBounds_toArray, List.set_cons_zero, List.set_cons_succ]
            refine plS_done ?_
            go_wp2_with fail
            refine bodyPost_ret (results_cell_tmp2 rfl _ _ zb _ _ (0, 0) _ rfl HG.out Try.underlying26 rfl HIz.out) rfl ?_
            exact ⟨none, 0, 0, by rw [HA.out.1, HKK.out]; rfl, by rw [HA.out.2]; exact Sees.nil _, EG.out⟩
        · have hidx' : ∀ hp, (ByteArray.mk (fld p).toArray)[j]'hp = 111 := hidx
          clear hidx
          go_wp2_with fail
          refine (ru64_all h _ _ _ HX.out.rd).mono ?_
          rintro y wq ⟨rfl, hr, ho⟩
          obtain ⟨nv, hnv⟩ : ∃ nv, u8N s.l = nv := ⟨_, rfl⟩
          rw [hnv]
          have HNV := Lib.hid hnv
          clear hnv
          by_cases hbig : (4611686018427387904 : Int) < nv
          · have HKK : Hid (rdK p b = 4) := Lib.hid (HPL.out (by show plK s.k (u8N s.l) = 4; rw [HNV.out, HK.out]; simp [plK, kp, hbig]))
            have HA : Hid (rdA p b = AR.zero 0 ∧ rdD p b = []) := Lib.hid (rd_zero p b (by rw [HKK.out]; omega))
            have H2 := HX.out.read hr ho
            have HZ6 := Lib.hid H2.zr
            have ON6 := Lib.hid (ON.out.trans (OnP.of_on2 (S := S2 xb h) (onl_on2 ho) (.inr rfl) (.inr rfl)))
            have HG := Lib.hid (setRow_heap wq zb _ (AR.zero 0).cs _ _ HZ6.out)
            have EG : Hid (Ext w (wq.setRow zb (AR.zero 0).cs)) := Lib.hid (below_setRow (ON6.out.ext E4.out HSZ.out) HZW.out (AR.zero 0).cs)
            clear hr ho H2
            go_wp2_with (first | (with_reducible refine wpList_store_row rfl 26 (.tmp 4) (.tmp 34) rfl zb _ rfl rfl _ _ HZ6.out HIz.out rfl HUz.out ?_) | fail)
            refine bodyPost_ret (results_cell_tmp2 rfl _ _ zb _ _ (0, 0) _ rfl HG.out Try.underlying26 rfl HIz.out) rfl ?_
            exact ⟨none, 0, 0, by rw [HA.out.1, HKK.out]; rfl, by rw [HA.out.2]; exact Sees.nil _, EG.out⟩
          · have H2 := HX.out.read hr ho
            obtain ⟨o2, x2⟩ : ∃ o, wq.cell? ⟨xb, 1, none⟩ = some o := ⟨_, (cell_of_row wq xb 1 _ _ _ H2.fr).trans rfl⟩
            have f2 := blk_freeC H2.fr 1
            have H3 := Lib.hid (H2.set 1 (.int .i64 (ofU nv)) (fun x hx => by injection hx with h1; cases h1))
            obtain ⟨w6, hw6⟩ : ∃ w6, wq.setCell ⟨xb, 1, none⟩ (.int .i64 (ofU nv)) = w6 := ⟨_, rfl⟩
            rw [hw6] at H3
            have O5 : Hid (OnP (S2 xb h) wr w6) := Lib.hid (by rw [← hw6]; exact OnP.trans (OnP.of_on2 (S := S2 xb h) (onl_on2 ho) (.inr rfl) (.inr rfl)) (OnP.of_on2 (S := S2 xb h) (On2.set wq ⟨xb, 1, none⟩ (.int .i64 (ofU nv)) (.inl rfl)) (.inl rfl) (.inl rfl)))
            clear hr ho H2
            obtain ⟨er, her⟩ : ∃ er, u8E 0 s.l = er := ⟨_, rfl⟩
            have HSE : Hid ((stR s 4).e = er) := Lib.hid (by rw [← her]; show _ = _; simp only [stR, HEE.out])
            have HSK : Hid ((stR s 4).k = 0) := Lib.hid (by show plK s.k (u8N s.l) = 0; rw [HNV.out, HK.out]; simp [plK, hbig])
            have HX6 : Hid (RxC w6 xb h zb (((stR s 4).a.wd A1 n1 c1).cs) er (stR s 4).l A1 n1 c1 (stR s 4).d) := Lib.hid (by rw [← her]; have h9 := H3.out; rw [← HNV.out] at h9; exact h9)
            have ON6 := Lib.hid (ON.out.trans O5.out)
            have hof : wrap64 nv = ofU nv := rfl
            have HX6Z := Lib.hid HX6.out.zr
            have ce := HX6.out.rd.err.1
            have HS0 : Hid ((fun v : World => v.cell? ⟨h, 2, none⟩ = some (.int .i64 er)) w6.drew) := Lib.hid ce
            have HNIL : Hid (¬ er = 0 → (stR s 4).l = []) := Lib.hid (fun hne => by
              obtain ⟨_, _, _, _, _, _, _, _, _, hq⟩ := HX6.out.rd
              exact hq hne)
            by_cases hz9 : er = 0
            · subst hz9
              go_wp2_with fail
              go_roundw
              case rel => exact ⟨j + 1, by omega, by go_num, by rw [HNX.out]; exact ⟨⟨_, _, _, HX6.out⟩, HSE.out, HSK.out⟩, ON6.out⟩
              case measure => simp [intOf]; omega
            · have HKK : Hid (rdK p b = er) := Lib.hid (HER.out er HSE.out hz9 (HNIL.out hz9) HSK.out)
              have HA : Hid (rdA p b = AR.zero 0 ∧ rdD p b = []) := Lib.hid (rd_zero p b (by rw [HKK.out]; exact hz9))
              have HG : Hid ((w6.drew.setRow zb (AR.zero 0).cs).heap[zb]? = _) := Lib.hid (setRow_heap w6.drew zb _ (AR.zero 0).cs _ _ HX6Z.out)
              have EG : Hid (Ext w (w6.drew.setRow zb (AR.zero 0).cs)) := Lib.hid (below_setRow (ON6.out.ext E4.out HSZ.out).drew HZW.out (AR.zero 0).cs)
              have HZ7d : Hid (w6.drew.heap[zb]? = _) := Lib.hid HX6Z.out
              have HNE := Lib.hid HX6.out.n3
              have HC8 : Hid ((w6.drew.setRow zb (AR.zero 0).cs).cell? ⟨h, 2, none⟩ = some (.int .i64 er)) := Lib.hid ((World.cell?_of_block (setRow_other _ _ _ _ (fun e => HNE.out e.symm))).trans HS0.out)
              go_wp2_with fail
              refine wp_region_plS (fun v : World => v.cell? ⟨h, 2, none⟩ = some (.int .i64 er)) (.free 0 (.free 1 (.free 2 (.free 3 (.free 4 (.one 5 (.free 6 .nil))))))) (by kernel_rfl) (by kernel_rfl) (by kernel_rfl) (by kernel_rfl) ?_
              refine plS_val (v := .agg (AR.zero 0).cs) rfl rfl HS0.out (fun w' hw' => exec_build _ _ rfl _ (by kernel_rfl)) ?_; simp only [Act.put, List.setIfInBounds_toArray, List.set_cons_zero, List.set_cons_succ]
              refine plS_val (v := ?_) rfl rfl HS0.out (fun w' hw' => ?_) ?_; rotate_left; (· skip; go_simp; try with_reducible rfl); simp only [Act.put, List.setIfInBounds_toArray, List.set_cons_zero, List.set_cons_succ]
              refine plS_val (v := ?_) rfl rfl HS0.out (fun w' hw' => ?_) ?_; rotate_left; (· skip; go_simp; try with_reducible rfl); simp only [Act.put, List.setIfInBounds_toArray, List.set_cons_zero, List.set_cons_succ]
              refine plS_val (v := ?_) rfl rfl HS0.out (fun w' hw' => ?_) ?_; rotate_left; (· skip; go_simp; try with_reducible rfl); simp only [Act.put, List.setIfInBounds_toArray, List.set_cons_zero, List.set_cons_succ]
              refine plS_val (v := .int .i64 er) rfl rfl HS0.out (fun w' hw' => by have q : w'.cell? ⟨h, 2, none⟩ = some (.int .i64 er) := hw'; go_simp; try rfl) ?_; simp only [Act.put, List.setIfInBounds_toArray, List.set_cons_zero, List.set_cons_succ]
              refine plS_void (w' := w6.drew.setRow zb (AR.zero 0).cs) rfl rfl (exec_storeRow 26 (.tmp 4) (.tmp 102) rfl zb _ rfl rfl 26 _ HZ7d.out HIz.out rfl HUz.out) HC8.out ?_
              refine plS_val (v := ?_) rfl rfl HC8.out (fun w' hw' => ?_) ?_; rotate_left; (· skip; go_simp; try with_reducible rfl); simp only [Act.put, List.setIfInBounds_toArray, List.set_cons_zero, List.set_cons_succ]
              refine plS_done ?_
              go_wp2_with fail
              refine bodyPost_ret (results_cell_tmp2 rfl _ _ zb _ _ (0, 0) _ rfl HG.out Try.underlying26 rfl HIz.out) rfl ?_
              exact ⟨none, 0, 0, by rw [HA.out.1, HKK.out]; rfl, by rw [HA.out.2]; exact Sees.nil _, EG.out⟩
        · have hidx' : ∀ hp, (ByteArray.mk (fld p).toArray)[j]'hp = 99 := hidx
          clear hidx
          have hwr : wrap64 (u4N (s.l)) = u4N (s.l) := by have := u4N_bound (s.l); unfold W32 at this; unfold wrap64; omega
          go_wp2_with fail
          refine (ru32_all h _ _ _ HX.out.rd).mono ?_
          rintro y wq ⟨rfl, hr, ho⟩
          have H2 := HX.out.read hr ho
          obtain ⟨o2, x2⟩ : ∃ o, wq.cell? ⟨xb, 2, none⟩ = some o := ⟨_, (cell_of_row wq xb 2 _ _ _ H2.fr).trans rfl⟩
          have f2 := blk_freeC H2.fr 2
          have H3 := Lib.hid (H2.set 2 (.int .i64 (u4N s.l)) (fun x hx => by injection hx with h1; cases h1))
          obtain ⟨w6, hw6⟩ : ∃ w6, wq.setCell ⟨xb, 2, none⟩ (.int .i64 (u4N s.l)) = w6 := ⟨_, rfl⟩
          rw [hw6] at H3
          have O5 : Hid (OnP (S2 xb h) wr w6) := Lib.hid (by rw [← hw6]; exact OnP.trans (OnP.of_on2 (S := S2 xb h) (onl_on2 ho) (.inr rfl) (.inr rfl)) (OnP.of_on2 (S := S2 xb h) (On2.set wq ⟨xb, 2, none⟩ (.int .i64 (u4N s.l)) (.inl rfl)) (.inl rfl) (.inl rfl)))
          clear hr ho H2
          obtain ⟨er, her⟩ : ∃ er, u4E 0 s.l = er := ⟨_, rfl⟩
          have HSE : Hid ((stR s 5).e = er) := Lib.hid (by rw [← her]; show _ = _; simp only [stR, HEE.out])
          have HSK : Hid ((stR s 5).k = 0) := Lib.hid (HK.out)
          have HX6 : Hid (RxC w6 xb h zb (((stR s 5).a.wd A1 n1 c1).cs) er (stR s 5).l A1 n1 c1 (stR s 5).d) := Lib.hid (by rw [← her]; exact H3.out)
          have ON6 := Lib.hid (ON.out.trans O5.out)
          have HX6Z := Lib.hid HX6.out.zr
          have ce := HX6.out.rd.err.1
          have HS0 : Hid ((fun v : World => v.cell? ⟨h, 2, none⟩ = some (.int .i64 er)) w6.drew) := Lib.hid ce
          have HNIL : Hid (¬ er = 0 → (stR s 5).l = []) := Lib.hid (fun hne => by
            obtain ⟨_, _, _, _, _, _, _, _, _, hq⟩ := HX6.out.rd
            exact hq hne)
          by_cases hz9 : er = 0
          · subst hz9
            go_wp2_with fail
            go_roundw
            case rel => exact ⟨j + 1, by omega, by go_num, by rw [HNX.out]; exact ⟨⟨_, _, _, HX6.out⟩, HSE.out, HSK.out⟩, ON6.out⟩
            case measure => simp [intOf]; omega
          · have HKK : Hid (rdK p b = er) := Lib.hid (HER.out er HSE.out hz9 (HNIL.out hz9) HSK.out)
            have HA : Hid (rdA p b = AR.zero 0 ∧ rdD p b = []) := Lib.hid (rd_zero p b (by rw [HKK.out]; exact hz9))
            have HG : Hid ((w6.drew.setRow zb (AR.zero 0).cs).heap[zb]? = _) := Lib.hid (setRow_heap w6.drew zb _ (AR.zero 0).cs _ _ HX6Z.out)
            have EG : Hid (Ext w (w6.drew.setRow zb (AR.zero 0).cs)) := Lib.hid (below_setRow (ON6.out.ext E4.out HSZ.out).drew HZW.out (AR.zero 0).cs)
            have HZ7d : Hid (w6.drew.heap[zb]? = _) := Lib.hid HX6Z.out
            have HNE := Lib.hid HX6.out.n3
            have HC8 : Hid ((w6.drew.setRow zb (AR.zero 0).cs).cell? ⟨h, 2, none⟩ = some (.int .i64 er)) := Lib.hid ((World.cell?_of_block (setRow_other _ _ _ _ (fun e => HNE.out e.symm))).trans HS0.out)
            go_wp2_with fail
            refine wp_region_plS (fun v : World => v.cell? ⟨h, 2, none⟩ = some (.int .i64 er)) (.free 0 (.free 1 (.free 2 (.free 3 (.free 4 (.one 5 (.free 6 .nil))))))) (by kernel_rfl) (by kernel_rfl) (by kernel_rfl) (by kernel_rfl) ?_
            refine plS_val (v := .agg (AR.zero 0).cs) rfl rfl HS0.out (fun w' hw' => exec_build _ _ rfl _ (by kernel_rfl)) ?_; simp only [Act.put, List.setIfInBounds_toArray, List.set_cons_zero, List.set_cons_succ]
            refine plS_val (v := ?_) rfl rfl HS0.out (fun w' hw' => ?_) ?_; rotate_left; (· skip; go_simp; try with_reducible rfl); simp only [Act.put, List.setIfInBounds_toArray, List.set_cons_zero, List.set_cons_succ]
            refine plS_val (v := ?_) rfl rfl HS0.out (fun w' hw' => ?_) ?_; rotate_left; (· skip; go_simp; try with_reducible rfl); simp only [Act.put, List.setIfInBounds_toArray, List.set_cons_zero, List.set_cons_succ]
            refine plS_val (v := ?_) rfl rfl HS0.out (fun w' hw' => ?_) ?_; rotate_left; (· skip; go_simp; try with_reducible rfl); simp only [Act.put, List.setIfInBounds_toArray, List.set_cons_zero, List.set_cons_succ]
            refine plS_val (v := .int .i64 er) rfl rfl HS0.out (fun w' hw' => by have q : w'.cell? ⟨h, 2, none⟩ = some (.int .i64 er) := hw'; go_simp; try rfl) ?_; simp only [Act.put, List.setIfInBounds_toArray, List.set_cons_zero, List.set_cons_succ]
            refine plS_void (w' := w6.drew.setRow zb (AR.zero 0).cs) rfl rfl (exec_storeRow 26 (.tmp 4) (.tmp 102) rfl zb _ rfl rfl 26 _ HZ7d.out HIz.out rfl HUz.out) HC8.out ?_
            refine plS_val (v := ?_) rfl rfl HC8.out (fun w' hw' => ?_) ?_; rotate_left; (· skip; go_simp; try with_reducible rfl); simp only [Act.put, List.setIfInBounds_toArray, List.set_cons_zero, List.set_cons_succ]
            refine plS_done ?_
            go_wp2_with fail
            refine bodyPost_ret (results_cell_tmp2 rfl _ _ zb _ _ (0, 0) _ rfl HG.out Try.underlying26 rfl HIz.out) rfl ?_
            exact ⟨none, 0, 0, by rw [HA.out.1, HKK.out]; rfl, by rw [HA.out.2]; exact Sees.nil _, EG.out⟩
        · have hidx' : ∀ hp, (ByteArray.mk (fld p).toArray)[j]'hp = 115 := hidx
          clear hidx
          have hwr : wrap64 (u4N (s.l)) = u4N (s.l) := by have := u4N_bound (s.l); unfold W32 at this; unfold wrap64; omega
          go_wp2_with fail
          refine (ru32_all h _ _ _ HX.out.rd).mono ?_
          rintro y wq ⟨rfl, hr, ho⟩
          have H2 := HX.out.read hr ho
          obtain ⟨o2, x2⟩ : ∃ o, wq.cell? ⟨xb, 3, none⟩ = some o := ⟨_, (cell_of_row wq xb 3 _ _ _ H2.fr).trans rfl⟩
          have f2 := blk_freeC H2.fr 3
          have H3 := Lib.hid (H2.set 3 (.int .i64 (u4N s.l)) (fun x hx => by injection hx with h1; cases h1))
          obtain ⟨w6, hw6⟩ : ∃ w6, wq.setCell ⟨xb, 3, none⟩ (.int .i64 (u4N s.l)) = w6 := ⟨_, rfl⟩
          rw [hw6] at H3
          have O5 : Hid (OnP (S2 xb h) wr w6) := Lib.hid (by rw [← hw6]; exact OnP.trans (OnP.of_on2 (S := S2 xb h) (onl_on2 ho) (.inr rfl) (.inr rfl)) (OnP.of_on2 (S := S2 xb h) (On2.set wq ⟨xb, 3, none⟩ (.int .i64 (u4N s.l)) (.inl rfl)) (.inl rfl) (.inl rfl)))
          clear hr ho H2
          obtain ⟨er, her⟩ : ∃ er, u4E 0 s.l = er := ⟨_, rfl⟩
          have HSE : Hid ((stR s 6).e = er) := Lib.hid (by rw [← her]; show _ = _; simp only [stR, HEE.out])
          have HSK : Hid ((stR s 6).k = 0) := Lib.hid (HK.out)
          have HX6 : Hid (RxC w6 xb h zb (((stR s 6).a.wd A1 n1 c1).cs) er (stR s 6).l A1 n1 c1 (stR s 6).d) := Lib.hid (by rw [← her]; exact H3.out)
          have ON6 := Lib.hid (ON.out.trans O5.out)
          have HX6Z := Lib.hid HX6.out.zr
          have ce := HX6.out.rd.err.1
          have HS0 : Hid ((fun v : World => v.cell? ⟨h, 2, none⟩ = some (.int .i64 er)) w6.drew) := Lib.hid ce
          have HNIL : Hid (¬ er = 0 → (stR s 6).l = []) := Lib.hid (fun hne => by
            obtain ⟨_, _, _, _, _, _, _, _, _, hq⟩ := HX6.out.rd
            exact hq hne)
          by_cases hz9 : er = 0
          · subst hz9
            go_wp2_with fail
            go_roundw
            case rel => exact ⟨j + 1, by omega, by go_num, by rw [HNX.out]; exact ⟨⟨_, _, _, HX6.out⟩, HSE.out, HSK.out⟩, ON6.out⟩
            case measure => simp [intOf]; omega
          · have HKK : Hid (rdK p b = er) := Lib.hid (HER.out er HSE.out hz9 (HNIL.out hz9) HSK.out)
            have HA : Hid (rdA p b = AR.zero 0 ∧ rdD p b = []) := Lib.hid (rd_zero p b (by rw [HKK.out]; exact hz9))
            have HG : Hid ((w6.drew.setRow zb (AR.zero 0).cs).heap[zb]? = _) := Lib.hid (setRow_heap w6.drew zb _ (AR.zero 0).cs _ _ HX6Z.out)
            have EG : Hid (Ext w (w6.drew.setRow zb (AR.zero 0).cs)) := Lib.hid (below_setRow (ON6.out.ext E4.out HSZ.out).drew HZW.out (AR.zero 0).cs)
            have HZ7d : Hid (w6.drew.heap[zb]? = _) := Lib.hid HX6Z.out
            have HNE := Lib.hid HX6.out.n3
            have HC8 : Hid ((w6.drew.setRow zb (AR.zero 0).cs).cell? ⟨h, 2, none⟩ = some (.int .i64 er)) := Lib.hid ((World.cell?_of_block (setRow_other _ _ _ _ (fun e => HNE.out e.symm))).trans HS0.out)
            go_wp2_with fail
            refine wp_region_plS (fun v : World => v.cell? ⟨h, 2, none⟩ = some (.int .i64 er)) (.free 0 (.free 1 (.free 2 (.free 3 (.free 4 (.one 5 (.free 6 .nil))))))) (by kernel_rfl) (by kernel_rfl) (by kernel_rfl) (by kernel_rfl) ?_
            refine plS_val (v := .agg (AR.zero 0).cs) rfl rfl HS0.out (fun w' hw' => exec_build _ _ rfl _ (by kernel_rfl)) ?_; simp only [Act.put, List.setIfInBounds_toArray, List.set_cons_zero, List.set_cons_succ]
            refine plS_val (v := ?_) rfl rfl HS0.out (fun w' hw' => ?_) ?_; rotate_left; (· skip; go_simp; try with_reducible rfl); simp only [Act.put, List.setIfInBounds_toArray, List.set_cons_zero, List.set_cons_succ]
            refine plS_val (v := ?_) rfl rfl HS0.out (fun w' hw' => ?_) ?_; rotate_left; (· skip; go_simp; try with_reducible rfl); simp only [Act.put, List.setIfInBounds_toArray, List.set_cons_zero, List.set_cons_succ]
            refine plS_val (v := ?_) rfl rfl HS0.out (fun w' hw' => ?_) ?_; rotate_left; (· skip; go_simp; try with_reducible rfl); simp only [Act.put, List.setIfInBounds_toArray, List.set_cons_zero, List.set_cons_succ]
            refine plS_val (v := .int .i64 er) rfl rfl HS0.out (fun w' hw' => by have q : w'.cell? ⟨h, 2, none⟩ = some (.int .i64 er) := hw'; go_simp; try rfl) ?_; simp only [Act.put, List.setIfInBounds_toArray, List.set_cons_zero, List.set_cons_succ]
            refine plS_void (w' := w6.drew.setRow zb (AR.zero 0).cs) rfl rfl (exec_storeRow 26 (.tmp 4) (.tmp 102) rfl zb _ rfl rfl 26 _ HZ7d.out HIz.out rfl HUz.out) HC8.out ?_
            refine plS_val (v := ?_) rfl rfl HC8.out (fun w' hw' => ?_) ?_; rotate_left; (· skip; go_simp; try with_reducible rfl); simp only [Act.put, List.setIfInBounds_toArray, List.set_cons_zero, List.set_cons_succ]
            refine plS_done ?_
            go_wp2_with fail
            refine bodyPost_ret (results_cell_tmp2 rfl _ _ zb _ _ (0, 0) _ rfl HG.out Try.underlying26 rfl HIz.out) rfl ?_
            exact ⟨none, 0, 0, by rw [HA.out.1, HKK.out]; rfl, by rw [HA.out.2]; exact Sees.nil _, EG.out⟩
        · have hidx' : ∀ hp, (ByteArray.mk (fld p).toArray)[j]'hp = 109 := hidx
          clear hidx
          have hwr : wrap64 (u4N (s.l)) = u4N (s.l) := by have := u4N_bound (s.l); unfold W32 at this; unfold wrap64; omega
          go_wp2_with fail
          refine (ru32_all h _ _ _ HX.out.rd).mono ?_
          rintro y wq ⟨rfl, hr, ho⟩
          have H2 := HX.out.read hr ho
          obtain ⟨o2, x2⟩ : ∃ o, wq.cell? ⟨xb, 4, none⟩ = some o := ⟨_, (cell_of_row wq xb 4 _ _ _ H2.fr).trans rfl⟩
          have f2 := blk_freeC H2.fr 4
          have H3 := Lib.hid (H2.set 4 (.int .i64 (u4N s.l)) (fun x hx => by injection hx with h1; cases h1))
          obtain ⟨w6, hw6⟩ : ∃ w6, wq.setCell ⟨xb, 4, none⟩ (.int .i64 (u4N s.l)) = w6 := ⟨_, rfl⟩
          rw [hw6] at H3
          have O5 : Hid (OnP (S2 xb h) wr w6) := Lib.hid (by rw [← hw6]; exact OnP.trans (OnP.of_on2 (S := S2 xb h) (onl_on2 ho) (.inr rfl) (.inr rfl)) (OnP.of_on2 (S := S2 xb h) (On2.set wq ⟨xb, 4, none⟩ (.int .i64 (u4N s.l)) (.inl rfl)) (.inl rfl) (.inl rfl)))
          clear hr ho H2
          obtain ⟨er, her⟩ : ∃ er, u4E 0 s.l = er := ⟨_, rfl⟩
          have HSE : Hid ((stR s 7).e = er) := Lib.hid (by rw [← her]; show _ = _; simp only [stR, HEE.out])
          have HSK : Hid ((stR s 7).k = 0) := Lib.hid (HK.out)
          have HX6 : Hid (RxC w6 xb h zb (((stR s 7).a.wd A1 n1 c1).cs) er (stR s 7).l A1 n1 c1 (stR s 7).d) := Lib.hid (by rw [← her]; exact H3.out)
          have ON6 := Lib.hid (ON.out.trans O5.out)
          have HX6Z := Lib.hid HX6.out.zr
          have ce := HX6.out.rd.err.1
          have HS0 : Hid ((fun v : World => v.cell? ⟨h, 2, none⟩ = some (.int .i64 er)) w6.drew) := Lib.hid ce
          have HNIL : Hid (¬ er = 0 → (stR s 7).l = []) := Lib.hid (fun hne => by
            obtain ⟨_, _, _, _, _, _, _, _, _, hq⟩ := HX6.out.rd
            exact hq hne)
          by_cases hz9 : er = 0
          · subst hz9
            go_wp2_with fail
            go_roundw
            case rel => exact ⟨j + 1, by omega, by go_num, by rw [HNX.out]; exact ⟨⟨_, _, _, HX6.out⟩, HSE.out, HSK.out⟩, ON6.out⟩
            case measure => simp [intOf]; omega
          · have HKK : Hid (rdK p b = er) := Lib.hid (HER.out er HSE.out hz9 (HNIL.out hz9) HSK.out)
            have HA : Hid (rdA p b = AR.zero 0 ∧ rdD p b = []) := Lib.hid (rd_zero p b (by rw [HKK.out]; exact hz9))
            have HG : Hid ((w6.drew.setRow zb (AR.zero 0).cs).heap[zb]? = _) := Lib.hid (setRow_heap w6.drew zb _ (AR.zero 0).cs _ _ HX6Z.out)
            have EG : Hid (Ext w (w6.drew.setRow zb (AR.zero 0).cs)) := Lib.hid (below_setRow (ON6.out.ext E4.out HSZ.out).drew HZW.out (AR.zero 0).cs)
            have HZ7d : Hid (w6.drew.heap[zb]? = _) := Lib.hid HX6Z.out
            have HNE := Lib.hid HX6.out.n3
            have HC8 : Hid ((w6.drew.setRow zb (AR.zero 0).cs).cell? ⟨h, 2, none⟩ = some (.int .i64 er)) := Lib.hid ((World.cell?_of_block (setRow_other _ _ _ _ (fun e => HNE.out e.symm))).trans HS0.out)
            go_wp2_with fail
            refine wp_region_plS (fun v : World => v.cell? ⟨h, 2, none⟩ = some (.int .i64 er)) (.free 0 (.free 1 (.free 2 (.free 3 (.free 4 (.one 5 (.free 6 .nil))))))) (by kernel_rfl) (by kernel_rfl) (by kernel_rfl) (by kernel_rfl) ?_
            refine plS_val (v := .agg (AR.zero 0).cs) rfl rfl HS0.out (fun w' hw' => exec_build _ _ rfl _ (by kernel_rfl)) ?_; simp only [Act.put, List.setIfInBounds_toArray, List.set_cons_zero, List.set_cons_succ]
            refine plS_val (v := ?_) rfl rfl HS0.out (fun w' hw' => ?_) ?_; rotate_left; (· skip; go_simp; try with_reducible rfl); simp only [Act.put, List.setIfInBounds_toArray, List.set_cons_zero, List.set_cons_succ]
            refine plS_val (v := ?_) rfl rfl HS0.out (fun w' hw' => ?_) ?_; rotate_left; (· skip; go_simp; try with_reducible rfl); simp only [Act.put, List.setIfInBounds_toArray, List.set_cons_zero, List.set_cons_succ]
            refine plS_val (v := ?_) rfl rfl HS0.out (fun w' hw' => ?_) ?_; rotate_left; (· skip; go_simp; try with_reducible rfl); simp only [Act.put, List.setIfInBounds_toArray, List.set_cons_zero, List.set_cons_succ]
            refine plS_val (v := .int .i64 er) rfl rfl HS0.out (fun w' hw' => by have q : w'.cell? ⟨h, 2, none⟩ = some (.int .i64 er) := hw'; go_simp; try rfl) ?_; simp only [Act.put, List.setIfInBounds_toArray, List.set_cons_zero, List.set_cons_succ]
            refine plS_void (w' := w6.drew.setRow zb (AR.zero 0).cs) rfl rfl (exec_storeRow 26 (.tmp 4) (.tmp 102) rfl zb _ rfl rfl 26 _ HZ7d.out HIz.out rfl HUz.out) HC8.out ?_
            refine plS_val (v := ?_) rfl rfl HC8.out (fun w' hw' => ?_) ?_; rotate_left; (· skip; go_simp; try with_reducible rfl); simp only [Act.put, List.setIfInBounds_toArray, List.set_cons_zero, List.set_cons_succ]
            refine plS_done ?_
            go_wp2_with fail
            refine bodyPost_ret (results_cell_tmp2 rfl _ _ zb _ _ (0, 0) _ rfl HG.out Try.underlying26 rfl HIz.out) rfl ?_
            exact ⟨none, 0, 0, by rw [HA.out.1, HKK.out]; rfl, by rw [HA.out.2]; exact Sees.nil _, EG.out⟩
        · have hidx' : ∀ hp, (ByteArray.mk (fld p).toArray)[j]'hp = 100 := hidx
          clear hidx
          go_wp2_with fail
          refine (rtext_all h _ 2048 _ _ HX.out.rd).mono ?_
          rintro y wq ⟨A3, c3, rfl, see, hr, ho⟩
          have H1 := HX.out.read hr ho
          have H2 : RxC wq xb h zb (s.a.wd A1 n1 c1).cs (txE 0 2048 s.l) (txL 2048 s.l) A3 (txN 2048 s.l).length c3 (txN 2048 s.l) := { H1 with da := see }
          obtain ⟨o2, x2⟩ : ∃ o, wq.cell? ⟨xb, 11, none⟩ = some o := ⟨_, (cell_of_row wq xb 11 _ _ _ H2.fr).trans rfl⟩
          have f2 := blk_freeC H2.fr 11
          have H3 := Lib.hid (H2.set 11 (.slice A3 (txN 2048 s.l).length c3) (fun x hx => by cases hx))
          obtain ⟨w6, hw6⟩ : ∃ w6, wq.setCell ⟨xb, 11, none⟩ (.slice A3 (txN 2048 s.l).length c3) = w6 := ⟨_, rfl⟩
          rw [hw6] at H3
          have O5 : Hid (OnP (S2 xb h) wr w6) := Lib.hid (by rw [← hw6]; exact OnP.trans (OnP.of_on2 (S := S2 xb h) (onl_on2 ho) (.inr rfl) (.inr rfl)) (OnP.of_on2 (S := S2 xb h) (On2.set wq ⟨xb, 11, none⟩ (.slice A3 (txN 2048 s.l).length c3) (.inl rfl)) (.inl rfl) (.inl rfl)))
          clear hr ho H1 H2
          obtain ⟨er, her⟩ : ∃ er, txE 0 2048 s.l = er := ⟨_, rfl⟩
          have HSE : Hid ((stR s 8).e = er) := Lib.hid (by rw [← her]; show _ = _; simp only [stR, HEE.out])
          have HSK : Hid ((stR s 8).k = 0) := Lib.hid (HK.out)
          have HX6 : Hid (RxC w6 xb h zb (((stR s 8).a.wd A3 (txN 2048 s.l).length c3).cs) er (stR s 8).l A3 (txN 2048 s.l).length c3 (stR s 8).d) := Lib.hid (by rw [← her]; exact H3.out)
          have ON6 := Lib.hid (ON.out.trans O5.out)
          have HX6Z := Lib.hid HX6.out.zr
          have ce := HX6.out.rd.err.1
          have HS0 : Hid ((fun v : World => v.cell? ⟨h, 2, none⟩ = some (.int .i64 er)) w6.drew) := Lib.hid ce
          have HNIL : Hid (¬ er = 0 → (stR s 8).l = []) := Lib.hid (fun hne => by
            obtain ⟨_, _, _, _, _, _, _, _, _, hq⟩ := HX6.out.rd
            exact hq hne)
          by_cases hz9 : er = 0
          · subst hz9
            go_wp2_with fail
            go_roundw
            case rel => exact ⟨j + 1, by omega, by go_num, by rw [HNX.out]; exact ⟨⟨_, _, _, HX6.out⟩, HSE.out, HSK.out⟩, ON6.out⟩
            case measure => simp [intOf]; omega
          · have HKK : Hid (rdK p b = er) := Lib.hid (HER.out er HSE.out hz9 (HNIL.out hz9) HSK.out)
            have HA : Hid (rdA p b = AR.zero 0 ∧ rdD p b = []) := Lib.hid (rd_zero p b (by rw [HKK.out]; exact hz9))
            have HG : Hid ((w6.drew.setRow zb (AR.zero 0).cs).heap[zb]? = _) := Lib.hid (setRow_heap w6.drew zb _ (AR.zero 0).cs _ _ HX6Z.out)
            have EG : Hid (Ext w (w6.drew.setRow zb (AR.zero 0).cs)) := Lib.hid (below_setRow (ON6.out.ext E4.out HSZ.out).drew HZW.out (AR.zero 0).cs)
            have HZ7d : Hid (w6.drew.heap[zb]? = _) := Lib.hid HX6Z.out
            have HNE := Lib.hid HX6.out.n3
            have HC8 : Hid ((w6.drew.setRow zb (AR.zero 0).cs).cell? ⟨h, 2, none⟩ = some (.int .i64 er)) := Lib.hid ((World.cell?_of_block (setRow_other _ _ _ _ (fun e => HNE.out e.symm))).trans HS0.out)
            go_wp2_with fail
            refine wp_region_plS (fun v : World => v.cell? ⟨h, 2, none⟩ = some (.int .i64 er)) (.free 0 (.free 1 (.free 2 (.free 3 (.free 4 (.one 5 (.free 6 .nil))))))) (by kernel_rfl) (by kernel_rfl) (by kernel_rfl) (by kernel_rfl) ?_
            refine plS_val (v := .agg (AR.zero 0).cs) rfl rfl HS0.out (fun w' hw' => exec_build _ _ rfl _ (by kernel_rfl)) ?_; simp only [Act.put, List.setIfInBounds_toArray, List.set_cons_zero, List.set_cons_succ]
            refine plS_val (v := ?_) rfl rfl HS0.out (fun w' hw' => ?_) ?_; rotate_left; (· skip; go_simp; try with_reducible rfl); simp only [Act.put, List.setIfInBounds_toArray, List.set_cons_zero, List.set_cons_succ]
            refine plS_val (v := ?_) rfl rfl HS0.out (fun w' hw' => ?_) ?_; rotate_left; (· skip; go_simp; try with_reducible rfl); simp only [Act.put, List.setIfInBounds_toArray, List.set_cons_zero, List.set_cons_succ]
            refine plS_val (v := ?_) rfl rfl HS0.out (fun w' hw' => ?_) ?_; rotate_left; (· skip; go_simp; try with_reducible rfl); simp only [Act.put, List.setIfInBounds_toArray, List.set_cons_zero, List.set_cons_succ]
            refine plS_val (v := .int .i64 er) rfl rfl HS0.out (fun w' hw' => by have q : w'.cell? ⟨h, 2, none⟩ = some (.int .i64 er) := hw'; go_simp; try rfl) ?_; simp only [Act.put, List.setIfInBounds_toArray, List.set_cons_zero, List.set_cons_succ]
            refine plS_void (w' := w6.drew.setRow zb (AR.zero 0).cs) rfl rfl (exec_storeRow 26 (.tmp 4) (.tmp 102) rfl zb _ rfl rfl 26 _ HZ7d.out HIz.out rfl HUz.out) HC8.out ?_
            refine plS_val (v := ?_) rfl rfl HC8.out (fun w' hw' => ?_) ?_; rotate_left; (· skip; go_simp; try with_reducible rfl); simp only [Act.put, List.setIfInBounds_toArray, List.set_cons_zero, List.set_cons_succ]
            refine plS_done ?_
            go_wp2_with fail
            refine bodyPost_ret (results_cell_tmp2 rfl _ _ zb _ _ (0, 0) _ rfl HG.out Try.underlying26 rfl HIz.out) rfl ?_
            exact ⟨none, 0, 0, by rw [HA.out.1, HKK.out]; rfl, by rw [HA.out.2]; exact Sees.nil _, EG.out⟩
      · obtain rfl : j = (fl p).length := by omega
        rw [List.take_length] at hx he0 hk0
        change RxC wr xb h zb ((rdS p b).a.wd A1 n1 c1).cs 0 (rdS p b).l A1 n1 c1 (rdS p b).d at hx
        change (rdS p b).e = 0 at he0
        change (rdS p b).k = 0 at hk0
        have hkn : kn p = true := kn_fl p (fun e => hf (by rw [fld_fl, e]; rfl))
        have hK : rdK p b = rend 0 (rdS p b).l.length := by unfold rdK; rw [if_pos hkn, he0, hk0]; simp [kp]
        have HX := Lib.hid hx
        have HK := Lib.hid hK
        have hjf : ¬ (fl p).length < (fld p).length := by rw [HLEN.out]; omega
        clear hx hK he0 hk0 hkn
        go_wp2_with fail
        refine (rleft_any h _ _ _ HX.out.rd).mono ?_
        rintro y w6 ⟨rfl, e6⟩
        have HX6 := Lib.hid (HX.out.ext e6)
        have ON6 := Lib.hid (ON.out.trans (OnP.of_ext (S := S2 xb h) e6))
        have HZ6 := Lib.hid HX6.out.zr
        clear e6
        by_cases hl : (0 : Int) < ((rdS p b).l.length : Int)
        · have HKK : Hid (rdK p b = 2) := Lib.hid (by rw [HK.out]; unfold rend; rw [if_neg (by omega)])
          have HA : Hid (rdA p b = AR.zero 0 ∧ rdD p b = []) := Lib.hid (rd_zero p b (by rw [HKK.out]; omega))
          have HG := Lib.hid (setRow_heap w6 zb _ (AR.zero 0).cs _ _ HZ6.out)
          have EG : Hid (Ext w (w6.setRow zb (AR.zero 0).cs)) := Lib.hid (below_setRow (ON6.out.ext E4.out HSZ.out) HZW.out (AR.zero 0).cs)
          go_wp2_with (first | (with_reducible refine wpList_store_row rfl 26 (.tmp 4) (.tmp 110) rfl zb _ rfl rfl _ _ HZ6.out HIz.out rfl HUz.out ?_) | fail)
          refine bodyPost_ret (results_cell_tmp2 rfl _ _ zb _ _ (0, 0) _ rfl HG.out Try.underlying26 rfl HIz.out) rfl ?_
          exact ⟨none, 0, 0, by rw [HA.out.1, HKK.out]; rfl, by rw [HA.out.2]; exact Sees.nil _, EG.out⟩
        · have HKK : Hid (rdK p b = 0) := Lib.hid (by rw [HK.out]; unfold rend; rw [if_pos (by omega)])
          have HA : Hid (rdA p b = (rdS p b).a ∧ rdD p b = (rdS p b).d) := Lib.hid ⟨by unfold rdA; rw [if_pos HKK.out], by unfold rdD; rw [if_pos HKK.out]⟩
          have HIx := Lib.hid (HI.out ((rdS p b).a.wd A1 n1 c1))
          have HUx := Lib.hid (HU.out ((rdS p b).a.wd A1 n1 c1))
          have HF6 := Lib.hid HX6.out.fr
          have HG := Lib.hid (setRow_heap w6 zb _ ((rdS p b).a.wd A1 n1 c1).cs _ _ HZ6.out)
          have EG : Hid (Ext w (w6.setRow zb ((rdS p b).a.wd A1 n1 c1).cs)) := Lib.hid (below_setRow (ON6.out.ext E4.out HSZ.out) HZW.out _)
          have SG : Hid (Sees (w6.setRow zb ((rdS p b).a.wd A1 n1 c1).cs) A1 n1 c1 (bs (rdS p b).d)) := Lib.hid (sees_offB HX6.out.da HZ6.out (fun i x h => by have hm := Array.mem_of_getElem? h; simp at hm) ⟨rfl, rfl, rfl, by simp [World.setRow], fun i hi h1 h2 => setRow_other _ _ _ _ h1⟩)
          go_wp2_with (first | (with_reducible refine wpList_load_row rfl 26 (.tmp 8) rfl xb rfl _ _ _ _ HF6.out Try.underlying26 rfl HIx.out ?_) | (with_reducible refine wpList_store_row rfl 26 (.tmp 4) (.tmp 111) rfl zb _ rfl rfl _ _ HZ6.out HIx.out rfl HUx.out ?_) | fail)
          refine bodyPost_ret (results_cell_tmp2 rfl _ _ zb _ _ (0, 0) _ rfl HG.out Try.underlying26 rfl HIx.out) rfl ?_
          exact ⟨A1, n1, c1, by rw [HA.out.1, HKK.out]; rfl, by rw [HA.out.2]; exact SG.out, EG.out⟩
end Go.Proofs.Ytpjigdfllbhknaa
