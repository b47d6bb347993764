/-
  Layer 9: a print is read, on the code's side.
-/
import Derived.Test.YtiiagecacegmbaaNamQ
import Derived.Test.YtiiagecacegmbaaQui
namespace Go.Proofs.Ytiiagecacegmbaa
open Go Go.RowKit
set_option linter.unusedVariables false
set_option linter.unusedSimpArgs false
section
variable {P : Program} {Q : Exit → Act → World → Prop} {l : List Oper}
theorem wp_region_ordQU {id : Nat} {a : Act} {w : World} (order al : List Nat) (hm : P.follows .mixedOrders = true) (hs : Region.noSelect l.toArray = true) (hlen : order.length = l.length)
    (hp : ordOk l al [] 0 order = true) (h : wpLexQT P l.toArray (Norm Q) al (fun _ => True) 0 (pick l order) a w.drew) : (Code.region id l.toArray true).wp P Q a w := by
  refine Code.wp_mono Norm.imp (wp_region_held (S := fun _ => True) hm ?_)
  have := wpAnyH_of_ordQ (P := P) al hs (fun _ _ _ _ _ h => h) order (fun _ => True) 0 [] (Array.replicate l.length false) a w.drew (Done.start _) hp h
  rw [hlen] at this
  rw [List.size_toArray]
  exact this
end
section
variable {P : Program} {ops : Array Oper} {Q : Exit → Act → World → Prop} {al : List Nat} {k : Nat} {rest : List Oper} {a : Act} {w : World} {o : Oper}
theorem lexQU_done (h : Q .normal a w) : wpLexQT P ops (Norm Q) al (fun _ => True) k [] a w := h
theorem lexQU_val (v : Value) (hc : al.contains k = false) (hw : Region.wanted o (yielded ops a.tmps) = true)
    (hv : ∀ w', (execOp a.eval o).run P w' = .ok (.value v) w') (hk : wpLexQT P ops Q al (fun _ => True) (k + 1) rest (a.put o.dst v) w) : wpLexQT P ops Q al (fun _ => True) k (o :: rest) a w := by
  unfold wpLexQT
  refine ⟨fun _ => True, fun _ h => h, ?_⟩
  rw [hc, if_neg Bool.false_ne_true]
  exact ⟨trivial, v, .inl (.inl ⟨hw, fun w' _ => hv w'⟩), hk⟩
theorem lexQU_even (f : FuncId) (args : Array Value) (v : Value) (hc : al.contains k = false) (hw : Region.wanted o (yielded ops a.tmps) = true)
    (hv : ∀ w', (execOp a.eval o).run P w' = .ok (.enter f args) w') (hcall : ∀ w', Calls P f args w' fun e w'' => e = .returned v ∧ w' = w'')
    (hk : wpLexQT P ops Q al (fun _ => True) (k + 1) rest (a.put o.dst v) w) : wpLexQT P ops Q al (fun _ => True) k (o :: rest) a w := by
  unfold wpLexQT
  refine ⟨fun _ => True, fun _ h => h, ?_⟩
  rw [hc, if_neg Bool.false_ne_true]
  exact ⟨trivial, v, .inr ⟨hw, fun w' _ => ⟨f, args, hv w', (hcall w').mono fun e w'' h => ⟨h.1, h.2.symm⟩⟩⟩, hk⟩
theorem lexQU_call (f : FuncId) (args : Array Value) (hc : al.contains k = true) (hw : Region.wanted o (yielded ops a.tmps) = true)
    (hv : (execOp a.eval o).run P w = .ok (.enter f args) w)
    (hk : Calls P f args w fun e w' => ∃ v, e = .returned v ∧ wpLexQT P ops Q al (fun _ => True) (k + 1) rest (a.put o.dst v) w') : wpLexQT P ops Q al (fun _ => True) k (o :: rest) a w := by
  unfold wpLexQT
  refine ⟨fun _ => True, fun _ h => h, ?_⟩
  rw [hc, if_pos rfl, hw, if_pos rfl]
  simp only [Oper.wp, hv, Oper.upon]
  refine hk.mono fun e w' ⟨v, he, h2⟩ => ?_
  subst he
  exact ⟨trivial, h2⟩
end
theorem bcells_snoc (l : List UInt8) (b : UInt8) : Lib.byteCells (l ++ [b]) = Lib.byteCells l ++ [.int .u8 (b.toNat : Int)] := by
  rw [Lib.byteCells_append]; rfl
def ixI (b : UInt8) : Int := Lib.indexByte hexD b
theorem ixI_bound (b : UInt8) : -1 ≤ ixI b ∧ ixI b ≤ 15 := by
  have h : ∀ k : Fin 256, -1 ≤ ixI (UInt8.ofNat k.val) ∧ ixI (UInt8.ofNat k.val) ≤ 15 := by decide +kernel
  have h1 := h ⟨b.toNat, b.toNat_lt⟩
  simpa using h1
theorem ix_any (b : UInt8) (w : World) :
    Calls Try.prog 75 #[.string ⟨#[48, 49, 50, 51, 52, 53, 54, 55, 56, 57, 97, 98, 99, 100, 101, 102]⟩, .int .u8 (b.toNat : Int)] w fun e w' => e = .returned (.int .i64 (ixI b)) ∧ w = w' := by
  refine (Try.strings_IndexByte _ _ _).mono ?_
  rintro e w' ⟨rfl, rfl⟩
  refine ⟨?_, rfl⟩
  have hb : ((b.toNat : Int)).toNat.toUInt8 = b := by simp
  rw [hb]
  rfl
/-- The byte of two digits, as the code reads them. -/
def dvI (a b : Int) : Int := IntKind.u8.wrap (bits .or .i64 (IntKind.i64.wrap (a * 16)) b)
def dv (a b : UInt8) : UInt8 := UInt8.ofNat (dvI (ixI a) (ixI b)).toNat
theorem dvI_bound (a b : Int) : 0 ≤ dvI a b ∧ dvI a b < 256 := by
  unfold dvI
  generalize bits .or .i64 (IntKind.i64.wrap (a * 16)) b = x
  show 0 ≤ x % 256 ∧ x % 256 < 256
  omega
theorem dv_back (c : UInt8) : dv (hexD.getD (c.toNat / 16) 0) (hexD.getD (c.toNat % 16) 0) = c := by
  have h : ∀ k : Fin 256, dv (hexD.getD (k.val / 16) 0) (hexD.getD (k.val % 16) 0) = UInt8.ofNat k.val := by decide +kernel
  have h1 := h ⟨c.toNat, c.toNat_lt⟩
  simpa using h1
def decF : List UInt8 → List UInt8
  | [] => []
  | [c] => [c]
  | [c, d] => [c, d]
  | c :: a :: b :: r => if c = 37 then dv a b :: decF r else c :: decF (a :: b :: r)
theorem dec_byte (c : UInt8) (r : List UInt8) : decF (byteB c ++ r) = c :: decF r := by
  unfold byteB
  split
  · rename_i h
    have := plain_ne c h
    show decF (c :: r) = _
    match r with
    | [] => rfl
    | [d] => rfl
    | a :: b :: r2 => simp only [decF, if_neg this]
  · show decF (37 :: hexD.getD (c.toNat / 16) 0 :: hexD.getD (c.toNat % 16) 0 :: r) = _
    simp only [decF]
    rw [if_pos trivial, dv_back]
theorem dec_flat : ∀ t : List UInt8, decF (t.flatMap byteB) = t
  | [] => rfl
  | c :: r => by
    rw [List.flatMap_cons, dec_byte, dec_flat r]
theorem dec_print (t : List UInt8) (h : t ≠ []) : decF (printB t) = t := by
  unfold printB
  rw [if_neg h]
  by_cases h1 : t = [45]
  · rw [if_pos h1, h1]; decide +kernel
  · rw [if_neg h1, dec_flat]
theorem str_drop (l : List UInt8) (k : Nat) : (ByteArray.mk l.toArray).extract k l.length = ⟨(l.drop k).toArray⟩ := by
  apply ByteArray.ext
  simp
  rw [List.take_of_length_le (by simp)]
set_option maxRecDepth 20000 in
set_option maxHeartbeats 2000000 in
theorem dec_any (l0 : List UInt8) (w : World) (hl0 : l0.length ≤ 1000000) :
    Calls Try.prog 58 #[.string ⟨l0.toArray⟩] w fun e w' => e = .returned (.string ⟨(decF l0).toArray⟩) ∧ Ext w w' := by
  go_enter Try.func58, Try.ntmps58
  go_wp2_with fail
  go_loopw [0] (fun s wr => ∃ (pre l : List UInt8), s = .string ⟨l.toArray⟩ ∧ pre.length + l.length ≤ l0.length ∧ pre ++ decF l = decF l0 ∧ Lib.IsBuilder TB 5 w.heap.size w.heap.size (Lib.byteCells pre) wr ∧ Ext w wr) (fun s _ => match s with | .string b => b.size | _ => 0)
  case atStart => exact ⟨[], l0, rfl, by simp, rfl, Lib.fresh_isBuilder TB 5 w, (Ext.refl w).alloc _⟩
  case round =>
    obtain ⟨pre, l, rfl, hlen, hpre, hbld, ext⟩ := hrel
    have HB := Lib.hid hbld
    have hs := ext.size
    have HX := Lib.hid ext
    have HPre := Lib.hid hpre
    have hsz : (ByteArray.mk l.toArray).size = l.length := by simp [ByteArray.size]
    clear hbld hpre
    match l, hlen, HPre, hsz with
    | [], hlen, HPre, hsz =>
      have hp : decF l0 = pre := by rw [← HPre.out]; simp [decF]
      go_wp2_with (go_at_call 57; refine (Try.Builder_String_any _ _ _ _ HB.out hs).mono ?_)
      rintro e w1 ⟨rfl, e1⟩
      have E2 := Lib.hid (Ext.of_below' HX.out e1)
      go_wp2
      go_ret
      exact ⟨by rw [hp]; rfl, E2.out⟩
    | c :: r, hlen, HPre, hsz =>
      by_cases hc : c = 37 ∧ 2 ≤ r.length
      · obtain ⟨rfl, hr2⟩ := hc
        match r, hr2 with
        | a :: b :: q, hr2 =>
          have HD := Lib.hid (show decF (37 :: a :: b :: q) = dv a b :: decF q by simp [decF])
          have hi0 : ∀ w, (Instr.index 9 (.string ⟨(37 :: a :: b :: q).toArray⟩) (.int .i64 0)).run Try.prog w = .ok (.int .u8 (((37 :: a :: b :: q : List UInt8)[0]).toNat : Int)) w := idx_str (37 :: a :: b :: q) 0 (by simp)
          have hi1 : ∀ w, (Instr.index 9 (.string ⟨(37 :: a :: b :: q).toArray⟩) (.int .i64 1)).run Try.prog w = .ok (.int .u8 (((37 :: a :: b :: q : List UInt8)[1]).toNat : Int)) w := idx_str (37 :: a :: b :: q) 1 (by simp)
          have hi2 : ∀ w, (Instr.index 9 (.string ⟨(37 :: a :: b :: q).toArray⟩) (.int .i64 2)).run Try.prog w = .ok (.int .u8 (((37 :: a :: b :: q : List UInt8)[2]).toNat : Int)) w := idx_str (37 :: a :: b :: q) 2 (by simp)
          have hll : 2 < (37 :: a :: b :: q : List UInt8).length := by simp
          have hx := str_drop (37 :: a :: b :: q) 3
          have hdv := dvI_bound (ixI a) (ixI b)
          have hdw : ((dv a b).toNat : Int) = dvI (ixI a) (ixI b) := by unfold dv; exact u8_of _ hdv.1 hdv.2
          have HDW := Lib.hid hdw
          have HA := Lib.hid (fun w => ix_any a w)
          have HB2 := Lib.hid (fun w => ix_any b w)
          have hk1 : ((37 :: a :: b :: q : List UInt8)[0]) = 37 := rfl
          have hk2 : ((37 :: a :: b :: q : List UInt8)[1]) = a := rfl
          have hk3 : ((37 :: a :: b :: q : List UInt8)[2]) = b := rfl
          rw [hk1] at hi0
          simp only [show ((37 : UInt8).toNat : Int) = 37 from rfl] at hi0
          rw [hk2] at hi1
          rw [hk3] at hi2
          simp only [List.length_cons] at hlen hll hsz hx
          have hdr : (37 :: a :: b :: q : List UInt8).drop 3 = q := rfl
          rw [hdr] at hx
          clear hk1 hk2 hk3 hdw hdr
          generalize hL : (37 :: a :: b :: q : List UInt8) = L at *
          have hLl : L.length = q.length + 1 + 1 + 1 := by rw [← hL]; rfl
          have HLl := Lib.hid hLl
          clear hL hLl
          have HBd : Hid (Lib.IsBuilder TB 5 w.heap.size w.heap.size (Lib.byteCells pre) wr.drew) := Lib.hid HB.out
          go_wp2_with fail
          refine wp_region_ordQU [0, 1, 2, 3, 4, 5, 6, 7, 8, 9] [9] (by kernel_rfl) (by kernel_rfl) rfl (by kernel_rfl) ?_
          iterate 2 (refine lexQU_val (v := ?_) rfl rfl (fun w' => ?_) ?_; rotate_left; (· go_simp; try with_reducible rfl); simp only [Act.put, List.setIfInBounds_toArray, List.set_cons_zero, List.set_cons_succ])
          refine lexQU_even 75 #[.string ⟨#[48, 49, 50, 51, 52, 53, 54, 55, 56, 57, 97, 98, 99, 100, 101, 102]⟩, .int .u8 (a.toNat : Int)] (.int .i64 (ixI a)) rfl rfl (fun w' => by go_simp) (fun w' => HA.out w') ?_
          simp only [Act.put, List.setIfInBounds_toArray, List.set_cons_zero, List.set_cons_succ]
          iterate 3 (refine lexQU_val (v := ?_) rfl rfl (fun w' => ?_) ?_; rotate_left; (· go_simp; try with_reducible rfl); simp only [Act.put, List.setIfInBounds_toArray, List.set_cons_zero, List.set_cons_succ])
          refine lexQU_even 75 #[.string ⟨#[48, 49, 50, 51, 52, 53, 54, 55, 56, 57, 97, 98, 99, 100, 101, 102]⟩, .int .u8 (b.toNat : Int)] (.int .i64 (ixI b)) rfl rfl (fun w' => by go_simp) (fun w' => HB2.out w') ?_
          simp only [Act.put, List.setIfInBounds_toArray, List.set_cons_zero, List.set_cons_succ]
          iterate 2 (refine lexQU_val (v := ?_) rfl rfl (fun w' => ?_) ?_; rotate_left; (· go_simp; try with_reducible rfl); simp only [Act.put, List.setIfInBounds_toArray, List.set_cons_zero, List.set_cons_succ])
          refine lexQU_call 55 #[bptr w.heap.size, .int .u8 (dvI (ixI a) (ixI b))] rfl rfl (by go_simp; exact ⟨rfl, rfl⟩) ?_
          refine (bbyte _ _ _ _ _ HBd.out (by rw [Lib.byteCells_length]; omega) (by simpa using hs)).mono ?_
          rintro e w1 ⟨rfl, hb1, bel1⟩
          rw [← HDW.out, ← bcells_snoc] at hb1
          have HB3 := Lib.hid hb1
          have E1 := Lib.hid (Ext.of_below' HX.out.drew bel1)
          clear hb1 bel1
          refine ⟨_, rfl, ?_⟩
          simp only [Act.put, List.setIfInBounds_toArray, List.set_cons_zero, List.set_cons_succ]
          refine lexQU_done ?_
          go_wp2
          go_roundw
          case rel => exact ⟨pre ++ [dv a b], q, rfl, by simp; omega, by rw [List.append_assoc, ← HPre.out, HD.out]; rfl, HB3.out, E1.out⟩
          case measure =>
            have hqs : (ByteArray.mk q.toArray).size = q.length := by simp [ByteArray.size]
            show (ByteArray.mk q.toArray).size < (ByteArray.mk L.toArray).size
            omega
      · have HD : Hid (decF (c :: r) = c :: decF r) := Lib.hid (by
          match r, hc with
          | [], _ => rfl
          | [d], _ => rfl
          | a :: b :: q, hc =>
            have : ¬ c = 37 := fun h => hc ⟨h, by simp⟩
            simp only [decF, if_neg this])
        have hi0 : ∀ w, (Instr.index 9 (.string ⟨(c :: r).toArray⟩) (.int .i64 0)).run Try.prog w = .ok (.int .u8 (c.toNat : Int)) w := idx_str (c :: r) 0 (by simp)
        have hx := str_drop (c :: r) 1
        have hdr : (c :: r).drop 1 = r := rfl
        rw [hdr] at hx
        have h37 := c_eq37 c
        simp only [List.length_cons] at hlen hsz hx
        generalize hL : c :: r = L at *
        have hcl := c.toNat_lt
        have hor : (c == 37) = false ∨ (r.length < 2) := by
          by_cases h : c = 37
          · exact .inr (Nat.lt_of_not_le fun h2 => hc ⟨h, h2⟩)
          · exact .inl (by simpa using h)
        clear hL hdr
        rcases hor with hq | hq
        · rw [hq] at h37
          clear hc hq
          go_wp2_with fail
          refine (bbyte _ _ _ _ _ HB.out (by rw [Lib.byteCells_length]; omega) hs).mono ?_
          rintro e w1 ⟨rfl, hb1, bel1⟩
          rw [← bcells_snoc] at hb1
          have HB3 := Lib.hid hb1
          have E1 := Lib.hid (Ext.of_below' HX.out bel1)
          clear hb1 bel1
          go_wp2
          go_roundw
          case rel => exact ⟨pre ++ [c], r, rfl, by simp; omega, by rw [List.append_assoc, ← HPre.out, HD.out]; rfl, HB3.out, E1.out⟩
          case measure =>
            have hqs : (ByteArray.mk r.toArray).size = r.length := by simp [ByteArray.size]
            show (ByteArray.mk r.toArray).size < (ByteArray.mk L.toArray).size
            omega
        · have hq2 : ¬ (2 : Int) < (r.length : Int) + 1 := by omega
          cases hcq : (c == 37)
          all_goals
            rw [hcq] at h37
            clear hcq hc
            go_wp2_with fail
            refine (bbyte _ _ _ _ _ HB.out (by rw [Lib.byteCells_length]; omega) hs).mono ?_
            rintro e w1 ⟨rfl, hb1, bel1⟩
            rw [← bcells_snoc] at hb1
            have HB3 := Lib.hid hb1
            have E1 := Lib.hid (Ext.of_below' HX.out bel1)
            clear hb1 bel1
            go_wp2
            go_roundw
            case rel => exact ⟨pre ++ [c], r, rfl, by simp; omega, by rw [List.append_assoc, ← HPre.out, HD.out]; rfl, HB3.out, E1.out⟩
            case measure =>
              have hqs : (ByteArray.mk r.toArray).size = r.length := by simp [ByteArray.size]
              show (ByteArray.mk r.toArray).size < (ByteArray.mk L.toArray).size
              omega
end Go.Proofs.Ytiiagecacegmbaa
