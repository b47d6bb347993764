/-
  Layer 18: whether a reply may be.
-/
import Derived.Test.YtihiclnbbpablaaTellC
import Derived.Test.YtihiclnbbpablaaTellS
namespace Go.Proofs.Ytihiclnbbpablaa
open Go Go.RowKit
set_option linter.unusedVariables false
set_option linter.unusedSimpArgs false
theorem wpList_load_row_w {P : Program} {ops : Array Oper} {rest : List Oper} {o : Oper} {a : Act} {w : World} {Q : Exit → Act → World → Prop} (hw : Region.wanted o (yielded ops a.tmps) = true) (ty : TypeId) (x : Operand) (ho : o.op = .load ty x)
    (g : Nat) (hx : a.eval x = .pointer (some ⟨g, 0, none⟩)) (t : TypeId) (cs : Array Value) (fr : Nat × Nat) (d : TypeDesc) (hg : w.heap[g]? = some (.cells cs t fr))
    (hu : P.underlying ty = some d) (hd : (match d with | .struct _ | .array _ _ => true | _ => false) = true) (hi : (P.info? ty).map (·.size) = some cs.size)
    (h : wpList P ops Q rest (a.put o.dst (.agg cs)) w) : wpList P ops Q (o :: rest) a w := by
  simp only [wpList, hw, if_true]
  exact .inl (wp_load_row ty x ho g hx t cs fr d hg hu hd hi h)
/-- Equal with a row that is nil. -/
theorem qeq_nil (A : Option Addr) (n c : Nat) (w : World) (hn : n ≤ c) (hc : c ≤ 9223372036854775807) : Calls Try.prog 53 #[.slice A n c, .slice none 0 0] w fun e w' => e = .returned (.bool (n == 0)) ∧ w = w' := by
  by_cases h : n = 0
  · subst h
    go_enter Try.func53, Try.ntmps53
    go_wp2_with fail
    go_loopw [13] (fun i wr => i = .int .i64 0 ∧ w = wr) (fun _ _ => 0)
    case atStart => exact ⟨rfl, rfl⟩
    case round =>
      obtain ⟨rfl, rfl⟩ := hrel
      go_wp2_with fail
      go_ret
      exact ⟨rfl, rfl⟩
  · have h2 : (n == 0) = false := by simpa using h
    rw [h2]
    go_enter Try.func53, Try.ntmps53
    go_wp2_with fail
    go_ret
    exact ⟨rfl, rfl⟩
def TL.zero (ty tg : Int) : TL := ⟨ty, tg, 0, 0, 0, 0, [], (false, 0, 0), none, 0, 0, [], none, 0, 0, [], (false, 0, 0), 0, 0, []⟩
theorem TL.zero_ok (ty tg : Int) (w : World) : (TL.zero ty tg).Ok w := ⟨SeesQ.nil w, Sees.nil w⟩
def wos (t : TL) (l : List Nat) : TL := l.foldl wo t
theorem wos_ok {w : World} : ∀ (l : List Nat) (t : TL), t.Ok w → (wos t l).Ok w
  | [], _, h => h
  | f :: l, t, h => wos_ok l (wo t f) (h.wo f)
theorem wos_take (t : TL) (l : List Nat) (k f : Nat) (h : l[k]? = some f) : wos t (l.take (k + 1)) = wo (wos t (l.take k)) f := by
  rw [List.take_add_one, h]
  simp [wos]
theorem all_take (p : Nat → Bool) (l : List Nat) (k f : Nat) (h : l[k]? = some f) : (l.take (k + 1)).all p = ((l.take k).all p && p f) := by
  rw [List.take_add_one, h]
  simp
def mayR (t : TL) : Bool := tEq (wos t (fl t.ty)) (TL.zero t.ty t.tg) ((wos t (fl t.ty)).qn == 0)
def mayT (t : TL) : Bool := fok t.ty && (bi t.tg 65535 && (fl t.ty).all (bnd t) && mayR t)
theorem fl_no (k : Int) (h : fok k = false) : fl k = [] := by
  simp only [fok, Bool.or_eq_false_iff] at h
  simp [fl]
  simp at h
  simp [h]
theorem fv_get (l : List Nat) (k : Nat) (u : Value) (h : (fv l)[k]? = some u) : ∃ f, l[k]? = some f ∧ u = .int .i64 ((f : Nat) : Int) := by
  simp only [fv, List.getElem?_map, Option.map_eq_some_iff] at h
  obtain ⟨f, h1, h2⟩ := h
  exact ⟨f, h1, h2.symm⟩
set_option maxRecDepth 20000 in
set_option maxHeartbeats 2000000 in
theorem tmay_any (t : TL) (w : World) (h : t.Ok w) : Calls Try.prog 15 #[.agg t.cs] w fun e w' => e = .returned (.bool (mayT t)) ∧ Ext w w' := by
  obtain ⟨w1, hw1⟩ : ∃ w1, w.alloc (.cells t.cs 29) = w1 := ⟨_, rfl⟩
  have e1 : Ext w w1 := by rw [← hw1]; exact (Ext.refl w).alloc _
  have hb : w1.heap[w.heap.size]? = some (.cells t.cs 29 (0, 0)) := by rw [← hw1]; exact heap_alloc_new w _
  have x0 := cell_of_row w1 w.heap.size 0 _ _ _ hb
  simp [TL.cs] at x0
  have HB1 := Lib.hid hb
  have E1 := Lib.hid e1
  have HOK := Lib.hid (h.ext e1)
  have HFL := Lib.hid (fl_le t.ty)
  clear hb e1 h
  rcases Bool.eq_false_or_eq_true (fok t.ty) with g | g
  · have HF := Lib.hid (fields_any t.ty w1)
    rw [g] at HF
    have hM : mayT t = (bi t.tg 65535 && (fl t.ty).all (bnd t) && mayR t) := by unfold mayT; rw [g]; rfl
    rw [hM]
    have HMR := Lib.hid (show mayR t = tEq (wos t (fl t.ty)) (TL.zero t.ty t.tg) ((wos t (fl t.ty)).qn == 0) from rfl)
    clear hM
    generalize fl t.ty = l at *
    generalize mayR t = mr at *
    go_enter Try.func15, Try.ntmps15
    go_wp2_with fail
    refine HF.out.mono ?_
    rintro e w2 ⟨A, rfl, seeA, e2⟩
    have hb2 := e2.heap HB1.out
    have x1 := cell_of_row w2 w.heap.size 1 _ _ _ hb2
    simp [TL.cs] at x1
    have E2 := Lib.hid (E1.out.trans e2)
    have HB2 := Lib.hid hb2
    have SEEA := Lib.hid seeA
    have HOK2 := Lib.hid (HOK.out.ext e2)
    clear hb2 e2 seeA x0 HOK E1 HB1 HF hw1
    go_wp2_with fail
    refine (within_any t.tg 65535 _).mono ?_
    rintro e w3 ⟨rfl, rfl⟩
    obtain ⟨gt, hgt⟩ : ∃ gt, bi t.tg 65535 = gt := ⟨_, rfl⟩
    rw [hgt]
    clear x1
    obtain ⟨rb, hrb⟩ : ∃ rb, w2.heap.size = rb := ⟨_, rfl⟩
    have HLT : Hid (w.heap.size < rb) := Lib.hid (by rw [← hrb]; exact (Array.getElem?_eq_some_iff.1 HB2.out).1)
    have HZ0 : Hid ((w2.alloc (.cells #[.int .i64 0, .int .i64 0, .int .i64 0, .int .i64 0, .int .i64 0, .int .i64 0, .string ⟨#[]⟩, .bool false, .int .i64 0, .int .i64 0, .slice none 0 0, .slice none 0 0, .bool false, .int .i64 0, .int .i64 0, .int .i64 0, .int .i64 0, .string ⟨#[]⟩] 29)).heap[rb]? = some (.cells #[.int .i64 0, .int .i64 0, .int .i64 0, .int .i64 0, .int .i64 0, .int .i64 0, .string ⟨#[]⟩, .bool false, .int .i64 0, .int .i64 0, .slice none 0 0, .slice none 0 0, .bool false, .int .i64 0, .int .i64 0, .int .i64 0, .int .i64 0, .string ⟨#[]⟩] 29 (0, 0))) := Lib.hid (by rw [← hrb]; exact heap_alloc_new w2 _)
    have HS : Hid ((#[.int .i64 0, .int .i64 0, .int .i64 0, .int .i64 0, .int .i64 0, .int .i64 0, .string ⟨#[]⟩, .bool false, .int .i64 0, .int .i64 0, .slice none 0 0, .slice none 0 0, .bool false, .int .i64 0, .int .i64 0, .int .i64 0, .int .i64 0, .string ⟨#[]⟩] : Array Value).size = t.cs.size) := Lib.hid rfl
    have HU := Lib.hid (TL.one t)
    have HI := Lib.hid (tl_info t)
    have HG0 : Hid (((w2.alloc (.cells #[.int .i64 0, .int .i64 0, .int .i64 0, .int .i64 0, .int .i64 0, .int .i64 0, .string ⟨#[]⟩, .bool false, .int .i64 0, .int .i64 0, .slice none 0 0, .slice none 0 0, .bool false, .int .i64 0, .int .i64 0, .int .i64 0, .int .i64 0, .string ⟨#[]⟩] 29)).setRow rb t.cs).heap[rb]? = some (.cells (wos t (l.take 0)).cs 29 (0, 0))) := Lib.hid (setRow_heap _ rb _ t.cs _ _ HZ0.out)
    have EG0 : Hid (Ext w2 ((w2.alloc (.cells #[.int .i64 0, .int .i64 0, .int .i64 0, .int .i64 0, .int .i64 0, .int .i64 0, .string ⟨#[]⟩, .bool false, .int .i64 0, .int .i64 0, .slice none 0 0, .slice none 0 0, .bool false, .int .i64 0, .int .i64 0, .int .i64 0, .int .i64 0, .string ⟨#[]⟩] 29)).setRow rb t.cs)) := Lib.hid (below_setRow ((Ext.refl w2).alloc _) (Nat.le_of_eq hrb) _)
    go_wp2_with (first | (with_reducible refine wpList_load_row rfl 29 (.tmp 1) rfl w.heap.size rfl _ _ _ _ HB2.out Try.underlying29 rfl HI.out ?_) | (with_reducible refine wpList_store_row rfl 29 (.tmp 6) (.tmp 21) rfl rb _ rfl rfl _ _ HZ0.out HI.out HS.out HU.out ?_) | fail)
    have hl2 : l.length ≤ 2 := HFL.out.1
    go_wp2_with fail
    go_loopw [5, 24] (fun gd i wr => ∃ k : Nat, k ≤ l.length ∧ gd = .bool (gt && (l.take k).all (bnd t)) ∧ i = .int .i64 k ∧ wr.heap[rb]? = some (.cells (wos t (l.take k)).cs 29 (0, 0)) ∧ Ext w2 wr) (fun _ i _ => l.length - (intOf i).toNat)
    case atStart => exact ⟨0, by omega, by simp, rfl, HG0.out, EG0.out⟩
    case round =>
      obtain ⟨k, hk, rfl, rfl, hbr, ext⟩ := hrel
      by_cases hkl : k < l.length
      · obtain ⟨b, off, u, rfl, hu, hc, _⟩ := SEEA.out.at_ hkl
        obtain ⟨f, hf, rfl⟩ := fv_get l k u hu
        have hf8 : f ≤ 8 := HFL.out.2 f (List.mem_of_getElem? hf)
        have hcr := ext.cell hc
        have HF8 := Lib.hid hf
        clear hf hu hc
        rcases Bool.eq_false_or_eq_true (gt && (l.take k).all (bnd t)) with gk | gk
        · rw [gk]
          have HGK := Lib.hid gk
          have HBT := Lib.hid (ext.heap HB2.out)
          clear gk
          go_wp2_with (first | (refine wpList_load_row_w (by rfl) 29 (.tmp 1) rfl w.heap.size rfl _ _ _ _ HBT.out Try.underlying29 rfl HI.out ?_) | fail)
          refine (bounded_any t f hf8 _ (HOK2.out.ext ext)).mono ?_
          rintro e w4 ⟨rfl, e4⟩
          have HBR := Lib.hid (e4.heap hbr)
          have EX := Lib.hid (ext.trans e4)
          have HIk := Lib.hid (tl_info (wos t (l.take k)))
          clear ext hbr
          go_wp2_with (first | (with_reducible refine wpList_load_row rfl 29 (.tmp 6) rfl rb rfl _ _ _ _ HBR.out Try.underlying29 rfl HIk.out ?_) | fail)
          refine (without_any (wos t (l.take k)) f hf8 _).mono ?_
          rintro e w5 ⟨rfl, e5⟩
          have HB5 := Lib.hid (e5.heap HBR.out)
          have HI5 := Lib.hid (tl_info (wo (wos t (l.take k)) f))
          have HS5 : Hid ((wos t (l.take k)).cs.size = (wo (wos t (l.take k)) f).cs.size) := Lib.hid rfl
          have HU5 := Lib.hid (TL.one (wo (wos t (l.take k)) f))
          have HG5 := Lib.hid (setRow_heap w5 rb _ (wo (wos t (l.take k)) f).cs _ _ HB5.out)
          have EG5 := Lib.hid (below_setRow (EX.out.trans e5) (Nat.le_of_eq hrb) (wo (wos t (l.take k)) f).cs)
          clear e5
          go_wp2_with (first | (with_reducible refine wpList_store_row rfl 29 (.tmp 6) (.tmp 36) rfl rb _ rfl rfl _ _ HB5.out HI5.out HS5.out HU5.out ?_) | fail)
          go_roundw
          case rel => exact ⟨k + 1, by omega, by rw [all_take _ _ _ _ HF8.out, ← Bool.and_assoc, HGK.out]; rfl, by go_num, by rw [wos_take _ _ _ _ HF8.out]; exact HG5.out, EG5.out⟩
          case measure => simp [intOf]; omega
        · rw [gk]
          have HGK := Lib.hid gk
          clear gk
          have HBR := Lib.hid (hbr)
          have EX := Lib.hid (ext)
          have HIk := Lib.hid (tl_info (wos t (l.take k)))
          clear ext hbr
          go_wp2_with (first | (with_reducible refine wpList_load_row rfl 29 (.tmp 6) rfl rb rfl _ _ _ _ HBR.out Try.underlying29 rfl HIk.out ?_) | fail)
          refine (without_any (wos t (l.take k)) f hf8 _).mono ?_
          rintro e w5 ⟨rfl, e5⟩
          have HB5 := Lib.hid (e5.heap HBR.out)
          have HI5 := Lib.hid (tl_info (wo (wos t (l.take k)) f))
          have HS5 : Hid ((wos t (l.take k)).cs.size = (wo (wos t (l.take k)) f).cs.size) := Lib.hid rfl
          have HU5 := Lib.hid (TL.one (wo (wos t (l.take k)) f))
          have HG5 := Lib.hid (setRow_heap w5 rb _ (wo (wos t (l.take k)) f).cs _ _ HB5.out)
          have EG5 := Lib.hid (below_setRow (EX.out.trans e5) (Nat.le_of_eq hrb) (wo (wos t (l.take k)) f).cs)
          clear e5
          go_wp2_with (first | (with_reducible refine wpList_store_row rfl 29 (.tmp 6) (.tmp 36) rfl rb _ rfl rfl _ _ HB5.out HI5.out HS5.out HU5.out ?_) | fail)
          go_roundw
          case rel => exact ⟨k + 1, by omega, by rw [all_take _ _ _ _ HF8.out, ← Bool.and_assoc, HGK.out]; rfl, by go_num, by rw [wos_take _ _ _ _ HF8.out]; exact HG5.out, EG5.out⟩
          case measure => simp [intOf]; omega
      · obtain rfl : k = l.length := by omega
        rw [List.take_length] at hbr ⊢
        rcases Bool.eq_false_or_eq_true (gt && l.all (bnd t)) with gk | gk
        · rw [gk]
          have HBR := Lib.hid hbr
          have EX := Lib.hid ext
          have hbt := ext.heap HB2.out
          have x0 := cell_of_row wr w.heap.size 0 _ _ _ hbt
          have x1 := cell_of_row wr w.heap.size 1 _ _ _ hbt
          simp [TL.cs] at x0 x1
          have HIk := Lib.hid (tl_info (wos t l))
          have HOw := Lib.hid (wos_ok l t (HOK2.out.ext ext))
          clear hbr ext hbt
          go_wp2_with (first | (refine wpList_load_row_w (by rfl) 29 (.tmp 6) rfl rb rfl _ _ _ _ HBR.out Try.underlying29 rfl HIk.out ?_) | fail)
          refine (tsame_any (wos t l) (TL.zero t.ty t.tg) ((wos t l).qn == 0) _ HOw.out (TL.zero_ok _ _ _) fun w' _ => ?_).mono ?_
          · refine (qeq_nil _ _ _ w' HOw.out.1.2.2.1 (by have := HOw.out.1.2.2.2.1; unfold maxLen at this; omega)).mono ?_
            rintro e w5 ⟨rfl, rfl⟩
            exact ⟨rfl, Ext.refl _⟩
          rintro e w4 ⟨rfl, e4⟩
          go_wp2_with fail
          go_ret
          exact ⟨by rw [show (bi t.tg 65535 && l.all (bnd t) && mr) = tEq (wos t l) (TL.zero t.ty t.tg) ((wos t l).qn == 0) from by rw [hgt, gk, Bool.true_and, HMR.out]]; rfl, (E2.out.trans EX.out).trans e4⟩
        · rw [gk]
          have EX := Lib.hid ext
          clear hbr ext
          go_wp2_with fail
          go_ret
          exact ⟨by rw [show (bi t.tg 65535 && l.all (bnd t) && mr) = false from by rw [hgt, gk]; rfl]; rfl, E2.out.trans EX.out⟩
  · have HF := Lib.hid (fields_no t.ty w1 g)
    have hM : mayT t = false := by unfold mayT; rw [g]; rfl
    rw [hM]
    clear hM
    obtain ⟨rb, hrb⟩ : ∃ rb, w1.heap.size = rb := ⟨_, rfl⟩
    have HZ0 : Hid ((w1.alloc (.cells #[.int .i64 0, .int .i64 0, .int .i64 0, .int .i64 0, .int .i64 0, .int .i64 0, .string ⟨#[]⟩, .bool false, .int .i64 0, .int .i64 0, .slice none 0 0, .slice none 0 0, .bool false, .int .i64 0, .int .i64 0, .int .i64 0, .int .i64 0, .string ⟨#[]⟩] 29)).heap[rb]? = some (.cells #[.int .i64 0, .int .i64 0, .int .i64 0, .int .i64 0, .int .i64 0, .int .i64 0, .string ⟨#[]⟩, .bool false, .int .i64 0, .int .i64 0, .slice none 0 0, .slice none 0 0, .bool false, .int .i64 0, .int .i64 0, .int .i64 0, .int .i64 0, .string ⟨#[]⟩] 29 (0, 0))) := Lib.hid (by rw [← hrb]; exact heap_alloc_new w1 _)
    have HS : Hid ((#[.int .i64 0, .int .i64 0, .int .i64 0, .int .i64 0, .int .i64 0, .int .i64 0, .string ⟨#[]⟩, .bool false, .int .i64 0, .int .i64 0, .slice none 0 0, .slice none 0 0, .bool false, .int .i64 0, .int .i64 0, .int .i64 0, .int .i64 0, .string ⟨#[]⟩] : Array Value).size = t.cs.size) := Lib.hid rfl
    have HU := Lib.hid (TL.one t)
    have HI := Lib.hid (tl_info t)
    have EG0 : Hid (Ext w ((w1.alloc (.cells #[.int .i64 0, .int .i64 0, .int .i64 0, .int .i64 0, .int .i64 0, .int .i64 0, .string ⟨#[]⟩, .bool false, .int .i64 0, .int .i64 0, .slice none 0 0, .slice none 0 0, .bool false, .int .i64 0, .int .i64 0, .int .i64 0, .int .i64 0, .string ⟨#[]⟩] 29)).setRow rb t.cs)) := Lib.hid (E1.out.trans (below_setRow ((Ext.refl w1).alloc _) (Nat.le_of_eq hrb) _))
    go_enter Try.func15, Try.ntmps15
    go_wp2_with fail
    refine HF.out.mono ?_
    rintro e w2 ⟨rfl, rfl⟩
    go_wp2_with (first | (with_reducible refine wpList_load_row rfl 29 (.tmp 1) rfl w.heap.size rfl _ _ _ _ HB1.out Try.underlying29 rfl HI.out ?_) | (with_reducible refine wpList_store_row rfl 29 (.tmp 6) (.tmp 21) rfl rb _ rfl rfl _ _ HZ0.out HI.out HS.out HU.out ?_) | fail)
    go_wp2_with fail
    go_loopw [5, 24] (fun gd i wr => gd = .bool false ∧ i = .int .i64 0 ∧ Ext w wr) (fun _ _ _ => 0)
    case atStart => exact ⟨rfl, rfl, EG0.out⟩
    case round =>
      obtain ⟨rfl, rfl, ext⟩ := hrel
      go_wp2_with fail
      go_ret
      exact ⟨rfl, ext⟩
end Go.Proofs.Ytihiclnbbpablaa
