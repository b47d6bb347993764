/-
  The document's own reader of layer 1: what each of its methods returns and leaves, as the same plain functions.
-/
import Derived.Test.YtpjigdfllbhknaaXdrS
import Derived.Test.YtpjigdfllbhknaaOrd
namespace Go.Proofs.Ytpjigdfllbhknaa
open Go Go.RowKit
set_option linter.unusedVariables false
set_option linter.unusedSimpArgs false
set_option maxRecDepth 20000

/-- A block that holds no byte. -/
def Plain (w : World) (g : Nat) : Prop := ∃ cs t fr, w.heap[g]? = some (.cells cs t fr) ∧ ∀ (i : Nat) (x : Int), cs[i]? ≠ some (.int .u8 x)
theorem Sees.offBlk {w : World} {g : Nat} {A : Option Addr} {n c : Nat} {m : List UInt8} (h : Sees w A n c (bs m)) (hg : Plain w g) {b off j : Nat} {u : Value} (hc : w.cell? ⟨b, off + j, none⟩ = some u) (hu : (bs m)[j]? = some u) : b ≠ g := by
  rintro rfl
  obtain ⟨cs, t, fr, hb, hx⟩ := hg
  rw [cell_of_row w b (off + j) _ t fr hb] at hc
  obtain ⟨hj, rfl⟩ := bs_get m j u hu
  exact hx _ _ hc
theorem Sees.onP {w w' : World} {g : Nat} {A : Option Addr} {n c : Nat} {m : List UInt8} (h : Sees w A n c (bs m)) (hg : Plain w g) (ho : Onl g w w') : Sees w' A n c (bs m) :=
  ⟨h.1, h.2.1, h.2.2.1, h.2.2.2.1, fun hn => by
    obtain ⟨b, off, hA, hc⟩ := h.2.2.2.2 hn
    exact ⟨b, off, hA, fun j u hu => ho.cell (hc j u hu) (h.offBlk hg (hc j u hu) hu)⟩⟩
theorem Rdr.plain {w : World} {g : Nat} {e : Int} {l : List UInt8} (h : Rdr w g e l) : Plain w g := by
  obtain ⟨A, n, c, hb, _⟩ := h
  refine ⟨_, _, _, hb, fun i x => ?_⟩
  match i with
  | 0 => simp
  | 1 => simp
  | k + 2 => simp

/-- The document's reader in block h: its first error, the bytes that are left (none behind an error). -/
def Rfr (w : World) (h : Nat) (e : Int) (l : List UInt8) : Prop :=
  ∃ A n c B I, w.heap[h]? = some (.cells #[.slice A n c, .int .i64 ((I : Nat) : Int), .int .i64 e] 73 (0, 0)) ∧ Sees w A n c (bs B) ∧ I ≤ n ∧ (e = 0 → l = B.drop I) ∧ (e ≠ 0 → l = [])
theorem Rfr.plain {w : World} {g : Nat} {e : Int} {l : List UInt8} (h : Rfr w g e l) : Plain w g := by
  obtain ⟨A, n, c, B, I, hb, _⟩ := h
  refine ⟨_, _, _, hb, fun i x => ?_⟩
  match i with
  | 0 => simp
  | 1 => simp
  | 2 => simp
  | k + 3 => simp
theorem Rfr.lt {w : World} {g : Nat} {e : Int} {l : List UInt8} (h : Rfr w g e l) : g < w.heap.size := by
  obtain ⟨A, n, c, B, I, hb, _⟩ := h
  exact (Array.getElem?_eq_some_iff.1 hb).1
theorem Rfr.ext {w w' : World} {g : Nat} {e : Int} {l : List UInt8} (h : Rfr w g e l) (he : Ext w w') : Rfr w' g e l := by
  obtain ⟨A, n, c, B, I, hb, hs, hr⟩ := h
  exact ⟨A, n, c, B, I, he.heap hb, hs.ext he, hr⟩
theorem Rfr.onP {w w' : World} {g h : Nat} {e : Int} {l : List UInt8} (hh : Rfr w h e l) (hg : Plain w g) (ho : Onl g w w') (hne : h ≠ g) : Rfr w' h e l := by
  obtain ⟨A, n, c, B, I, hb, hs, hr⟩ := hh
  exact ⟨A, n, c, B, I, ho.heap hb hne, hs.onP hg ho, hr⟩
theorem Rdr.onP {w w' : World} {g h : Nat} {e : Int} {l : List UInt8} (hh : Rdr w h e l) (hg : Plain w g) (ho : Onl g w w') (hne : h ≠ g) : Rdr w' h e l := by
  obtain ⟨A, n, c, hb, hs⟩ := hh
  exact ⟨A, n, c, ho.heap hb hne, hs.onP hg ho⟩
theorem ferr_ne {e er : Int} (h : e ≠ 0) : ferr e er = e := if_neg h

theorem rshort_err (h : Nat) (e k : Int) (l : List UInt8) (w : World) (hr : Rfr w h e l) (he : e ≠ 0) :
    Calls Try.prog 55 #[.pointer (some ⟨h, 0, none⟩), .int .i64 k] w fun x w' => x = .returned (.bool true) ∧ w = w' := by
  obtain ⟨A, n, c, B, I, hb, hs, hI, h0, h1⟩ := hr
  have c2 := cell_of_row w h 2 _ _ _ hb
  simp at c2
  have he' : (e == 0) = false := by simpa using he
  clear h0 h1
  go_enter Try.func55, Try.ntmps55
  go_wp2
  go_ret
  exact ⟨rfl, rfl⟩
theorem rshort_few (h : Nat) (k : Int) (l : List UInt8) (w : World) (hr : Rfr w h 0 l) (hk : (l.length : Int) < k) :
    Calls Try.prog 55 #[.pointer (some ⟨h, 0, none⟩), .int .i64 k] w fun x w' => x = .returned (.bool true) ∧ Rfr w' h 3 [] ∧ Onl h w w' := by
  have hR := hr
  obtain ⟨A, n, c, B, I, hb, hs, hI, h0, h1⟩ := hr
  have hp := hR.plain
  have c0 := cell_of_row w h 0 _ _ _ hb
  have c1 := cell_of_row w h 1 _ _ _ hb
  have c2 := cell_of_row w h 2 _ _ _ hb
  have f2 := blk_free hb 2
  simp at c0 c1 c2
  have hBl := hs.len
  rw [bs_length] at hBl
  have hl := congrArg List.length (h0 rfl)
  rw [List.length_drop] at hl
  have hm := hs.max
  have hle := hs.le
  unfold maxLen at hm
  have hlt : (n : Int) - (I : Int) < k := by omega
  have hset := fun m => set_blk (w := w.drewN m) hb 2 (.int .i64 3)
  have hsee := fun m => (hs.ext ((Ext.refl w).drewN m)).onP (hR.ext ((Ext.refl w).drewN m)).plain (Onl.set (w.drewN m) 2 (.int .i64 3))
  clear h0 h1 hl hBl hs
  go_enter Try.func55, Try.ntmps55
  go_wp2
  go_quiet (fail)
  go_wp2
  go_ret
  exact ⟨rfl, ⟨A, n, c, B, I, by simpa using hset _, hsee _, hI, (fun h => absurd h (by decide)), fun _ => rfl⟩, (Onl.of_ext ((Ext.refl _).drewN _)).trans (Onl.set _ 2 _)⟩
theorem rshort_ok (h : Nat) (k : Int) (l : List UInt8) (w : World) (hr : Rfr w h 0 l) (hk : k ≤ (l.length : Int)) :
    Calls Try.prog 55 #[.pointer (some ⟨h, 0, none⟩), .int .i64 k] w fun x w' => x = .returned (.bool false) ∧ Ext w w' := by
  obtain ⟨A, n, c, B, I, hb, hs, hI, h0, h1⟩ := hr
  have c0 := cell_of_row w h 0 _ _ _ hb
  have c1 := cell_of_row w h 1 _ _ _ hb
  have c2 := cell_of_row w h 2 _ _ _ hb
  simp at c0 c1 c2
  have hBl := hs.len
  rw [bs_length] at hBl
  have hl := congrArg List.length (h0 rfl)
  rw [List.length_drop] at hl
  have hm := hs.max
  have hle := hs.le
  unfold maxLen at hm
  have hlt : ¬ (n : Int) - (I : Int) < k := by omega
  clear h0 h1 hl hBl hs
  go_enter Try.func55, Try.ntmps55
  go_wp2
  go_quiet (fail)
  go_wp2
  go_ret
  exact ⟨rfl, (Ext.refl _).drewN _⟩
theorem rshort_no (h : Nat) (e k : Int) (l : List UInt8) (w : World) (hr : Rfr w h e l) (hk : (l.length : Int) < k) :
    Calls Try.prog 55 #[.pointer (some ⟨h, 0, none⟩), .int .i64 k] w fun x w' => x = .returned (.bool true) ∧ Rfr w' h (ferr e 3) [] ∧ Onl h w w' := by
  by_cases he : e = 0
  · subst he
    exact rshort_few h k l w hr hk
  · refine (rshort_err h e k l w hr he).mono ?_
    rintro x w' ⟨rfl, rfl⟩
    rw [ferr_ne he]
    obtain ⟨A, n, c, B, I, hb, hs, hI, h0, h1⟩ := hr
    exact ⟨rfl, ⟨A, n, c, B, I, hb, hs, hI, fun h => absurd h he, fun _ => rfl⟩, Onl.refl _ _⟩

theorem rword_any (h i : Nat) (A : Option Addr) (n c I : Nat) (e : Int) (B : List UInt8) (w : World) (hb : w.heap[h]? = some (.cells #[.slice A n c, .int .i64 ((I : Nat) : Int), .int .i64 e] 73 (0, 0))) (hs : Sees w A n c (bs B)) (hi : i + 4 ≤ n) :
    Calls Try.prog 56 #[.pointer (some ⟨h, 0, none⟩), .int .i64 i] w fun x w' => x = .returned (.int .u32 (num4 (B.drop i))) ∧ Ext w w' := by
  have c0 := cell_of_row w h 0 _ _ _ hb
  simp at c0
  have hBl := hs.len
  rw [bs_length] at hBl
  have hm := hs.max
  have hle := hs.le
  unfold maxLen at hm
  obtain ⟨b, off, hA, hc⟩ := hs.2.2.2.2 (by omega)
  subst hA
  have hc' : ∀ j, j < 4 → w.cell? ⟨b, off + (i + j), none⟩ = some (.int .u8 (((B.drop i).getD j 0).toNat : Int)) := fun j hj => hc (i + j) _ (by
    have h1 : i + j < B.length := by omega
    simp [bs, h1, List.getD_eq_getElem?_getD])
  have g0 := hc' 0 (by omega)
  have g1 := hc' 1 (by omega)
  have g2 := hc' 2 (by omega)
  have g3 := hc' 3 (by omega)
  have b0 := ((B.drop i).getD 0 0).toNat_lt
  have b1 := ((B.drop i).getD 1 0).toNat_lt
  have b2 := ((B.drop i).getD 2 0).toNat_lt
  have b3 := ((B.drop i).getD 3 0).toNat_lt
  have hfin : num4 (B.drop i) = (((B.drop i).getD 0 0).toNat : Int) * 16777216 + (((B.drop i).getD 1 0).toNat : Int) * 65536 + (((B.drop i).getD 2 0).toNat : Int) * 256 + (((B.drop i).getD 3 0).toNat : Int) := rfl
  have HF := Lib.hid hfin
  generalize ((B.drop i).getD 0 0).toNat = x0 at *
  generalize ((B.drop i).getD 1 0).toNat = x1 at *
  generalize ((B.drop i).getD 2 0).toNat = x2 at *
  generalize ((B.drop i).getD 3 0).toNat = x3 at *
  rw [Nat.add_zero] at g0
  clear hc hc' hfin hs hBl
  go_enter Try.func56, Try.ntmps56
  go_wp2
  go_quiet (fail)
  go_wp2
  go_ret
  exact ⟨by rw [HF.out]; rfl, (Ext.refl _).drewN _⟩
theorem ru32_few (h : Nat) (e : Int) (l : List UInt8) (w : World) (hr : Rfr w h e l) (hk : l.length < 4) :
    Calls Try.prog 35 #[.pointer (some ⟨h, 0, none⟩)] w fun x w' => x = .returned (.int .u32 0) ∧ Rfr w' h (ferr e 3) [] ∧ Onl h w w' := by
  go_enter Try.func35, Try.ntmps35
  go_wp2_with fail
  refine (rshort_no h e 4 l _ hr (by omega)).mono ?_
  rintro x w1 ⟨rfl, hr1, ho1⟩
  go_wp2
  go_ret
  exact ⟨rfl, hr1, ho1⟩
theorem Rfr.zero {w : World} {h : Nat} {e : Int} {l : List UInt8} (hr : Rfr w h e l) (hk : 0 < l.length) : e = 0 := by
  obtain ⟨A, n, c, B, I, hb, hs, hI, h0, h1⟩ := hr
  by_cases he : e = 0
  · exact he
  · rw [h1 he] at hk
    simp at hk
theorem ru32_ok (h : Nat) (e : Int) (l : List UInt8) (w : World) (hr : Rfr w h e l) (hk : 4 ≤ l.length) :
    Calls Try.prog 35 #[.pointer (some ⟨h, 0, none⟩)] w fun x w' => x = .returned (.int .u32 (num4 l)) ∧ Rfr w' h e (l.drop 4) ∧ Onl h w w' := by
  obtain rfl := hr.zero (by omega)
  go_enter Try.func35, Try.ntmps35
  go_wp2_with fail
  refine (rshort_ok h 4 l _ hr (by omega)).mono ?_
  rintro x w1 ⟨rfl, e1⟩
  have hr1 := hr.ext e1
  clear hr
  have hp1 := hr1.plain
  obtain ⟨A, n, c, B, I, hb, hs, hI, h0, h1⟩ := hr1
  have hl := h0 rfl
  subst hl
  have hBl := hs.len
  rw [bs_length] at hBl
  rw [List.length_drop] at hk
  have hm := hs.max
  have hle := hs.le
  unfold maxLen at hm
  have c1 := cell_of_row w1 h 1 _ _ _ hb
  simp at c1
  clear h0 h1
  go_wp2_with fail
  refine (rword_any h I A n c I 0 B _ hb hs (by omega)).mono ?_
  rintro x w2 ⟨rfl, e2⟩
  have hb2 := e2.heap hb
  have hs2 := hs.ext e2
  have c1' := cell_of_row w2 h 1 _ _ _ hb2
  have f1 := blk_free hb2 1
  simp at c1'
  have hset := set_blk hb2 1 (.int .i64 ((I : Int) + 4))
  have hp2 : Plain w2 h := ⟨_, _, _, hb2, hp1.elim fun cs ⟨t, fr, q1, q2⟩ => by rw [hb] at q1; injection q1 with q1; injection q1 with q1 q3 q4; subst q1; exact q2⟩
  have hsee := hs2.onP hp2 (Onl.set w2 1 (.int .i64 ((I : Int) + 4)))
  clear c1 hb hs hb2 hs2 hp1 hp2
  go_wp2
  go_ret
  refine ⟨rfl, ⟨A, n, c, B, I + 4, by simpa using hset, hsee, by omega, fun _ => by rw [List.drop_drop], fun h => absurd rfl h⟩, (Onl.of_ext (e1.trans e2)).trans (Onl.set _ 1 _)⟩
theorem ru64_few (h : Nat) (e : Int) (l : List UInt8) (w : World) (hr : Rfr w h e l) (hk : l.length < 8) :
    Calls Try.prog 37 #[.pointer (some ⟨h, 0, none⟩)] w fun x w' => x = .returned (.int .u64 0) ∧ Rfr w' h (ferr e 3) [] ∧ Onl h w w' := by
  go_enter Try.func37, Try.ntmps37
  go_wp2_with fail
  refine (rshort_no h e 8 l _ hr (by omega)).mono ?_
  rintro x w1 ⟨rfl, hr1, ho1⟩
  go_wp2
  go_ret
  exact ⟨rfl, hr1, ho1⟩
theorem ru64_ok (h : Nat) (e : Int) (l : List UInt8) (w : World) (hr : Rfr w h e l) (hk : 8 ≤ l.length) :
    Calls Try.prog 37 #[.pointer (some ⟨h, 0, none⟩)] w fun x w' => x = .returned (.int .u64 (num8 l)) ∧ Rfr w' h e (l.drop 8) ∧ Onl h w w' := by
  obtain rfl := hr.zero (by omega)
  go_enter Try.func37, Try.ntmps37
  go_wp2_with fail
  refine (rshort_ok h 8 l _ hr (by omega)).mono ?_
  rintro x w1 ⟨rfl, e1⟩
  have hr1 := hr.ext e1
  clear hr
  have hp1 := hr1.plain
  obtain ⟨A, n, c, B, I, hb, hs, hI, h0, h1⟩ := hr1
  have hl := h0 rfl
  subst hl
  have hBl := hs.len
  rw [bs_length] at hBl
  rw [List.length_drop] at hk
  have hm := hs.max
  have hle := hs.le
  unfold maxLen at hm
  have q1 := num4_bound (B.drop I)
  have q2 := num4_bound (B.drop (I + 4))
  have hn8 : num8 (B.drop I) = num4 (B.drop I) * 4294967296 + num4 (B.drop (I + 4)) := by unfold num8; rw [List.drop_drop]
  have HN8 := Lib.hid hn8
  have hlc : ∀ w', Ext w1.drew w' → w'.cell? ⟨h, 1, none⟩ = some (.int .i64 (I : Int)) := fun w' hw => by
    have := cell_of_row w' h 1 _ _ _ (hw.heap (show w1.drew.heap[h]? = _ from hb))
    simpa using this
  have hrow : ∀ (i : Nat) w', i + 4 ≤ n → Ext w1.drew w' → Calls Try.prog 56 #[.pointer (some ⟨h, 0, none⟩), .int .i64 i] w' fun x w'' => x = .returned (.int .u32 (num4 (B.drop i))) ∧ Ext w' w'' := fun i w' hi hw =>
    rword_any h i A n c I 0 B w' (hw.heap (show w1.drew.heap[h]? = _ from hb)) (hs.drew.ext hw) hi
  have hEnd : ∀ w', Ext w1.drew w' → Rfr (w'.setCell ⟨h, 1, none⟩ (.int .i64 ((I : Int) + 8))) h 0 (B.drop (I + 8)) ∧ w'.cell? ⟨h, 1, none⟩ = some (.int .i64 (I : Int)) ∧ w'.frozen? ⟨h, 1, none⟩ = false := fun w' hw => by
    have hb2 := hw.heap (show w1.drew.heap[h]? = _ from hb)
    have hp2 : Plain w' h := ⟨_, _, _, hb2, hp1.elim fun cs ⟨t, fr, q1, q2⟩ => by rw [hb] at q1; injection q1 with q1; injection q1 with q1 q3 q4; subst q1; exact q2⟩
    have hset := set_blk hb2 1 (.int .i64 ((I : Int) + 8))
    exact ⟨⟨A, n, c, B, I + 8, by simpa using hset, (hs.drew.ext hw).onP hp2 (Onl.set w' 1 _), by omega, fun _ => rfl, fun h => absurd rfl h⟩, hlc w' hw, blk_free hb2 1⟩
  have HEnd := Lib.hid hEnd
  have HRow := Lib.hid hrow
  have hn : I + 8 ≤ n := by omega
  clear h0 h1 hb hs hp1 hBl hEnd hn8 hk hrow
  go_wp2_with fail
  refine wp_region_ord [0, 1, 2, 3, 4, 8, 9, 10, 11, 12, 13, 5, 6, 7, 14, 15, 16, 17] [11, 14] (by kernel_rfl) (by kernel_rfl) rfl (by kernel_rfl) ?_
  repeat (refine lex_val (v := ?_) rfl rfl (fun w' hw' => ?_) ?_; rotate_left; (· go_simp; try with_reducible rfl); simp only [Act.put, List.setIfInBounds_toArray, List.set_cons_zero, List.set_cons_succ])
  refine lex_call 56 #[.pointer (some ⟨h, 0, none⟩), .int .i64 I] rfl rfl (by go_simp) ?_
  refine (HRow.out I _ (by omega) (Ext.refl _)).mono ?_
  rintro x w2 ⟨rfl, e2⟩
  refine ⟨_, rfl, e2, ?_⟩
  clear hlc
  simp only [Act.put, List.setIfInBounds_toArray, List.set_cons_zero, List.set_cons_succ]
  repeat (refine lex_val (v := ?_) rfl rfl (fun w' hw' => ?_) ?_; rotate_left; (· go_simp; try with_reducible rfl); simp only [Act.put, List.setIfInBounds_toArray, List.set_cons_zero, List.set_cons_succ])
  refine lex_call 56 #[.pointer (some ⟨h, 0, none⟩), .int .i64 (I + 4 : Nat)] rfl rfl (by go_simp; rw [IntWalk.i64_in ((I : Int) + 4) ⟨by omega, by omega⟩]) ?_
  refine (HRow.out (I + 4) _ (by omega) e2).mono ?_
  rintro x w3 ⟨rfl, e3⟩
  refine ⟨_, rfl, e3, ?_⟩
  simp only [Act.put, List.setIfInBounds_toArray, List.set_cons_zero, List.set_cons_succ]
  repeat (refine lex_val (v := ?_) rfl rfl (fun w' hw' => ?_) ?_; rotate_left; (· go_simp; try with_reducible rfl); simp only [Act.put, List.setIfInBounds_toArray, List.set_cons_zero, List.set_cons_succ])
  refine lex_done ?_
  obtain ⟨k1, k2, k3⟩ := HEnd.out w3 (e2.trans e3)
  have hx : Onl h w w3 := Onl.of_ext (e1.trans ((Ext.refl w1).drew.trans (e2.trans e3)))
  clear HEnd HRow
  go_wp2
  go_ret
  have e64 : IntKind.u64.wrap (IntKind.u64.wrap (IntKind.u64.wrap (num4 (List.drop I B)) * 4294967296) + IntKind.u64.wrap (num4 (List.drop (I + 4) B))) = num4 (List.drop I B) * 4294967296 + num4 (List.drop (I + 4) B) := by
    rw [IntWalk.u64_in (num4 (List.drop I B)) ⟨by omega, by omega⟩, IntWalk.u64_in (num4 (List.drop (I + 4) B)) ⟨by omega, by omega⟩, IntWalk.u64_in (num4 (List.drop I B) * 4294967296) ⟨by omega, by omega⟩, IntWalk.u64_in _ ⟨by omega, by omega⟩]
  exact ⟨by rw [HN8.out, ← e64]; rfl, by rw [List.drop_drop]; exact k1, hx.trans (Onl.set _ 1 _)⟩
theorem Rfr.err {w : World} {h : Nat} {e : Int} {l : List UInt8} (hr : Rfr w h e l) : w.cell? ⟨h, 2, none⟩ = some (.int .i64 e) ∧ w.frozen? ⟨h, 2, none⟩ = false := by
  obtain ⟨A, n, c, B, I, hb, _⟩ := hr
  have := cell_of_row w h 2 _ _ _ hb
  exact ⟨by simpa using this, blk_free hb 2⟩
theorem Rfr.fail {w : World} {h : Nat} {e : Int} {l : List UInt8} (hr : Rfr w h e l) (x : Int) (hx : x ≠ 0) : Rfr (w.setCell ⟨h, 2, none⟩ (.int .i64 x)) h x [] := by
  have hp := hr.plain
  obtain ⟨A, n, c, B, I, hb, hs, hI, h0, h1⟩ := hr
  have hset := set_blk hb 2 (.int .i64 x)
  exact ⟨A, n, c, B, I, by simpa using hset, hs.onP hp (Onl.set w 2 _), hI, fun h => absurd h hx, fun _ => rfl⟩
theorem rleft_any (h : Nat) (e : Int) (l : List UInt8) (w : World) (hr : Rfr w h e l) :
    Calls Try.prog 38 #[.pointer (some ⟨h, 0, none⟩)] w fun x w' => x = .returned (.int .i64 l.length) ∧ Ext w w' := by
  obtain ⟨A, n, c, B, I, hb, hs, hI, h0, h1⟩ := hr
  have c0 := cell_of_row w h 0 _ _ _ hb
  have c1 := cell_of_row w h 1 _ _ _ hb
  have c2 := cell_of_row w h 2 _ _ _ hb
  simp at c0 c1 c2
  have hBl := hs.len
  rw [bs_length] at hBl
  have hm := hs.max
  have hle := hs.le
  unfold maxLen at hm
  by_cases he : e = 0
  · subst he
    have hl := congrArg List.length (h0 rfl)
    rw [List.length_drop] at hl
    have hl' : (l.length : Int) = (n : Int) - (I : Int) := by omega
    rw [hl']
    clear h0 h1 hl hBl hs hl'
    go_enter Try.func38, Try.ntmps38
    go_wp2
    go_quiet (fail)
    go_wp2
    go_ret
    exact ⟨rfl, (Ext.refl _).drewN _⟩
  · have hl := h1 he
    subst hl
    have he' : (e == 0) = false := by simpa using he
    clear h0 h1
    go_enter Try.func38, Try.ntmps38
    go_wp2
    go_ret
    exact ⟨rfl, Ext.refl _⟩
/-- What is read of a text. -/
theorem rtext_few (h : Nat) (e most : Int) (l : List UInt8) (w : World) (hr : Rfr w h e l) (hk : l.length < 4) :
    Calls Try.prog 36 #[.pointer (some ⟨h, 0, none⟩), .int .i64 most] w fun x w' => ∃ A c, x = .returned (.slice A 0 c) ∧ Sees w' A 0 c (bs []) ∧ Rfr w' h (ferr e 3) [] ∧ Onl h w w' := by
  have he : (ferr e 3 == 0) = false := by
    unfold ferr
    split
    · rfl
    · simpa using ‹¬ e = 0›
  go_enter Try.func36, Try.ntmps36
  go_wp2_with fail
  refine (ru32_few h e l _ hr hk).mono ?_
  rintro x w1 ⟨rfl, hr1, ho1⟩
  obtain ⟨hc, hf⟩ := hr1.err
  generalize hfe : ferr e 3 = e3 at *
  have HFE := Lib.hid hfe
  clear hfe
  go_wp2
  go_ret
  exact ⟨none, 0, rfl, Sees.nil _, by rw [HFE.out]; exact hr1, ho1⟩
theorem rtext_range (h : Nat) (e most : Int) (l : List UInt8) (M : Nat) (w : World) (hr : Rfr w h e l) (hk : 4 ≤ l.length) (hM : num4 l = (M : Int)) (hm : most < (M : Int)) :
    Calls Try.prog 36 #[.pointer (some ⟨h, 0, none⟩), .int .i64 most] w fun x w' => ∃ A c, x = .returned (.slice A 0 c) ∧ Sees w' A 0 c (bs []) ∧ Rfr w' h (ferr e 4) [] ∧ Onl h w w' := by
  obtain rfl := hr.zero (by omega)
  have hb := num4_bound l
  have hu := ru32_ok h 0 l w hr hk
  rw [hM] at hb hu
  go_enter Try.func36, Try.ntmps36
  go_wp2_with fail
  refine hu.mono ?_
  rintro x w1 ⟨rfl, hr1, ho1⟩
  obtain ⟨hc, hf⟩ := hr1.err
  clear hu
  go_wp2
  go_ret
  exact ⟨none, 0, rfl, Sees.nil _, hr1.fail 4 (by decide), ho1.trans (Onl.set _ 2 _)⟩
theorem rtext_short (h : Nat) (e most : Int) (l : List UInt8) (M : Nat) (w : World) (hr : Rfr w h e l) (hk : 4 ≤ l.length) (hM : num4 l = (M : Int)) (hm : (M : Int) ≤ most) (hs : l.length - 4 < M + pad M) :
    Calls Try.prog 36 #[.pointer (some ⟨h, 0, none⟩), .int .i64 most] w fun x w' => ∃ A c, x = .returned (.slice A 0 c) ∧ Sees w' A 0 c (bs []) ∧ Rfr w' h (ferr e 3) [] ∧ Onl h w w' := by
  obtain rfl := hr.zero (by omega)
  have hb := num4_bound l
  have hu := ru32_ok h 0 l w hr hk
  rw [hM] at hb hu
  have hp := pad_le M
  have hmod : ∀ i : Nat, i ≤ pad M → ((((M + i : Nat) : Int)) % 4 == 0) = decide (i = pad M) := fun i hi => by
    unfold pad at hi ⊢
    rw [Bool.eq_iff_iff]
    simp
    omega
  have HMod := Lib.hid hmod
  clear hmod
  go_enter Try.func36, Try.ntmps36
  go_wp2_with fail
  refine hu.mono ?_
  rintro x w1 ⟨rfl, hr1, ho1⟩
  obtain ⟨hc, hf⟩ := hr1.err
  clear hu
  go_wp2
  go_loop [6] (fun i => ∃ (k : Nat) (z : Int), k ≤ pad M ∧ z = M + k ∧ i = .int .i64 z) (fun i => pad M + M - (intOf i).toNat)
  case atStart => exact ⟨0, M, by omega, by omega, rfl⟩
  case round =>
    obtain ⟨k, z, hkp, hz, rfl⟩ := hrel
    have hza : (M : Int) + (k : Int) ≤ z := by omega
    have hzb : z ≤ (M : Int) + (k : Int) := by omega
    have hzm := HMod.out k hkp
    by_cases hkk : k = pad M
    · have hz4 : (z % 4 == 0) = true := by rw [hz]; simpa [hkk] using hzm
      have hz5 : (z % 4 != 0) = false := by simp [bne, hz4]
      clear hzm hz
      go_wp2_with fail
      refine (rshort_few h z _ _ hr1 (by rw [List.length_drop]; omega)).mono ?_
      rintro x w2 ⟨rfl, hr2, ho2⟩
      go_wp2
      go_ret
      exact ⟨none, 0, rfl, Sees.nil _, hr2, ho1.trans ho2⟩
    · have hz4 : (z % 4 == 0) = false := by rw [hz]; simpa [hkk] using hzm
      have hz5 : (z % 4 != 0) = true := by simp [bne, hz4]
      clear hzm hz
      go_wp2
      go_round
      case rel => exact ⟨k + 1, z + 1, by omega, by omega, rfl⟩
      case measure => simp [intOf]; omega
theorem rtext_ok (h : Nat) (e most : Int) (l : List UInt8) (M : Nat) (w : World) (hr : Rfr w h e l) (hk : 4 ≤ l.length) (hM : num4 l = (M : Int)) (hm : (M : Int) ≤ most) (hs : M + pad M ≤ l.length - 4)
    (hz : ∀ k, k < pad M → (l.drop 4).getD (M + k) 0 = 0) :
    Calls Try.prog 36 #[.pointer (some ⟨h, 0, none⟩), .int .i64 most] w fun x w' => ∃ A c, x = .returned (.slice A M c) ∧ Sees w' A M c (bs ((l.drop 4).take M)) ∧ Rfr w' h e (l.drop (4 + (M + pad M))) ∧ Onl h w w' := by
  obtain rfl := hr.zero (by omega)
  have hb := num4_bound l
  have hu := ru32_ok h 0 l w hr hk
  rw [hM] at hb hu
  have hp := pad_le M
  have hmod : ∀ i : Nat, i ≤ pad M → ((((M + i : Nat) : Int)) % 4 == 0) = decide (i = pad M) := fun i hi => by
    unfold pad at hi ⊢
    rw [Bool.eq_iff_iff]
    simp
    omega
  have HMod := Lib.hid hmod
  have hz0 := Lib.hid hz
  clear hz
  clear hmod
  go_enter Try.func36, Try.ntmps36
  go_wp2_with fail
  refine hu.mono ?_
  rintro x w1 ⟨rfl, hr1, ho1⟩
  obtain ⟨hc, hf⟩ := hr1.err
  clear hu
  go_wp2
  go_loop [6] (fun i => ∃ (k : Nat) (z : Int), k ≤ pad M ∧ z = M + k ∧ i = .int .i64 z) (fun i => pad M + M - (intOf i).toNat)
  case atStart => exact ⟨0, M, by omega, by omega, rfl⟩
  case round =>
    obtain ⟨k, z, hkp, hz, rfl⟩ := hrel
    have hza : (M : Int) + (k : Int) ≤ z := by omega
    have hzb : z ≤ (M : Int) + (k : Int) := by omega
    have hzm := HMod.out k hkp
    by_cases hkk : k = pad M
    · have hz4 : (z % 4 == 0) = true := by rw [hz]; simpa [hkk] using hzm
      have hz5 : (z % 4 != 0) = false := by simp [bne, hz4]
      clear hzm hz
      go_wp2_with fail
      refine (rshort_ok h z _ _ hr1 (by rw [List.length_drop]; omega)).mono ?_
      rintro x w2 ⟨rfl, e2⟩
      have hr2 := hr1.ext e2
      clear hr1
      go_wp2
      go_loopw [7] (fun i wr => ∃ (j m : Nat), j ≤ pad M ∧ m = M + j ∧ i = .int .i64 (m : Int) ∧ Ext w2 wr) (fun i _ => pad M + M - (intOf i).toNat)
      case atStart => exact ⟨0, M, by omega, by omega, rfl, Ext.refl _⟩
      case round =>
        obtain ⟨j, m, hj, hm0, rfl, extj⟩ := hrel
        have hma : M + j ≤ m := by omega
        have hmb : m ≤ M + j := by omega
        have hrj := hr2.ext extj
        have hpj := hrj.plain
        obtain ⟨A, n, c, B, I, hbl, hsb, hI, h0, h1⟩ := hrj
        have hlB := h0 rfl
        have c0 := cell_of_row wr h 0 _ _ _ hbl
        have c1 := cell_of_row wr h 1 _ _ _ hbl
        simp at c0 c1
        have hBl := hsb.len
        rw [bs_length] at hBl
        have hlen := congrArg List.length hlB
        rw [List.length_drop, List.length_drop] at hlen
        have hmx := hsb.max
        have hle := hsb.le
        unfold maxLen at hmx
        have hnI : I + M + pad M ≤ n := by omega
        clear h0 h1
        by_cases hlt : j < pad M
        · have hzj := hz0.out j hlt
          obtain ⟨b, off, hA, hcl⟩ := hsb.2.2.2.2 (by omega)
          subst hA
          have hcell : wr.cell? ⟨b, off + (I + m), none⟩ = some (.int .u8 0) := by
            refine hcl (I + m) _ ?_
            have h1 : I + m < B.length := by omega
            rw [hlB, List.getD_eq_getElem?_getD, List.getElem?_drop, ← hm0, List.getElem?_eq_getElem h1] at hzj
            have h2 : B[I + m] = 0 := by simpa using hzj
            simp [bs, List.getElem?_eq_getElem h1, h2]
          have hmz : (m : Int) < z := by omega
          clear hcl hzj hlB hlen hBl hm0 hsb hbl hpj
          go_wp2
          go_quiet (fail)
          go_wp2
          go_roundw
          case rel => exact ⟨j + 1, m + 1, by omega, by omega, by go_num, extj.trans ((Ext.refl _).drewN _)⟩
          case measure => simp [intOf]; omega
        · have hmz : ¬ (m : Int) < z := by omega
          have hset := fun k => set_blk (w := wr.drewN k) hbl 1 (.int .i64 ((I : Int) + z))
          have f1 := fun k => blk_free (w := wr.drewN k) hbl 1
          have hsee := fun k => (hsb.ext ((Ext.refl wr).drewN k)).onP (w := wr.drewN k) (g := h) (hpj.elim fun cs q => ⟨cs, q⟩) (Onl.set (wr.drewN k) 1 (.int .i64 ((I : Int) + z)))
          have hend : ∀ k, Rfr ((wr.drewN k).setCell ⟨h, 1, none⟩ (.int .i64 ((I : Int) + z))) h 0 (l.drop (4 + (M + pad M))) := fun k => by
            have hI2 : ((I : Int) + z) = ((I + (M + pad M) : Nat) : Int) := by omega
            have h1 := hset k
            have h2 := hsee k
            rw [hI2] at h1 h2 ⊢
            exact ⟨A, n, c, B, I + (M + pad M), by simpa using h1, h2, by omega, fun _ => by rw [← List.drop_drop, hlB, List.drop_drop], fun h => absurd rfl h⟩
          have HEnd := Lib.hid hend
          have hx := ho1.trans (Onl.of_ext (e2.trans extj))
          have hlt2 : B.drop I = l.drop 4 := hlB.symm
          by_cases hcI : c = I
          · have hd := hsb.drop_all I hI hcI
            have hM0 : M = 0 := by omega
            subst hM0
            subst hcI
            clear hlB hlen hBl hm0 hbl hend hset hlt2 hsb
            go_wp2
            go_quiet (fail)
            go_wp2
            go_ret
            exact ⟨A, 0, rfl, ⟨rfl, Nat.le_refl _, by simp [maxLen], fun _ => rfl, fun h => absurd h (by omega)⟩, HEnd.out nq, hx.trans ((Onl.of_ext ((Ext.refl _).drewN _)).trans (Onl.set _ 1 _))⟩
          · have hd := (hsb.drop I hI hcI).take M (by omega)
            rw [bs_drop, bs_take, hlt2] at hd
            have hd' := fun k => (hd.ext ((Ext.refl wr).drewN k)).onP (w := wr.drewN k) (g := h) (hpj.elim fun cs q => ⟨cs, q⟩) (Onl.set (wr.drewN k) 1 (.int .i64 ((I : Int) + z)))
            have HD := Lib.hid hd'
            clear hlB hlen hBl hm0 hbl hend hset hlt2 hsb hd hd' hsee
            go_wp2
            go_quiet (fail)
            go_wp2
            have eM : I + M - I = M := by omega
            go_ret
            exact ⟨Option.map (fun x => x.add I) A, c - I, (by show Ending.returned (Value.slice _ (I + M - I) _) = _; rw [eM]), HD.out nq, HEnd.out nq, hx.trans ((Onl.of_ext ((Ext.refl _).drewN _)).trans (Onl.set _ 1 _))⟩
    · have hz4 : (z % 4 == 0) = false := by rw [hz]; simpa [hkk] using hzm
      have hz5 : (z % 4 != 0) = true := by simp [bne, hz4]
      clear hzm hz
      go_wp2
      go_round
      case rel => exact ⟨k + 1, z + 1, by omega, by omega, rfl⟩
      case measure => simp [intOf]; omega
theorem rtext_bad (h : Nat) (e most : Int) (l : List UInt8) (M j0 : Nat) (w : World) (hr : Rfr w h e l) (hk : 4 ≤ l.length) (hM : num4 l = (M : Int)) (hm : (M : Int) ≤ most) (hs : M + pad M ≤ l.length - 4)
    (hj0 : j0 < pad M) (hz : ∀ k, k < j0 → (l.drop 4).getD (M + k) 0 = 0) (hb0 : (l.drop 4).getD (M + j0) 0 ≠ 0) :
    Calls Try.prog 36 #[.pointer (some ⟨h, 0, none⟩), .int .i64 most] w fun x w' => ∃ A c, x = .returned (.slice A 0 c) ∧ Sees w' A 0 c (bs []) ∧ Rfr w' h (ferr e 2) [] ∧ Onl h w w' := by
  have hnz : ((((l.drop 4).getD (M + j0) 0).toNat : Int) != 0) = true := by
    have h1 : ((l.drop 4).getD (M + j0) 0).toNat ≠ 0 := fun h => hb0 (UInt8.toNat_inj.1 h)
    simp only [bne_iff_ne]
    omega
  have HNZ := Lib.hid hnz
  clear hnz hb0
  obtain rfl := hr.zero (by omega)
  have hb := num4_bound l
  have hu := ru32_ok h 0 l w hr hk
  rw [hM] at hb hu
  have hp := pad_le M
  have hmod : ∀ i : Nat, i ≤ pad M → ((((M + i : Nat) : Int)) % 4 == 0) = decide (i = pad M) := fun i hi => by
    unfold pad at hi ⊢
    rw [Bool.eq_iff_iff]
    simp
    omega
  have HMod := Lib.hid hmod
  have hz0 := Lib.hid hz
  clear hz
  clear hmod
  go_enter Try.func36, Try.ntmps36
  go_wp2_with fail
  refine hu.mono ?_
  rintro x w1 ⟨rfl, hr1, ho1⟩
  obtain ⟨hc, hf⟩ := hr1.err
  clear hu
  go_wp2
  go_loop [6] (fun i => ∃ (k : Nat) (z : Int), k ≤ pad M ∧ z = M + k ∧ i = .int .i64 z) (fun i => pad M + M - (intOf i).toNat)
  case atStart => exact ⟨0, M, by omega, by omega, rfl⟩
  case round =>
    obtain ⟨k, z, hkp, hz, rfl⟩ := hrel
    have hza : (M : Int) + (k : Int) ≤ z := by omega
    have hzb : z ≤ (M : Int) + (k : Int) := by omega
    have hzm := HMod.out k hkp
    by_cases hkk : k = pad M
    · have hz4 : (z % 4 == 0) = true := by rw [hz]; simpa [hkk] using hzm
      have hz5 : (z % 4 != 0) = false := by simp [bne, hz4]
      clear hzm hz
      go_wp2_with fail
      refine (rshort_ok h z _ _ hr1 (by rw [List.length_drop]; omega)).mono ?_
      rintro x w2 ⟨rfl, e2⟩
      have hr2 := hr1.ext e2
      clear hr1
      go_wp2
      go_loopw [7] (fun i wr => ∃ (j m : Nat), j ≤ j0 ∧ m = M + j ∧ i = .int .i64 (m : Int) ∧ Ext w2 wr) (fun i _ => j0 + M - (intOf i).toNat)
      case atStart => exact ⟨0, M, by omega, by omega, rfl, Ext.refl _⟩
      case round =>
        obtain ⟨j, m, hj, hm0, rfl, extj⟩ := hrel
        have hma : M + j ≤ m := by omega
        have hmb : m ≤ M + j := by omega
        have hrj := hr2.ext extj
        have hpj := hrj.plain
        obtain ⟨A, n, c, B, I, hbl, hsb, hI, h0, h1⟩ := hrj
        have hlB := h0 rfl
        have c0 := cell_of_row wr h 0 _ _ _ hbl
        have c1 := cell_of_row wr h 1 _ _ _ hbl
        simp at c0 c1
        have hBl := hsb.len
        rw [bs_length] at hBl
        have hlen := congrArg List.length hlB
        rw [List.length_drop, List.length_drop] at hlen
        have hmx := hsb.max
        have hle := hsb.le
        unfold maxLen at hmx
        have hnI : I + M + pad M ≤ n := by omega
        clear h0 h1
        by_cases hlt : j < j0
        · have hzj := hz0.out j hlt
          obtain ⟨b, off, hA, hcl⟩ := hsb.2.2.2.2 (by omega)
          subst hA
          have hcell : wr.cell? ⟨b, off + (I + m), none⟩ = some (.int .u8 0) := by
            refine hcl (I + m) _ ?_
            have h1 : I + m < B.length := by omega
            rw [hlB, List.getD_eq_getElem?_getD, List.getElem?_drop, ← hm0, List.getElem?_eq_getElem h1] at hzj
            have h2 : B[I + m] = 0 := by simpa using hzj
            simp [bs, List.getElem?_eq_getElem h1, h2]
          have hmz : (m : Int) < z := by omega
          clear hcl hzj hlB hlen hBl hm0 hsb hbl hpj
          go_wp2
          go_quiet (fail)
          go_wp2
          go_roundw
          case rel => exact ⟨j + 1, m + 1, by omega, by omega, by go_num, extj.trans ((Ext.refl _).drewN _)⟩
          case measure => simp [intOf]; omega
        · obtain rfl : j = j0 := by omega
          obtain ⟨b, off, hA, hcl⟩ := hsb.2.2.2.2 (by omega)
          subst hA
          have hbig : (B.drop I).getD (M + j) 0 = B.getD (I + m) 0 := by
            rw [List.getD_eq_getElem?_getD, List.getElem?_drop, ← hm0, List.getD_eq_getElem?_getD]
          have hnz := HNZ.out
          rw [hlB, hbig] at hnz
          have hcell : wr.cell? ⟨b, off + (I + m), none⟩ = some (.int .u8 ((B.getD (I + m) 0).toNat : Int)) := by
            refine hcl (I + m) _ ?_
            have h1 : I + m < B.length := by omega
            simp [bs, List.getElem?_eq_getElem h1]
          generalize (B.getD (I + m) 0).toNat = z0 at *
          have hmz : (m : Int) < z := by omega
          have hfa := fun k => (hr2.ext extj).ext ((Ext.refl wr).drewN k) |>.fail 2 (by decide)
          have hf2 := fun k => (((hr2.ext extj).ext ((Ext.refl wr).drewN k)).err).2
          have hc2 := (hr2.ext extj).err.1
          have hx := ho1.trans (Onl.of_ext (e2.trans extj))
          have HFA := Lib.hid hfa
          clear hcl hlB hlen hBl hm0 hsb hbl hpj hbig hfa
          go_wp2
          go_quiet (fail)
          go_wp2
          go_ret
          exact ⟨none, 0, rfl, Sees.nil _, HFA.out _, hx.trans ((Onl.of_ext ((Ext.refl _).drewN _)).trans (Onl.set _ 2 _))⟩
    · have hz4 : (z % 4 == 0) = false := by rw [hz]; simpa [hkk] using hzm
      have hz5 : (z % 4 != 0) = true := by simp [bne, hz4]
      clear hzm hz
      go_wp2
      go_round
      case rel => exact ⟨k + 1, z + 1, by omega, by omega, rfl⟩
      case measure => simp [intOf]; omega
end Go.Proofs.Ytpjigdfllbhknaa



