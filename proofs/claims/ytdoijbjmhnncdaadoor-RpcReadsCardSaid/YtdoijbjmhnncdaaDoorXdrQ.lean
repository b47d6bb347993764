/-
  The document's own reader of layer 1: what each of its methods returns and leaves, as the same plain functions.
-/
import Derived.Test.YtdoijbjmhnncdaaDoorXdrS
import Derived.Test.YtdoijbjmhnncdaaDoorOrd
namespace Go.Proofs.YtdoijbjmhnncdaaDoor
open Go Go.RowKit
set_option linter.unusedVariables false
set_option linter.unusedSimpArgs false

/-- A block that holds no byte. -/
def Plain (w : World) (g : Nat) : Prop := ∃ cs t fr, w.heap[g]? = some (.cells cs t fr) ∧ ∀ (i : Nat) (x : Int), cs[i]? ≠ some (.int .u8 x)
theorem Sees.offBlk {w : World} {g : Nat} {A : Option Addr} {n c : Nat} {m : List UInt8} (h : Sees w A n c (bs m)) (hg : Plain w g) {b off j : Nat} {u : Value} (hc : w.cell? ⟨b, off + j, none⟩ = some u) (hu : (bs m)[j]? = some u) : b ≠ g := by
  rintro rfl
  obtain ⟨cs, t, fr, hb, hx⟩ := hg
  rw [cell_of_row w b (off + j) _ t fr hb] at hc
  obtain ⟨hj, rfl⟩ := bs_get m j u hu
  exact hx _ _ hc
theorem Sees.onP {w w' : World} {g : Nat} {A : Option Addr} {n c : Nat} {m : List UInt8} (h : Sees w A n c (bs m)) (hg : Plain w g) (ho : Onl g w w') : Sees w' A n c (bs m) :=
  ⟨h.1, h.2.1, h.2.2.1, h.2.2.2.1, fun hn => by
    obtain ⟨b, off, hA, hc⟩ := h.2.2.2.2 hn
    exact ⟨b, off, hA, fun j u hu => ho.cell (hc j u hu) (h.offBlk hg (hc j u hu) hu)⟩⟩
theorem Rdr.plain {w : World} {g : Nat} {e : Int} {l : List UInt8} (h : Rdr w g e l) : Plain w g := by
  obtain ⟨A, n, c, hb, _⟩ := h
  refine ⟨_, _, _, hb, fun i x => ?_⟩
  match i with
  | 0 => simp
  | 1 => simp
  | k + 2 => simp

/-- The document's reader in block h: its first error, the bytes that are left (none behind an error). -/
def Rfr (w : World) (h : Nat) (e : Int) (l : List UInt8) : Prop :=
  ∃ A n c B I, w.heap[h]? = some (.cells #[.slice A n c, .int .i64 ((I : Nat) : Int), .int .i64 e] 66 (0, 0)) ∧ Sees w A n c (bs B) ∧ I ≤ n ∧ (e = 0 → l = B.drop I) ∧ (e ≠ 0 → l = [])
theorem Rfr.plain {w : World} {g : Nat} {e : Int} {l : List UInt8} (h : Rfr w g e l) : Plain w g := by
  obtain ⟨A, n, c, B, I, hb, _⟩ := h
  refine ⟨_, _, _, hb, fun i x => ?_⟩
  match i with
  | 0 => simp
  | 1 => simp
  | 2 => simp
  | k + 3 => simp
theorem Rfr.lt {w : World} {g : Nat} {e : Int} {l : List UInt8} (h : Rfr w g e l) : g < w.heap.size := by
  obtain ⟨A, n, c, B, I, hb, _⟩ := h
  exact (Array.getElem?_eq_some_iff.1 hb).1
theorem Rfr.ext {w w' : World} {g : Nat} {e : Int} {l : List UInt8} (h : Rfr w g e l) (he : Ext w w') : Rfr w' g e l := by
  obtain ⟨A, n, c, B, I, hb, hs, hr⟩ := h
  exact ⟨A, n, c, B, I, he.heap hb, hs.ext he, hr⟩
theorem Rfr.onP {w w' : World} {g h : Nat} {e : Int} {l : List UInt8} (hh : Rfr w h e l) (hg : Plain w g) (ho : Onl g w w') (hne : h ≠ g) : Rfr w' h e l := by
  obtain ⟨A, n, c, B, I, hb, hs, hr⟩ := hh
  exact ⟨A, n, c, B, I, ho.heap hb hne, hs.onP hg ho, hr⟩
theorem Rdr.onP {w w' : World} {g h : Nat} {e : Int} {l : List UInt8} (hh : Rdr w h e l) (hg : Plain w g) (ho : Onl g w w') (hne : h ≠ g) : Rdr w' h e l := by
  obtain ⟨A, n, c, hb, hs⟩ := hh
  exact ⟨A, n, c, ho.heap hb hne, hs.onP hg ho⟩
theorem ferr_ne {e er : Int} (h : e ≠ 0) : ferr e er = e := if_neg h

theorem rshort_err (h : Nat) (e k : Int) (l : List UInt8) (w : World) (hr : Rfr w h e l) (he : e ≠ 0) :
    Calls Tryd.prog 29 #[.pointer (some ⟨h, 0, none⟩), .int .i64 k] w fun x w' => x = .returned (.bool true) ∧ w = w' := by
  obtain ⟨A, n, c, B, I, hb, hs, hI, h0, h1⟩ := hr
  have c2 := cell_of_row w h 2 _ _ _ hb
  simp at c2
  have he' : (e == 0) = false := by simpa using he
  clear h0 h1
  go_enter Tryd.func29, Tryd.ntmps29
  go_wp2
  go_ret
  exact ⟨rfl, rfl⟩
theorem rshort_few (h : Nat) (k : Int) (l : List UInt8) (w : World) (hr : Rfr w h 0 l) (hk : (l.length : Int) < k) :
    Calls Tryd.prog 29 #[.pointer (some ⟨h, 0, none⟩), .int .i64 k] w fun x w' => x = .returned (.bool true) ∧ Rfr w' h 3 [] ∧ Onl h w w' := by
  have hR := hr
  obtain ⟨A, n, c, B, I, hb, hs, hI, h0, h1⟩ := hr
  have hp := hR.plain
  have c0 := cell_of_row w h 0 _ _ _ hb
  have c1 := cell_of_row w h 1 _ _ _ hb
  have c2 := cell_of_row w h 2 _ _ _ hb
  have f2 := blk_free hb 2
  simp at c0 c1 c2
  have hBl := hs.len
  rw [bs_length] at hBl
  have hl := congrArg List.length (h0 rfl)
  rw [List.length_drop] at hl
  have hm := hs.max
  have hle := hs.le
  unfold maxLen at hm
  have hlt : (n : Int) - (I : Int) < k := by omega
  have hset := fun m => set_blk (w := w.drewN m) hb 2 (.int .i64 3)
  have hsee := fun m => (hs.ext ((Ext.refl w).drewN m)).onP (hR.ext ((Ext.refl w).drewN m)).plain (Onl.set (w.drewN m) 2 (.int .i64 3))
  clear h0 h1 hl hBl hs
  go_enter Tryd.func29, Tryd.ntmps29
  go_wp2
  go_quiet (fail)
  go_wp2
  go_ret
  exact ⟨rfl, ⟨A, n, c, B, I, by simpa using hset _, hsee _, hI, (fun h => absurd h (by decide)), fun _ => rfl⟩, (Onl.of_ext ((Ext.refl _).drewN _)).trans (Onl.set _ 2 _)⟩
theorem rshort_ok (h : Nat) (k : Int) (l : List UInt8) (w : World) (hr : Rfr w h 0 l) (hk : k ≤ (l.length : Int)) :
    Calls Tryd.prog 29 #[.pointer (some ⟨h, 0, none⟩), .int .i64 k] w fun x w' => x = .returned (.bool false) ∧ Ext w w' := by
  obtain ⟨A, n, c, B, I, hb, hs, hI, h0, h1⟩ := hr
  have c0 := cell_of_row w h 0 _ _ _ hb
  have c1 := cell_of_row w h 1 _ _ _ hb
  have c2 := cell_of_row w h 2 _ _ _ hb
  simp at c0 c1 c2
  have hBl := hs.len
  rw [bs_length] at hBl
  have hl := congrArg List.length (h0 rfl)
  rw [List.length_drop] at hl
  have hm := hs.max
  have hle := hs.le
  unfold maxLen at hm
  have hlt : ¬ (n : Int) - (I : Int) < k := by omega
  clear h0 h1 hl hBl hs
  go_enter Tryd.func29, Tryd.ntmps29
  go_wp2
  go_quiet (fail)
  go_wp2
  go_ret
  exact ⟨rfl, (Ext.refl _).drewN _⟩
theorem rshort_no (h : Nat) (e k : Int) (l : List UInt8) (w : World) (hr : Rfr w h e l) (hk : (l.length : Int) < k) :
    Calls Tryd.prog 29 #[.pointer (some ⟨h, 0, none⟩), .int .i64 k] w fun x w' => x = .returned (.bool true) ∧ Rfr w' h (ferr e 3) [] ∧ Onl h w w' := by
  by_cases he : e = 0
  · subst he
    exact rshort_few h k l w hr hk
  · refine (rshort_err h e k l w hr he).mono ?_
    rintro x w' ⟨rfl, rfl⟩
    rw [ferr_ne he]
    obtain ⟨A, n, c, B, I, hb, hs, hI, h0, h1⟩ := hr
    exact ⟨rfl, ⟨A, n, c, B, I, hb, hs, hI, fun h => absurd h he, fun _ => rfl⟩, Onl.refl _ _⟩

theorem rword_any (h i : Nat) (A : Option Addr) (n c I : Nat) (e : Int) (B : List UInt8) (w : World) (hb : w.heap[h]? = some (.cells #[.slice A n c, .int .i64 ((I : Nat) : Int), .int .i64 e] 66 (0, 0))) (hs : Sees w A n c (bs B)) (hi : i + 4 ≤ n) :
    Calls Tryd.prog 30 #[.pointer (some ⟨h, 0, none⟩), .int .i64 i] w fun x w' => x = .returned (.int .u32 (num4 (B.drop i))) ∧ Ext w w' := by
  have c0 := cell_of_row w h 0 _ _ _ hb
  simp at c0
  have hBl := hs.len
  rw [bs_length] at hBl
  have hm := hs.max
  have hle := hs.le
  unfold maxLen at hm
  obtain ⟨b, off, hA, hc⟩ := hs.2.2.2.2 (by omega)
  subst hA
  have hc' : ∀ j, j < 4 → w.cell? ⟨b, off + (i + j), none⟩ = some (.int .u8 (((B.drop i).getD j 0).toNat : Int)) := fun j hj => hc (i + j) _ (by
    have h1 : i + j < B.length := by omega
    simp [bs, h1, List.getD_eq_getElem?_getD])
  have g0 := hc' 0 (by omega)
  have g1 := hc' 1 (by omega)
  have g2 := hc' 2 (by omega)
  have g3 := hc' 3 (by omega)
  have b0 := ((B.drop i).getD 0 0).toNat_lt
  have b1 := ((B.drop i).getD 1 0).toNat_lt
  have b2 := ((B.drop i).getD 2 0).toNat_lt
  have b3 := ((B.drop i).getD 3 0).toNat_lt
  have hfin : num4 (B.drop i) = (((B.drop i).getD 0 0).toNat : Int) * 16777216 + (((B.drop i).getD 1 0).toNat : Int) * 65536 + (((B.drop i).getD 2 0).toNat : Int) * 256 + (((B.drop i).getD 3 0).toNat : Int) := rfl
  have HF := Lib.hid hfin
  generalize ((B.drop i).getD 0 0).toNat = x0 at *
  generalize ((B.drop i).getD 1 0).toNat = x1 at *
  generalize ((B.drop i).getD 2 0).toNat = x2 at *
  generalize ((B.drop i).getD 3 0).toNat = x3 at *
  rw [Nat.add_zero] at g0
  clear hc hc' hfin hs hBl
  go_enter Tryd.func30, Tryd.ntmps30
  go_wp2
  go_quiet (fail)
  go_wp2
  go_ret
  exact ⟨by rw [HF.out]; rfl, (Ext.refl _).drewN _⟩
theorem ru32_few (h : Nat) (e : Int) (l : List UInt8) (w : World) (hr : Rfr w h e l) (hk : l.length < 4) :
    Calls Tryd.prog 22 #[.pointer (some ⟨h, 0, none⟩)] w fun x w' => x = .returned (.int .u32 0) ∧ Rfr w' h (ferr e 3) [] ∧ Onl h w w' := by
  go_enter Tryd.func22, Tryd.ntmps22
  go_wp2_with fail
  refine (rshort_no h e 4 l _ hr (by omega)).mono ?_
  rintro x w1 ⟨rfl, hr1, ho1⟩
  go_wp2
  go_ret
  exact ⟨rfl, hr1, ho1⟩
theorem Rfr.zero {w : World} {h : Nat} {e : Int} {l : List UInt8} (hr : Rfr w h e l) (hk : 0 < l.length) : e = 0 := by
  obtain ⟨A, n, c, B, I, hb, hs, hI, h0, h1⟩ := hr
  by_cases he : e = 0
  · exact he
  · rw [h1 he] at hk
    simp at hk
theorem ru32_ok (h : Nat) (e : Int) (l : List UInt8) (w : World) (hr : Rfr w h e l) (hk : 4 ≤ l.length) :
    Calls Tryd.prog 22 #[.pointer (some ⟨h, 0, none⟩)] w fun x w' => x = .returned (.int .u32 (num4 l)) ∧ Rfr w' h e (l.drop 4) ∧ Onl h w w' := by
  obtain rfl := hr.zero (by omega)
  go_enter Tryd.func22, Tryd.ntmps22
  go_wp2_with fail
  refine (rshort_ok h 4 l _ hr (by omega)).mono ?_
  rintro x w1 ⟨rfl, e1⟩
  have hr1 := hr.ext e1
  clear hr
  have hp1 := hr1.plain
  obtain ⟨A, n, c, B, I, hb, hs, hI, h0, h1⟩ := hr1
  have hl := h0 rfl
  subst hl
  have hBl := hs.len
  rw [bs_length] at hBl
  rw [List.length_drop] at hk
  have hm := hs.max
  have hle := hs.le
  unfold maxLen at hm
  have c1 := cell_of_row w1 h 1 _ _ _ hb
  simp at c1
  clear h0 h1
  go_wp2_with fail
  refine (rword_any h I A n c I 0 B _ hb hs (by omega)).mono ?_
  rintro x w2 ⟨rfl, e2⟩
  have hb2 := e2.heap hb
  have hs2 := hs.ext e2
  have c1' := cell_of_row w2 h 1 _ _ _ hb2
  have f1 := blk_free hb2 1
  simp at c1'
  have hset := set_blk hb2 1 (.int .i64 ((I : Int) + 4))
  have hp2 : Plain w2 h := ⟨_, _, _, hb2, hp1.elim fun cs ⟨t, fr, q1, q2⟩ => by rw [hb] at q1; injection q1 with q1; injection q1 with q1 q3 q4; subst q1; exact q2⟩
  have hsee := hs2.onP hp2 (Onl.set w2 1 (.int .i64 ((I : Int) + 4)))
  clear c1 hb hs hb2 hs2 hp1 hp2
  go_wp2
  go_ret
  refine ⟨rfl, ⟨A, n, c, B, I + 4, by simpa using hset, hsee, by omega, fun _ => by rw [List.drop_drop], fun h => absurd rfl h⟩, (Onl.of_ext (e1.trans e2)).trans (Onl.set _ 1 _)⟩
theorem Rfr.err {w : World} {h : Nat} {e : Int} {l : List UInt8} (hr : Rfr w h e l) : w.cell? ⟨h, 2, none⟩ = some (.int .i64 e) ∧ w.frozen? ⟨h, 2, none⟩ = false := by
  obtain ⟨A, n, c, B, I, hb, _⟩ := hr
  have := cell_of_row w h 2 _ _ _ hb
  exact ⟨by simpa using this, blk_free hb 2⟩
theorem Rfr.fail {w : World} {h : Nat} {e : Int} {l : List UInt8} (hr : Rfr w h e l) (x : Int) (hx : x ≠ 0) : Rfr (w.setCell ⟨h, 2, none⟩ (.int .i64 x)) h x [] := by
  have hp := hr.plain
  obtain ⟨A, n, c, B, I, hb, hs, hI, h0, h1⟩ := hr
  have hset := set_blk hb 2 (.int .i64 x)
  exact ⟨A, n, c, B, I, by simpa using hset, hs.onP hp (Onl.set w 2 _), hI, fun h => absurd h hx, fun _ => rfl⟩
end Go.Proofs.YtdoijbjmhnncdaaDoor



