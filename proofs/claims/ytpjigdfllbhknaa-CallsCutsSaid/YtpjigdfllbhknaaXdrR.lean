/-
  The reader of layer 1: what each of its methods returns and leaves, as plain functions of the first error and the bytes that are left.
-/
import Derived.Test.YtpjigdfllbhknaaXdrB
import Derived.BigQuiet
import Derived.IntWalk
import Derived.Laws.BitsAllLaws
import Derived.Laws.BitsLemmas
namespace Go.Proofs.Ytpjigdfllbhknaa
open Go Go.RowKit
set_option linter.unusedVariables false
set_option linter.unusedSimpArgs false

/-- All blocks but g are as they were. -/
def Onl (g : Nat) (w w' : World) : Prop := w.grownBy w' (some g)
theorem Onl.refl (g : Nat) (w : World) : Onl g w w := ⟨rfl, rfl, rfl, Nat.le_refl _, fun _ _ _ => rfl⟩
theorem Onl.trans {g : Nat} {a b c : World} (h : Onl g a b) (k : Onl g b c) : Onl g a c := World.grownBy.trans h k
theorem Onl.of_ext {g : Nat} {a b : World} (h : Ext a b) : Onl g a b := ⟨h.os, h.tape, h.output, h.size, fun k hk _ => h.block k hk⟩
theorem Onl.set {g : Nat} (w : World) (i : Nat) (v : Value) : Onl g w (w.setCell ⟨g, i, none⟩ v) :=
  ⟨rfl, rfl, rfl, by simp [World.setCell], fun k hk hne => Below.heap_setCell w ⟨g, i, none⟩ v k (fun e => hne (by subst e; rfl))⟩
theorem Onl.drew {g : Nat} {a b : World} (h : Onl g a b) : Onl g a b.drew := ⟨h.os, h.tape, h.output, h.size, h.block⟩
theorem Onl.heap {g k : Nat} {a b : World} (h : Onl g a b) {o : Obj} (hk : a.heap[k]? = some o) (hne : k ≠ g) : b.heap[k]? = some o :=
  (h.block k (Array.getElem?_eq_some_iff.1 hk).1 (fun e => hne (by injection e))).trans hk
theorem Onl.cell {g : Nat} {a b : World} (h : Onl g a b) {p : Addr} {v : Value} (hc : a.cell? p = some v) (hne : p.block ≠ g) : b.cell? p = some v :=
  (World.cell?_of_block (h.block p.block (World.block_lt_of_cell? a p hc) (fun e => hne (by injection e)))).trans hc
theorem Onl.below {g B : Nat} {a b : World} (h : Onl g a b) (hB : B ≤ a.heap.size) (hg : B ≤ g) : Below B a b :=
  ⟨h.os, h.tape, h.output, h.size, fun k hk => h.block k (by omega) (fun e => by injection e; omega)⟩
theorem set_blk {w : World} {g : Nat} {cs : Array Value} {t : TypeId} {fr : Nat × Nat} (h : w.heap[g]? = some (.cells cs t fr)) (i : Nat) (v : Value) :
    (w.setCell ⟨g, i, none⟩ v).heap[g]? = some (.cells (cs.setIfInBounds i v) t fr) := by
  simp [World.setCell, Array.getElem?_modify, h]
theorem blk_free {w : World} {g : Nat} {cs : Array Value} {t : TypeId} (h : w.heap[g]? = some (.cells cs t (0, 0))) (i : Nat) : w.frozen? ⟨g, i, none⟩ = false := by
  simp [World.frozen?, h]

/-- The reader in block g: its first error, the bytes that are left. -/
def Rdr (w : World) (g : Nat) (e : Int) (l : List UInt8) : Prop :=
  ∃ A n c, w.heap[g]? = some (.cells #[.int .i64 e, .slice A n c] 93 (0, 0)) ∧ Sees w A n c (bs l)

theorem Rdr.ext {w w' : World} {g : Nat} {e : Int} {l : List UInt8} (h : Rdr w g e l) (he : Ext w w') : Rdr w' g e l := by
  obtain ⟨A, n, c, hb, hs⟩ := h
  exact ⟨A, n, c, he.heap hb, hs.ext he⟩

/-- Bytes that are read lie in no reader's own block. -/
theorem Sees.apart {w w' : World} {g : Nat} {e : Int} {A0 : Option Addr} {n0 c0 : Nat} {t : TypeId} {A : Option Addr} {n c : Nat} {m : List UInt8} (hb : w.heap[g]? = some (.cells #[.int .i64 e, .slice A0 n0 c0] t (0, 0)))
    (h : Sees w A n c (bs m)) (ho : Onl g w w') : Sees w' A n c (bs m) :=
  ⟨h.1, h.2.1, h.2.2.1, h.2.2.2.1, fun hn => by
    obtain ⟨b, off, hA, hc⟩ := h.2.2.2.2 hn
    refine ⟨b, off, hA, fun j u hu => ?_⟩
    have hcell := hc j u hu
    have hbg : b ≠ g := by
      rintro rfl
      rw [cell_of_row w b (off + j) _ t (0, 0) hb] at hcell
      obtain ⟨hj, rfl⟩ := bs_get m j u hu
      match hk : off + j, hcell with
      | 0, hcell => simp at hcell
      | 1, hcell => simp at hcell
      | k + 2, hcell => simp at hcell
    have hlt := World.block_lt_of_cell? w ⟨b, off + j, none⟩ hcell
    exact (World.cell?_of_block (ho.block b hlt (fun e => hbg (by injection e)))).trans hcell⟩

/-- The first error stays. -/
def ferr (e er : Int) : Int := if e = 0 then er else e

theorem fail_any (g : Nat) (e er : Int) (l : List UInt8) (w : World) (h : Rdr w g e l) :
    Calls Try.prog 98 #[.pointer (some ⟨g, 0, none⟩), .int .i64 er] w fun x w' => x = .returned (.tuple #[]) ∧ Rdr w' g (ferr e er) [] ∧ Onl g w w' := by
  obtain ⟨A, n, c, hb, hs⟩ := h
  have c0 := cell_of_row w g 0 _ _ _ hb
  have c1 := cell_of_row w g 1 _ _ _ hb
  have f0 := blk_free hb 0
  have f1 := blk_free hb 1
  simp at c0 c1
  by_cases he : e = 0
  · subst he
    have hif : ferr 0 er = er := rfl
    rw [hif]
    clear hif
    go_enter Try.func98, Try.ntmps98
    go_wp2
    go_end0
    refine ⟨rfl, ?_, (Onl.set w 0 _).trans (Onl.set _ 1 _)⟩
    have := set_blk (set_blk hb 0 (.int .i64 er)) 1 (.slice none 0 0)
    exact ⟨none, 0, 0, by simpa using this, Sees.nil _⟩
  · have he' : (e == 0) = false := by simpa using he
    have hif : ferr e er = e := if_neg he
    rw [hif]
    clear hif
    go_enter Try.func98, Try.ntmps98
    go_wp2
    go_end0
    refine ⟨rfl, ?_, Onl.set _ 1 _⟩
    have := set_blk hb 1 (.slice none 0 0)
    exact ⟨none, 0, 0, by simpa using this, Sees.nil _⟩

theorem take_few (g : Nat) (e k : Int) (l : List UInt8) (w : World) (h : Rdr w g e l) (hk : (l.length : Int) < k) :
    Calls Try.prog 99 #[.pointer (some ⟨g, 0, none⟩), .int .i64 k] w fun x w' => x = .returned (.tuple #[.slice none 0 0, .bool false]) ∧ Rdr w' g (ferr e 3) [] ∧ Onl g w w' := by
  have hR := h
  obtain ⟨A, n, c, hb, hs⟩ := h
  have hn : n = l.length := by rw [← hs.1, bs_length]
  subst hn
  have c1 := cell_of_row w g 1 _ _ _ hb
  simp at c1
  go_enter Try.func99, Try.ntmps99
  go_wp2_with fail
  refine (fail_any g e 3 l _ hR).mono ?_
  rintro x w1 ⟨rfl, hr, ho⟩
  go_wp2
  go_ret2
  exact ⟨rfl, hr, ho⟩
theorem take_ok (g : Nat) (e k : Int) (l : List UInt8) (w : World) (h : Rdr w g e l) (h0 : 0 ≤ k) (hk : k ≤ (l.length : Int)) :
    Calls Try.prog 99 #[.pointer (some ⟨g, 0, none⟩), .int .i64 k] w fun x w' => ∃ A c, x = .returned (.tuple #[.slice A k.toNat c, .bool true]) ∧ Sees w' A k.toNat c (bs (l.take k.toNat)) ∧ Rdr w' g e (l.drop k.toNat) ∧ Onl g w w' := by
  obtain ⟨A, n, c, hb, hs⟩ := h
  have hn : n = l.length := by rw [← hs.1, bs_length]
  subst hn
  have c1 := cell_of_row w g 1 _ _ _ hb
  have f1 := blk_free hb 1
  simp at c1
  have hc := hs.le
  have hm := hs.max
  unfold maxLen at hm
  have hr : ∀ v, (w.setCell ⟨g, 1, none⟩ v).heap[g]? = some (.cells #[.int .i64 e, v] 93 (0, 0)) := fun v => by simpa using set_blk hb 1 v
  have ht : ∀ v, Sees (w.setCell ⟨g, 1, none⟩ v) A k.toNat c (bs (l.take k.toNat)) := fun v => by
    rw [← bs_take]
    have := hs.take k.toNat (by omega)
    rw [bs_take] at this ⊢
    exact this.apart hb (Onl.set w 1 v)
  by_cases hck : c = k.toNat
  · have hd := hs.drop_all k.toNat (by omega) hck
    rw [bs_drop] at hd
    have hd' := fun v => hd.apart hb (Onl.set w 1 v)
    have hl : l.length - k.toNat = 0 := by omega
    subst hck
    clear hd hs
    have HR := Lib.hid hr
    clear hr
    go_enter Try.func99, Try.ntmps99
    go_wp2
    go_ret2
    refine ⟨A, _, rfl, ht _, ⟨_, _, _, HR.out _, ?_⟩, Onl.set w 1 _⟩
    simpa [hl] using hd' _
  · have hd := hs.drop k.toNat (by omega) hck
    rw [bs_drop] at hd
    have hd' := fun v => hd.apart hb (Onl.set w 1 v)
    clear hd hs
    have HR := Lib.hid hr
    clear hr
    go_enter Try.func99, Try.ntmps99
    go_wp2
    go_ret2
    exact ⟨A, _, rfl, ht _, ⟨_, _, _, HR.out _, hd' _⟩, Onl.set w 1 _⟩

/-- The number of four bytes. -/
def num4 (l : List UInt8) : Int := (l.getD 0 0).toNat * 16777216 + (l.getD 1 0).toNat * 65536 + (l.getD 2 0).toNat * 256 + (l.getD 3 0).toNat
theorem num4_bound (l : List UInt8) : 0 ≤ num4 l ∧ num4 l < 4294967296 := by
  have h := fun j => (l.getD j 0).toNat_lt
  have h0 := h 0
  have h1 := h 1
  have h2 := h 2
  have h3 := h 3
  unfold num4
  omega

/-- Bits that do not meet. -/
theorem or_u32 (x y : Nat) (i : Nat) (hx : x % 2 ^ i = 0) (hy : y < 2 ^ i) (hx1 : x < 4294967296) (hy1 : y < 4294967296) : bits .or .u32 (x : Int) (y : Int) = ((x + y : Nat) : Int) := by
  rw [u32_or_nat x y hx1 hy1]
  congr 1
  obtain ⟨k, hk⟩ : ∃ k, x = 2 ^ i * k := ⟨x / 2 ^ i, by rw [Nat.mul_div_cancel' (Nat.dvd_of_mod_eq_zero hx)]⟩
  rw [hk]
  exact (Nat.two_pow_add_eq_or_of_lt hy k).symm
theorem or4 (a b c d : Nat) (ha : a < 256) (hb : b < 256) (hc : c < 256) (hd : d < 256) :
    bits .or .u32 (bits .or .u32 (bits .or .u32 ((a : Int) * 16777216) ((b : Int) * 65536)) ((c : Int) * 256)) (d : Int) = (a : Int) * 16777216 + (b : Int) * 65536 + (c : Int) * 256 + (d : Int) := by
  have e1 : (a : Int) * 16777216 = ((a * 16777216 : Nat) : Int) := by omega
  have e2 : (b : Int) * 65536 = ((b * 65536 : Nat) : Int) := by omega
  have e3 : (c : Int) * 256 = ((c * 256 : Nat) : Int) := by omega
  rw [e1, e2, e3, or_u32 _ _ 24 (by omega) (by omega) (by omega) (by omega), or_u32 _ _ 16 (by omega) (by omega) (by omega) (by omega), or_u32 _ _ 8 (by omega) (by omega) (by omega) (by omega)]
  omega

theorem u32_few (g : Nat) (e : Int) (l : List UInt8) (w : World) (h : Rdr w g e l) (hk : l.length < 4) :
    Calls Try.prog 96 #[.pointer (some ⟨g, 0, none⟩)] w fun x w' => x = .returned (.int .u32 0) ∧ Rdr w' g (ferr e 3) [] ∧ Onl g w w' := by
  go_enter Try.func96, Try.ntmps96
  go_wp2_with fail
  refine (take_few g e 4 l _ h (by omega)).mono ?_
  rintro x w1 ⟨rfl, hr, ho⟩
  go_wp2
  go_ret
  exact ⟨rfl, hr, ho⟩
theorem u32_ok (g : Nat) (e : Int) (l : List UInt8) (w : World) (h : Rdr w g e l) (hk : 4 ≤ l.length) :
    Calls Try.prog 96 #[.pointer (some ⟨g, 0, none⟩)] w fun x w' => x = .returned (.int .u32 (num4 l)) ∧ Rdr w' g e (l.drop 4) ∧ Onl g w w' := by
  go_enter Try.func96, Try.ntmps96
  go_wp2_with fail
  refine (take_ok g e 4 l _ h (by omega) (by omega)).mono ?_
  rintro x w1 ⟨A, c, rfl, hs, hr, ho⟩
  have e4 : (4 : Int).toNat = 4 := rfl
  rw [e4] at hs hr
  obtain ⟨b, off, hA, hc⟩ := hs.2.2.2.2 (by omega)
  subst hA
  have hc' : ∀ j, j < 4 → w1.cell? ⟨b, off + j, none⟩ = some (.int .u8 ((l.getD j 0).toNat : Int)) := fun j hj => hc j _ (by
    have h1 : j < l.length := by omega
    simp [bs, hj, h1, List.getD_eq_getElem?_getD])
  have g0 := hc' 0 (by omega)
  have g1 := hc' 1 (by omega)
  have g2 := hc' 2 (by omega)
  have g3 := hc' 3 (by omega)
  have b0 := (l.getD 0 0).toNat_lt
  have b1 := (l.getD 1 0).toNat_lt
  have b2 := (l.getD 2 0).toNat_lt
  have b3 := (l.getD 3 0).toNat_lt
  have hcap := hs.le
  have hfin : num4 l = ((l.getD 0 0).toNat : Int) * 16777216 + ((l.getD 1 0).toNat : Int) * 65536 + ((l.getD 2 0).toNat : Int) * 256 + ((l.getD 3 0).toNat : Int) := rfl
  have HF := Lib.hid hfin
  generalize (l.getD 0 0).toNat = x0 at *
  generalize (l.getD 1 0).toNat = x1 at *
  generalize (l.getD 2 0).toNat = x2 at *
  generalize (l.getD 3 0).toNat = x3 at *
  rw [Nat.add_zero] at g0
  clear hc hc' hfin hs e4
  have hor := or4 x0 x1 x2 x3 b0 b1 b2 b3
  rw [← HF.out] at hor
  have HO := Lib.hid hor
  clear hor
  go_wp2
  go_quiet (fail)
  go_wp2
  go_ret
  exact ⟨by rw [HO.out]; rfl, hr.ext ((Ext.refl _).drewN _), ho.trans (Onl.of_ext ((Ext.refl _).drewN _))⟩

/-- The number of eight bytes. -/
def num8 (l : List UInt8) : Int := num4 l * 4294967296 + num4 (l.drop 4)

theorem u64_few (g : Nat) (e : Int) (l : List UInt8) (w : World) (h : Rdr w g e l) (hk : l.length < 8) :
    Calls Try.prog 97 #[.pointer (some ⟨g, 0, none⟩)] w fun x w' => x = .returned (.int .u64 0) ∧ Rdr w' g (ferr e 3) [] ∧ Onl g w w' := by
  have hR := h
  obtain ⟨A, n, c, hb, hs⟩ := h
  have hn : n = l.length := by rw [← hs.1, bs_length]
  subst hn
  have c1 := cell_of_row w g 1 _ _ _ hb
  simp at c1
  have hk' : (l.length : Int) < 8 := by omega
  go_enter Try.func97, Try.ntmps97
  go_wp2_with fail
  refine (fail_any g e 3 l _ hR).mono ?_
  rintro x w1 ⟨rfl, hr, ho⟩
  go_wp2
  go_ret
  exact ⟨rfl, hr, ho⟩
theorem u64_ok (g : Nat) (e : Int) (l : List UInt8) (w : World) (h : Rdr w g e l) (hk : 8 ≤ l.length) :
    Calls Try.prog 97 #[.pointer (some ⟨g, 0, none⟩)] w fun x w' => x = .returned (.int .u64 (num8 l)) ∧ Rdr w' g e (l.drop 8) ∧ Onl g w w' := by
  have hR := h
  obtain ⟨A, n, c, hb, hs⟩ := h
  have hn : n = l.length := by rw [← hs.1, bs_length]
  subst hn
  have c1 := cell_of_row w g 1 _ _ _ hb
  simp at c1
  have hk' : (8 : Int) ≤ (l.length : Int) := by omega
  have q1 := num4_bound l
  have q2 := num4_bound (l.drop 4)
  go_enter Try.func97, Try.ntmps97
  go_wp2_with fail
  refine (u32_ok g e l _ hR (by omega)).mono ?_
  rintro x w1 ⟨rfl, hr1, ho1⟩
  go_wp2_with fail
  refine (u32_ok g e _ _ hr1 (by rw [List.length_drop]; omega)).mono ?_
  rintro x w2 ⟨rfl, hr2, ho2⟩
  go_wp2
  go_ret
  refine ⟨?_, by rw [List.drop_drop] at hr2; exact hr2, ho1.trans ho2⟩
  have := bits_join .u64 64 (by decide) (fun n h0 h1 => IntWalk.u64_in n ⟨h0, by omega⟩) 32 (num4 l * 4294967296) (num4 (l.drop 4)) (by omega) (by omega) (by omega) (by omega) (by omega) (by omega)
  show Ending.returned (.int .u64 (bits .or .u64 (num4 l * 4294967296) (num4 (l.drop 4)))) = _
  rw [this]
  rfl
/-- The end: what is left is an error, too. -/
def rend (e : Int) (n : Nat) : Int := if n = 0 then e else 2
theorem end_any (g : Nat) (e : Int) (l : List UInt8) (w : World) (h : Rdr w g e l) :
    Calls Try.prog 34 #[.pointer (some ⟨g, 0, none⟩)] w fun x w' => x = .returned (.int .i64 (rend e l.length)) ∧ w = w' := by
  obtain ⟨A, n, c, hb, hs⟩ := h
  have hn : n = l.length := by rw [← hs.1, bs_length]
  subst hn
  have c1 := cell_of_row w g 1 _ _ _ hb
  have c0 := cell_of_row w g 0 _ _ _ hb
  simp at c1 c0
  by_cases hl : l.length = 0
  · have e1 : rend e l.length = e := by unfold rend; rw [if_pos hl]
    rw [e1]
    have h0 : ¬ (0 : Int) < (l.length : Int) := by omega
    have HL := Lib.hid hl
    clear hl e1
    go_enter Try.func34, Try.ntmps34
    go_wp2
    go_ret
    exact ⟨rfl, rfl⟩
  · have e1 : rend e l.length = 2 := by unfold rend; rw [if_neg hl]
    rw [e1]
    have h0 : (0 : Int) < (l.length : Int) := by omega
    clear hl e1
    go_enter Try.func34, Try.ntmps34
    go_wp2
    go_ret
    exact ⟨rfl, rfl⟩
