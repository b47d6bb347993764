/-
  The document's own reader of layer 2: what each of its methods returns and leaves.
-/
import Derived.Test.YtihiclnbbpablaaLitK
import Derived.Test.YtihiclnbbpablaaOrd
namespace Go.Proofs.Ytihiclnbbpablaa
open Go Go.RowKit
set_option linter.unusedVariables false
set_option linter.unusedSimpArgs false

/-- A block that holds no byte. -/
def Plain (w : World) (g : Nat) : Prop := ∃ cs t fr, w.heap[g]? = some (.cells cs t fr) ∧ ∀ (i : Nat) (x : Int), cs[i]? ≠ some (.int .u8 x)
theorem Sees.offBlk {w : World} {g : Nat} {A : Option Addr} {n c : Nat} {m : List UInt8} (h : Sees w A n c (bs m)) (hg : Plain w g) {b off j : Nat} {u : Value} (hc : w.cell? ⟨b, off + j, none⟩ = some u) (hu : (bs m)[j]? = some u) : b ≠ g := by
  rintro rfl
  obtain ⟨cs, t, fr, hb, hx⟩ := hg
  rw [cell_of_row w b (off + j) _ t fr hb] at hc
  obtain ⟨hj, rfl⟩ := bs_get m j u hu
  exact hx _ _ hc
theorem Sees.onP {w w' : World} {g : Nat} {A : Option Addr} {n c : Nat} {m : List UInt8} (h : Sees w A n c (bs m)) (hg : Plain w g) (ho : Onl g w w') : Sees w' A n c (bs m) :=
  ⟨h.1, h.2.1, h.2.2.1, h.2.2.2.1, fun hn => by
    obtain ⟨b, off, hA, hc⟩ := h.2.2.2.2 hn
    exact ⟨b, off, hA, fun j u hu => ho.cell (hc j u hu) (h.offBlk hg (hc j u hu) hu)⟩⟩
theorem Rdl.plain {w : World} {g : Nat} {e : Int} {l : List UInt8} (h : Rdl w g e l) : Plain w g := by
  obtain ⟨A, n, c, hb, _⟩ := h
  refine ⟨_, _, _, hb, fun i x => ?_⟩
  match i with
  | 0 => simp
  | 1 => simp
  | k + 2 => simp

/-- The document's reader in block h: its first error, the bytes that are left (none behind an error). -/
def Rfl (w : World) (h : Nat) (e : Int) (l : List UInt8) : Prop :=
  ∃ A n c B I, w.heap[h]? = some (.cells #[.slice A n c, .int .i64 ((I : Nat) : Int), .int .i64 e] 81 (0, 0)) ∧ Sees w A n c (bs B) ∧ I ≤ n ∧ (e = 0 → l = B.drop I) ∧ (e ≠ 0 → l = [])
theorem Rfl.plain {w : World} {g : Nat} {e : Int} {l : List UInt8} (h : Rfl w g e l) : Plain w g := by
  obtain ⟨A, n, c, B, I, hb, _⟩ := h
  refine ⟨_, _, _, hb, fun i x => ?_⟩
  match i with
  | 0 => simp
  | 1 => simp
  | 2 => simp
  | k + 3 => simp
theorem Rfl.lt {w : World} {g : Nat} {e : Int} {l : List UInt8} (h : Rfl w g e l) : g < w.heap.size := by
  obtain ⟨A, n, c, B, I, hb, _⟩ := h
  exact (Array.getElem?_eq_some_iff.1 hb).1
theorem Rfl.ext {w w' : World} {g : Nat} {e : Int} {l : List UInt8} (h : Rfl w g e l) (he : Ext w w') : Rfl w' g e l := by
  obtain ⟨A, n, c, B, I, hb, hs, hr⟩ := h
  exact ⟨A, n, c, B, I, he.heap hb, hs.ext he, hr⟩
theorem Rfl.onP {w w' : World} {g h : Nat} {e : Int} {l : List UInt8} (hh : Rfl w h e l) (hg : Plain w g) (ho : Onl g w w') (hne : h ≠ g) : Rfl w' h e l := by
  obtain ⟨A, n, c, B, I, hb, hs, hr⟩ := hh
  exact ⟨A, n, c, B, I, ho.heap hb hne, hs.onP hg ho, hr⟩
theorem Rdl.onP {w w' : World} {g h : Nat} {e : Int} {l : List UInt8} (hh : Rdl w h e l) (hg : Plain w g) (ho : Onl g w w') (hne : h ≠ g) : Rdl w' h e l := by
  obtain ⟨A, n, c, hb, hs⟩ := hh
  exact ⟨A, n, c, ho.heap hb hne, hs.onP hg ho⟩
theorem ferrL_ne {e er : Int} (h : e ≠ 0) : ferrL e er = e := if_neg h
theorem Rfl.err {w : World} {h : Nat} {e : Int} {l : List UInt8} (hr : Rfl w h e l) : w.cell? ⟨h, 2, none⟩ = some (.int .i64 e) ∧ w.frozen? ⟨h, 2, none⟩ = false := by
  obtain ⟨A, n, c, B, I, hb, _⟩ := hr
  have c2 := cell_of_row w h 2 _ _ _ hb
  simp at c2
  exact ⟨c2, blk_free hb 2⟩
theorem Rfl.emp {w : World} {h : Nat} {e : Int} {l : List UInt8} (hr : Rfl w h e l) (he : e ≠ 0) : l = [] := by
  obtain ⟨A, n, c, B, I, hb, hs, hI, h0, h1⟩ := hr
  exact h1 he
theorem Rfl.fail {w : World} {h : Nat} {e : Int} {l : List UInt8} (hr : Rfl w h e l) (x : Int) (hx : x ≠ 0) : Rfl (w.setCell ⟨h, 2, none⟩ (.int .i64 x)) h x [] := by
  have hp := hr.plain
  obtain ⟨A, n, c, B, I, hb, hs, hI, h0, h1⟩ := hr
  exact ⟨A, n, c, B, I, by simpa using set_blk hb 2 (.int .i64 x), hs.onP hp (Onl.set w 2 _), hI, fun h => absurd h hx, fun _ => rfl⟩
theorem rbytes_err (h : Nat) (e k : Int) (l : List UInt8) (w : World) (hr : Rfl w h e l) (he : e ≠ 0) :
    Calls Try.prog 81 #[.pointer (some ⟨h, 0, none⟩), .int .i64 k] w fun x w' => x = .returned (.slice none 0 0) ∧ w = w' := by
  obtain ⟨c2, _⟩ := hr.err
  have he' : (e == 0) = false := by simpa using he
  clear hr
  go_enter Try.func81, Try.ntmps81
  go_wp2
  go_ret
  exact ⟨rfl, rfl⟩
theorem rbytes_few (h : Nat) (k : Int) (l : List UInt8) (w : World) (hr : Rfl w h 0 l) (hk : (l.length : Int) < k) :
    Calls Try.prog 81 #[.pointer (some ⟨h, 0, none⟩), .int .i64 k] w fun x w' => x = .returned (.slice none 0 0) ∧ Rfl w' h 3 [] ∧ Onl h w w' := by
  have hR := hr
  obtain ⟨A, n, c, B, I, hb, hs, hI, h0, h1⟩ := hr
  have c0 := cell_of_row w h 0 _ _ _ hb
  have c1 := cell_of_row w h 1 _ _ _ hb
  have c2 := cell_of_row w h 2 _ _ _ hb
  have f2 := blk_free hb 2
  simp at c0 c1 c2
  have hBl := hs.len
  rw [bs_length] at hBl
  have hl := congrArg List.length (h0 rfl)
  rw [List.length_drop] at hl
  have hm := hs.max
  have hle := hs.le
  unfold maxLen at hm
  have hlt : (n : Int) - (I : Int) < k := by omega
  have HF := Lib.hid (fun m => (hR.ext ((Ext.refl w).drewN m)).fail 3 (by decide))
  clear h0 h1 hl hBl hs hR
  go_enter Try.func81, Try.ntmps81
  go_wp2
  go_quiet (fail)
  go_wp2
  go_ret
  exact ⟨rfl, HF.out _, (Onl.of_ext ((Ext.refl _).drewN _)).trans (Onl.set _ 2 _)⟩
set_option maxHeartbeats 1000000 in
theorem rbytes_ok (h k : Nat) (l : List UInt8) (w : World) (hr : Rfl w h 0 l) (hk : k ≤ l.length) :
    Calls Try.prog 81 #[.pointer (some ⟨h, 0, none⟩), .int .i64 (k : Int)] w fun x w' => ∃ A c, x = .returned (.slice A k c) ∧ Sees w' A k c (bs (l.take k)) ∧ Rfl w' h 0 (l.drop k) ∧ Onl h w w' := by
  have hR := hr
  obtain ⟨A, n, c, B, I, hb, hs, hI, h0, h1⟩ := hr
  have c0 := cell_of_row w h 0 _ _ _ hb
  have c1 := cell_of_row w h 1 _ _ _ hb
  have c2 := cell_of_row w h 2 _ _ _ hb
  have f1 := blk_free hb 1
  simp at c0 c1 c2
  have hBl := hs.len
  rw [bs_length] at hBl
  have hl0 := h0 rfl
  subst hl0
  rw [List.length_drop] at hk
  have hm := hs.max
  have hle := hs.le
  unfold maxLen at hm
  have hlt : ¬ (n : Int) - (I : Int) < (k : Int) := by omega
  have hsum : ((I : Int) + (k : Int)) = ((I + k : Nat) : Int) := by omega
  have HRF : Hid (∀ m : Nat, Rfl ((w.drewN m).setCell ⟨h, 1, none⟩ (.int .i64 ((I : Int) + (k : Int)))) h 0 ((B.drop I).drop k)) := Lib.hid fun m => by
    rw [hsum]
    have hR2 := hR.ext ((Ext.refl w).drewN m)
    have hp := hR2.plain
    refine ⟨A, n, c, B, I + k, by simpa using set_blk (w := w.drewN m) hb 1 (.int .i64 ((I + k : Nat) : Int)), (hs.ext ((Ext.refl w).drewN m)).onP hp (Onl.set _ 1 _), by omega, fun _ => by rw [List.drop_drop], fun h => absurd rfl h⟩
  have HON : Hid (∀ (m : Nat) (A' : Option Addr) (n' c' : Nat) (t : List UInt8), Sees w A' n' c' (bs t) → Sees ((w.drewN m).setCell ⟨h, 1, none⟩ (.int .i64 ((I : Int) + (k : Int)))) A' n' c' (bs t)) := Lib.hid fun m A' n' c' t hst =>
    (hst.ext ((Ext.refl w).drewN m)).onP (hR.ext ((Ext.refl w).drewN m)).plain (Onl.set _ 1 _)
  have HS := Lib.hid hs
  clear h0 h1 hR hs hsum
  by_cases hci : c = I
  · subst hci
    obtain rfl : k = 0 := by omega
    have hd : Hid (Sees w A 0 0 (bs ((B.drop c).take 0))) := Lib.hid (by
      have := HS.out.drop_all c hI rfl
      have hnc : n - c = 0 := by omega
      rw [hnc, bs_drop, List.drop_of_length_le (by omega)] at this
      rw [List.take_zero]
      exact this)
    go_enter Try.func81, Try.ntmps81
    go_wp2
    go_quiet (fail)
    go_wp2
    go_quiet (fail)
    go_wp2
    go_ret
    refine ⟨_, _, ?_, HON.out _ _ _ _ _ hd.out, HRF.out _, (Onl.of_ext ((Ext.refl _).drewN _)).trans (Onl.set _ 1 _)⟩
    simp
  · have hd : Hid (Sees w (Option.map (fun x => x.add I) A) k (c - I) (bs ((B.drop I).take k))) := Lib.hid (by
      have := (HS.out.drop I hI hci).take k (by omega)
      rw [bs_drop, bs_take] at this
      exact this)
    go_enter Try.func81, Try.ntmps81
    go_wp2
    go_quiet (fail)
    go_wp2
    go_quiet (fail)
    go_wp2
    go_ret
    refine ⟨_, _, ?_, HON.out _ _ _ _ _ hd.out, HRF.out _, (Onl.of_ext ((Ext.refl _).drewN _)).trans (Onl.set _ 1 _)⟩
    have hik : I + k - I = k := by omega
    simp [hik]
end Go.Proofs.Ytihiclnbbpablaa
