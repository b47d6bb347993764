/-
  Layer 2: the reader of the package: plain contracts.
-/
import Derived.Test.YtihiclnbbpablaaLitB
namespace Go.Proofs.Ytihiclnbbpablaa
open Go Go.RowKit
set_option linter.unusedVariables false
set_option linter.unusedSimpArgs false

/-- Nothing that was there is another one, but for one block. -/
def Onl (g : Nat) (w w' : World) : Prop := w.grownBy w' (some g)
theorem Onl.refl (g : Nat) (w : World) : Onl g w w := ⟨rfl, rfl, rfl, Nat.le_refl _, fun _ _ _ => rfl⟩
theorem Onl.trans {g : Nat} {a b c : World} (h : Onl g a b) (k : Onl g b c) : Onl g a c := World.grownBy.trans h k
theorem Onl.of_ext {g : Nat} {a b : World} (h : Ext a b) : Onl g a b := ⟨h.os, h.tape, h.output, h.size, fun k hk _ => h.block k hk⟩
theorem Onl.set {g : Nat} (w : World) (i : Nat) (v : Value) : Onl g w (w.setCell ⟨g, i, none⟩ v) :=
  ⟨rfl, rfl, rfl, by simp [World.setCell], fun k hk hne => Below.heap_setCell w ⟨g, i, none⟩ v k (fun e => hne (by subst e; rfl))⟩
theorem Onl.drew {g : Nat} {a b : World} (h : Onl g a b) : Onl g a b.drew := ⟨h.os, h.tape, h.output, h.size, h.block⟩
theorem Onl.heap {g k : Nat} {a b : World} (h : Onl g a b) {o : Obj} (hk : a.heap[k]? = some o) (hne : k ≠ g) : b.heap[k]? = some o :=
  (h.block k (Array.getElem?_eq_some_iff.1 hk).1 (fun e => hne (by injection e))).trans hk
theorem Onl.cell {g : Nat} {a b : World} (h : Onl g a b) {p : Addr} {v : Value} (hc : a.cell? p = some v) (hne : p.block ≠ g) : b.cell? p = some v :=
  (World.cell?_of_block (h.block p.block (World.block_lt_of_cell? a p hc) (fun e => hne (by injection e)))).trans hc
theorem Onl.below {g B : Nat} {a b : World} (h : Onl g a b) (hB : B ≤ a.heap.size) (hg : B ≤ g) : Below B a b :=
  ⟨h.os, h.tape, h.output, h.size, fun k hk => h.block k (by omega) (fun e => by injection e; omega)⟩
theorem set_blk {w : World} {g : Nat} {cs : Array Value} {t : TypeId} {fr : Nat × Nat} (h : w.heap[g]? = some (.cells cs t fr)) (i : Nat) (v : Value) :
    (w.setCell ⟨g, i, none⟩ v).heap[g]? = some (.cells (cs.setIfInBounds i v) t fr) := by
  simp [World.setCell, Array.getElem?_modify, h]
theorem blk_free {w : World} {g : Nat} {cs : Array Value} {t : TypeId} (h : w.heap[g]? = some (.cells cs t (0, 0))) (i : Nat) : w.frozen? ⟨g, i, none⟩ = false := by
  simp [World.frozen?, h]


/-- The reader in block g: the bytes that are left, its first error. -/
def Rdl (w : World) (g : Nat) (e : Int) (l : List UInt8) : Prop :=
  ∃ A n c, w.heap[g]? = some (.cells #[.slice A n c, .int .i64 e] 106 (0, 0)) ∧ Sees w A n c (bs l)
theorem Rdl.ext {w w' : World} {g : Nat} {e : Int} {l : List UInt8} (h : Rdl w g e l) (he : Ext w w') : Rdl w' g e l := by
  obtain ⟨A, n, c, hb, hs⟩ := h
  exact ⟨A, n, c, he.heap hb, hs.ext he⟩
theorem Sees.apartL {w w' : World} {g : Nat} {e : Int} {A0 : Option Addr} {n0 c0 : Nat} {t : TypeId} {A : Option Addr} {n c : Nat} {m : List UInt8} (hb : w.heap[g]? = some (.cells #[.slice A0 n0 c0, .int .i64 e] t (0, 0)))
    (h : Sees w A n c (bs m)) (ho : Onl g w w') : Sees w' A n c (bs m) :=
  ⟨h.1, h.2.1, h.2.2.1, h.2.2.2.1, fun hn => by
    obtain ⟨b, off, hA, hc⟩ := h.2.2.2.2 hn
    refine ⟨b, off, hA, fun j u hu => ?_⟩
    have hcell := hc j u hu
    have hbg : b ≠ g := by
      rintro rfl
      rw [cell_of_row w b (off + j) _ t (0, 0) hb] at hcell
      obtain ⟨hj, rfl⟩ := bs_get m j u hu
      match hk : off + j, hcell with
      | 0, hcell => simp at hcell
      | 1, hcell => simp at hcell
      | k + 2, hcell => simp at hcell
    have hlt := World.block_lt_of_cell? w ⟨b, off + j, none⟩ hcell
    exact (World.cell?_of_block (ho.block b hlt (fun e => hbg (by injection e)))).trans hcell⟩
def ferrL (e er : Int) : Int := if e = 0 then er else e

theorem lfail_any (g : Nat) (e er : Int) (l : List UInt8) (w : World) (h : Rdl w g e l) :
    Calls Try.prog 95 #[.pointer (some ⟨g, 0, none⟩), .int .i64 er] w fun x w' => x = .returned (.tuple #[]) ∧ Rdl w' g (ferrL e er) [] ∧ Onl g w w' := by
  obtain ⟨A, n, c, hb, hs⟩ := h
  have c0 := cell_of_row w g 0 _ _ _ hb
  have c1 := cell_of_row w g 1 _ _ _ hb
  have f0 := blk_free hb 0
  have f1 := blk_free hb 1
  simp at c0 c1
  by_cases he : e = 0
  · subst he
    have hif : ferrL 0 er = er := rfl
    rw [hif]
    clear hif
    go_enter Try.func95, Try.ntmps95
    go_wp2
    go_end0
    refine ⟨rfl, ?_, (Onl.set w 1 _).trans (Onl.set _ 0 _)⟩
    have := set_blk (set_blk hb 1 (.int .i64 er)) 0 (.slice none 0 0)
    exact ⟨none, 0, 0, by simpa using this, Sees.nil _⟩
  · have he' : (e == 0) = false := by simpa using he
    have hif : ferrL e er = e := if_neg he
    rw [hif]
    clear hif
    go_enter Try.func95, Try.ntmps95
    go_wp2
    go_end0
    refine ⟨rfl, ?_, Onl.set _ 0 _⟩
    have := set_blk hb 0 (.slice none 0 0)
    exact ⟨none, 0, 0, by simpa using this, Sees.nil _⟩

theorem ltake_few (g : Nat) (e k : Int) (l : List UInt8) (w : World) (h : Rdl w g e l) (hk : (l.length : Int) < k) :
    Calls Try.prog 91 #[.pointer (some ⟨g, 0, none⟩), .int .i64 k] w fun x w' => x = .returned (.slice none 0 0) ∧ Rdl w' g (ferrL e 3) [] ∧ Onl g w w' := by
  have hR := h
  obtain ⟨A, n, c, hb, hs⟩ := h
  have hn : n = l.length := by rw [← hs.1, bs_length]
  subst hn
  have c0 := cell_of_row w g 0 _ _ _ hb
  simp at c0
  go_enter Try.func91, Try.ntmps91
  go_wp2_with fail
  refine (lfail_any g e 3 l _ hR).mono ?_
  rintro x w1 ⟨rfl, hr, ho⟩
  go_wp2
  go_ret
  exact ⟨rfl, hr, ho⟩
theorem ltake_ok (g : Nat) (e : Int) (k : Nat) (l : List UInt8) (w : World) (h : Rdl w g e l) (hk : k ≤ l.length) :
    Calls Try.prog 91 #[.pointer (some ⟨g, 0, none⟩), .int .i64 (k : Int)] w fun x w' => ∃ A c, x = .returned (.slice A k c) ∧ Sees w' A k c (bs (l.take k)) ∧ Rdl w' g e (l.drop k) ∧ Onl g w w' := by
  obtain ⟨A, n, c, hb, hs⟩ := h
  have hn : n = l.length := by rw [← hs.1, bs_length]
  subst hn
  have c0 := cell_of_row w g 0 _ _ _ hb
  have f0 := blk_free hb 0
  simp at c0
  have hc := hs.le
  have hm := hs.max
  unfold maxLen at hm
  have hr : ∀ v, (w.setCell ⟨g, 0, none⟩ v).heap[g]? = some (.cells #[v, .int .i64 e] 106 (0, 0)) := fun v => by simpa using set_blk hb 0 v
  have ht : ∀ v, Sees (w.setCell ⟨g, 0, none⟩ v) A k c (bs (l.take k)) := fun v => by
    rw [← bs_take]
    have := hs.take k (by omega)
    rw [bs_take] at this ⊢
    exact this.apartL hb (Onl.set w 0 v)
  by_cases hck : c = k
  · have hd := hs.drop_all k (by omega) hck
    rw [bs_drop] at hd
    have hd' := fun v => hd.apartL hb (Onl.set w 0 v)
    have hl : l.length - k = 0 := by omega
    subst hck
    clear hd hs
    have HR := Lib.hid hr
    clear hr
    go_enter Try.func91, Try.ntmps91
    go_wp2
    go_ret
    refine ⟨A, _, rfl, ht _, ⟨_, _, _, HR.out _, ?_⟩, Onl.set w 0 _⟩
    simpa [hl] using hd' _
  · have hd := hs.drop k (by omega) hck
    rw [bs_drop] at hd
    have hd' := fun v => hd.apartL hb (Onl.set w 0 v)
    clear hd hs
    have HR := Lib.hid hr
    clear hr
    go_enter Try.func91, Try.ntmps91
    go_wp2
    go_ret
    exact ⟨A, _, rfl, ht _, ⟨_, _, _, HR.out _, hd' _⟩, Onl.set w 0 _⟩

/-- A number of bytes, the lowest part first. -/
def leV : List UInt8 → Nat
  | [] => 0
  | b :: r => b.toNat + 256 * leV r
theorem leV_lt : ∀ l : List UInt8, leV l < 256 ^ l.length
  | [] => by simp [leV]
  | b :: r => by
    have h := leV_lt r
    have hb := b.toNat_lt
    simp only [leV, List.length_cons, Nat.pow_succ]
    omega
theorem leV_push : ∀ (l : List UInt8) (b : UInt8), leV (l ++ [b]) = leV l + 256 ^ l.length * b.toNat
  | [], b => by simp [leV]
  | c :: r, b => by
    have h := leV_push r b
    simp only [List.cons_append, leV, h, List.length_cons, Nat.pow_succ, Nat.mul_add, ← Nat.add_assoc]
    rw [Nat.mul_comm (256 ^ r.length) 256, Nat.mul_assoc]
theorem leV_le : ∀ k x, leV (le k x) = x % 256 ^ k
  | 0, x => by simp [le, leV, Nat.mod_one]
  | k + 1, x => by
    have h := leV_le k (x / 256)
    have h2 : (UInt8.ofNat (x % 256)).toNat = x % 256 := by simp
    rw [le, leV, h, h2, Nat.pow_succ, Nat.mul_comm (256 ^ k) 256, Nat.mod_mul]
end Go.Proofs.Ytihiclnbbpablaa
