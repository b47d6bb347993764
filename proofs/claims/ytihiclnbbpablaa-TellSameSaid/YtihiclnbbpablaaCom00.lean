/-
  What the functions of the document's own helpers return (the first so many bytes, a number brought into a range): plain contracts; words for rows of bytes.
-/
import Derived.Test.YtihiclnbbpablaaBytes
import Derived.Test.YtihiclnbbpablaaProg
import Derived.WalkSpells
import Derived.WalkLawsBesides
import Derived.KernelRfl
import Derived.LoopTactic
import Derived.IntWalk
import Derived.BigQuiet
import Derived.Lib.SlBytesConst
namespace Go.Proofs.Ytihiclnbbpablaa
open Go Go.RowKit
set_option linter.unusedVariables false
set_option linter.unusedSimpArgs false

theorem infoB : (Try.prog.info? 5).map (fun i => (i.zero, i.size, i.bytes)) = some (some (.int .u8 0), 1, 1) := by kernel_rfl

theorem u8_of (k : Int) (h0 : 0 ≤ k) (h1 : k < 256) : ((UInt8.ofNat k.toNat).toNat : Int) = k := by
  rw [UInt8.toNat_ofNat']
  omega
/-- A new block of cells, and the slice of all of it. -/
theorem own_new (w : World) (e : TypeId) (cs : Array Value) (base : Nat) (hb : base ≤ w.heap.size) (hm : cs.size ≤ maxLen) :
    (w.alloc (.cells cs e)).ownsRow base e 1 (.slice (some ⟨w.heap.size, 0, none⟩) cs.size cs.size) cs.size cs.toList :=
  ⟨by simp, .inr ⟨w.heap.size, cs.size, cs, rfl, hb, heap_alloc_new w _, Nat.le_refl _, hm, by simp, List.take_of_length_le (by simp)⟩⟩
theorem sees_new (w : World) (e : TypeId) (cs : Array Value) (hm : cs.size ≤ maxLen) : Sees (w.alloc (.cells cs e)) (some ⟨w.heap.size, 0, none⟩) cs.size cs.size cs.toList := by
  obtain ⟨A, c, h1, h2⟩ := Sees.of_own (own_new w e cs 0 (Nat.zero_le _) hm)
  injection h1 with a b c
  subst a c
  exact h2

theorem own_mono {w : World} {base base' : Nat} {e : TypeId} {v : Value} {n : Nat} {xs : List Value} (h : w.ownsRow base e 1 v n xs) (hb : base' ≤ base) : w.ownsRow base' e 1 v n xs := by
  obtain ⟨h1, h2⟩ := h
  refine ⟨h1, ?_⟩
  rcases h2 with h2 | ⟨g, cap, cur, hv, hg, r⟩
  · exact .inl h2
  · exact .inr ⟨g, cap, cur, hv, by omega, r⟩
theorem own_ext {w w' : World} {base : Nat} {e : TypeId} {v : Value} {n : Nat} {xs : List Value} (h : w.ownsRow base e 1 v n xs) (he : Ext w w') : w'.ownsRow base e 1 v n xs := by
  obtain ⟨h1, h2⟩ := h
  refine ⟨h1, ?_⟩
  rcases h2 with h2 | ⟨g, cap, cur, hv, hg, hh, r⟩
  · exact .inl h2
  · exact .inr ⟨g, cap, cur, hv, hg, he.heap hh, r⟩

def zeros (n : Nat) : List UInt8 := List.replicate n 0
theorem zeros_succ (n : Nat) : zeros (n + 1) = zeros n ++ [0] := by simp [zeros, List.replicate_succ']
theorem zeros_length (n : Nat) : (zeros n).length = n := by simp [zeros]
/-- The length in a slice value. -/
def lenV : Value → Nat | .slice _ n _ => n | _ => 0

theorem sees_mark (w : World) (e : TypeId) (cs : Array Value) (fr : Nat × Nat) (hm : cs.size ≤ maxLen) : Sees (w.alloc (.cells cs e fr)) (some ⟨w.heap.size, 0, none⟩) cs.size cs.size cs.toList := by
  refine ⟨by simp, Nat.le_refl _, hm, nofun, fun _ => ⟨w.heap.size, 0, rfl, fun j u hu => ?_⟩⟩
  rw [Nat.zero_add, cell_of_row _ w.heap.size j cs e fr (heap_alloc_new w _)]
  simpa using hu

/-- A number brought into 0 .. most - 1. -/
def aroundZ (n most : Int) : Int := (if n < 0 then -(n + 1) else n) % most
theorem aroundZ_bound (n most : Int) (h : 0 < most) : 0 ≤ aroundZ n most ∧ aroundZ n most < most :=
  ⟨Int.emod_nonneg _ (by omega), Int.emod_lt_of_pos _ h⟩
theorem around_any (n most : Int) (w : World) (h0 : -9223372036854775808 ≤ n) (h1 : n ≤ 9223372036854775807) (h : 0 < most) (h2 : most ≤ 9223372036854775807) :
    Calls Try.prog 18 #[.int .i64 n, .int .i64 most] w fun e w' => e = .returned (.int .i64 (aroundZ n most)) ∧ w = w' := by
  by_cases hn : n < 0
  · have e1 : aroundZ n most = -(n + 1) % most := by unfold aroundZ; rw [if_pos hn]
    rw [e1]
    clear e1
    go_enter Try.func18, Try.ntmps18
    go_wp2
    go_ret
    have e2 : -((n + 1).tmod most) = -(n + 1) % most := by rw [← Int.neg_tmod, Int.tmod_eq_emod_of_nonneg (by omega)]
    rw [← e2]
    exact ⟨rfl, rfl⟩
  · have e1 : aroundZ n most = n % most := by unfold aroundZ; rw [if_neg hn]
    rw [e1]
    clear e1
    go_enter Try.func18, Try.ntmps18
    go_wp2
    go_ret
    exact ⟨rfl, rfl⟩
end Go.Proofs.Ytihiclnbbpablaa
