/-
  Layer 12: what is written and made greater, on both sides, whatever it is.
-/
import Derived.Test.YtiiagecacegmbaaBlobG
import Derived.Test.YtiiagecacegmbaaOrd
import Derived.Test.YtiiagecacegmbaaRws
namespace Go.Proofs.Ytiiagecacegmbaa
open Go Go.RowKit
set_option linter.unusedVariables false
set_option linter.unusedSimpArgs false
def wrE (o m : Int) : Int := if 0 < m ∧ 2048 < o + m then 15 else 0
def wrT (l : List UInt8) (o : Int) (d : List UInt8) : List UInt8 := if 0 < (d.length : Int) ∧ 2048 < o + d.length then [] else writeL l o.toNat d
theorem bwrite_any (A : Option Addr) (n c : Nat) (l : List UInt8) (o : Int) (w : World) (hs : Sees w A n c (bs l)) (hn : n ≤ 900000) (A2 : Option Addr) (n2 c2 : Nat) (d : List UInt8) (hs2 : Sees w A2 n2 c2 (bs d)) (hn2 : n2 ≤ 2048) (ho0 : 0 ≤ o) (ho1 : o ≤ 9223372036854775807) :
    Calls Try.prog 42 #[.slice A n c, .int .i64 o, .slice A2 n2 c2] w fun e w' => ∃ v k, e = .returned (.tuple #[v, .int .i64 (wrE o n2)]) ∧ w'.ownsRow w.heap.size 5 1 v k (bs (wrT l o d)) ∧ Ext w w' := by
  have hl2 := hs2.len
  rw [bs_length] at hl2
  obtain ⟨O, rfl⟩ := Int.eq_ofNat_of_zero_le ho0
  by_cases hb : 0 < (n2 : Int) ∧ 2048 < (O : Int) + n2
  · have h1 : wrE O n2 = 15 := by unfold wrE; rw [if_pos hb]
    have h2 : wrT l O d = [] := by unfold wrT; rw [hl2, if_pos hb]
    rw [h1, h2]
    refine (write_big A n c O A2 n2 c2 w ho1 (by omega) (by omega) (by omega)).mono ?_
    rintro e w' ⟨rfl, rfl⟩
    exact ⟨_, 0, rfl, World.ownsRow_nil _ _ _ _, Ext.refl _⟩
  · have h1 : wrE O n2 = 0 := by unfold wrE; rw [if_neg hb]
    have h2 : wrT l O d = writeL l O d := by unfold wrT; rw [hl2, if_neg hb]; rfl
    rw [h1, h2]
    by_cases h0 : n2 = 0
    · subst h0
      obtain rfl : d = [] := List.eq_nil_of_length_eq_zero hl2
      rw [writeL_nil]
      refine (write_no A n c l O w hs hn A2 c2 ho1).mono ?_
      rintro e w' ⟨v, rfl, h, he⟩
      exact ⟨v, n, rfl, h, he⟩
    · refine (write_le A n c l O O w hs hn A2 n2 c2 d hs2 rfl (by omega)).mono ?_
      rintro e w' ⟨v, rfl, h, he⟩
      exact ⟨v, _, rfl, h, he⟩
theorem rwrite_all (l d : List UInt8) (o : Int) (w : World) (hl : l.length ≤ 900000) (hd : d.length ≤ 2048) (ho0 : 0 ≤ o) (ho1 : o ≤ 9223372036854775807) :
    Calls Try.prog 43 #[.string ⟨l.toArray⟩, .int .i64 o, .string ⟨d.toArray⟩] w fun e w' => e = .returned (.tuple #[.string ⟨(wrT l o d).toArray⟩, .int .i64 (wrE o d.length)]) ∧ Ext w w' := by
  by_cases hb : 0 < (d.length : Int) ∧ 2048 < o + d.length
  · have h1 : wrE o d.length = 15 := by unfold wrE; rw [if_pos hb]
    have h2 : wrT l o d = [] := by unfold wrT; rw [if_pos hb]
    rw [h1, h2]
    exact rwrite_big l d o w ho0 ho1 (by omega) hd (by omega)
  · have h1 : wrE o d.length = 0 := by unfold wrE; rw [if_neg hb]
    have h2 : wrT l o d = writeL l o.toNat d := by unfold wrT; rw [if_neg hb]
    rw [h1, h2]
    exact rwrite_any l d o w hl ho0 ho1 hd (by omega)
def rsE (k : Int) : Int := if 2048 < k then 15 else 0
def rsT (l : List UInt8) (k : Int) : List UInt8 := if 2048 < k then [] else sizeL l k.toNat
theorem bresize_any (A : Option Addr) (n c : Nat) (l : List UInt8) (k : Int) (w : World) (hs : Sees w A n c (bs l)) (hn : n ≤ 900000) (hk0 : 0 ≤ k) (hk1 : k ≤ 9223372036854775807) :
    Calls Try.prog 44 #[.slice A n c, .int .i64 k] w fun e w' => ∃ v m, e = .returned (.tuple #[v, .int .i64 (rsE k)]) ∧ w'.ownsRow w.heap.size 5 1 v m (bs (rsT l k)) ∧ Ext w w' := by
  obtain ⟨K, rfl⟩ := Int.eq_ofNat_of_zero_le hk0
  by_cases hb : 2048 < (K : Int)
  · have h1 : rsE K = 15 := by unfold rsE; rw [if_pos hb]
    have h2 : rsT l K = [] := by unfold rsT; rw [if_pos hb]
    rw [h1, h2]
    clear h1 h2
    go_enter Try.func44, Try.ntmps44
    go_wp2
    go_ret2
    exact ⟨_, 0, rfl, World.ownsRow_nil _ _ _ _, Ext.refl _⟩
  · have h1 : rsE K = 0 := by unfold rsE; rw [if_neg hb]
    have h2 : rsT l K = sizeL l K := by unfold rsT; rw [if_neg hb]; rfl
    rw [h1, h2]
    clear h1 h2
    have hmx : max (K : Int) 0 = (K : Int) := by omega
    go_enter Try.func44, Try.ntmps44
    by_cases hK : (0 : Int) < K
    all_goals
      go_wp2_with fail
      refine (sized_nat A n c l _ K _ hs (by omega) (by omega) (by omega)).mono ?_
      rintro e w' ⟨v, rfl, own, ext⟩
      go_wp2
      go_ret2
      exact ⟨v, _, rfl, own, ext⟩
theorem rresize_all (l : List UInt8) (k : Int) (w : World) (hl : l.length ≤ 900000) (hk0 : 0 ≤ k) (hk1 : k ≤ 9223372036854775807) :
    Calls Try.prog 45 #[.string ⟨l.toArray⟩, .int .i64 k] w fun e w' => e = .returned (.tuple #[.string ⟨(rsT l k).toArray⟩, .int .i64 (rsE k)]) ∧ Ext w w' := by
  obtain ⟨K, rfl⟩ := Int.eq_ofNat_of_zero_le hk0
  by_cases hb : 2048 < (K : Int)
  · have h1 : rsE K = 15 := by unfold rsE; rw [if_pos hb]
    have h2 : rsT l K = [] := by unfold rsT; rw [if_pos hb]
    rw [h1, h2]
    clear h1 h2
    go_enter Try.func45, Try.ntmps45
    go_wp2
    go_ret2
    exact ⟨rfl, Ext.refl _⟩
  · have h1 : rsE K = 0 := by unfold rsE; rw [if_neg hb]
    have h2 : rsT l K = sizeL l K := by unfold rsT; rw [if_neg hb]; rfl
    rw [h1, h2]
    exact rresize_any l K w hl (by omega)
end Go.Proofs.Ytiiagecacegmbaa
