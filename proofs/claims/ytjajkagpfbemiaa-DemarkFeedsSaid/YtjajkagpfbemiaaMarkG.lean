/-
  The reference's Good of layer 3: rows of at most 40 bytes, sizes of 1 to 20.
-/
import Derived.Test.YtjajkagpfbemiaaOwnB
namespace Go.Proofs.Ytjajkagpfbemiaa
open Go Go.RowKit
set_option linter.unusedVariables false
set_option linter.unusedSimpArgs false

/-- The first k bytes of the rows that came in. -/
def rowF (rows : List (List Int)) (k : Nat) : List (List UInt8) := rows.map fun r => (r.map fun x => UInt8.ofNat x.toNat).take k
theorem rowF_get {rows : List (List Int)} {k j : Nat} {r : List Int} (h : rows[j]? = some r) : (rowF rows k).take (j + 1) = (rowF rows k).take j ++ [(r.map fun x => UInt8.ofNat x.toNat).take k] := by
  have hg : (rowF rows k)[j]? = some ((r.map fun x => UInt8.ofNat x.toNat).take k) := by simp [rowF, h]
  rw [List.take_add_one, hg]
  rfl
theorem rowF_le (rows : List (List Int)) (k : Nat) : ∀ r ∈ rowF rows k, r.length ≤ k := by
  intro r hr
  simp only [rowF, List.mem_map] at hr
  obtain ⟨r0, _, rfl⟩ := hr
  rw [List.length_take]
  omega
theorem rowF_length (rows : List (List Int)) (k : Nat) : (rowF rows k).length = rows.length := by simp [rowF]
theorem iv_intsF (l : List Nat) : iv l = (l.map fun k : Nat => (k : Int)).map (Value.int .i64) := by simp [iv]

def GoodP (w : World) (rows : List (List Int)) (n : Nat) (v1 v2 : Value) (w' : World) : Prop :=
  ∃ (k : Nat) (l : List Nat), k ≤ n ∧ k ≤ 5 ∧ (k = n ∨ k = 5) ∧ OwnB w' w.heap.size v1 ((rowF rows 40).take k) ∧ l.length ≤ 5 ∧ (∀ x ∈ l, 1 ≤ x ∧ x ≤ 20) ∧ w'.ownsRow w.heap.size 3 1 v2 l.length (iv l) ∧ Ext w w'

set_option maxHeartbeats 2000000 in
theorem rgood_any (A A1 : Option Addr) (n c n1 c1 : Nat) (rows : List (List Int)) (zs : List Int) (w : World) (hs : SeesRows .u8 w A n c rows) (hs1 : SeesI w A1 n1 c1 zs) :
    Calls Try.prog 8 #[.slice A n c, .slice A1 n1 c1] w fun e w' => ∃ (v1 v2 : Value), e = .returned (.tuple #[v1, v2]) ∧ GoodP w rows n v1 v2 w' := by
  have hn := hs.2.1
  have hm := hs.2.2.1
  have hrl := hs.1
  have hn1 := hs1.1.le
  have hm1 := hs1.1.max
  unfold maxLen at hm hm1
  have HS := Lib.hid hs
  have HSI := Lib.hid hs1
  have HRL := Lib.hid hrl
  clear hs hs1 hrl
  go_enter Try.func8, Try.ntmps8
  go_wp2_with fail
  go_loopw [6, 7] (fun v i wr => ∃ k : Nat, k ≤ n ∧ k ≤ 5 ∧ i = .int .i64 k ∧ OwnB wr w.heap.size v ((rowF rows 40).take k) ∧ Ext w wr) (fun _ i _ => 5 - (intOf i).toNat)
  case atStart => exact ⟨0, by omega, by omega, rfl, by simpa using OwnB.nil w w.heap.size, Ext.refl _⟩
  case round =>
    obtain ⟨k, hk, hk5, rfl, own, ext⟩ := hrel
    by_cases hlt : k < n ∧ k < 5
    · obtain ⟨hlt1, hlt2⟩ := hlt
      obtain ⟨b, off, A', c', r, hA, hr, hcell, seer, hqr⟩ := (HS.out.ext ext).at_ k hlt1
      subst hA
      rw [ints_bytes hqr] at seer
      have hnext := rowF_get (k := 40) hr
      have HNext := Lib.hid hnext
      clear hnext hr hqr
      go_wp2_with fail
      refine (few_nat A' _ c' _ 40 _ _ seer (bs_one _) (by omega) (by omega) rfl).mono ?_
      rintro e w2 ⟨v2, rfl, own2, e2⟩
      rw [bs_take] at own2
      have hform := fun h => own2.form h
      obtain ⟨A2, c2, rfl, see2⟩ := Sees.of_own own2
      have hne : ∀ a, A2 = some a → 0 < min r.length 40 → _ ≠ some a.block := fun a hA hn => by
        obtain ⟨g, cap, hv, hg, _⟩ := hform hn
        injection hv with q1 q2 q3
        rw [hA] at q1
        injection q1 with q1
        subst q1
        intro e
        have := (own.lt _ e).2
        have hg' : wr.heap.size ≤ g := hg
        exact absurd this (by show ¬ g < _; omega)
      have hlr : ((rowF rows 40).take k).length ≤ 1000 := by rw [List.length_take]; omega
      obtain ⟨v3, w3, hrun3, own3, hg3⟩ := own_push (own.ext e2) (by have := ext.size; have := e2.size; omega) hlr see2 hne
      rw [← HNext.out] at own3
      have ext3 : Ext w w3 := ((ext.trans e2).alloc _).grown hg3 fun k hk => ((own.ext e2).lt k hk).1
      clear own own2 hform see2 hne hlr e2 ext hg3 seer hcell
      go_wp2_with (first | (at_builtin; refine wpList_append_run rfl (.tmp 20) (.tmp 26) _ rfl _ _ rfl rfl v3 w3 hrun3 ?_) | fail)
      go_roundw
      case rel => exact ⟨k + 1, by omega, by omega, by go_num, own3, ext3⟩
      case measure => simp [intOf]; omega
    · have hdec : k = n ∨ k = 5 := by omega
      have HDec := Lib.hid hdec
      have hlo : ((rowF rows 40).take k).length ≤ 100 := by rw [List.length_take]; omega
      clear hlt hlo
      generalize hRS : (rowF rows 40).take k = rs at *
      have HRS := Lib.hid hRS
      clear hRS
      by_cases hkn2 : k < n
      all_goals
        first | (have hd : k = 5 := by omega) | (have hd : k = n := by omega)
        subst hd
        generalize hw9 : wr = w9 at *
        clear hw9
        go_wp2_with fail
        go_loopw [8, 9] (fun v i wr2 => ∃ (k2 : Nat) (l : List Nat), k2 ≤ n1 ∧ k2 ≤ 5 ∧ i = .int .i64 k2 ∧ l.length = k2 ∧ (∀ x ∈ l, 1 ≤ x ∧ x ≤ 20) ∧ wr2.ownsRow w9.heap.size 3 1 v l.length (iv l) ∧ Ext w9 wr2) (fun _ i _ => 5 - (intOf i).toNat)
        case atStart => exact ⟨0, [], by omega, by omega, rfl, rfl, by simp, World.ownsRow_nil _ _ _ _, Ext.refl _⟩
        case round =>
          obtain ⟨k2, l, hk2, hk25, rfl, hl2, hl12, own2, ext2⟩ := hrel
          have HL2 := Lib.hid hl2
          have HL12 := Lib.hid hl12
          clear hl12 hl2
          by_cases hlt2 : k2 < n1 ∧ k2 < 5
          · obtain ⟨hlt3, hlt4⟩ := hlt2
            have hIa := HSI.out.ext (ext.trans ext2)
            obtain ⟨b2, off2, u, hA, hu, hcell, _⟩ := hIa.1.at_ hlt3
            subst hA
            obtain ⟨z, hz, hz0, hz1⟩ : ∃ z, u = .int .i64 z ∧ -9223372036854775808 ≤ z ∧ z ≤ 9223372036854775807 := by
              rw [List.getElem?_map] at hu
              cases hq : zs[k2]? with
              | none => rw [hq] at hu; cases hu
              | some z =>
                rw [hq] at hu
                injection hu with hu
                have := hIa.2 z (List.mem_of_getElem? hq)
                exact ⟨z, hu.symm, this.1, this.2⟩
            subst hz
            clear hu hIa
            have hra := aroundZ_bound z 20 (by omega)
            have hln : l.length ≤ 1000000 := by rw [HL2.out]; omega
            obtain ⟨v3, w3, hrun3, own3, hg3⟩ := app_int (w := wr) (1 + aroundZ z 20) (1 + aroundZ z 20).toNat (by omega) (by omega) hln own2 ext2.size
            have ext3 : Ext w9 w3 := (ext2.alloc _).grown hg3 fun k hk => (own2.lt k hk).1
            have hl3 : (l ++ [(1 + aroundZ z 20).toNat]).length = k2 + 1 := by rw [List.length_append, HL2.out]; rfl
            have hl4 : ∀ x ∈ l ++ [(1 + aroundZ z 20).toNat], 1 ≤ x ∧ x ≤ 20 := fun x hx => by
              rcases List.mem_append.1 hx with h | h
              · exact HL12.out x h
              · simp at h
                omega
            have HL3 := Lib.hid hl3
            have HL4 := Lib.hid hl4
            clear own2 ext2 hg3 hl3 hl4 hln
            go_wp2_with fail
            refine (around_any z 20 _ hz0 hz1 (by omega) (by omega)).mono ?_
            rintro e w2 ⟨rfl, rfl⟩
            generalize (1 + aroundZ z 20).toNat = zn at *
            generalize aroundZ z 20 = za at *
            go_wp2_with (first | (at_builtin; refine wpList_append_run rfl (.tmp 38) (.tmp 45) _ rfl _ _ rfl rfl v3 w3 hrun3 ?_) | fail)
            go_roundw
            case rel => exact ⟨k2 + 1, _, by omega, by omega, by go_num, HL3.out, HL4.out, own3, ext3⟩
            case measure => simp [intOf]; omega
          · have hdec2 : k2 = n1 ∨ k2 = 5 := by omega
            have own9 := OwnB.ext own ext2
            have own2b := own_mono own2 ext.size
            have extZ := ext.trans ext2
            have HL5 : Hid (l.length ≤ 5) := Lib.hid (by rw [HL2.out]; omega)
            clear own own2 hlt2
            by_cases hkn3 : k2 < n1
            all_goals
              first | (have hd2 : k2 = 5 := by omega) | (have hd2 : k2 = n1 := by omega)
              subst hd2
              go_wp2
              go_ret2
              exact ⟨_, _, rfl, _, l, hk, hk5, by omega, by rw [HRS.out]; exact own9, HL5.out, HL12.out, own2b, extZ⟩
end Go.Proofs.Ytjajkagpfbemiaa
