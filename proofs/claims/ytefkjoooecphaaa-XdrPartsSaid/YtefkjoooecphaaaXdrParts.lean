/-
  The statement XdrParts: its walk.
-/
import Derived.Test.YtefkjoooecphaaaRws
import Derived.Test.YtefkjoooecphaaaXdrC
namespace Go.Proofs.Ytefkjoooecphaaa
open Go Go.RowKit
set_option linter.unusedVariables false
set_option linter.unusedSimpArgs false

theorem txt_mod (s : List UInt8) : (txt s).length % 4 = 0 := by
  unfold txt pad
  simp only [List.length_append, be4_length, zeros_length]
  omega

theorem parts_walk (A A2 : Option Addr) (n c n2 c2 : Nat) (l : List Int) (s : List (List Int)) (w : World) (hs : Sees w A n c (l.map (Value.int .u32))) (hq : ∀ m ∈ l, (Lit.int .u32 m).wf = true) (hs2 : SeesRows .u8 w A2 n2 c2 s) :
    Calls Try.prog 8 #[.slice A n c, .slice A2 n2 c2] w fun e w' => e = .returned (.bool true) ∧ Ext w w' := by
  have hmk : ∀ x y : List UInt8, ByteArray.mk x.toArray ++ ByteArray.mk y.toArray = ByteArray.mk (x ++ y).toArray := ByteArray.mk_append_mk
  have hn := hs.le
  have hm := hs.max
  have hn2 := hs2.2.1
  have hm2 := hs2.2.2.1
  unfold maxLen at hm hm2
  go_enter Try.func8, Try.ntmps8
  go_wp2_with fail
  go_loopw [5, 6, 7] (fun b t i wr => ∃ (k m : Nat) (B : Option Addr) (cb : Nat) (lB : List UInt8), k ≤ n ∧ k ≤ 5 ∧ i = .int .i64 k ∧ b = .slice B m cb ∧ t = .string ⟨lB.toArray⟩ ∧ Sees wr B m cb (bs lB) ∧ m = 4 * k ∧ Ext w wr) (fun _ _ i _ => 5 - (intOf i).toNat)
  case atStart => exact ⟨0, 0, none, 0, [], by omega, by omega, rfl, rfl, rfl, Sees.nil _, rfl, Ext.refl w⟩
  case round =>
    obtain ⟨k, m, B, cb, lB, hk, hk5, rfl, rfl, rfl, seeb, hm4, extk⟩ := hrel
    have hmB := seeb.len
    rw [bs_length] at hmB
    have HB := Lib.hid hmB
    have HM := Lib.hid hm4
    have hml : m ≤ 20 := by omega
    have hll : lB.length ≤ 20 := by omega
    clear hmB hm4
    by_cases hlt : k < n ∧ k < 5
    · obtain ⟨hlt1, hlt2⟩ := hlt
      obtain ⟨b, off, u, hA, hu, hcell, _⟩ := (hs.ext extk).at_ hlt1
      subst hA
      obtain ⟨x, hx, rfl⟩ : ∃ x ∈ l, u = .int .u32 x := by
        rw [List.getElem?_map] at hu
        cases h : l[k]? with
        | none => rw [h] at hu; cases hu
        | some x =>
          rw [h] at hu
          injection hu with hu
          exact ⟨x, List.mem_of_getElem? h, hu.symm⟩
      have hxb := bounds_u32 (hq x hx)
      clear hu hx
      go_wp2_with fail
      refine (xdr_u32 B m cb x lB _ seeb (by omega) (by omega) (by omega)).mono ?_
      rintro e w1 ⟨v1, rfl, own1, ext1⟩
      obtain ⟨B1, cb1, rfl, see1⟩ := Sees.of_own own1
      have hcell1 := ext1.cell hcell
      clear own1 hcell
      go_wp2_with fail
      refine (xdr_u32 none 0 0 x [] _ (Sees.nil _) (by omega) (by omega) (by omega)).mono ?_
      rintro e w2 ⟨v2, rfl, own2, ext2⟩
      have own2' : w2.ownsRow w1.heap.size 5 1 v2 4 (bs (be4 x)) := own2
      obtain ⟨B2, cb2, rfl, see2⟩ := Sees.of_own own2'
      have hst := str_of see2
      have hbl := be4_length x
      have see1' := see1.ext ext2
      have ext3 := extk.trans (ext1.trans ext2)
      clear own2 own2' see2 see1 ext1 ext2 extk seeb hcell1
      go_wp2
      go_roundw
      case rel => exact ⟨k + 1, m + 4, B1, cb1, lB ++ be4 x, by omega, by omega, by go_num, rfl, rfl, see1', by have := HM.out; omega, ext3⟩
      case measure => simp [intOf]; omega
    · have hx1 : (k : Int) < (n : Int) → ¬ ((k : Int) < 5) := fun h => by omega
      have hdec : k = n ∨ k = 5 := by omega
      have HBm : lB.length = m := HB.out
      clear hlt
      have hmod0 : m % 4 = 0 := by have := HM.out; omega
      have HMod := Lib.hid hmod0
      have HBm' := Lib.hid HBm
      clear hmod0 HBm hx1
      by_cases hkn : k < n
      all_goals
        first | (have hd : k = 5 := by omega) | (have hd : k = n := by omega)
        subst hd
        go_wp2_with fail
        go_loopw [5, 6, 8] (fun b t i wr => ∃ (k m : Nat) (B : Option Addr) (cb : Nat) (lB : List UInt8), k ≤ n2 ∧ k ≤ 5 ∧ i = .int .i64 k ∧ b = .slice B m cb ∧ t = .string ⟨lB.toArray⟩ ∧ Sees wr B m cb (bs lB) ∧ m ≤ 20 + 27 * k ∧ Hid (m % 4 = 0) ∧ Ext w wr) (fun _ _ i _ => 5 - (intOf i).toNat)
        case atStart => exact ⟨0, m, B, cb, lB, by omega, by omega, rfl, rfl, rfl, seeb, by omega, HMod, extk⟩
        case round =>
          clear seeb HB HM HMod HBm' extk hml hll
          obtain ⟨k2, m, B, cb, lB, hk, hk5, rfl, rfl, rfl, seeb, hm4, HMod, extk⟩ := hrel
          have hmB := seeb.len
          rw [bs_length] at hmB
          have HB := Lib.hid hmB
          have hll : lB.length ≤ 200 := by omega
          clear hmB
          by_cases hlt : k2 < n2 ∧ k2 < 5
          · obtain ⟨hlt1, hlt2⟩ := hlt
            obtain ⟨b, off, A', c', r, hA, hr, hcell, seer, hqr⟩ := (hs2.ext extk).at_ k2 hlt1
            subst hA
            rw [ints_bytes hqr] at seer
            generalize r.map (fun n => UInt8.ofNat n.toNat) = rb at *
            clear hr hqr
            go_wp2_with fail
            refine (few_nat A' _ c' _ 20 _ _ seer (bs_one _) (by omega) (by omega) rfl).mono ?_
            rintro e w1 ⟨v1, rfl, own1, ext1⟩
            rw [bs_take] at own1
            obtain ⟨A1, c1, rfl, see1⟩ := Sees.of_own own1
            have hT := see1.len
            rw [bs_length] at hT
            generalize rb.take 20 = tt at *
            generalize hT0 : min r.length 20 = T at *
            have hT20 : T ≤ 20 := by omega
            have HT := Lib.hid hT
            have htl := txt_le tt
            rw [hT] at htl
            have hmt := txt_mod tt
            have HMT := Lib.hid hmt
            have seeb1 := seeb.ext ext1
            clear hT hT0 own1 hmt seer hcell seeb
            go_wp2_with fail
            refine (text_any B m cb A1 T c1 lB tt _ seeb1 see1 (by omega) (by omega)).mono ?_
            rintro e w2 ⟨v2, rfl, own2, ext2⟩
            obtain ⟨B1, cb1, rfl, see2⟩ := Sees.of_own own2
            have see1b := see1.ext ext2
            clear own2 see1 seeb1
            go_wp2_with fail
            refine (text_any none 0 0 A1 T c1 [] tt _ (Sees.nil _) see1b (by omega) (by omega)).mono ?_
            rintro e w3 ⟨v3, rfl, own3, ext3⟩
            have own3' : w3.ownsRow w2.heap.size 5 1 v3 (txt tt).length (bs (txt tt)) := by simpa using own3
            obtain ⟨B3, cb3, rfl, see3⟩ := Sees.of_own own3'
            have hst := str_of see3
            have see2b := see2.ext ext3
            have ext4 := extk.trans ((ext1.trans ext2).trans ext3)
            clear own3 own3' see3 see2 see1b ext1 ext2 ext3 extk
            go_wp2
            go_roundw
            case rel => exact ⟨k2 + 1, m + (txt tt).length, B1, cb1, lB ++ txt tt, by omega, by omega, by go_num, rfl, rfl, see2b, by omega, (by have h1 := HMod.out; have h2 := HMT.out; exact (show (m + (txt tt).length) % 4 = 0 by omega)), ext4⟩
            case measure => simp [intOf]; omega
          · have hdec : k2 = n2 ∨ k2 = 5 := by omega
            clear hlt
            have hst := str_of seeb
            have hmod : ((m : Int) % 4 == 0) = true := by have := HMod.out; simp; omega
            by_cases hkn2 : k2 < n2
            all_goals
              first | (have hd : k2 = 5 := by omega) | (have hd : k2 = n2 := by omega)
              subst hd
              go_wp2_with fail
              refine (lives_any _).mono ?_
              rintro e w4 ⟨rfl, ext4⟩
              go_wp2
              go_ret
              exact ⟨rfl, extk.trans ext4⟩
end Go.Proofs.Ytefkjoooecphaaa
