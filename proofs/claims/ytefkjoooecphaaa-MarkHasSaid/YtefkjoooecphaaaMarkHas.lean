/-
  The statement MarkHas: its walk.
-/
import Derived.Test.YtefkjoooecphaaaMarkD
namespace Go.Proofs.Ytefkjoooecphaaa
open Go Go.RowKit
set_option linter.unusedVariables false
set_option linter.unusedSimpArgs false

def lnV : Value → Nat
  | .slice _ n _ => n
  | _ => 0
theorem num4_bf (x : Int) (t : List UInt8) (h0 : 0 ≤ x) (h1 : x < 4294967296) : num4 (be4 x ++ t) = x := by
  have e := fun k h0 h1 => u8_of k h0 h1
  simp only [num4, be4, List.cons_append, List.getD_cons_zero, List.getD_cons_succ]
  rw [e _ (by omega) (by omega), e _ (by omega) (by omega), e _ (by omega) (by omega), e _ (by omega) (by omega)]
  omega
theorem mkE_60 {n : Nat} {S : Nat} (hn : n ≤ 60) (hs : 1 ≤ S) : mkE n S = 0 := by
  have hc : cnt n S ≤ 64 := by
    unfold cnt
    split
    · omega
    · have := Nat.div_le_self (n - 1) S
      omega
  have hS : (S : Int).toNat = S := by simp
  unfold mkE
  rw [if_neg (by omega), if_neg (by omega), hS, if_neg (by omega)]
/-- The last fragment. -/
theorem frg_last {S : Nat} {r : List UInt8} (hS : 0 < S) (h : r.length ≤ S) : frg (szs r.length S) r = be4 ((r.length : Int) + 2147483648) ++ r := by
  rw [szs_small hS h]
  simp [frg, fhd]
/-- Another fragment. -/
theorem frg_more {S : Nat} {r : List UInt8} (hS : 0 < S) (h : S < r.length) : frg (szs r.length S) r = be4 (S : Int) ++ (r.take S ++ frg (szs (r.drop S).length S) (r.drop S)) := by
  rw [szs_more hS h, List.length_drop]
  have hp := cnt_pos (r.length - S) S
  rw [← szs_length] at hp
  generalize szs (r.length - S) S = l at *
  match l, hp with
  | k :: ks, _ => simp [frg, fhd]
theorem frg_len {S : Nat} (r : List UInt8) (hS : 0 < S) : (frg (szs r.length S) r).length = 4 * cnt r.length S + r.length := by
  rw [frg_length _ _ (szs_sum hS _), szs_length]

/-- What is left to read: fragments, or nothing. -/
def HasP (w : World) (S : Nat) (A : Option Addr) (n c : Nat) (r2 : List UInt8) (d : Bool) : Prop :=
  (d = false ∧ Sees w A n c (bs (frg (szs r2.length S) r2))) ∨ (d = true ∧ n = 0 ∧ r2 = [])

set_option maxRecDepth 4000 in
set_option maxHeartbeats 2000000 in
theorem has_walk (A : Option Addr) (n c : Nat) (l : List UInt8) (s : Int) (w : World) (hs : Sees w A n c (bs l)) (hs0 : -9223372036854775808 ≤ s) (hs1 : s ≤ 9223372036854775807) :
    Calls Try.prog 13 #[.slice A n c, .int .i64 s] w fun e w' => e = .returned (.bool true) ∧ Ext w w' := by
  obtain ⟨i0, hi, hz0, hz1, hz2⟩ := info_parts infoB
  have hLl := hs.len
  rw [bs_length] at hLl
  go_enter Try.func13, Try.ntmps13
  go_wp2_with fail
  refine (few_nat A n c _ 60 _ _ hs (bs_one _) (by omega) (by omega) rfl).mono ?_
  rintro e w1 ⟨v1, rfl, own1, e1⟩
  rw [bs_take] at own1
  obtain ⟨A1, c1, rfl, see1⟩ := Sees.of_own own1
  have hrl : (l.take 60).length = min n 60 := by rw [List.length_take]; omega
  generalize hR : l.take 60 = r at *
  have hr60 : r.length ≤ 60 := by omega
  have HRl := Lib.hid hrl
  clear own1 hR hs hLl hrl
  go_wp2_with fail
  refine (around_any s 20 _ hs0 hs1 (by omega) (by omega)).mono ?_
  rintro e w2 ⟨rfl, rfl⟩
  have hra := aroundZ_bound s 20 (by omega)
  obtain ⟨S0, hS00⟩ := Int.eq_ofNat_of_zero_le hra.1
  rw [hS00] at hra ⊢
  clear hS00
  obtain ⟨S, hSS⟩ : ∃ S, S = 1 + S0 := ⟨_, rfl⟩
  have hSi : (1 : Int) + (S0 : Int) = (S : Int) := by omega
  have hS0 : 0 < S := by omega
  have hS20 : S ≤ 20 := by omega
  have hE := mkE_60 (n := r.length) hr60 hS0
  have hmark : Calls Try.prog 44 #[.slice A1 (min n 60) c1, .int .i64 (S : Int)] w1 fun e w' => ∃ v, e = .returned (.tuple #[v, .int .i64 0]) ∧ w'.ownsRow w1.heap.size 5 1 v (frg (szs r.length S) r).length (bs (frg (szs r.length S) r)) ∧ Ext w1 w' := by
    rw [← HRl.out] at see1 ⊢
    exact mark_ok A1 r.length c1 S r w1 see1 (by omega) hS0 (by omega) hE
  have HM := Lib.hid hmark
  clear hE hmark hSS hra
  go_wp2_with fail
  refine (Calls.mono HM.out ?_)
  rintro e w0 ⟨v0, rfl, own0, e0⟩
  obtain ⟨A0, c0, rfl, see0⟩ := Sees.of_own own0
  have ext0 := e1.trans e0
  have seeO := see1.ext e0
  clear HM own0 e1 e0 see1
  go_wp2_with fail
  go_loopw [7, 9, 10] (fun b v d wr => ∃ (A n c : _) (dn : Bool) (r1 r2 : List UInt8), b = .slice A n c ∧ d = .bool dn ∧ r = r1 ++ r2 ∧ HasP w0 S A n c r2 dn ∧ wr.ownsRow w0.heap.size 5 1 v r1.length (bs r1) ∧ Ext w0 wr) (fun b _ _ _ => lnV b)
  case atStart => exact ⟨A0, _, c0, false, [], r, rfl, rfl, rfl, .inl ⟨rfl, see0⟩, World.ownsRow_nil _ _ _ _, Ext.refl _⟩
  case round =>
    obtain ⟨A, n, c, dn, r1, r2, rfl, rfl, hR, hP, own, ext⟩ := hrel
    have hlr1 : r1.length + r2.length ≤ r.length := by rw [hR, List.length_append]; omega
    have HR := Lib.hid hR
    clear hR
    rcases hP with ⟨rfl, see⟩ | ⟨rfl, rfl, rfl⟩
    · obtain ⟨Av, cv, hvv, _⟩ := Sees.of_own own
      subst hvv
      by_cases hle : r2.length ≤ S
      · by_cases hc4 : c = 4
        · have hcl : c = 4 + r2.length := by have := see.le; have := see.len; rw [bs_length, frg_len r2 hS0] at this; have := cnt_pos r2.length S; omega
          obtain rfl : r2 = [] := List.eq_nil_of_length_eq_zero (by omega)
          subst hc4
          have hfr := frg_last (r := []) hS0 hle
          have hx : num4 (frg (szs 0 S) []) = 2147483648 := by
            have e := hfr
            rw [show ([] : List UInt8).length = 0 from rfl] at e
            rw [e]
            decide
          have hL : (frg (szs 0 S) []).length = 4 := by
            have e := hfr
            rw [show ([] : List UInt8).length = 0 from rfl] at e
            rw [e]
            rfl
          rw [show ([] : List UInt8).length = 0 from rfl] at see
          have hn4 : n = 4 := by have := see.len; rw [bs_length, hL] at this; exact this.symm
          subst hn4
          obtain ⟨bb, off, _, hA, _, _, _⟩ := see.at_ (k := 0) (by omega)
          subst hA
          have hL4 : 4 ≤ (frg (szs 0 S) []).length := by omega
          have hq : Sees w0 (some ⟨bb, off, none⟩) 0 0 (bs []) := ⟨rfl, Nat.le_refl _, by simp [maxLen], nofun, fun h => absurd h (by omega)⟩
          generalize hll : frg (szs 0 S) [] = ll at *
          clear hll hL hfr hcl hle
          have hr1 : r1.length ≤ 60 := by omega
          go_wp2_with fail
          refine (read_any _ 4 4 ll wr (see.ext ext) (by omega)).mono ?_
          rintro e w2 ⟨g, v, rfl, hg, hb, ho, e2⟩
          have hr := Rdr.of_read hb ho
          clear hb ho
          go_wp2_with fail
          refine (u32_ok g 0 ll w2 hr hL4).mono ?_
          rintro e w3 ⟨rfl, _, ho3⟩
          have e3 : Ext wr w3 := e2.onl ho3 hg
          rw [hx]
          clear hx hr ho3 e2 hg
          have own3 := own_ext own e3
          have hqw := hq.ext (ext.trans e3)
          obtain ⟨v4, w4, hrun4, own4, hg4, _⟩ := run_append_sees (P := Try.prog) (w := w3) w0.heap.size 22 22 5 i0 _ 1 Try.underlying22 hi hz0 hz1 hz2 rfl _ _ _ own3 _ _ _ _ hqw (bs_one _) (by unfold maxLen; omega) (by omega) (by have := ext.size; have := e3.size; omega)
          have ext4 : Ext w0 w4 := (ext.trans e3).grown hg4 fun k hk => (own3.lt k hk).1
          have own5 : w4.ownsRow w0.heap.size 5 1 v4 r1.length (bs r1) := by
            rw [bs_nil, List.append_nil, Nat.add_zero] at own4
            exact own4
          have OWN5 := Lib.hid own5
          clear own4 own5 hg4 e3 own own3 ext hqw hq
          go_wp2_with (first | (at_builtin; refine wpList_append_run rfl (.tmp 63) (.tmp 67) _ rfl _ _ rfl rfl v4 w4 hrun4 ?_) | fail)
          go_roundw
          case rel => exact ⟨_, 0, _, true, r1, [], rfl, rfl, HR.out, .inr ⟨rfl, rfl, rfl⟩, OWN5.out, ext4⟩
          case measure => simp [lnV]
        · by_cases hcl : c = 4 + r2.length
          · subst hcl
            have hfr := frg_last (r := r2) hS0 hle
            have hx : num4 (frg (szs r2.length S) r2) = (r2.length : Int) + 2147483648 := by
              rw [hfr]
              have := num4_bf ((r2.length : Int) + 2147483648) r2 (by omega) (by omega)
              exact this
            have hL : (frg (szs r2.length S) r2).length = 4 + r2.length := by
              rw [hfr, List.length_append, be4_length]
            have hT : ((frg (szs r2.length S) r2).drop 4).take r2.length = r2 := by
              rw [hfr, List.drop_left' (be4_length _)]
              exact List.take_of_length_le (Nat.le_refl _)
            have hLn := see.len
            rw [bs_length] at hLn
            have HT := Lib.hid hT
            have hn1 : n ≤ 4 + r2.length := by omega
            have hn2 : 4 + r2.length ≤ n := by omega
            have hlb : (frg (szs r2.length S) r2).length ≤ 1000 := by
              rw [frg_len r2 hS0]
              have := cnt_le (n := r2.length) hS0
              omega
            have hn1000 : n ≤ 1000 := by omega
            have hL4 : 4 ≤ (frg (szs r2.length S) r2).length := by omega
            have hLN : n = (frg (szs r2.length S) r2).length := by omega
            have HLN := Lib.hid hLN
            clear hfr hT hL hLN
            have hcn := see.le
            have hcm := see.max
            unfold maxLen at hcm
            obtain ⟨bb, off, _, hA, _, _, _⟩ := see.at_ (k := 0) (by omega)
            subst hA
            have hp := see.drop 4 (by omega) hc4
            simp only [Option.map_some, addr_add] at hp
            have hkk : 4 + r2.length - 4 = r2.length := Nat.add_sub_cancel_left 4 _
            have HQQ := Lib.hid hkk
            have hq : Sees w0 (some ⟨bb, off + 4, none⟩) (4 + r2.length - 4) (4 + r2.length - 4) (bs r2) := by
              have := hp.take (4 + r2.length - 4) (by omega)
              rw [hkk] at this ⊢
              rw [bs_drop, bs_take, HT.out] at this
              exact this
            clear hkk
            generalize hll : frg (szs r2.length S) r2 = ll at *
            have HLL := Lib.hid hll
            clear hll
            go_wp2_with fail
            refine (read_any _ n _ ll wr (see.ext ext) (by omega)).mono ?_
            rintro e w2 ⟨g, v, rfl, hg, hb, ho, e2⟩
            have hr := Rdr.of_read hb ho
            clear hb ho
            go_wp2_with fail
            refine (u32_ok g 0 ll w2 hr hL4).mono ?_
            rintro e w3 ⟨rfl, _, ho3⟩
            have e3 : Ext wr w3 := e2.onl ho3 hg
            rw [hx]
            clear hx hr ho3 e2 hg
            have own3 := own_ext own e3
            have hqw := hq.ext (ext.trans e3)
            obtain ⟨v4, w4, hrun4, own4, hg4, _⟩ := run_append_sees (P := Try.prog) (w := w3) w0.heap.size 22 22 5 i0 _ 1 Try.underlying22 hi hz0 hz1 hz2 rfl _ _ _ own3 _ _ _ _ hqw (bs_one _) (by unfold maxLen; omega) (by omega) (by have := ext.size; have := e3.size; omega)
            have ext4 : Ext w0 w4 := (ext.trans e3).grown hg4 fun k hk => (own3.lt k hk).1
            have own5 : w4.ownsRow w0.heap.size 5 1 v4 (r1 ++ r2).length (bs (r1 ++ r2)) := by
              rw [List.length_append, bs_append]
              rw [HQQ.out] at own4
              exact own4
            have OWN5 := Lib.hid own5
            clear own4 own5 hg4 e3 own own3 ext hqw hq hp HT HQQ
            have hmd : ((r2.length : Int) + 2147483648) % 2147483648 = (r2.length : Int) := by omega
            have hge : 2147483648 ≤ (r2.length : Int) + 2147483648 := by omega
            have hub : (r2.length : Int) + 2147483648 < 4294967296 := by omega
            have HRL : Hid (∃ q : List UInt8, q = r2) := Lib.hid ⟨r2, rfl⟩
            have HRR : Hid (r = (r1 ++ r2) ++ []) := Lib.hid (by rw [HR.out]; simp)
            have hkS : (r2.length : Int) ≤ S := by omega
            generalize hm2 : r2.length = m at *
            generalize (m : Int) + 2147483648 = x at *
            go_wp2_with (first | (at_builtin; refine wpList_append_run rfl (.tmp 63) (.tmp 67) _ rfl _ _ rfl rfl v4 w4 hrun4 ?_) | fail)
            go_roundw
            case rel => exact ⟨_, _, _, true, r1 ++ r2, [], rfl, rfl, HRR.out, .inr ⟨rfl, by omega, rfl⟩, OWN5.out, ext4⟩
            case measure => simp [lnV]; omega
          · skip
            have hfr := frg_last (r := r2) hS0 hle
            have hx : num4 (frg (szs r2.length S) r2) = (r2.length : Int) + 2147483648 := by
              rw [hfr]
              have := num4_bf ((r2.length : Int) + 2147483648) r2 (by omega) (by omega)
              exact this
            have hL : (frg (szs r2.length S) r2).length = 4 + r2.length := by
              rw [hfr, List.length_append, be4_length]
            have hT : ((frg (szs r2.length S) r2).drop 4).take r2.length = r2 := by
              rw [hfr, List.drop_left' (be4_length _)]
              exact List.take_of_length_le (Nat.le_refl _)
            have hLn := see.len
            rw [bs_length] at hLn
            have HT := Lib.hid hT
            have hn1 : n ≤ 4 + r2.length := by omega
            have hn2 : 4 + r2.length ≤ n := by omega
            have hlb : (frg (szs r2.length S) r2).length ≤ 1000 := by
              rw [frg_len r2 hS0]
              have := cnt_le (n := r2.length) hS0
              omega
            have hn1000 : n ≤ 1000 := by omega
            have hL4 : 4 ≤ (frg (szs r2.length S) r2).length := by omega
            have hLN : n = (frg (szs r2.length S) r2).length := by omega
            have HLN := Lib.hid hLN
            clear hfr hT hL hLN
            have hcn := see.le
            have hcm := see.max
            unfold maxLen at hcm
            obtain ⟨bb, off, _, hA, _, _, _⟩ := see.at_ (k := 0) (by omega)
            subst hA
            have hp := see.drop 4 (by omega) hc4
            simp only [Option.map_some, addr_add] at hp
            have hkk : 4 + r2.length - 4 = r2.length := Nat.add_sub_cancel_left 4 _
            have HQQ := Lib.hid hkk
            have hq : Sees w0 (some ⟨bb, off + 4, none⟩) (4 + r2.length - 4) (c - 4) (bs r2) := by
              have := hp.take (4 + r2.length - 4) (by omega)
              rw [hkk] at this ⊢
              rw [bs_drop, bs_take, HT.out] at this
              exact this
            clear hkk
            generalize hll : frg (szs r2.length S) r2 = ll at *
            have HLL := Lib.hid hll
            clear hll
            go_wp2_with fail
            refine (read_any _ n _ ll wr (see.ext ext) (by omega)).mono ?_
            rintro e w2 ⟨g, v, rfl, hg, hb, ho, e2⟩
            have hr := Rdr.of_read hb ho
            clear hb ho
            go_wp2_with fail
            refine (u32_ok g 0 ll w2 hr hL4).mono ?_
            rintro e w3 ⟨rfl, _, ho3⟩
            have e3 : Ext wr w3 := e2.onl ho3 hg
            rw [hx]
            clear hx hr ho3 e2 hg
            have own3 := own_ext own e3
            have hqw := hq.ext (ext.trans e3)
            obtain ⟨v4, w4, hrun4, own4, hg4, _⟩ := run_append_sees (P := Try.prog) (w := w3) w0.heap.size 22 22 5 i0 _ 1 Try.underlying22 hi hz0 hz1 hz2 rfl _ _ _ own3 _ _ _ _ hqw (bs_one _) (by unfold maxLen; omega) (by omega) (by have := ext.size; have := e3.size; omega)
            have ext4 : Ext w0 w4 := (ext.trans e3).grown hg4 fun k hk => (own3.lt k hk).1
            have own5 : w4.ownsRow w0.heap.size 5 1 v4 (r1 ++ r2).length (bs (r1 ++ r2)) := by
              rw [List.length_append, bs_append]
              rw [HQQ.out] at own4
              exact own4
            have OWN5 := Lib.hid own5
            clear own4 own5 hg4 e3 own own3 ext hqw hq hp HT HQQ
            have hmd : ((r2.length : Int) + 2147483648) % 2147483648 = (r2.length : Int) := by omega
            have hge : 2147483648 ≤ (r2.length : Int) + 2147483648 := by omega
            have hub : (r2.length : Int) + 2147483648 < 4294967296 := by omega
            have HRL : Hid (∃ q : List UInt8, q = r2) := Lib.hid ⟨r2, rfl⟩
            have HRR : Hid (r = (r1 ++ r2) ++ []) := Lib.hid (by rw [HR.out]; simp)
            have hkS : (r2.length : Int) ≤ S := by omega
            generalize hm2 : r2.length = m at *
            generalize (m : Int) + 2147483648 = x at *
            go_wp2_with (first | (at_builtin; refine wpList_append_run rfl (.tmp 63) (.tmp 67) _ rfl _ _ rfl rfl v4 w4 hrun4 ?_) | fail)
            go_roundw
            case rel => exact ⟨_, _, _, true, r1 ++ r2, [], rfl, rfl, HRR.out, .inr ⟨rfl, by omega, rfl⟩, OWN5.out, ext4⟩
            case measure => simp [lnV]; omega
      · replace hle : S < r2.length := by omega
        have hc4 : ¬ c = 4 := by have := see.le; have := see.len; have hp := cnt_pos r2.length S; rw [bs_length, frg_len r2 hS0] at this; omega
        have hfr := frg_more (r := r2) hS0 hle
        have hx : num4 (frg (szs r2.length S) r2) = (S : Int) := by
          rw [hfr]
          exact num4_bf (S : Int) _ (by omega) (by omega)
        have hL : 4 + S + 4 ≤ (frg (szs r2.length S) r2).length := by
          rw [frg_len r2 hS0]
          have h1 := cnt_pos (r2.length - S) S
          have h2 := cnt_more hS0 hle
          omega
        have hT : ((frg (szs r2.length S) r2).drop 4).take S = r2.take S := by
          rw [hfr, List.drop_left' (be4_length _), List.take_append_of_le_length (by rw [List.length_take]; omega), List.take_take, Nat.min_self]
        have hD : (frg (szs r2.length S) r2).drop (4 + S) = frg (szs (r2.drop S).length S) (r2.drop S) := by
          rw [hfr, ← List.append_assoc]
          exact List.drop_left' (by rw [List.length_append, be4_length, List.length_take]; omega)
        have hLn := see.len
        rw [bs_length] at hLn
        have HT := Lib.hid hT
        have HD := Lib.hid hD
        clear hD
        have hn1 : 4 + S + 4 ≤ n := by omega
        have hlb : (frg (szs r2.length S) r2).length ≤ 1000 := by
          rw [frg_len r2 hS0]
          have := cnt_le (n := r2.length) hS0
          omega
        have hn1000 : n ≤ 1000 := by omega
        have hL4 : 4 ≤ (frg (szs r2.length S) r2).length := by omega
        have hLN : n = (frg (szs r2.length S) r2).length := by omega
        have HLN := Lib.hid hLN
        clear hfr hT hL hLN
        have hcn := see.le
        have hcm := see.max
        unfold maxLen at hcm
        obtain ⟨bb, off, _, hA, _, _, _⟩ := see.at_ (k := 0) (by omega)
        subst hA
        have hp := see.drop 4 (by omega) hc4
        simp only [Option.map_some, addr_add] at hp
        have hkk : 4 + S - 4 = S := Nat.add_sub_cancel_left 4 _
        have HQQ := Lib.hid hkk
        have hq : Sees w0 (some ⟨bb, off + 4, none⟩) (4 + S - 4) (c - 4) (bs (r2.take S)) := by
          have := hp.take (4 + S - 4) (by omega)
          rw [hkk] at this ⊢
          rw [bs_drop, bs_take, HT.out] at this
          exact this
        clear hkk
        have hd := see.drop (4 + S) (by omega) (by omega)
        rw [bs_drop, HD.out] at hd
        simp only [Option.map_some, addr_add] at hd
        generalize hll : frg (szs r2.length S) r2 = ll at *
        have HLL := Lib.hid hll
        clear hll
        go_wp2_with fail
        refine (read_any _ n _ ll wr (see.ext ext) (by omega)).mono ?_
        rintro e w2 ⟨g, v, rfl, hg, hb, ho, e2⟩
        have hr := Rdr.of_read hb ho
        clear hb ho
        go_wp2_with fail
        refine (u32_ok g 0 ll w2 hr hL4).mono ?_
        rintro e w3 ⟨rfl, _, ho3⟩
        have e3 : Ext wr w3 := e2.onl ho3 hg
        have hmd : num4 ll % 2147483648 = (S : Int) := by rw [hx]; omega
        have hlt2 : ¬ 2147483648 ≤ num4 ll := by rw [hx]; omega
        have hge0 : 0 ≤ num4 ll := by rw [hx]; omega
        have hdd : decide (2147483648 ≤ num4 ll) = false := by simpa using hlt2
        generalize num4 ll = x at *
        clear hx hr ho3 e2 hg
        have own3 := own_ext own e3
        have hqw := hq.ext (ext.trans e3)
        obtain ⟨v4, w4, hrun4, own4, hg4, _⟩ := run_append_sees (P := Try.prog) (w := w3) w0.heap.size 22 22 5 i0 _ 1 Try.underlying22 hi hz0 hz1 hz2 rfl _ _ _ own3 _ _ _ _ hqw (bs_one _) (by unfold maxLen; omega) (by omega) (by have := ext.size; have := e3.size; omega)
        have ext4 : Ext w0 w4 := (ext.trans e3).grown hg4 fun k hk => (own3.lt k hk).1
        have own5 : w4.ownsRow w0.heap.size 5 1 v4 (r1 ++ (r2.take S)).length (bs (r1 ++ (r2.take S))) := by
          rw [List.length_append, bs_append]
          rw [List.length_take, Nat.min_eq_left (by omega)]
          rw [HQQ.out] at own4
          exact own4
        have OWN5 := Lib.hid own5
        clear own4 own5 hg4 e3 own own3 ext hqw hq hp HT HQQ
        have HRR : Hid (r = (r1 ++ r2.take S) ++ r2.drop S) := Lib.hid (by rw [HR.out, List.append_assoc, List.take_append_drop])
        go_wp2_with (first | (at_builtin; refine wpList_append_run rfl (.tmp 63) (.tmp 67) _ rfl _ _ rfl rfl v4 w4 hrun4 ?_) | fail)
        go_roundw
        case rel => exact ⟨_, _, _, _, r1 ++ r2.take S, r2.drop S, rfl, rfl, HRR.out, .inl ⟨rfl, hd⟩, OWN5.out, ext4⟩
        case measure => simp [lnV]; omega
    · have hrr : r1 = r := by rw [HR.out]; simp
      subst hrr
      obtain ⟨Av, cv, hvv, seev⟩ := Sees.of_own own
      subst hvv
      have h1 := str_of seev
      have h2 := str_of (seeO.ext ext)
      have extE := ext0.trans ext
      clear own
      go_wp2_with fail
      refine (markLives_any _).mono ?_
      rintro e w6 ⟨rfl, e6⟩
      go_wp2
      go_ret
      exact ⟨rfl, extE.trans e6⟩
end Go.Proofs.Ytefkjoooecphaaa
