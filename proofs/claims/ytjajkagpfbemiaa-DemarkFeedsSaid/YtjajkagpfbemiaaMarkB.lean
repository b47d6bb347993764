/-
  Layer 3: the fragments of a record; plain facts and contracts of both sides.
-/
import Derived.Test.YtjajkagpfbemiaaMarkA
import Derived.Test.YtjajkagpfbemiaaXdrS
namespace Go.Proofs.Ytjajkagpfbemiaa
open Go Go.RowKit
set_option linter.unusedVariables false
set_option linter.unusedSimpArgs false

/-- The head of a fragment: the last one is marked. -/
def fhd : List Nat → Nat → Int
  | [], k => (k : Int) + 2147483648
  | _ :: _, k => k
/-- The fragments of these sizes. -/
def frg : List Nat → List UInt8 → List UInt8
  | [], _ => []
  | k :: ks, r => be4 (fhd ks k) ++ r.take k ++ frg ks (r.drop k)
/-- What a record may not be: an error's number, or 0. -/
def mkE (n : Nat) (s : Int) : Int := if s < 1 then 1 else if 4096 < n then 4 else if 64 < cnt n s.toNat then 5 else 0
theorem or_last (k : Nat) (hk : k < 2147483648) : bits .or .u32 (k : Int) 2147483648 = (k : Int) + 2147483648 := by
  have := u32_or_nat k 2147483648 (by omega) (by omega)
  rw [show ((2147483648 : Nat) : Int) = 2147483648 from rfl] at this
  rw [this, Nat.or_comm]
  have h2 := Nat.two_pow_add_eq_or_of_lt (i := 31) (b := k) (by omega) 1
  rw [show 2 ^ 31 * 1 = 2147483648 from rfl] at h2
  rw [← h2]
  omega
theorem iv_get {l : List Nat} {l1 l2 : List Nat} {k : Nat} (h : l = l1 ++ k :: l2) : (iv l)[l1.length]? = some (.int .i64 (k : Int)) := by
  subst h
  simp [iv]

set_option maxHeartbeats 1500000 in
theorem rmark_ok (A : Option Addr) (n c : Nat) (S : Nat) (r : List UInt8) (w : World) (hs : Sees w A n c (bs r)) (hn : n ≤ 4096) (hS : 0 < S) (hS2 : S ≤ 9223372036854775807) (hE : mkE n S = 0) :
    Calls Try.prog 21 #[.slice A n c, .int .i64 (S : Int)] w fun e w' => ∃ v, e = .returned (.tuple #[v, .int .i64 0]) ∧ w'.ownsRow w.heap.size 5 1 v (frg (szs n S) r).length (bs (frg (szs n S) r)) ∧ Ext w w' := by
  obtain ⟨i0, hi, hz0, hz1, hz2⟩ := info_parts infoB
  have hrl := hs.len
  rw [bs_length] at hrl
  have hcnt : cnt n S ≤ 64 := by
    unfold mkE at hE
    rw [if_neg (by omega), if_neg (by omega)] at hE
    have hS' : (S : Int).toNat = S := by simp
    rw [hS'] at hE
    by_cases h : 64 < cnt n S
    · rw [if_pos h] at hE
      cases hE
    · omega
  have HE := Lib.hid hE
  clear hE
  go_enter Try.func21, Try.ntmps21
  go_wp2_with fail
  refine (rsizes_any n S _ (by omega) hS hS2).mono ?_
  rintro e w1 ⟨vS, rfl, ownS, e1⟩
  obtain ⟨As, cs, rfl, sees⟩ := Sees.of_own ownS
  have hlsz := szs_length n S
  have hsum := szs_sum hS n
  have hszs : (szs n S).length ≤ 64 := by omega
  have hLpos : 0 < (szs n S).length := by have := cnt_pos n S; omega
  generalize hL : (szs n S).length = L at *
  have HLL := Lib.hid hL
  have HRL := Lib.hid hrl
  have hsw := hs.ext e1
  have hcs := sees.le
  have hms := sees.max
  unfold maxLen at hms
  have hrc := hsw.le
  have hrm := hsw.max
  unfold maxLen at hrm
  clear ownS hs hL hrl hlsz
  obtain ⟨bz, ofz, hAs, hcz⟩ := sees.2.2.2.2 hLpos
  subst hAs
  have HCZ := Lib.hid hcz
  clear hcz sees
  go_wp2_with fail
  go_loopw [7, 8, 9] (fun v at' i wr => ∃ (j : Nat) (l1 l2 : List Nat) (at_ : Nat) (r2 la : List UInt8), j = l1.length ∧ szs n S = l1 ++ l2 ∧ l2.sum = r2.length ∧ i = .int .i64 j ∧ at' = .int .i64 at_ ∧ r.drop at_ = r2 ∧ at_ + r2.length = n ∧ wr.ownsRow w1.heap.size 5 1 v la.length (bs la) ∧ la ++ frg l2 r2 = frg (szs n S) r ∧ la.length + r2.length = 4 * j + n ∧ 4 * j ≤ la.length ∧ Ext w1 wr) (fun _ _ i _ => L - (intOf i).toNat)
  case atStart => exact ⟨0, [], szs n S, 0, r, [], rfl, rfl, by rw [hsum, HRL.out], rfl, rfl, by simp, by rw [HRL.out]; simp, World.ownsRow_nil _ _ _ _, rfl, by simp [HRL.out], by simp, Ext.refl _⟩
  case round =>
    obtain ⟨j, l1, l2, at_, r2, la, hjl1, hll, hsm, rfl, rfl, hr2, hat, own, hF, hlen, hlen2, ext⟩ := hrel
    have HR2 := Lib.hid hr2
    clear hr2
    have HF := Lib.hid hF
    have HLL2 := Lib.hid hll
    have hLj : j + l2.length = L := by rw [← HLL.out, hll, hjl1, List.length_append]
    have HJ1 := Lib.hid hjl1
    have HSM0 := Lib.hid hsm
    have HLJ := Lib.hid hLj
    clear hF hll hsm hLj hjl1
    match l2, HSM0, HLJ, HF, HLL2 with
    | [], HSM0, HLJ, HF, HLL2 =>
      have hLj := HLJ.out
      have hjL : ¬ (j : Int) < (L : Int) := by simp at hLj; omega
      have hfin : la = frg (szs n S) r := by
        have := HF.out
        simpa [frg] using this
      have HFin := Lib.hid hfin
      clear hLj hfin hlen
      go_wp2
      go_ret2
      exact ⟨_, rfl, by rw [← HFin.out]; exact own_mono own e1.size, e1.trans ext⟩
    | [k], HSM0, HLJ, HF, HLL2 =>
      have hll := HLL2.out
      have hsm := HSM0.out
      have hLj := HLJ.out
      have hjL : (j : Int) < (L : Int) := by simp at hLj; omega
      have hjN : j < L := by omega
      have hk : k ≤ r2.length := by rw [← hsm]; simp only [List.sum_cons]; omega
      have hsm2 : ([] : List Nat).sum = (r2.drop k).length := by rw [List.length_drop, ← hsm]; simp only [List.sum_cons]; omega
      have hcz : w1.cell? ⟨bz, ofz + j, none⟩ = some (.int .i64 (k : Int)) := HCZ.out j _ (by rw [HJ1.out, hll]; exact iv_get rfl)
      have hj : j + ([] : List Nat).length + 1 = L := by simp at hLj ⊢; omega
      have cellsr := ext.cell hcz
      have hk4 : k ≤ 4096 := by omega
      have hla : la.length ≤ 5000 := by omega
      have HSM := Lib.hid hsm2
      clear hll hsm hLj hsm2
      have eK : at_ + k - at_ = k := by omega
      by_cases hca : c = at_
      · have hd := hsw.drop_all at_ (by omega) hca
        have hk0 : k < 1 := by omega
        have hd2 : Sees w1 A k 0 (bs (r2.take k)) := by
          have h5 := hd.take k (by omega)
          rw [bs_drop, bs_take, HR2.out] at h5
          exact h5
        clear hd
        have hca' := hca.symm
        clear hca
        subst hca'
        have hH : be4 ((k : Int) + 2147483648) = be4 (fhd [] k) := rfl
        have hjl : ((j : Int) == (L : Int) - 1) = true := by simp at hj ⊢; omega
        have hu : Calls Try.prog 25 #[.int .u32 ((k : Int) + 2147483648)] wr fun e w' => ∃ v, e = .returned v ∧ w'.ownsRow wr.heap.size 5 1 v 4 (bs (be4 ((k : Int) + 2147483648))) ∧ Ext wr w' := by exact ref_u32 ((k : Int) + 2147483648) wr (by omega) (by omega)
        have HU := Lib.hid hu
        clear hu
        have HH := Lib.hid hH
        clear hH hj
        go_wp2_with fail
        refine (Calls.mono HU.out ?_)
        rintro e wu ⟨v1, rfl, own1, e1u⟩
        obtain ⟨A1, ca, rfl, see1⟩ := Sees.of_own own1
        obtain ⟨v2, w2, hrun2, own2, hg2, _⟩ := run_append_sees (P := Try.prog) (w := wu) w1.heap.size 22 22 5 i0 _ 1 Try.underlying22 hi hz0 hz1 hz2 rfl _ _ _ (own_ext own e1u) A1 4 ca _ see1 (bs_one _) (by unfold maxLen; omega) (by omega) (by have := e1u.size; have := ext.size; omega)
        have e2 : Ext w1 w2 := (ext.trans e1u).grown hg2 fun k hk => ((own_ext own e1u).lt k hk).1
        obtain ⟨v3, w3, hrun3, own3, hg3, _⟩ := run_append_sees (P := Try.prog) (w := w2) w1.heap.size 22 22 5 i0 _ 1 Try.underlying22 hi hz0 hz1 hz2 rfl v2 _ _ own2 A (at_ + k - at_) 0 (bs (r2.take k)) (by rw [eK]; have h5 := hd2.ext e2; exact h5) (bs_one _) (by unfold maxLen; omega) (by omega) (by have := e2.size; omega)
        have e3 : Ext w1 w3 := e2.grown hg3 fun k hk => (own2.lt k hk).1
        have own4 : w3.ownsRow w1.heap.size 5 1 v3 (la ++ (be4 ((k : Int) + 2147483648) ++ r2.take k)).length (bs (la ++ (be4 ((k : Int) + 2147483648) ++ r2.take k))) := by
          have hlk : (r2.take k).length = k := by rw [List.length_take]; omega
          rw [List.length_append, List.length_append, be4_length, hlk, ← Nat.add_assoc, ← List.append_assoc, bs_append, bs_append]
          rw [eK] at own3; exact own3
        have hnew : (la ++ (be4 ((k : Int) + 2147483648) ++ r2.take k)) ++ frg [] (r2.drop k) = frg (szs n S) r := by
          have hfr : frg (k :: ([] : List Nat)) r2 = be4 (fhd ([] : List Nat) k) ++ r2.take k ++ frg ([] : List Nat) (r2.drop k) := rfl
          rw [← HF.out, hfr, ← HH.out]
          simp only [List.append_assoc]
        have hlen4 : (la ++ (be4 ((k : Int) + 2147483648) ++ r2.take k)).length + (r2.drop k).length = 4 * (j + 1) + n := by
          simp only [List.length_append, be4_length, List.length_take, List.length_drop]
          omega
        have hlen5 : 4 * (j + 1) ≤ (la ++ (be4 ((k : Int) + 2147483648) ++ r2.take k)).length := by
          simp only [List.length_append, be4_length, List.length_take]
          omega
        have HL5 := Lib.hid hlen5
        clear hlen5
        have HN := Lib.hid hnew
        have HL4 := Lib.hid hlen4
        have cells3 := e3.cell hcz
        have cells2 := e2.cell hcz
        clear own own1 see1 own2 own3 hg2 hg3 hnew hlen4 e1u ext e2 hcz cellsr hlen hlen2
        go_wp2_with (first | (at_builtin; refine wpList_append_run rfl (.tmp 41) (.tmp 43) _ rfl _ _ rfl rfl v2 w2 hrun2 ?_) | (at_builtin; refine wpList_append_run rfl (.tmp 45) (.tmp 54) _ rfl _ _ rfl rfl v3 w3 hrun3 ?_) | fail)
        go_roundw
        case rel => exact ⟨j + 1, l1 ++ [k], [], at_ + k, r2.drop k, _, by simp [HJ1.out], by rw [HLL2.out]; simp, HSM.out, by go_num, by go_num, by rw [← HR2.out, List.drop_drop], by rw [List.length_drop]; omega, own4, HN.out, HL4.out, HL5.out, e3⟩
        case measure => simp [intOf]; omega
      · have hd2 : Sees w1 (Option.map (fun x => x.add at_) A) k (c - at_) (bs (r2.take k)) := by
          have h5 := (hsw.drop at_ (by omega) hca).take k (by omega)
          rw [bs_drop, bs_take, HR2.out] at h5
          exact h5
        have hH : be4 ((k : Int) + 2147483648) = be4 (fhd [] k) := rfl
        have hjl : ((j : Int) == (L : Int) - 1) = true := by simp at hj ⊢; omega
        have hu : Calls Try.prog 25 #[.int .u32 ((k : Int) + 2147483648)] wr fun e w' => ∃ v, e = .returned v ∧ w'.ownsRow wr.heap.size 5 1 v 4 (bs (be4 ((k : Int) + 2147483648))) ∧ Ext wr w' := by exact ref_u32 ((k : Int) + 2147483648) wr (by omega) (by omega)
        have HU := Lib.hid hu
        clear hu
        have HH := Lib.hid hH
        clear hH hj
        go_wp2_with fail
        refine (Calls.mono HU.out ?_)
        rintro e wu ⟨v1, rfl, own1, e1u⟩
        obtain ⟨A1, ca, rfl, see1⟩ := Sees.of_own own1
        obtain ⟨v2, w2, hrun2, own2, hg2, _⟩ := run_append_sees (P := Try.prog) (w := wu) w1.heap.size 22 22 5 i0 _ 1 Try.underlying22 hi hz0 hz1 hz2 rfl _ _ _ (own_ext own e1u) A1 4 ca _ see1 (bs_one _) (by unfold maxLen; omega) (by omega) (by have := e1u.size; have := ext.size; omega)
        have e2 : Ext w1 w2 := (ext.trans e1u).grown hg2 fun k hk => ((own_ext own e1u).lt k hk).1
        obtain ⟨v3, w3, hrun3, own3, hg3, _⟩ := run_append_sees (P := Try.prog) (w := w2) w1.heap.size 22 22 5 i0 _ 1 Try.underlying22 hi hz0 hz1 hz2 rfl v2 _ _ own2 (Option.map (fun x => x.add at_) A) (at_ + k - at_) (c - at_) (bs (r2.take k)) (by rw [eK]; have h5 := hd2.ext e2; exact h5) (bs_one _) (by unfold maxLen; omega) (by omega) (by have := e2.size; omega)
        have e3 : Ext w1 w3 := e2.grown hg3 fun k hk => (own2.lt k hk).1
        have own4 : w3.ownsRow w1.heap.size 5 1 v3 (la ++ (be4 ((k : Int) + 2147483648) ++ r2.take k)).length (bs (la ++ (be4 ((k : Int) + 2147483648) ++ r2.take k))) := by
          have hlk : (r2.take k).length = k := by rw [List.length_take]; omega
          rw [List.length_append, List.length_append, be4_length, hlk, ← Nat.add_assoc, ← List.append_assoc, bs_append, bs_append]
          rw [eK] at own3; exact own3
        have hnew : (la ++ (be4 ((k : Int) + 2147483648) ++ r2.take k)) ++ frg [] (r2.drop k) = frg (szs n S) r := by
          have hfr : frg (k :: ([] : List Nat)) r2 = be4 (fhd ([] : List Nat) k) ++ r2.take k ++ frg ([] : List Nat) (r2.drop k) := rfl
          rw [← HF.out, hfr, ← HH.out]
          simp only [List.append_assoc]
        have hlen4 : (la ++ (be4 ((k : Int) + 2147483648) ++ r2.take k)).length + (r2.drop k).length = 4 * (j + 1) + n := by
          simp only [List.length_append, be4_length, List.length_take, List.length_drop]
          omega
        have hlen5 : 4 * (j + 1) ≤ (la ++ (be4 ((k : Int) + 2147483648) ++ r2.take k)).length := by
          simp only [List.length_append, be4_length, List.length_take]
          omega
        have HL5 := Lib.hid hlen5
        clear hlen5
        have HN := Lib.hid hnew
        have HL4 := Lib.hid hlen4
        have cells3 := e3.cell hcz
        have cells2 := e2.cell hcz
        clear own own1 see1 own2 own3 hg2 hg3 hnew hlen4 e1u ext e2 hcz cellsr hlen hlen2
        go_wp2_with (first | (at_builtin; refine wpList_append_run rfl (.tmp 41) (.tmp 43) _ rfl _ _ rfl rfl v2 w2 hrun2 ?_) | (at_builtin; refine wpList_append_run rfl (.tmp 45) (.tmp 54) _ rfl _ _ rfl rfl v3 w3 hrun3 ?_) | fail)
        go_roundw
        case rel => exact ⟨j + 1, l1 ++ [k], [], at_ + k, r2.drop k, _, by simp [HJ1.out], by rw [HLL2.out]; simp, HSM.out, by go_num, by go_num, by rw [← HR2.out, List.drop_drop], by rw [List.length_drop]; omega, own4, HN.out, HL4.out, HL5.out, e3⟩
        case measure => simp [intOf]; omega
    | k :: k2 :: ks, HSM0, HLJ, HF, HLL2 =>
      have hll := HLL2.out
      have hsm := HSM0.out
      have hLj := HLJ.out
      have hjL : (j : Int) < (L : Int) := by simp at hLj; omega
      have hjN : j < L := by omega
      have hk : k ≤ r2.length := by rw [← hsm]; simp only [List.sum_cons]; omega
      have hsm2 : ((k2 :: ks) : List Nat).sum = (r2.drop k).length := by rw [List.length_drop, ← hsm]; simp only [List.sum_cons]; omega
      have hcz : w1.cell? ⟨bz, ofz + j, none⟩ = some (.int .i64 (k : Int)) := HCZ.out j _ (by rw [HJ1.out, hll]; exact iv_get rfl)
      have hj : j + ((k2 :: ks) : List Nat).length + 1 = L := by simp at hLj ⊢; omega
      have cellsr := ext.cell hcz
      have hk4 : k ≤ 4096 := by omega
      have hla : la.length ≤ 5000 := by omega
      have HSM := Lib.hid hsm2
      clear hll hsm hLj hsm2
      have eK : at_ + k - at_ = k := by omega
      by_cases hca : c = at_
      · have hd := hsw.drop_all at_ (by omega) hca
        have hk0 : k < 1 := by omega
        have hd2 : Sees w1 A k 0 (bs (r2.take k)) := by
          have h5 := hd.take k (by omega)
          rw [bs_drop, bs_take, HR2.out] at h5
          exact h5
        clear hd
        have hca' := hca.symm
        clear hca
        subst hca'
        have hH : be4 (k : Int) = be4 (fhd (k2 :: ks) k) := rfl
        have hjl : ((j : Int) == (L : Int) - 1) = false := by simp at hj ⊢; omega
        have hu : Calls Try.prog 25 #[.int .u32 (k : Int)] wr fun e w' => ∃ v, e = .returned v ∧ w'.ownsRow wr.heap.size 5 1 v 4 (bs (be4 (k : Int))) ∧ Ext wr w' := by exact ref_u32 (k : Int) wr (by omega) (by omega)
        have HU := Lib.hid hu
        clear hu
        have HH := Lib.hid hH
        clear hH hj
        go_wp2_with fail
        refine (Calls.mono HU.out ?_)
        rintro e wu ⟨v1, rfl, own1, e1u⟩
        obtain ⟨A1, ca, rfl, see1⟩ := Sees.of_own own1
        obtain ⟨v2, w2, hrun2, own2, hg2, _⟩ := run_append_sees (P := Try.prog) (w := wu) w1.heap.size 22 22 5 i0 _ 1 Try.underlying22 hi hz0 hz1 hz2 rfl _ _ _ (own_ext own e1u) A1 4 ca _ see1 (bs_one _) (by unfold maxLen; omega) (by omega) (by have := e1u.size; have := ext.size; omega)
        have e2 : Ext w1 w2 := (ext.trans e1u).grown hg2 fun k hk => ((own_ext own e1u).lt k hk).1
        obtain ⟨v3, w3, hrun3, own3, hg3, _⟩ := run_append_sees (P := Try.prog) (w := w2) w1.heap.size 22 22 5 i0 _ 1 Try.underlying22 hi hz0 hz1 hz2 rfl v2 _ _ own2 A (at_ + k - at_) 0 (bs (r2.take k)) (by rw [eK]; have h5 := hd2.ext e2; exact h5) (bs_one _) (by unfold maxLen; omega) (by omega) (by have := e2.size; omega)
        have e3 : Ext w1 w3 := e2.grown hg3 fun k hk => (own2.lt k hk).1
        have own4 : w3.ownsRow w1.heap.size 5 1 v3 (la ++ (be4 (k : Int) ++ r2.take k)).length (bs (la ++ (be4 (k : Int) ++ r2.take k))) := by
          have hlk : (r2.take k).length = k := by rw [List.length_take]; omega
          rw [List.length_append, List.length_append, be4_length, hlk, ← Nat.add_assoc, ← List.append_assoc, bs_append, bs_append]
          rw [eK] at own3; exact own3
        have hnew : (la ++ (be4 (k : Int) ++ r2.take k)) ++ frg (k2 :: ks) (r2.drop k) = frg (szs n S) r := by
          have hfr : frg (k :: (k2 :: ks)) r2 = be4 (fhd (k2 :: ks) k) ++ r2.take k ++ frg (k2 :: ks) (r2.drop k) := rfl
          rw [← HF.out, hfr, ← HH.out]
          simp only [List.append_assoc]
        have hlen4 : (la ++ (be4 (k : Int) ++ r2.take k)).length + (r2.drop k).length = 4 * (j + 1) + n := by
          simp only [List.length_append, be4_length, List.length_take, List.length_drop]
          omega
        have hlen5 : 4 * (j + 1) ≤ (la ++ (be4 (k : Int) ++ r2.take k)).length := by
          simp only [List.length_append, be4_length, List.length_take]
          omega
        have HL5 := Lib.hid hlen5
        clear hlen5
        have HN := Lib.hid hnew
        have HL4 := Lib.hid hlen4
        have cells3 := e3.cell hcz
        have cells2 := e2.cell hcz
        clear own own1 see1 own2 own3 hg2 hg3 hnew hlen4 e1u ext e2 hcz cellsr hlen hlen2
        go_wp2_with (first | (at_builtin; refine wpList_append_run rfl (.tmp 41) (.tmp 43) _ rfl _ _ rfl rfl v2 w2 hrun2 ?_) | (at_builtin; refine wpList_append_run rfl (.tmp 45) (.tmp 54) _ rfl _ _ rfl rfl v3 w3 hrun3 ?_) | fail)
        go_roundw
        case rel => exact ⟨j + 1, l1 ++ [k], (k2 :: ks), at_ + k, r2.drop k, _, by simp [HJ1.out], by rw [HLL2.out]; simp, HSM.out, by go_num, by go_num, by rw [← HR2.out, List.drop_drop], by rw [List.length_drop]; omega, own4, HN.out, HL4.out, HL5.out, e3⟩
        case measure => simp [intOf]; omega
      · have hd2 : Sees w1 (Option.map (fun x => x.add at_) A) k (c - at_) (bs (r2.take k)) := by
          have h5 := (hsw.drop at_ (by omega) hca).take k (by omega)
          rw [bs_drop, bs_take, HR2.out] at h5
          exact h5
        have hH : be4 (k : Int) = be4 (fhd (k2 :: ks) k) := rfl
        have hjl : ((j : Int) == (L : Int) - 1) = false := by simp at hj ⊢; omega
        have hu : Calls Try.prog 25 #[.int .u32 (k : Int)] wr fun e w' => ∃ v, e = .returned v ∧ w'.ownsRow wr.heap.size 5 1 v 4 (bs (be4 (k : Int))) ∧ Ext wr w' := by exact ref_u32 (k : Int) wr (by omega) (by omega)
        have HU := Lib.hid hu
        clear hu
        have HH := Lib.hid hH
        clear hH hj
        go_wp2_with fail
        refine (Calls.mono HU.out ?_)
        rintro e wu ⟨v1, rfl, own1, e1u⟩
        obtain ⟨A1, ca, rfl, see1⟩ := Sees.of_own own1
        obtain ⟨v2, w2, hrun2, own2, hg2, _⟩ := run_append_sees (P := Try.prog) (w := wu) w1.heap.size 22 22 5 i0 _ 1 Try.underlying22 hi hz0 hz1 hz2 rfl _ _ _ (own_ext own e1u) A1 4 ca _ see1 (bs_one _) (by unfold maxLen; omega) (by omega) (by have := e1u.size; have := ext.size; omega)
        have e2 : Ext w1 w2 := (ext.trans e1u).grown hg2 fun k hk => ((own_ext own e1u).lt k hk).1
        obtain ⟨v3, w3, hrun3, own3, hg3, _⟩ := run_append_sees (P := Try.prog) (w := w2) w1.heap.size 22 22 5 i0 _ 1 Try.underlying22 hi hz0 hz1 hz2 rfl v2 _ _ own2 (Option.map (fun x => x.add at_) A) (at_ + k - at_) (c - at_) (bs (r2.take k)) (by rw [eK]; have h5 := hd2.ext e2; exact h5) (bs_one _) (by unfold maxLen; omega) (by omega) (by have := e2.size; omega)
        have e3 : Ext w1 w3 := e2.grown hg3 fun k hk => (own2.lt k hk).1
        have own4 : w3.ownsRow w1.heap.size 5 1 v3 (la ++ (be4 (k : Int) ++ r2.take k)).length (bs (la ++ (be4 (k : Int) ++ r2.take k))) := by
          have hlk : (r2.take k).length = k := by rw [List.length_take]; omega
          rw [List.length_append, List.length_append, be4_length, hlk, ← Nat.add_assoc, ← List.append_assoc, bs_append, bs_append]
          rw [eK] at own3; exact own3
        have hnew : (la ++ (be4 (k : Int) ++ r2.take k)) ++ frg (k2 :: ks) (r2.drop k) = frg (szs n S) r := by
          have hfr : frg (k :: (k2 :: ks)) r2 = be4 (fhd (k2 :: ks) k) ++ r2.take k ++ frg (k2 :: ks) (r2.drop k) := rfl
          rw [← HF.out, hfr, ← HH.out]
          simp only [List.append_assoc]
        have hlen4 : (la ++ (be4 (k : Int) ++ r2.take k)).length + (r2.drop k).length = 4 * (j + 1) + n := by
          simp only [List.length_append, be4_length, List.length_take, List.length_drop]
          omega
        have hlen5 : 4 * (j + 1) ≤ (la ++ (be4 (k : Int) ++ r2.take k)).length := by
          simp only [List.length_append, be4_length, List.length_take]
          omega
        have HL5 := Lib.hid hlen5
        clear hlen5
        have HN := Lib.hid hnew
        have HL4 := Lib.hid hlen4
        have cells3 := e3.cell hcz
        have cells2 := e2.cell hcz
        clear own own1 see1 own2 own3 hg2 hg3 hnew hlen4 e1u ext e2 hcz cellsr hlen hlen2
        go_wp2_with (first | (at_builtin; refine wpList_append_run rfl (.tmp 41) (.tmp 43) _ rfl _ _ rfl rfl v2 w2 hrun2 ?_) | (at_builtin; refine wpList_append_run rfl (.tmp 45) (.tmp 54) _ rfl _ _ rfl rfl v3 w3 hrun3 ?_) | fail)
        go_roundw
        case rel => exact ⟨j + 1, l1 ++ [k], (k2 :: ks), at_ + k, r2.drop k, _, by simp [HJ1.out], by rw [HLL2.out]; simp, HSM.out, by go_num, by go_num, by rw [← HR2.out, List.drop_drop], by rw [List.length_drop]; omega, own4, HN.out, HL4.out, HL5.out, e3⟩
        case measure => simp [intOf]; omega


end Go.Proofs.Ytjajkagpfbemiaa
