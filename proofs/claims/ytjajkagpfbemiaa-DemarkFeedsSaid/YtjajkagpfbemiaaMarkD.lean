/-
  Layer 3: the fragments of more records; slices of slices of bytes; contracts of both sides.
-/
import Derived.Test.YtjajkagpfbemiaaMarkC
import Derived.Test.YtjajkagpfbemiaaOrd
import Derived.Test.YtjajkagpfbemiaaRwb
namespace Go.Proofs.Ytjajkagpfbemiaa
open Go Go.RowKit
set_option linter.unusedVariables false
set_option linter.unusedSimpArgs false

/-- The size by which a record is cut. -/
def szOf (zs : List Int) (i : Nat) : Int := if zs.length = 0 then 4096 else zs.getD (i % zs.length) 0
def allE (f : Nat → Int) : Nat → List (List UInt8) → Int
  | _, [] => 0
  | i, r :: rs => if mkE r.length (f i) = 0 then allE f (i + 1) rs else mkE r.length (f i)
def allB (f : Nat → Int) : Nat → List (List UInt8) → List UInt8
  | _, [] => []
  | i, r :: rs => mkL r.length (f i) r ++ allB f (i + 1) rs
def allL (f : Nat → Int) (rs : List (List UInt8)) : List UInt8 := if allE f 0 rs = 0 then allB f 0 rs else []

/-- The sizes: integers of the machine. -/
def SeesI (w : World) (A : Option Addr) (n c : Nat) (zs : List Int) : Prop := Sees w A n c (zs.map (Value.int .i64)) ∧ ∀ z ∈ zs, -9223372036854775808 ≤ z ∧ z ≤ 9223372036854775807
theorem SeesI.ext {w w' : World} {A : Option Addr} {n c : Nat} {zs : List Int} (h : SeesI w A n c zs) (he : Ext w w') : SeesI w' A n c zs := ⟨h.1.ext he, h.2⟩
theorem szOf_bound {w : World} {A : Option Addr} {n c : Nat} {zs : List Int} (h : SeesI w A n c zs) (i : Nat) : -9223372036854775808 ≤ szOf zs i ∧ szOf zs i ≤ 9223372036854775807 := by
  unfold szOf
  split
  · omega
  · have hi : i % zs.length < zs.length := Nat.mod_lt _ (by omega)
    rw [List.getD_eq_getElem?_getD, List.getElem?_eq_getElem hi]
    exact h.2 _ (List.getElem_mem hi)
theorem SeesI.at_ {w : World} {A : Option Addr} {n c : Nat} {zs : List Int} (h : SeesI w A n c zs) (i : Nat) (hn : 0 < n) :
    ∃ b off, A = some ⟨b, off, none⟩ ∧ w.cell? ⟨b, off + i % n, none⟩ = some (.int .i64 (szOf zs i)) := by
  have hl := h.1.len
  rw [List.length_map] at hl
  have hi : i % n < n := Nat.mod_lt _ hn
  obtain ⟨b, off, u, hA, hu, hc, _⟩ := h.1.at_ hi
  cases hz : zs[i % n]? with
  | none =>
    rw [List.getElem?_map, hz] at hu
    cases hu
  | some y =>
    rw [List.getElem?_map, hz] at hu
    injection hu with hu
    subst hu
    have e : szOf zs i = y := by
      unfold szOf
      rw [if_neg (by omega), hl, List.getD_eq_getElem?_getD, hz]
      rfl
    exact ⟨b, off, hA, by rw [hc, e]⟩

theorem size_any (A : Option Addr) (n c : Nat) (zs : List Int) (i : Nat) (w : World) (hs : SeesI w A n c zs) (hi : i ≤ 1000000) :
    Calls Try.prog 22 #[.slice A n c, .int .i64 (i : Int)] w fun e w' => e = .returned (.int .i64 (szOf zs i)) ∧ w = w' := by
  have hl := hs.1.len
  rw [List.length_map] at hl
  have hc := hs.1.le
  have hm := hs.1.max
  unfold maxLen at hm
  by_cases hn : n = 0
  · have e1 : szOf zs i = 4096 := by unfold szOf; rw [if_pos (by omega)]
    rw [e1]
    have h0 : ((n : Int) == 0) = true := by simp; omega
    clear e1 hn hl hs
    go_enter Try.func22, Try.ntmps22
    go_wp2
    go_ret
    exact ⟨rfl, rfl⟩
  · obtain ⟨b, off, hA, hcell⟩ := hs.at_ i (by omega)
    subst hA
    have h0 : ((n : Int) == 0) = false := by simp; omega
    have hnp : 0 < n := by omega
    have hmod : i % n < n := Nat.mod_lt _ hnp
    generalize szOf zs i = z at *
    clear hn hl hs
    go_enter Try.func22, Try.ntmps22
    go_wp2
    go_ret
    exact ⟨rfl, rfl⟩

theorem frg_length : ∀ (l : List Nat) (r : List UInt8), l.sum = r.length → (frg l r).length = 4 * l.length + r.length
  | [], r, h => by
    have h2 : r.length = 0 := by simpa using h.symm
    simp [frg, h2]
  | k :: ks, r, h => by
    simp only [List.sum_cons] at h
    have h2 := frg_length ks (r.drop k) (by rw [List.length_drop]; omega)
    rw [List.length_drop] at h2
    simp only [frg, List.length_append, be4_length, List.length_take, List.length_cons, h2]
    omega
theorem mkL_le (s : Int) (r : List UInt8) : (mkL r.length s r).length ≤ 4352 := by
  unfold mkL
  split
  · rename_i hE
    obtain ⟨h1, h2, h3⟩ := mkE_ok hE
    have hS : 0 < s.toNat := by omega
    rw [frg_length _ _ (szs_sum hS _), szs_length]
    omega
  · simp
theorem allE_step {f : Nat → Int} {i : Nat} {r : List UInt8} {rs : List (List UInt8)} (h : mkE r.length (f i) = 0) : allE f i (r :: rs) = allE f (i + 1) rs := by
  simp [allE, h]
theorem allE_stop {f : Nat → Int} {i : Nat} {r : List UInt8} {rs : List (List UInt8)} (h : ¬ mkE r.length (f i) = 0) : allE f i (r :: rs) = mkE r.length (f i) := by
  simp [allE, h]

set_option maxHeartbeats 1000000 in
theorem rmall_any (A A2 : Option Addr) (n c n2 c2 : Nat) (zs : List Int) (rs : List (List UInt8)) (w : World) (hs : SeesI w A n c zs) (hs2 : SeesB w A2 n2 c2 rs) (hn2 : n2 ≤ 100) (hr : ∀ r ∈ rs, r.length ≤ 900000) :
    Calls Try.prog 9 #[.slice A n c, .slice A2 n2 c2] w fun e w' => ∃ v, e = .returned (.tuple #[v, .int .i64 (allE (szOf zs) 0 rs)]) ∧ w'.ownsRow w.heap.size 5 1 v (allL (szOf zs) rs).length (bs (allL (szOf zs) rs)) ∧ Ext w w' := by
  obtain ⟨i0, hi, hz0, hz1, hz2⟩ := info_parts infoB
  obtain ⟨hl2, hc2, hm2⟩ := hs2.len
  have hcz := hs.1.le
  have hmz := hs.1.max
  unfold maxLen at hm2 hmz
  have HL2 := Lib.hid hl2
  clear hl2
  go_enter Try.func9, Try.ntmps9
  go_wp2_with fail
  go_loopw [6, 7] (fun v i wr => ∃ (rs1 rs2 : List (List UInt8)) (la : List UInt8), rs = rs1 ++ rs2 ∧ i = .int .i64 ((rs1.length : Nat) : Int) ∧ wr.ownsRow w.heap.size 5 1 v la.length (bs la) ∧ la ++ allB (szOf zs) rs1.length rs2 = allB (szOf zs) 0 rs ∧ allE (szOf zs) rs1.length rs2 = allE (szOf zs) 0 rs ∧ la.length ≤ 4352 * rs1.length ∧ Ext w wr) (fun _ i _ => n2 - (intOf i).toNat)
  case atStart => exact ⟨[], rs, [], rfl, rfl, World.ownsRow_nil _ _ _ _, rfl, rfl, by simp, Ext.refl _⟩
  case round =>
    obtain ⟨rs1, rs2, la, hrs, rfl, own, hB, hE, hla, ext⟩ := hrel
    have HRS := Lib.hid hrs
    have HB := Lib.hid hB
    have HE := Lib.hid hE
    have hjl : rs1.length + rs2.length = n2 := by rw [← HL2.out, hrs, List.length_append]
    have HJL := Lib.hid hjl
    clear hrs hB hE hjl
    match rs2, HRS, HB, HE, HJL with
    | [], HRS, HB, HE, HJL =>
      have h1 := HJL.out
      simp at h1
      have hjn : ¬ ((rs1.length : Nat) : Int) < (n2 : Int) := by omega
      have e1 : allE (szOf zs) 0 rs = 0 := by rw [← HE.out]; rfl
      have e2 : allL (szOf zs) rs = la := by
        unfold allL
        rw [if_pos e1, ← HB.out]
        simp [allB]
      have HE1 := Lib.hid e1
      have HE2 := Lib.hid e2
      clear h1 e1 e2 hla
      generalize rs1.length = j at *
      go_wp2
      go_ret2
      exact ⟨_, by rw [HE1.out]; rfl, by rw [HE2.out]; exact own, ext⟩
    | r :: rs3, HRS, HB, HE, HJL =>
      have h1 := HJL.out
      simp at h1
      have hjn : ((rs1.length : Nat) : Int) < (n2 : Int) := by omega
      have hjn2 : rs1.length < n2 := by omega
      have hget : rs[rs1.length]? = some r := by rw [HRS.out]; simp
      obtain ⟨b, off, A', n', c', hA2, hcell, seer⟩ := (hs2.ext ext).at_ rs1.length r hget
      subst hA2
      have hrl : r.length ≤ 900000 := hr r (by rw [HRS.out]; simp)
      have hrn := seer.len
      rw [bs_length] at hrn
      have hb := szOf_bound hs rs1.length
      have hnew := mkL_le (szOf zs rs1.length) r
      have HRN := Lib.hid hrn
      have hrn900 : n' ≤ 900000 := by omega
      have hj100 : rs1.length ≤ 100 := by omega
      have seerD := seer.drew
      have hmark : Calls Try.prog 21 #[.slice A' n' c', .int .i64 (szOf zs rs1.length)] wr.drew fun e w' => ∃ v, e = .returned (.tuple #[v, .int .i64 (mkE r.length (szOf zs rs1.length))]) ∧ w'.ownsRow wr.drew.heap.size 5 1 v (mkL r.length (szOf zs rs1.length) r).length (bs (mkL r.length (szOf zs rs1.length) r)) ∧ Ext wr.drew w' := by
        rw [hrn]
        exact rmark_all A' n' c' (szOf zs rs1.length) r wr.drew seerD hrn900 hb.1 hb.2
      have HM := Lib.hid hmark
      have hgo : ∀ l3 : List UInt8, l3 = la ++ mkL r.length (szOf zs rs1.length) r → mkE r.length (szOf zs rs1.length) = 0 → l3 ++ allB (szOf zs) (rs1 ++ [r]).length rs3 = allB (szOf zs) 0 rs ∧ allE (szOf zs) (rs1 ++ [r]).length rs3 = allE (szOf zs) 0 rs := fun l3 h h0 => by
        have hll : (rs1 ++ [r]).length = rs1.length + 1 := by simp
        rw [hll, h, ← HB.out, ← HE.out, allE_step h0]
        simp [allB]
      have hst : ¬ mkE r.length (szOf zs rs1.length) = 0 → allE (szOf zs) 0 rs = mkE r.length (szOf zs rs1.length) := fun h => by rw [← HE.out, allE_stop h]
      have HGo := Lib.hid hgo
      have HSt := Lib.hid hst
      have HRS2 : Hid (rs = (rs1 ++ [r]) ++ rs3) := Lib.hid (by rw [HRS.out]; simp)
      have hlen1 : (rs1 ++ [r]).length = rs1.length + 1 := by simp
      have HLen1 := Lib.hid hlen1
      clear hgo hst hmark hrn h1 hget hlen1
      have hsz := size_any A n c zs rs1.length wr.drew (hs.ext ext.drew) (by omega)
      have HSz := Lib.hid hsz
      clear hsz
      have hcells : ∀ w', Ext wr.drew w' → w'.cell? ⟨b, off + rs1.length, none⟩ = some (.slice A' n' c') := fun w' hw => hw.cell (by simpa using hcell)
      generalize szOf zs rs1.length = z at *
      go_wp2_with fail
      refine wp_region_lex [6, 7] (by kernel_rfl) (by kernel_rfl) (by kernel_rfl) ?_
      repeat (refine lex_val (v := ?_) rfl rfl (fun w' hw' => ?_) ?_; rotate_left; (· go_simp; try with_reducible rfl); simp only [Act.put, List.setIfInBounds_toArray, List.set_cons_zero, List.set_cons_succ])
      refine lex_call 22 #[.slice A n c, .int .i64 ((rs1.length : Nat) : Int)] rfl rfl (by go_simp) ?_
      refine (Calls.mono HSz.out ?_)
      rintro e w1 ⟨rfl, rfl⟩
      refine ⟨_, rfl, Ext.refl _, ?_⟩
      simp only [Act.put, List.setIfInBounds_toArray, List.set_cons_zero, List.set_cons_succ]
      refine lex_call 21 #[.slice A' n' c', .int .i64 z] rfl rfl (by go_simp) ?_
      refine (Calls.mono HM.out ?_)
      rintro e w2 ⟨v2, rfl, own2, e2⟩
      obtain ⟨A3, c3, rfl, see3⟩ := Sees.of_own own2
      have ext2 := ext.drew.trans e2
      have own1 := own_ext own ((Ext.refl wr).drew.trans e2)
      refine ⟨_, rfl, e2, ?_⟩
      clear own own2 ext e2 HM hcells hcell
      simp only [Act.put, List.setIfInBounds_toArray, List.set_cons_zero, List.set_cons_succ]
      repeat (refine lex_val (v := ?_) rfl rfl (fun w' hw' => ?_) ?_; rotate_left; (· go_simp; try with_reducible rfl); simp only [Act.put, List.setIfInBounds_toArray, List.set_cons_zero, List.set_cons_succ])
      refine lex_done ?_
      by_cases h0 : mkE r.length z = 0
      · obtain ⟨v3, w3, hrun3, own3, hg3, _⟩ := run_append_sees (P := Try.prog) (w := w2) w.heap.size 22 22 5 i0 _ 1 Try.underlying22 hi hz0 hz1 hz2 rfl _ _ _ own1 A3 _ c3 _ see3 (bs_one _) (by unfold maxLen; omega) (by omega) (by have := ext2.size; omega)
        have e3 : Ext w w3 := ext2.grown hg3 fun k hk => (own1.lt k hk).1
        have own4 : w3.ownsRow w.heap.size 5 1 v3 (la ++ mkL r.length z r).length (bs (la ++ mkL r.length z r)) := by
          rw [List.length_append, bs_append]
          exact own3
        have hlla : (la ++ mkL r.length z r).length ≤ 4352 * (rs1 ++ [r]).length := by
          rw [List.length_append, HLen1.out]
          omega
        have hgg := HGo.out _ rfl h0
        have HG1 := Lib.hid hgg.1
        have HG2 := Lib.hid hgg.2
        have HLa := Lib.hid hlla
        rw [h0]
        clear own1 own3 hg3 ext2 see3 hgg hlla h0 hnew
        generalize hj1 : rs1.length = j at *
        have HJ1 := Lib.hid hj1
        clear hj1
        go_wp2_with (first | (at_builtin; refine wpList_append_run rfl (.tmp 30) (.tmp 31) _ rfl _ _ rfl rfl v3 w3 hrun3 ?_) | fail)
        go_roundw
        case rel => exact ⟨rs1 ++ [r], rs3, _, HRS2.out, by rw [HLen1.out]; go_num, own4, HG1.out, HG2.out, HLa.out, e3⟩
        case measure => have := HJ1.out; simp [intOf]; omega
      · have hE0 := HSt.out h0
        have e2 : allL (szOf zs) rs = [] := by
          unfold allL
          rw [if_neg (by rw [hE0]; exact h0)]
        have HE1 := Lib.hid hE0
        have HE2 := Lib.hid e2
        have hb1 : (mkE r.length z == 0) = false := by simpa using h0
        have hb2 : (mkE r.length z != 0) = true := by simp [bne, hb1]
        clear h0 hE0 e2 own1 see3 hnew
        generalize mkE r.length z = ev at *
        go_wp2
        go_ret2
        exact ⟨.slice none 0 0, by rw [HE1.out]; rfl, by rw [HE2.out]; exact World.ownsRow_nil _ _ _ _, ext2⟩
end Go.Proofs.Ytjajkagpfbemiaa
