/-
  The statement MarkJoins: its walk.
-/
import Derived.Test.YtefkjoooecphaaaMarkG
namespace Go.Proofs.Ytefkjoooecphaaa
open Go Go.RowKit
set_option linter.unusedVariables false
set_option linter.unusedSimpArgs false

theorem SeesRows.take {k : IntKind} {w : World} {A : Option Addr} {n c : Nat} {rows : List (List Int)} (h : SeesRows k w A n c rows) (j : Nat) (hj : j ≤ n) : SeesRows k w A j c (rows.take j) := by
  obtain ⟨h1, h2, h3, h4, h5⟩ := h
  refine ⟨by rw [List.length_take]; omega, by omega, h3, h4, fun hp => ?_⟩
  obtain ⟨b, off, e, hc⟩ := h5 (by omega)
  refine ⟨b, off, e, fun i r hr => hc i r ?_⟩
  rw [List.getElem?_take] at hr
  split at hr
  · exact hr
  · cases hr
theorem szOf_pos {zs : List Int} (h : ∀ z ∈ zs, 1 ≤ z) (i : Nat) : 1 ≤ szOf zs i := by
  unfold szOf
  split
  · omega
  · have hi : i % zs.length < zs.length := Nat.mod_lt _ (by omega)
    rw [List.getD_eq_getElem?_getD, List.getElem?_eq_getElem hi]
    exact h _ (List.getElem_mem hi)
theorem mkE_small {n : Nat} {s : Int} (hn : n ≤ 40) (hs : 1 ≤ s) : mkE n s = 0 := by
  have hc : cnt n s.toNat ≤ 64 := by
    unfold cnt
    split
    · omega
    · have := Nat.div_le_self (n - 1) s.toNat
      omega
  unfold mkE
  rw [if_neg (by omega), if_neg (by omega), if_neg (by omega)]
theorem allE_small (f : Nat → Int) (hf : ∀ i, 1 ≤ f i) : ∀ (i : Nat) (rs : List (List UInt8)), (∀ r ∈ rs, r.length ≤ 40) → allE f i rs = 0
  | _, [], _ => rfl
  | i, r :: rs, h => by
    have h1 : mkE r.length (f i) = 0 := mkE_small (h r (by simp)) (hf i)
    rw [allE_step h1]
    exact allE_small f hf (i + 1) rs fun q hq => h q (by simp [hq])
theorem allB_push (f : Nat → Int) : ∀ (i : Nat) (rs : List (List UInt8)) (r : List UInt8), allB f i (rs ++ [r]) = allB f i rs ++ mkL r.length (f (i + rs.length)) r
  | i, [], r => by simp [allB]
  | i, q :: rs, r => by
    have h := allB_push f (i + 1) rs r
    simp only [List.cons_append, allB, h, List.length_cons, List.append_assoc]
    rw [show i + 1 + rs.length = i + (rs.length + 1) by omega]
theorem allB_length (f : Nat → Int) : ∀ (i : Nat) (rs : List (List UInt8)), (allB f i rs).length ≤ 4352 * rs.length
  | _, [] => by simp [allB]
  | i, r :: rs => by
    have h := allB_length f (i + 1) rs
    have h2 := mkL_le (f i) r
    simp only [allB, List.length_append, List.length_cons]
    omega

set_option maxHeartbeats 2000000 in
theorem joins_a (A A1 : Option Addr) (n c n1 c1 : Nat) (rows : List (List Int)) (zs : List Int) (w : World) (hs0 : SeesRows .u8 w A n c rows) (hs : SeesRows .u8 w A n c (rows.take n)) (hs1 : SeesI w A1 n1 c1 zs) (hK : n ≤ 4) :
    Calls Try.prog 14 #[.slice A n c, .slice A1 n1 c1] w fun e w' => e = .returned (.bool true) ∧ Ext w w' := by
  have hn := hs0.2.1
  have hm := hs0.2.2.1
  have hn1 := hs1.1.le
  have hm1 := hs1.1.max
  unfold maxLen at hm hm1
  have HS := Lib.hid hs
  have HSI := Lib.hid hs1
  clear hs hs1 hs0
  go_enter Try.func14, Try.ntmps14
  go_wp2_with fail
  refine (rgood_any A A1 n c n1 c1 _ zs _ HS.out HSI.out).mono ?_
  rintro e w1 ⟨v1, v2, rfl, k0, l, hk0, hk05, _, own1, hl5, hl20, own2, e1⟩
  obtain ⟨Ao, co, rfl, seeo⟩ := own1.sees
  obtain ⟨As, cs, rfl, sees⟩ := Sees.of_own own2
  have hSI : SeesI w1 As l.length cs (l.map fun k : Nat => (k : Int)) := ⟨by rw [← iv_intsF]; exact sees, fun z hz => by
    simp only [List.mem_map] at hz
    obtain ⟨x, hx, rfl⟩ := hz
    have := hl20 x hx
    omega⟩
  have hp1 : ∀ z ∈ (l.map fun k : Nat => (k : Int)), 1 ≤ z := fun z hz => by
    simp only [List.mem_map] at hz
    obtain ⟨x, hx, rfl⟩ := hz
    have := hl20 x hx
    omega
  have hpos := szOf_pos hp1
  have hbd := szOf_bound hSI
  have hro : ∀ r ∈ (rowF (rows.take n) 40).take k0, r.length ≤ 40 := fun r hr => rowF_le _ 40 r (List.mem_of_mem_take hr)
  have hlo : ((rowF (rows.take n) 40).take k0).length ≤ 5 := by rw [List.length_take]; omega
  generalize (rowF (rows.take n) 40).take k0 = rs at *
  have hm := mall_any As Ao l.length cs rs.length co _ rs w1 hSI seeo (by omega) (fun r hr => by have := hro r hr; omega)
  have hE0 := allE_small (szOf (l.map fun k : Nat => (k : Int))) hpos 0 rs hro
  have hB : allL (szOf (l.map fun k : Nat => (k : Int))) rs = allB (szOf (l.map fun k : Nat => (k : Int))) 0 rs := by
    unfold allL
    rw [if_pos hE0]
  rw [hE0, hB] at hm
  have HM := Lib.hid hm
  have HRO := Lib.hid hro
  have HP := Lib.hid hpos
  have HBD := Lib.hid hbd
  have hsize : ∀ (i : Nat) (wr : World), Ext w1 wr → i ≤ 1000000 → Calls Try.prog 49 #[.slice As l.length cs, .int .i64 (i : Int)] wr fun e w' => e = .returned (.int .i64 (szOf (l.map fun k : Nat => (k : Int)) i)) ∧ wr = w' :=
    fun i wr he hi => size_any As l.length cs _ i wr (hSI.ext he) hi
  have HSZ := Lib.hid hsize
  clear hE0 hB hm hro hpos hbd hp1 hsize hSI sees own1 own2 hl20
  generalize szOf (l.map fun k : Nat => (k : Int)) = f at *
  generalize hLR : rs.length = lr at *
  have HLR := Lib.hid hLR
  clear hLR
  generalize l.length = ll at *
  go_wp2_with fail
  refine (Calls.mono HM.out ?_)
  rintro e w2 ⟨v3, rfl, own3, e3⟩
  obtain ⟨A3, c3, rfl, see3⟩ := Sees.of_own own3
  have ext2 := e1.trans e3
  clear own3 HM
  go_wp2_with fail
  go_loopw [9, 10] (fun s i wr => ∃ k : Nat, k ≤ lr ∧ i = .int .i64 k ∧ s = .string ⟨(allB f 0 (rs.take k)).toArray⟩ ∧ Ext w2 wr) (fun _ i _ => lr - (intOf i).toNat)
  case atStart => exact ⟨0, by omega, rfl, rfl, Ext.refl _⟩
  case round =>
    obtain ⟨k, hk, rfl, rfl, ext⟩ := hrel
    by_cases hlt : k < lr
    · obtain ⟨r, hget⟩ : ∃ r, rs[k]? = some r := ⟨rs[k]'(by rw [HLR.out]; exact hlt), List.getElem?_eq_getElem _⟩
      obtain ⟨b, off, A', n', c', hA, hcell, seer⟩ := ((seeo.ext e3).ext ext).at_ k r hget
      subst hA
      have hrl : r.length ≤ 40 := HRO.out r (List.mem_of_getElem? hget)
      have hrn := seer.len
      rw [bs_length] at hrn
      have hE : mkE r.length (f k) = 0 := mkE_small hrl (HP.out k)
      have hmark : Calls Try.prog 44 #[.slice A' n' c', .int .i64 (f k)] wr.drew fun e w' => ∃ v, e = .returned (.tuple #[v, .int .i64 0]) ∧ w'.ownsRow wr.drew.heap.size 5 1 v (mkL r.length (f k) r).length (bs (mkL r.length (f k) r)) ∧ Ext wr.drew w' := by
        have := mark_all A' n' c' (f k) r wr.drew (seer.drew) (by omega) (HBD.out k).1 (HBD.out k).2
        rw [← hrn] at this ⊢
        rw [hE] at this
        exact this
      have HM := Lib.hid hmark
      have hnext : allB f 0 (rs.take (k + 1)) = allB f 0 (rs.take k) ++ mkL r.length (f k) r := by
        rw [List.take_add_one, hget]
        have h := allB_push f 0 (rs.take k) r
        rw [List.length_take, HLR.out, show 0 + min k lr = k by omega] at h
        exact h
      have HN := Lib.hid hnext
      have hla := allB_length f 0 (rs.take k)
      rw [List.length_take, HLR.out, show min k lr = k by omega] at hla
      have hlb := mkL_le (f k) r
      have hsz := HSZ.out k wr.drew ((e3.trans ext).drew) (by omega)
      have HSz := Lib.hid hsz
      have hcells : ∀ w', Ext wr.drew w' → w'.cell? ⟨b, off + k, none⟩ = some (.slice A' n' c') := fun w' hw => hw.cell (by simpa using hcell)
      have hadd := fun w => run_string_add_lists (P := Try.prog) w (allB f 0 (rs.take k)) (mkL r.length (f k) r) (by omega) (by omega)
      clear hget hrn hE hmark hnext hsz seer
      generalize mkL r.length (f k) r = nw at *
      generalize f k = z at *
      generalize allB f 0 (rs.take k) = old at *
      go_wp2_with fail
      refine wp_region_lex [6, 7] (by kernel_rfl) (by kernel_rfl) (by kernel_rfl) ?_
      repeat (refine lex_val (v := ?_) rfl rfl (fun w' hw' => ?_) ?_; rotate_left; (· go_simp; try with_reducible rfl); simp only [Act.put, List.setIfInBounds_toArray, List.set_cons_zero, List.set_cons_succ])
      refine lex_call 49 #[.slice As ll cs, .int .i64 (k : Int)] rfl rfl (by go_simp) ?_
      refine (Calls.mono HSz.out ?_)
      rintro e w5 ⟨rfl, rfl⟩
      refine ⟨_, rfl, Ext.refl _, ?_⟩
      simp only [Act.put, List.setIfInBounds_toArray, List.set_cons_zero, List.set_cons_succ]
      refine lex_call 44 #[.slice A' n' c', .int .i64 z] rfl rfl (by go_simp) ?_
      refine (Calls.mono HM.out ?_)
      rintro e w6 ⟨v6, rfl, own6, e6⟩
      obtain ⟨A6, c6, rfl, see6⟩ := Sees.of_own own6
      have ext6 := ext.drew.trans e6
      have hstr := str_of see6
      refine ⟨_, rfl, e6, ?_⟩
      clear own6 ext e6 HM hcells hcell see6
      simp only [Act.put, List.setIfInBounds_toArray, List.set_cons_zero, List.set_cons_succ]
      repeat (refine lex_val (v := ?_) rfl rfl (fun w' hw' => ?_) ?_; rotate_left; (· go_simp; try with_reducible rfl); simp only [Act.put, List.setIfInBounds_toArray, List.set_cons_zero, List.set_cons_succ])
      refine lex_done ?_
      go_wp2
      go_roundw
      case rel => exact ⟨k + 1, by omega, by go_num, by rw [HN.out], ext6⟩
      case measure => simp [intOf]; omega
    · obtain rfl : k = lr := by omega
      have htake : rs.take k = rs := List.take_of_length_le (by rw [HLR.out]; omega)
      have hstr := str_of (see3.ext ext)
      rw [htake]
      clear htake HSZ HRO HP HBD hlt
      have extE := ext2.trans ext
      go_wp2_with fail
      refine (markLives_any _).mono ?_
      rintro e w6 ⟨rfl, e6⟩
      go_wp2
      go_ret
      exact ⟨rfl, extE.trans e6⟩
set_option maxHeartbeats 2000000 in
theorem joins_b (A A1 : Option Addr) (n c n1 c1 : Nat) (rows : List (List Int)) (zs : List Int) (w : World) (hs0 : SeesRows .u8 w A n c rows) (hs : SeesRows .u8 w A 4 c (rows.take 4)) (hs1 : SeesI w A1 n1 c1 zs) (hK : 4 < n) :
    Calls Try.prog 14 #[.slice A n c, .slice A1 n1 c1] w fun e w' => e = .returned (.bool true) ∧ Ext w w' := by
  have hn := hs0.2.1
  have hm := hs0.2.2.1
  have hn1 := hs1.1.le
  have hm1 := hs1.1.max
  unfold maxLen at hm hm1
  have HS := Lib.hid hs
  have HSI := Lib.hid hs1
  clear hs hs1 hs0
  go_enter Try.func14, Try.ntmps14
  go_wp2_with fail
  refine (rgood_any A A1 4 c n1 c1 _ zs _ HS.out HSI.out).mono ?_
  rintro e w1 ⟨v1, v2, rfl, k0, l, hk0, hk05, _, own1, hl5, hl20, own2, e1⟩
  obtain ⟨Ao, co, rfl, seeo⟩ := own1.sees
  obtain ⟨As, cs, rfl, sees⟩ := Sees.of_own own2
  have hSI : SeesI w1 As l.length cs (l.map fun k : Nat => (k : Int)) := ⟨by rw [← iv_intsF]; exact sees, fun z hz => by
    simp only [List.mem_map] at hz
    obtain ⟨x, hx, rfl⟩ := hz
    have := hl20 x hx
    omega⟩
  have hp1 : ∀ z ∈ (l.map fun k : Nat => (k : Int)), 1 ≤ z := fun z hz => by
    simp only [List.mem_map] at hz
    obtain ⟨x, hx, rfl⟩ := hz
    have := hl20 x hx
    omega
  have hpos := szOf_pos hp1
  have hbd := szOf_bound hSI
  have hro : ∀ r ∈ (rowF (rows.take 4) 40).take k0, r.length ≤ 40 := fun r hr => rowF_le _ 40 r (List.mem_of_mem_take hr)
  have hlo : ((rowF (rows.take 4) 40).take k0).length ≤ 5 := by rw [List.length_take]; omega
  generalize (rowF (rows.take 4) 40).take k0 = rs at *
  have hm := mall_any As Ao l.length cs rs.length co _ rs w1 hSI seeo (by omega) (fun r hr => by have := hro r hr; omega)
  have hE0 := allE_small (szOf (l.map fun k : Nat => (k : Int))) hpos 0 rs hro
  have hB : allL (szOf (l.map fun k : Nat => (k : Int))) rs = allB (szOf (l.map fun k : Nat => (k : Int))) 0 rs := by
    unfold allL
    rw [if_pos hE0]
  rw [hE0, hB] at hm
  have HM := Lib.hid hm
  have HRO := Lib.hid hro
  have HP := Lib.hid hpos
  have HBD := Lib.hid hbd
  have hsize : ∀ (i : Nat) (wr : World), Ext w1 wr → i ≤ 1000000 → Calls Try.prog 49 #[.slice As l.length cs, .int .i64 (i : Int)] wr fun e w' => e = .returned (.int .i64 (szOf (l.map fun k : Nat => (k : Int)) i)) ∧ wr = w' :=
    fun i wr he hi => size_any As l.length cs _ i wr (hSI.ext he) hi
  have HSZ := Lib.hid hsize
  clear hE0 hB hm hro hpos hbd hp1 hsize hSI sees own1 own2 hl20
  generalize szOf (l.map fun k : Nat => (k : Int)) = f at *
  generalize hLR : rs.length = lr at *
  have HLR := Lib.hid hLR
  clear hLR
  generalize l.length = ll at *
  go_wp2_with fail
  refine (Calls.mono HM.out ?_)
  rintro e w2 ⟨v3, rfl, own3, e3⟩
  obtain ⟨A3, c3, rfl, see3⟩ := Sees.of_own own3
  have ext2 := e1.trans e3
  clear own3 HM
  go_wp2_with fail
  go_loopw [9, 10] (fun s i wr => ∃ k : Nat, k ≤ lr ∧ i = .int .i64 k ∧ s = .string ⟨(allB f 0 (rs.take k)).toArray⟩ ∧ Ext w2 wr) (fun _ i _ => lr - (intOf i).toNat)
  case atStart => exact ⟨0, by omega, rfl, rfl, Ext.refl _⟩
  case round =>
    obtain ⟨k, hk, rfl, rfl, ext⟩ := hrel
    by_cases hlt : k < lr
    · obtain ⟨r, hget⟩ : ∃ r, rs[k]? = some r := ⟨rs[k]'(by rw [HLR.out]; exact hlt), List.getElem?_eq_getElem _⟩
      obtain ⟨b, off, A', n', c', hA, hcell, seer⟩ := ((seeo.ext e3).ext ext).at_ k r hget
      subst hA
      have hrl : r.length ≤ 40 := HRO.out r (List.mem_of_getElem? hget)
      have hrn := seer.len
      rw [bs_length] at hrn
      have hE : mkE r.length (f k) = 0 := mkE_small hrl (HP.out k)
      have hmark : Calls Try.prog 44 #[.slice A' n' c', .int .i64 (f k)] wr.drew fun e w' => ∃ v, e = .returned (.tuple #[v, .int .i64 0]) ∧ w'.ownsRow wr.drew.heap.size 5 1 v (mkL r.length (f k) r).length (bs (mkL r.length (f k) r)) ∧ Ext wr.drew w' := by
        have := mark_all A' n' c' (f k) r wr.drew (seer.drew) (by omega) (HBD.out k).1 (HBD.out k).2
        rw [← hrn] at this ⊢
        rw [hE] at this
        exact this
      have HM := Lib.hid hmark
      have hnext : allB f 0 (rs.take (k + 1)) = allB f 0 (rs.take k) ++ mkL r.length (f k) r := by
        rw [List.take_add_one, hget]
        have h := allB_push f 0 (rs.take k) r
        rw [List.length_take, HLR.out, show 0 + min k lr = k by omega] at h
        exact h
      have HN := Lib.hid hnext
      have hla := allB_length f 0 (rs.take k)
      rw [List.length_take, HLR.out, show min k lr = k by omega] at hla
      have hlb := mkL_le (f k) r
      have hsz := HSZ.out k wr.drew ((e3.trans ext).drew) (by omega)
      have HSz := Lib.hid hsz
      have hcells : ∀ w', Ext wr.drew w' → w'.cell? ⟨b, off + k, none⟩ = some (.slice A' n' c') := fun w' hw => hw.cell (by simpa using hcell)
      have hadd := fun w => run_string_add_lists (P := Try.prog) w (allB f 0 (rs.take k)) (mkL r.length (f k) r) (by omega) (by omega)
      clear hget hrn hE hmark hnext hsz seer
      generalize mkL r.length (f k) r = nw at *
      generalize f k = z at *
      generalize allB f 0 (rs.take k) = old at *
      go_wp2_with fail
      refine wp_region_lex [6, 7] (by kernel_rfl) (by kernel_rfl) (by kernel_rfl) ?_
      repeat (refine lex_val (v := ?_) rfl rfl (fun w' hw' => ?_) ?_; rotate_left; (· go_simp; try with_reducible rfl); simp only [Act.put, List.setIfInBounds_toArray, List.set_cons_zero, List.set_cons_succ])
      refine lex_call 49 #[.slice As ll cs, .int .i64 (k : Int)] rfl rfl (by go_simp) ?_
      refine (Calls.mono HSz.out ?_)
      rintro e w5 ⟨rfl, rfl⟩
      refine ⟨_, rfl, Ext.refl _, ?_⟩
      simp only [Act.put, List.setIfInBounds_toArray, List.set_cons_zero, List.set_cons_succ]
      refine lex_call 44 #[.slice A' n' c', .int .i64 z] rfl rfl (by go_simp) ?_
      refine (Calls.mono HM.out ?_)
      rintro e w6 ⟨v6, rfl, own6, e6⟩
      obtain ⟨A6, c6, rfl, see6⟩ := Sees.of_own own6
      have ext6 := ext.drew.trans e6
      have hstr := str_of see6
      refine ⟨_, rfl, e6, ?_⟩
      clear own6 ext e6 HM hcells hcell see6
      simp only [Act.put, List.setIfInBounds_toArray, List.set_cons_zero, List.set_cons_succ]
      repeat (refine lex_val (v := ?_) rfl rfl (fun w' hw' => ?_) ?_; rotate_left; (· go_simp; try with_reducible rfl); simp only [Act.put, List.setIfInBounds_toArray, List.set_cons_zero, List.set_cons_succ])
      refine lex_done ?_
      go_wp2
      go_roundw
      case rel => exact ⟨k + 1, by omega, by go_num, by rw [HN.out], ext6⟩
      case measure => simp [intOf]; omega
    · obtain rfl : k = lr := by omega
      have htake : rs.take k = rs := List.take_of_length_le (by rw [HLR.out]; omega)
      have hstr := str_of (see3.ext ext)
      rw [htake]
      clear htake HSZ HRO HP HBD hlt
      have extE := ext2.trans ext
      go_wp2_with fail
      refine (markLives_any _).mono ?_
      rintro e w6 ⟨rfl, e6⟩
      go_wp2
      go_ret
      exact ⟨rfl, extE.trans e6⟩
theorem joins_walk (A A1 : Option Addr) (n c n1 c1 : Nat) (rows : List (List Int)) (zs : List Int) (w : World) (hs : SeesRows .u8 w A n c rows) (hs1 : Sees w A1 n1 c1 (zs.map (Value.int .i64))) (hq : ∀ z ∈ zs, (Lit.int .i64 z).wf = true) :
    Calls Try.prog 14 #[.slice A n c, .slice A1 n1 c1] w fun e w' => e = .returned (.bool true) ∧ Ext w w' := by
  have hI : SeesI w A1 n1 c1 zs := ⟨hs1, fun z hz => bounds_i64 (hq z hz)⟩
  by_cases hK : n ≤ 4
  · exact joins_a A A1 n c n1 c1 rows zs w hs (hs.take n (Nat.le_refl _)) hI hK
  · exact joins_b A A1 n c n1 c1 rows zs w hs (hs.take 4 (by omega)) hI (by omega)
end Go.Proofs.Ytefkjoooecphaaa
