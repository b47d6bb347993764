/-
  The statement MarkAll: its walk.
-/
import Derived.Test.YtefkjoooecphaaaOwnB
namespace Go.Proofs.Ytefkjoooecphaaa
open Go Go.RowKit
set_option linter.unusedVariables false
set_option linter.unusedSimpArgs false

/-- The first k bytes of the rows that came in. -/
def rowsB (rows : List (List Int)) (k : Nat) : List (List UInt8) := rows.map fun r => (r.map fun x => UInt8.ofNat x.toNat).take k
theorem rowsB_get {rows : List (List Int)} {k j : Nat} {r : List Int} (h : rows[j]? = some r) : (rowsB rows k).take (j + 1) = (rowsB rows k).take j ++ [(r.map fun x => UInt8.ofNat x.toNat).take k] := by
  have hg : (rowsB rows k)[j]? = some ((r.map fun x => UInt8.ofNat x.toNat).take k) := by simp [rowsB, h]
  rw [List.take_add_one, hg]
  rfl
theorem rowsB_le (rows : List (List Int)) (k : Nat) : ∀ r ∈ rowsB rows k, r.length ≤ k := by
  intro r hr
  simp only [rowsB, List.mem_map] at hr
  obtain ⟨r0, _, rfl⟩ := hr
  rw [List.length_take]
  omega
theorem iv_ints (l : List Nat) : iv l = (l.map fun k : Nat => (k : Int)).map (Value.int .i64) := by simp [iv]

set_option maxHeartbeats 2000000 in
theorem mall_a (A A1 : Option Addr) (n c n1 c1 : Nat) (rows : List (List Int)) (zs : List Int) (w : World) (hs : SeesRows .u8 w A n c rows) (hs1 : SeesI w A1 n1 c1 zs) (hK : n1 ≤ 4) :
    Calls Try.prog 12 #[.slice A n c, .slice A1 n1 c1] w fun e w' => e = .returned (.bool true) ∧ Ext w w' := by
  have hn := hs.2.1
  have hm := hs.2.2.1
  have hrl := hs.1
  have hn1 := hs1.1.le
  have hm1 := hs1.1.max
  unfold maxLen at hm hm1
  have HS := Lib.hid hs
  have HS1 := Lib.hid hs1
  have hseeI : SeesI w A1 n1 c1 (zs.take n1) := by
    refine ⟨?_, fun z hz => hs1.2 z (List.mem_of_mem_take hz)⟩
    have := hs1.1.take n1 (by omega)
    rw [← List.map_take] at this
    exact this
  have HSI := Lib.hid hseeI
  have HRL := Lib.hid hrl
  clear hs hs1 hrl hseeI
  go_enter Try.func12, Try.ntmps12
  go_wp2_with fail
  go_loopw [5, 6] (fun v i wr => ∃ k : Nat, k ≤ n ∧ k ≤ 5 ∧ i = .int .i64 k ∧ OwnB wr w.heap.size v ((rowsB rows 100).take k) ∧ Ext w wr) (fun _ i _ => 5 - (intOf i).toNat)
  case atStart => exact ⟨0, by omega, by omega, rfl, by simpa using OwnB.nil w w.heap.size, Ext.refl _⟩
  case round =>
    obtain ⟨k, hk, hk5, rfl, own, ext⟩ := hrel
    by_cases hlt : k < n ∧ k < 5
    · obtain ⟨hlt1, hlt2⟩ := hlt
      obtain ⟨b, off, A', c', r, hA, hr, hcell, seer, hqr⟩ := (HS.out.ext ext).at_ k hlt1
      subst hA
      rw [ints_bytes hqr] at seer
      have hnext := rowsB_get (k := 100) hr
      have HNext := Lib.hid hnext
      clear hnext hr hqr
      go_wp2_with fail
      refine (few_nat A' _ c' _ 100 _ _ seer (bs_one _) (by omega) (by omega) rfl).mono ?_
      rintro e w2 ⟨v2, rfl, own2, e2⟩
      rw [bs_take] at own2
      have hform := fun h => own2.form h
      obtain ⟨A2, c2, rfl, see2⟩ := Sees.of_own own2
      have hne : ∀ a, A2 = some a → 0 < min r.length 100 → _ ≠ some a.block := fun a hA hn => by
        obtain ⟨g, cap, hv, hg, _⟩ := hform hn
        injection hv with q1 q2 q3
        rw [hA] at q1
        injection q1 with q1
        subst q1
        intro e
        have := (own.lt _ e).2
        have hg' : wr.heap.size ≤ g := hg
        exact absurd this (by show ¬ g < _; omega)
      have hlr : ((rowsB rows 100).take k).length ≤ 1000 := by rw [List.length_take]; omega
      obtain ⟨v3, w3, hrun3, own3, hg3⟩ := own_push (own.ext e2) (by have := ext.size; have := e2.size; omega) hlr see2 hne
      rw [← HNext.out] at own3
      have ext3 : Ext w w3 := ((ext.trans e2).alloc _).grown hg3 fun k hk => ((own.ext e2).lt k hk).1
      clear own own2 hform see2 hne hlr e2 ext hg3 seer hcell
      go_wp2_with (first | (at_builtin; refine wpList_append_run rfl (.tmp 26) (.tmp 32) _ rfl _ _ rfl rfl v3 w3 hrun3 ?_) | fail)
      go_roundw
      case rel => exact ⟨k + 1, by omega, by omega, by go_num, own3, ext3⟩
      case measure => simp [intOf]; omega
    · have hdec : k = n ∨ k = 5 := by omega
      obtain ⟨Ao, co, hv, seeo⟩ := own.sees
      subst hv
      have hlo : ((rowsB rows 100).take k).length ≤ 100 := by rw [List.length_take]; omega
      have hro : ∀ r ∈ (rowsB rows 100).take k, r.length ≤ 900000 := fun r hr => by have := rowsB_le rows 100 r (List.mem_of_mem_take hr); omega
      have HRO := Lib.hid hro
      clear own hro hlt
      generalize (rowsB rows 100).take k = rs at *
      generalize hLR : rs.length = lr at *
      have HLR := Lib.hid hLR
      clear hLR
      by_cases hkn2 : k < n
      all_goals
        first | (have hd : k = 5 := by omega) | (have hd : k = n := by omega)
        subst hd
        generalize hw9 : wr = w9 at *
        clear hw9
        go_wp2_with fail
        go_loopw [8, 9] (fun v i wr2 => ∃ (k2 : Nat) (l : List Nat), k2 ≤ n1 ∧ i = .int .i64 k2 ∧ l.length = k2 ∧ (∀ x ∈ l, x ≤ 12) ∧ wr2.ownsRow w9.heap.size 3 1 v l.length (iv l) ∧ Ext w9 wr2) (fun _ i _ => n1 - (intOf i).toNat)
        case atStart => exact ⟨0, [], by omega, rfl, rfl, by simp, World.ownsRow_nil _ _ _ _, Ext.refl _⟩
        case round =>
          obtain ⟨k2, l, hk2, rfl, hl2, hl12, own2, ext2⟩ := hrel
          have HL2 := Lib.hid hl2
          have HL12 := Lib.hid hl12
          clear hl12 hl2
          by_cases hlt2 : k2 < n1
          · have hIa := HSI.out.ext (ext.trans ext2)
            obtain ⟨b2, off2, u, hA, hu, hcell, _⟩ := hIa.1.at_ hlt2
            subst hA
            obtain ⟨z, hz, hz0, hz1⟩ : ∃ z, u = .int .i64 z ∧ -9223372036854775808 ≤ z ∧ z ≤ 9223372036854775807 := by
              rw [List.getElem?_map] at hu
              cases hq : (zs.take n1)[k2]? with
              | none => rw [hq] at hu; cases hu
              | some z =>
                rw [hq] at hu
                injection hu with hu
                have := hIa.2 z (List.mem_of_getElem? hq)
                exact ⟨z, hu.symm, this.1, this.2⟩
            subst hz
            clear hu hIa
            have hra := aroundZ_bound z 13 (by omega)
            have hln : l.length ≤ 1000000 := by rw [HL2.out]; omega
            obtain ⟨v3, w3, hrun3, own3, hg3⟩ := app_int (w := wr) (aroundZ z 13) (aroundZ z 13).toNat (by omega) (by omega) hln own2 ext2.size
            have ext3 : Ext w9 w3 := (ext2.alloc _).grown hg3 fun k hk => (own2.lt k hk).1
            have hl3 : (l ++ [(aroundZ z 13).toNat]).length = k2 + 1 := by rw [List.length_append, HL2.out]; rfl
            have hl4 : ∀ x ∈ l ++ [(aroundZ z 13).toNat], x ≤ 12 := fun x hx => by
              rcases List.mem_append.1 hx with h | h
              · exact HL12.out x h
              · simp at h
                omega
            have HL3 := Lib.hid hl3
            have HL4 := Lib.hid hl4
            clear own2 ext2 hg3 hl3 hl4 hln
            go_wp2_with fail
            refine (around_any z 13 _ hz0 hz1 (by omega) (by omega)).mono ?_
            rintro e w2 ⟨rfl, rfl⟩
            generalize (aroundZ z 13).toNat = zn at *
            generalize aroundZ z 13 = za at *
            go_wp2_with (first | (at_builtin; refine wpList_append_run rfl (.tmp 45) (.tmp 51) _ rfl _ _ rfl rfl v3 w3 hrun3 ?_) | fail)
            go_roundw
            case rel => exact ⟨k2 + 1, _, by omega, by go_num, HL3.out, HL4.out, own3, ext3⟩
            case measure => simp [intOf]; omega
          · obtain ⟨As, cs, hv, sees⟩ := Sees.of_own own2
            subst hv
            have hSI : SeesI wr As l.length cs (l.map fun k : Nat => (k : Int)) := ⟨by rw [← iv_ints]; exact sees, fun z hz => by
              simp only [List.mem_map] at hz
              obtain ⟨x, hx, rfl⟩ := hz
              have := HL12.out x hx
              omega⟩
            have hblk := heap_alloc_new wr (.cells #[.slice A1 n1 c1, .slice As l.length cs, .slice none 0 0] 57)
            have ea : Ext wr (wr.alloc (.cells #[.slice A1 n1 c1, .slice As l.length cs, .slice none 0 0] 57)) := (Ext.refl _).alloc _
            have hall : ∀ j, j < 3 → ∃ Az nz cz zs', (wr.alloc (.cells #[.slice A1 n1 c1, .slice As l.length cs, .slice none 0 0] 57)).cell? ⟨wr.heap.size, j, none⟩ = some (.slice Az nz cz) ∧ SeesI (wr.alloc (.cells #[.slice A1 n1 c1, .slice As l.length cs, .slice none 0 0] 57)) Az nz cz zs' := fun j hj => by
              have hc := fun i => cell_of_row _ wr.heap.size i _ _ _ hblk
              match j, hj with
              | 0, _ => exact ⟨_, _, _, _, by simp [hc 0], (HSI.out.ext (ext.trans ext2)).ext ea⟩
              | 1, _ => exact ⟨_, _, _, _, by simp [hc 1], hSI.ext ea⟩
              | 2, _ => exact ⟨none, 0, 0, [], by simp [hc 2], ⟨Sees.nil _, by simp⟩⟩
            have HAll := Lib.hid hall
            have seeoA := (seeo.ext ext2).ext ea
            have extA := (ext.trans ext2).trans ea
            clear hall hblk hSI sees own2 ext2 ext ea seeo
            generalize hll : l.length = ll at *
            clear hll
            go_wp2_with fail
            generalize wr.alloc (.cells #[.slice A1 n1 c1, .slice As ll cs, .slice none 0 0] 57) = wA at *
            generalize wr.heap.size = zA at *
            go_loopw [11] (fun i wr => ∃ k3 : Nat, k3 ≤ 3 ∧ i = .int .i64 k3 ∧ Ext wA wr) (fun i _ => 3 - (intOf i).toNat)
            case atStart => exact ⟨0, by omega, rfl, Ext.refl _⟩
            case round =>
              obtain ⟨k3, hk3, rfl, ext3⟩ := hrel
              by_cases hlt3 : k3 < 3
              · obtain ⟨Az, nz, cz, zs', hcell, hSz⟩ := HAll.out k3 hlt3
                have hcell0 := ext3.cell hcell
                go_wp2_with fail
                refine (mall_any Az Ao nz cz _ co zs' rs _ (hSz.ext ext3) (seeoA.ext ext3) (by omega) HRO.out).mono ?_
                rintro e w2 ⟨v2, rfl, own2, e2⟩
                obtain ⟨A2, c2, rfl, see2⟩ := Sees.of_own own2
                have ext4 := ext3.trans e2
                have hcell1 := ext4.cell hcell
                clear own2 hcell0 ext3 e2
                go_wp2_with fail
                refine (rmall_any Az Ao nz cz _ co zs' rs _ (hSz.ext ext4) (seeoA.ext ext4) (by omega) HRO.out).mono ?_
                rintro e w3 ⟨v3, rfl, own3, e3⟩
                obtain ⟨A3, c3, rfl, see3⟩ := Sees.of_own own3
                have ext5 := ext4.trans e3
                have h2 := str_of (see2.ext e3)
                have h3 := str_of see3
                clear own3 hcell1 ext4 e3 see2 see3 hcell hSz
                generalize allE (szOf zs') 0 rs = ev at *
                go_wp2
                go_roundw
                case rel => exact ⟨k3 + 1, by omega, by go_num, ext5⟩
                case measure => simp [intOf]; omega
              · obtain rfl : k3 = 3 := by omega
                clear HAll
                go_wp2_with fail
                refine (markLives_any _).mono ?_
                rintro e w6 ⟨rfl, e6⟩
                go_wp2
                go_ret
                exact ⟨rfl, (extA.trans ext3).trans e6⟩
set_option maxHeartbeats 2000000 in
theorem mall_b (A A1 : Option Addr) (n c n1 c1 : Nat) (rows : List (List Int)) (zs : List Int) (w : World) (hs : SeesRows .u8 w A n c rows) (hs1 : SeesI w A1 n1 c1 zs) (hK : 4 < n1) :
    Calls Try.prog 12 #[.slice A n c, .slice A1 n1 c1] w fun e w' => e = .returned (.bool true) ∧ Ext w w' := by
  have hn := hs.2.1
  have hm := hs.2.2.1
  have hrl := hs.1
  have hn1 := hs1.1.le
  have hm1 := hs1.1.max
  unfold maxLen at hm hm1
  have HS := Lib.hid hs
  have HS1 := Lib.hid hs1
  have hseeI : SeesI w A1 4 c1 (zs.take 4) := by
    refine ⟨?_, fun z hz => hs1.2 z (List.mem_of_mem_take hz)⟩
    have := hs1.1.take 4 (by omega)
    rw [← List.map_take] at this
    exact this
  have HSI := Lib.hid hseeI
  have HRL := Lib.hid hrl
  clear hs hs1 hrl hseeI
  go_enter Try.func12, Try.ntmps12
  go_wp2_with fail
  go_loopw [5, 6] (fun v i wr => ∃ k : Nat, k ≤ n ∧ k ≤ 5 ∧ i = .int .i64 k ∧ OwnB wr w.heap.size v ((rowsB rows 100).take k) ∧ Ext w wr) (fun _ i _ => 5 - (intOf i).toNat)
  case atStart => exact ⟨0, by omega, by omega, rfl, by simpa using OwnB.nil w w.heap.size, Ext.refl _⟩
  case round =>
    obtain ⟨k, hk, hk5, rfl, own, ext⟩ := hrel
    by_cases hlt : k < n ∧ k < 5
    · obtain ⟨hlt1, hlt2⟩ := hlt
      obtain ⟨b, off, A', c', r, hA, hr, hcell, seer, hqr⟩ := (HS.out.ext ext).at_ k hlt1
      subst hA
      rw [ints_bytes hqr] at seer
      have hnext := rowsB_get (k := 100) hr
      have HNext := Lib.hid hnext
      clear hnext hr hqr
      go_wp2_with fail
      refine (few_nat A' _ c' _ 100 _ _ seer (bs_one _) (by omega) (by omega) rfl).mono ?_
      rintro e w2 ⟨v2, rfl, own2, e2⟩
      rw [bs_take] at own2
      have hform := fun h => own2.form h
      obtain ⟨A2, c2, rfl, see2⟩ := Sees.of_own own2
      have hne : ∀ a, A2 = some a → 0 < min r.length 100 → _ ≠ some a.block := fun a hA hn => by
        obtain ⟨g, cap, hv, hg, _⟩ := hform hn
        injection hv with q1 q2 q3
        rw [hA] at q1
        injection q1 with q1
        subst q1
        intro e
        have := (own.lt _ e).2
        have hg' : wr.heap.size ≤ g := hg
        exact absurd this (by show ¬ g < _; omega)
      have hlr : ((rowsB rows 100).take k).length ≤ 1000 := by rw [List.length_take]; omega
      obtain ⟨v3, w3, hrun3, own3, hg3⟩ := own_push (own.ext e2) (by have := ext.size; have := e2.size; omega) hlr see2 hne
      rw [← HNext.out] at own3
      have ext3 : Ext w w3 := ((ext.trans e2).alloc _).grown hg3 fun k hk => ((own.ext e2).lt k hk).1
      clear own own2 hform see2 hne hlr e2 ext hg3 seer hcell
      go_wp2_with (first | (at_builtin; refine wpList_append_run rfl (.tmp 26) (.tmp 32) _ rfl _ _ rfl rfl v3 w3 hrun3 ?_) | fail)
      go_roundw
      case rel => exact ⟨k + 1, by omega, by omega, by go_num, own3, ext3⟩
      case measure => simp [intOf]; omega
    · have hdec : k = n ∨ k = 5 := by omega
      obtain ⟨Ao, co, hv, seeo⟩ := own.sees
      subst hv
      have hlo : ((rowsB rows 100).take k).length ≤ 100 := by rw [List.length_take]; omega
      have hro : ∀ r ∈ (rowsB rows 100).take k, r.length ≤ 900000 := fun r hr => by have := rowsB_le rows 100 r (List.mem_of_mem_take hr); omega
      have HRO := Lib.hid hro
      clear own hro hlt
      generalize (rowsB rows 100).take k = rs at *
      generalize hLR : rs.length = lr at *
      have HLR := Lib.hid hLR
      clear hLR
      by_cases hkn2 : k < n
      all_goals
        first | (have hd : k = 5 := by omega) | (have hd : k = n := by omega)
        subst hd
        generalize hw9 : wr = w9 at *
        clear hw9
        go_wp2_with fail
        go_loopw [8, 9] (fun v i wr2 => ∃ (k2 : Nat) (l : List Nat), k2 ≤ 4 ∧ i = .int .i64 k2 ∧ l.length = k2 ∧ (∀ x ∈ l, x ≤ 12) ∧ wr2.ownsRow w9.heap.size 3 1 v l.length (iv l) ∧ Ext w9 wr2) (fun _ i _ => 4 - (intOf i).toNat)
        case atStart => exact ⟨0, [], by omega, rfl, rfl, by simp, World.ownsRow_nil _ _ _ _, Ext.refl _⟩
        case round =>
          obtain ⟨k2, l, hk2, rfl, hl2, hl12, own2, ext2⟩ := hrel
          have HL2 := Lib.hid hl2
          have HL12 := Lib.hid hl12
          clear hl12 hl2
          by_cases hlt2 : k2 < 4
          · have hIa := HSI.out.ext (ext.trans ext2)
            obtain ⟨b2, off2, u, hA, hu, hcell, _⟩ := hIa.1.at_ hlt2
            subst hA
            obtain ⟨z, hz, hz0, hz1⟩ : ∃ z, u = .int .i64 z ∧ -9223372036854775808 ≤ z ∧ z ≤ 9223372036854775807 := by
              rw [List.getElem?_map] at hu
              cases hq : (zs.take 4)[k2]? with
              | none => rw [hq] at hu; cases hu
              | some z =>
                rw [hq] at hu
                injection hu with hu
                have := hIa.2 z (List.mem_of_getElem? hq)
                exact ⟨z, hu.symm, this.1, this.2⟩
            subst hz
            clear hu hIa
            have hra := aroundZ_bound z 13 (by omega)
            have hln : l.length ≤ 1000000 := by rw [HL2.out]; omega
            obtain ⟨v3, w3, hrun3, own3, hg3⟩ := app_int (w := wr) (aroundZ z 13) (aroundZ z 13).toNat (by omega) (by omega) hln own2 ext2.size
            have ext3 : Ext w9 w3 := (ext2.alloc _).grown hg3 fun k hk => (own2.lt k hk).1
            have hl3 : (l ++ [(aroundZ z 13).toNat]).length = k2 + 1 := by rw [List.length_append, HL2.out]; rfl
            have hl4 : ∀ x ∈ l ++ [(aroundZ z 13).toNat], x ≤ 12 := fun x hx => by
              rcases List.mem_append.1 hx with h | h
              · exact HL12.out x h
              · simp at h
                omega
            have HL3 := Lib.hid hl3
            have HL4 := Lib.hid hl4
            clear own2 ext2 hg3 hl3 hl4 hln
            go_wp2_with fail
            refine (around_any z 13 _ hz0 hz1 (by omega) (by omega)).mono ?_
            rintro e w2 ⟨rfl, rfl⟩
            generalize (aroundZ z 13).toNat = zn at *
            generalize aroundZ z 13 = za at *
            go_wp2_with (first | (at_builtin; refine wpList_append_run rfl (.tmp 45) (.tmp 51) _ rfl _ _ rfl rfl v3 w3 hrun3 ?_) | fail)
            go_roundw
            case rel => exact ⟨k2 + 1, _, by omega, by go_num, HL3.out, HL4.out, own3, ext3⟩
            case measure => simp [intOf]; omega
          · obtain ⟨As, cs, hv, sees⟩ := Sees.of_own own2
            subst hv
            have hSI : SeesI wr As l.length cs (l.map fun k : Nat => (k : Int)) := ⟨by rw [← iv_ints]; exact sees, fun z hz => by
              simp only [List.mem_map] at hz
              obtain ⟨x, hx, rfl⟩ := hz
              have := HL12.out x hx
              omega⟩
            have hblk := heap_alloc_new wr (.cells #[.slice A1 4 c1, .slice As l.length cs, .slice none 0 0] 57)
            have ea : Ext wr (wr.alloc (.cells #[.slice A1 4 c1, .slice As l.length cs, .slice none 0 0] 57)) := (Ext.refl _).alloc _
            have hall : ∀ j, j < 3 → ∃ Az nz cz zs', (wr.alloc (.cells #[.slice A1 4 c1, .slice As l.length cs, .slice none 0 0] 57)).cell? ⟨wr.heap.size, j, none⟩ = some (.slice Az nz cz) ∧ SeesI (wr.alloc (.cells #[.slice A1 4 c1, .slice As l.length cs, .slice none 0 0] 57)) Az nz cz zs' := fun j hj => by
              have hc := fun i => cell_of_row _ wr.heap.size i _ _ _ hblk
              match j, hj with
              | 0, _ => exact ⟨_, _, _, _, by simp [hc 0], (HSI.out.ext (ext.trans ext2)).ext ea⟩
              | 1, _ => exact ⟨_, _, _, _, by simp [hc 1], hSI.ext ea⟩
              | 2, _ => exact ⟨none, 0, 0, [], by simp [hc 2], ⟨Sees.nil _, by simp⟩⟩
            have HAll := Lib.hid hall
            have seeoA := (seeo.ext ext2).ext ea
            have extA := (ext.trans ext2).trans ea
            clear hall hblk hSI sees own2 ext2 ext ea seeo
            generalize hll : l.length = ll at *
            clear hll
            go_wp2_with fail
            generalize wr.alloc (.cells #[.slice A1 4 c1, .slice As ll cs, .slice none 0 0] 57) = wA at *
            generalize wr.heap.size = zA at *
            go_loopw [11] (fun i wr => ∃ k3 : Nat, k3 ≤ 3 ∧ i = .int .i64 k3 ∧ Ext wA wr) (fun i _ => 3 - (intOf i).toNat)
            case atStart => exact ⟨0, by omega, rfl, Ext.refl _⟩
            case round =>
              obtain ⟨k3, hk3, rfl, ext3⟩ := hrel
              by_cases hlt3 : k3 < 3
              · obtain ⟨Az, nz, cz, zs', hcell, hSz⟩ := HAll.out k3 hlt3
                have hcell0 := ext3.cell hcell
                go_wp2_with fail
                refine (mall_any Az Ao nz cz _ co zs' rs _ (hSz.ext ext3) (seeoA.ext ext3) (by omega) HRO.out).mono ?_
                rintro e w2 ⟨v2, rfl, own2, e2⟩
                obtain ⟨A2, c2, rfl, see2⟩ := Sees.of_own own2
                have ext4 := ext3.trans e2
                have hcell1 := ext4.cell hcell
                clear own2 hcell0 ext3 e2
                go_wp2_with fail
                refine (rmall_any Az Ao nz cz _ co zs' rs _ (hSz.ext ext4) (seeoA.ext ext4) (by omega) HRO.out).mono ?_
                rintro e w3 ⟨v3, rfl, own3, e3⟩
                obtain ⟨A3, c3, rfl, see3⟩ := Sees.of_own own3
                have ext5 := ext4.trans e3
                have h2 := str_of (see2.ext e3)
                have h3 := str_of see3
                clear own3 hcell1 ext4 e3 see2 see3 hcell hSz
                generalize allE (szOf zs') 0 rs = ev at *
                go_wp2
                go_roundw
                case rel => exact ⟨k3 + 1, by omega, by go_num, ext5⟩
                case measure => simp [intOf]; omega
              · obtain rfl : k3 = 3 := by omega
                clear HAll
                go_wp2_with fail
                refine (markLives_any _).mono ?_
                rintro e w6 ⟨rfl, e6⟩
                go_wp2
                go_ret
                exact ⟨rfl, (extA.trans ext3).trans e6⟩
theorem mall_walk (A A1 : Option Addr) (n c n1 c1 : Nat) (rows : List (List Int)) (zs : List Int) (w : World) (hs : SeesRows .u8 w A n c rows) (hs1 : Sees w A1 n1 c1 (zs.map (Value.int .i64))) (hq : ∀ z ∈ zs, (Lit.int .i64 z).wf = true) :
    Calls Try.prog 12 #[.slice A n c, .slice A1 n1 c1] w fun e w' => e = .returned (.bool true) ∧ Ext w w' := by
  have hI : SeesI w A1 n1 c1 zs := ⟨hs1, fun z hz => bounds_i64 (hq z hz)⟩
  by_cases hK : n1 ≤ 4
  · exact mall_a A A1 n c n1 c1 rows zs w hs hI hK
  · exact mall_b A A1 n c n1 c1 rows zs w hs hI (by omega)
end Go.Proofs.Ytefkjoooecphaaa
