/-
  The statement PipeNews: its walk.
-/
import Derived.Test.YtjdcbmelladceaaPipK
import Derived.Test.YtjdcbmelladceaaCopy
namespace Go.Proofs.Ytjdcbmelladceaa
open Go Go.RowKit
set_option linter.unusedVariables false
set_option linter.unusedSimpArgs false
/-- May a script be? -/
def mayB (z : List Int) : Bool := okB z && (z.isEmpty || smB z)
theorem smB_take_le {z : List Int} {k : Nat} (h : smB (z.take k) = true) : smB z = true := by
  unfold smB at h ⊢
  rw [List.any_eq_true] at h ⊢
  obtain ⟨x, hx, hp⟩ := h
  exact ⟨x, List.mem_of_mem_take hx, hp⟩
set_option maxRecDepth 20000 in
theorem may_any (A : Option Addr) (n c : Nat) (z : List Int) (w : World) (h : Sees w A n c (z.map (Value.int .i64))) (hb : ∀ x ∈ z, -9223372036854775808 ≤ x ∧ x ≤ 9223372036854775807) :
    Calls Try.prog 23 #[.slice A n c] w fun e w' => e = .returned (.bool (mayB z)) ∧ w = w' := by
  have hle := h.le
  have hmx := h.max
  have hlen := h.len
  rw [List.length_map] at hlen
  unfold maxLen at hmx
  have H := Lib.hid h
  have HLEN := Lib.hid hlen
  obtain ⟨em, hem⟩ : ∃ em, z.isEmpty = em := ⟨_, rfl⟩
  have hn0 : ((n : Int) == 0) = em := by
    rw [← hem, ← hlen]
    cases z <;> simp
    omega
  have HEM := Lib.hid hem
  clear h hlen hem
  go_enter Try.func23, Try.ntmps23
  go_wp2_with fail
  go_loop [3, 4] (fun sv iv => ∃ k : Nat, k ≤ n ∧ iv = .int .i64 (k : Int) ∧ sv = .bool (em || smB (z.take k)) ∧ okB (z.take k) = true) (fun _ iv => n - (intOf iv).toNat)
  case atStart => exact ⟨0, by omega, rfl, by first | rfl | simp [smB], rfl⟩
  case round =>
    obtain ⟨k, hk, rfl, rfl, hok⟩ := hrel
    have HOK := Lib.hid hok
    clear hok
    by_cases hlt : k < n
    · obtain ⟨b, off, u, hA, hu, hc, _⟩ := H.out.at_ hlt
      subst hA
      obtain ⟨x, hx⟩ : ∃ x, z[k]? = some x := ⟨z[k]'(by rw [HLEN.out]; exact hlt), List.getElem?_eq_getElem _⟩
      have hu2 : u = .int .i64 x := by
        rw [List.getElem?_map, hx] at hu
        injection hu with hu
        exact hu.symm
      subst hu2
      obtain ⟨hb0, hb1⟩ := hb x (List.mem_of_getElem? hx)
      have HX := Lib.hid hx
      have HB := Lib.hid hb
      clear hx hu hb hn0
      obtain ⟨sb, hsb⟩ : ∃ sb, (em || smB (z.take k)) = sb := ⟨_, rfl⟩
      have HSB := Lib.hid hsb
      rw [hsb]
      clear hsb
      by_cases hn : x < 0
      · go_wp2
        go_ret
        exact ⟨ret_bool (by unfold mayB; rw [okB_bad z k x HX.out hn]; rfl), rfl⟩
      · by_cases hp : 0 < x
        · cases sb
          · go_wp2
            go_round
            case rel => exact ⟨k + 1, by omega, by go_num, by rw [smB_snoc z k x HX.out, ← Bool.or_assoc, HSB.out]; simp [hp], by rw [okB_snoc z k x HX.out, HOK.out]; simp; omega⟩
            case measure => simp [intOf]; omega
          · go_wp2
            go_round
            case rel => exact ⟨k + 1, by omega, by go_num, by rw [smB_snoc z k x HX.out, ← Bool.or_assoc, HSB.out]; simp, by rw [okB_snoc z k x HX.out, HOK.out]; simp; omega⟩
            case measure => simp [intOf]; omega
        · cases sb
          · go_wp2
            go_round
            case rel => exact ⟨k + 1, by omega, by go_num, by rw [smB_snoc z k x HX.out, ← Bool.or_assoc, HSB.out]; simp [hp], by rw [okB_snoc z k x HX.out, HOK.out]; simp; omega⟩
            case measure => simp [intOf]; omega
          · go_wp2
            go_round
            case rel => exact ⟨k + 1, by omega, by go_num, by rw [smB_snoc z k x HX.out, ← Bool.or_assoc, HSB.out]; simp, by rw [okB_snoc z k x HX.out, HOK.out]; simp; omega⟩
            case measure => simp [intOf]; omega
    · obtain rfl : k = n := by omega
      have HF : Hid ((em || smB (z.take k)) = mayB z) := Lib.hid (by
        have h1 := HOK.out
        unfold mayB
        rw [List.take_of_length_le (by rw [HLEN.out]; exact Nat.le_refl _)] at h1 ⊢
        rw [h1, HEM.out]
        rfl)
      clear hn0
      go_wp2
      go_ret
      exact ⟨ret_bool HF.out, rfl⟩
def PNewM (w : World) (e : Ending) (w' : World) : Prop := ∃ z', PNew w z' e w' ∧ Goes z'
theorem pnew_may (A : Option Addr) (n c : Nat) (z : List Int) (w : World) (h : Sees w A n c (z.map (Value.int .i64))) (hm : mayB z = true) (hb : ∀ x ∈ z, x ≤ 9223372036854775807) (hl : z.length ≤ 1000) :
    Calls Try.prog 10 #[.slice A n c] w (PNewM w) := by
  have hlen := h.len
  rw [List.length_map] at hlen
  cases z with
  | nil =>
    simp at hlen
    subst hlen
    exact (pnew_default A c w).mono fun e w' h => ⟨_, h, by decide, 0, by decide, by decide⟩
  | cons a l =>
    unfold mayB at hm
    simp only [List.isEmpty_cons, Bool.false_or] at hm
    refine (pnew_ok A n c (a :: l) w h (by simp) hm (fun x hx => ⟨?_, hb x hx⟩) hl).mono fun e w' h => ⟨_, h, goes_of ?_⟩
    · have h2 : okB (a :: l) = true := by
        cases h3 : okB (a :: l)
        · rw [h3] at hm; cases hm
        · rfl
      unfold okB at h2
      rw [List.all_eq_true] at h2
      simpa using h2 x hx
    · cases h3 : smB (a :: l)
      · rw [h3, Bool.and_false] at hm; cases hm
      · rfl
theorem pnew_mayno (A : Option Addr) (n c : Nat) (z : List Int) (w : World) (h : Sees w A n c (z.map (Value.int .i64))) (hm : mayB z = false) (hb : ∀ x ∈ z, -9223372036854775808 ≤ x ∧ x ≤ 9223372036854775807) :
    Calls Try.prog 10 #[.slice A n c] w fun e w' => e = .returned (.tuple #[.pointer none, .int .i64 1]) ∧ w = w' := by
  cases z with
  | nil => exact absurd hm (by decide)
  | cons a l =>
    unfold mayB at hm
    simp only [List.isEmpty_cons, Bool.false_or] at hm
    exact pnew_bad A n c (a :: l) w h (by simp) hm hb
theorem make_ints (n : Nat) (hn : n ≤ 1000) (w : World) :
    (Instr.makeSlice 22 (.int .i64 (n : Int)) (.int .i64 (n : Int))).run Try.prog w = .ok (.slice (some ⟨w.heap.size, 0, none⟩) n n) (w.alloc (.cells (madeCells #[.int .i64 0] n) 3)) := by
  obtain ⟨i0, hi, hz0, hz1, hz2⟩ := infoInt_at
  have h := run_make (P := Try.prog) w 22 3 i0 _ Try.underlying22 hi hz0 .i64 .i64 (n : Int) (n : Int) (by omega) (by omega) (by rw [hz2]; omega) (by omega)
  rw [hz1] at h
  simpa [Value.cells] using h
theorem made_ints (w : World) (n : Nat) (hn : n ≤ 1000) : Sees (w.alloc (.cells (madeCells #[.int .i64 0] n) 3)) (some ⟨w.heap.size, 0, none⟩) n n ((List.replicate n (0 : Int)).map (Value.int .i64)) := by
  have h1 : (madeCells #[.int .i64 0] n).toList = List.replicate n (Value.int .i64 0) := toList_madeCells_one _ _
  have h2 : (madeCells #[.int .i64 0] n).size = n := by simp [size_madeCells]
  have h3 := sees_new w 3 (madeCells #[.int .i64 0] n) (by rw [h2]; unfold maxLen; omega)
  rw [h1, h2] at h3
  simpa using h3
/-- append(s, x), s full. -/
theorem app_full {w : World} {A : Option Addr} {n : Nat} {z : List Int} (x : Int) (h : Sees w A n n (z.map (Value.int .i64))) (hn : n ≤ 1000) :
    ∃ A' c' w', (Builtin.append_ #[22, 22] 22 #[.slice A n n, .slice (some ⟨w.heap.size, 0, none⟩) 1 1]).run Try.prog (w.alloc (.cells #[.int .i64 x] 3)) = .ok (.slice A' (n + 1) c') w' ∧
      Sees w' A' (n + 1) c' ((z ++ [x]).map (Value.int .i64)) ∧ Ext w w' := by
  obtain ⟨i0, hi, hz0, hz1, hz2⟩ := infoInt_at
  have he : Ext w (w.alloc (.cells #[.int .i64 x] 3)) := (Ext.refl _).alloc _
  obtain ⟨v', w', hrun, hown, hg⟩ := run_append_full (P := Try.prog) (w := w.alloc (.cells #[.int .i64 x] 3)) 22 22 3 i0 _ 8 Try.underlying22 hi hz0 hz1 hz2 rfl A n n _ (h.ext he)
    (some ⟨w.heap.size, 0, none⟩) 1 1 [.int .i64 x] (sees_new w 3 #[.int .i64 x] (by simp [maxLen])) (by simp [Value.oneCell']) (by omega) (by unfold maxLen; omega) (by omega)
  obtain ⟨A', c', rfl, hs⟩ := Sees.of_own hown
  exact ⟨A', c', w', hrun, by rw [ints_map_snoc]; exact hs, he.grown hg fun k hk => by cases hk⟩
/-- Three scripts in a row. -/
def Three (w : World) (g : Nat) (B : Int → Prop) : Prop :=
  ∀ i : Nat, i < 3 → ∃ (A : Option Addr) (n c : Nat) (z : List Int), w.cell? ⟨g, i, none⟩ = some (.slice A n c) ∧ Sees w A n c (z.map (Value.int .i64)) ∧ z.length ≤ 6 ∧ (∀ x ∈ z, B x)
theorem Three.ext {w w' : World} {g : Nat} {B : Int → Prop} (h : Three w g B) (he : Ext w w') : Three w' g B := fun i hi => by
  obtain ⟨A, n, c, z, h1, h2, h3⟩ := h i hi
  exact ⟨A, n, c, z, he.cell h1, h2.ext he, h3⟩
set_option maxRecDepth 20000 in
set_option maxHeartbeats 4000000 in
theorem pnews_walk (A : Option Addr) (n c : Nat) (zs : List Int) (many more : Int) (w : World) (hs : Sees w A n c (zs.map (Value.int .i64))) (hb : ∀ x ∈ zs, -9223372036854775808 ≤ x ∧ x ≤ 9223372036854775807)
    (hn0 : -9223372036854775808 ≤ many) (hn1 : many ≤ 9223372036854775807) (hm : -9223372036854775808 ≤ more ∧ more ≤ 9223372036854775807) :
    Calls Try.prog 5 #[.slice A n c, .int .i64 many, .int .i64 more] w fun e w' => e = .returned (.bool true) ∧ Ext w w' := by
  have hle := hs.le
  have hmx := hs.max
  unfold maxLen at hmx
  have HM := Lib.hid hm
  have HB := Lib.hid hb
  obtain ⟨k, hk⟩ : ∃ k, min n 5 = k := ⟨_, rfl⟩
  have gmin : (if (5 : Int) < (n : Int) then (5 : Int) else (n : Int)) = (k : Int) := by split <;> omega
  have hkn : k ≤ n := by omega
  have hk5 : k ≤ 5 := by omega
  have hs5 := hs.take k hkn
  rw [← List.map_take] at hs5
  have HS := Lib.hid hs5
  have hkn2 : (k : Int) ≤ (n : Int) := by omega
  clear hs hs5 hk hm hb
  go_enter Try.func5, Try.ntmps5
  go_wp2_with fail
  refine (around_any many 5 w hn0 hn1 (by omega) (by omega)).mono ?_
  rintro e w0 ⟨rfl, rfl⟩
  have hr := aroundZ_bound many 5 (by omega)
  obtain ⟨r, hrr⟩ : ∃ r, aroundZ many 5 = r := ⟨_, rfl⟩
  rw [hrr] at hr ⊢
  obtain ⟨r0, r1⟩ := hr
  obtain ⟨m, rfl⟩ := Int.eq_ofNat_of_zero_le r0
  clear hrr r0
  have hmk := make_ints m (by omega) w
  have hz := made_ints w m (by omega)
  have ez : Ext w (w.alloc (.cells (madeCells #[.int .i64 0] m) 3)) := (Ext.refl w).alloc _
  obtain ⟨w1, hw1⟩ : ∃ w1, w.alloc (.cells (madeCells #[.int .i64 0] m) 3) = w1 := ⟨_, rfl⟩
  rw [hw1] at hmk hz ez
  obtain ⟨A2, c2, w2, hrun, hs2, e2⟩ := app_full more hz (by omega)
  have h3 := sees_new w2 22 #[.slice A k c, .slice (some ⟨w.heap.size, 0, none⟩) m m, .slice A2 (m + 1) c2] (by simp [maxLen])
  have e3 : Ext w2 (w2.alloc (.cells #[.slice A k c, .slice (some ⟨w.heap.size, 0, none⟩) m m, .slice A2 (m + 1) c2] 22)) := (Ext.refl w2).alloc _
  have HTH : Hid (Three (w2.alloc (.cells #[.slice A k c, .slice (some ⟨w.heap.size, 0, none⟩) m m, .slice A2 (m + 1) c2] 22)) w2.heap.size (fun x => -9223372036854775808 ≤ x ∧ x ≤ 9223372036854775807)) := Lib.hid (fun i hi => by
    have hcell := heap_alloc_new w2 (.cells #[.slice A k c, .slice (some ⟨w.heap.size, 0, none⟩) m m, .slice A2 (m + 1) c2] 22)
    match i, hi with
    | 0, _ => exact ⟨A, k, c, zs.take k, by rw [cell_of_row _ _ _ _ _ _ hcell]; rfl, HS.out.ext ((ez.trans e2).trans e3), by rw [List.length_take]; omega, fun x hx => HB.out x (List.mem_of_mem_take hx)⟩
    | 1, _ => exact ⟨_, m, m, _, by rw [cell_of_row _ _ _ _ _ _ hcell]; rfl, hz.ext (e2.trans e3), by simp; omega, fun x hx => by
        have := List.eq_of_mem_replicate hx
        omega⟩
    | 2, _ => exact ⟨A2, m + 1, c2, _, by rw [cell_of_row _ _ _ _ _ _ hcell]; rfl, hs2.ext e3, by simp; omega, fun x hx => by
        simp at hx
        have := HM.out
        rcases hx with ⟨_, rfl⟩ | rfl
        · omega
        · omega⟩)
  have E3 := Lib.hid ((ez.trans e2).trans e3)
  have hm4 : m ≤ 4 := by omega
  clear hz ez hs2 e2 h3 e3
  go_wp2_with (first | (at_builtin; refine wpList_append_run rfl (.tmp 24) (.tmp 26) _ rfl _ _ rfl rfl _ w2 hrun ?_) | fail)
  obtain ⟨w4, hw4⟩ : ∃ w4, w2.alloc (.cells #[.slice A k c, .slice (some ⟨w.heap.size, 0, none⟩) m m, .slice A2 (m + 1) c2] 22) = w4 := ⟨_, rfl⟩
  rw [hw4] at HTH E3 ⊢
  obtain ⟨g, hg⟩ : ∃ g, w2.heap.size = g := ⟨_, rfl⟩
  rw [hg] at HTH ⊢
  clear hw4 hg hw1 hmk hrun
  go_loopw [10] (fun iv wr => ∃ i : Nat, i ≤ 3 ∧ iv = .int .i64 (i : Int) ∧ Ext w4 wr) (fun iv _ => 3 - (intOf iv).toNat)
  case atStart => exact ⟨0, by omega, rfl, Ext.refl _⟩
  case round =>
    obtain ⟨i, hi3, rfl, ext⟩ := hrel
    have EX := Lib.hid ext
    clear ext
    by_cases hi : i < 3
    · obtain ⟨Ai, ni, ci, zi, hc, hsi, hl6, hbi⟩ := HTH.out.ext EX.out i hi
      have HSI := Lib.hid hsi
      have HBI := Lib.hid hbi
      have HL6 := Lib.hid hl6
      clear hsi hbi hl6
      cases hmay : mayB zi with
      | true =>
        have HNW := Lib.hid (pnew_may Ai ni ci zi wr HSI.out hmay (fun x hx => (HBI.out x hx).2) (by have := HL6.out; omega))
        have HMY : ∀ wx, Ext wr wx → Hid (Calls Try.prog 23 #[.slice Ai ni ci] wx fun e w' => e = .returned (.bool true) ∧ wx = w') := fun wx he => Lib.hid (by rw [← hmay]; exact may_any Ai ni ci zi wx (HSI.out.ext he) HBI.out)
        clear hmay
        go_wp2_with fail
        refine HNW.out.mono ?_
        rintro e w5 ⟨z', ⟨tb, cb, rfl, hp, e5⟩, hgo⟩
        have HP := Lib.hid hp
        have E5 := Lib.hid e5
        have HGO := Lib.hid hgo
        have d1 := e5.cell hc
        have HMZ := HMY w5 e5
        clear hp e5 hgo hc HNW HMY
        go_wp2_with fail
        refine HMZ.out.mono ?_
        rintro e w6 ⟨rfl, rfl⟩
        go_wp2_with fail
        refine (pleft_any _ tb cb _ _ _ z' 0 w5 HP.out.1).mono ?_
        rintro e w6 ⟨rfl, rfl⟩
        go_wp2_with fail
        refine (ptexts_any _ tb cb _ z' 0 w5 HP.out).mono ?_
        rintro e w6 ⟨rfl, rfl⟩
        go_wp2_with fail
        refine (pdrain_any _ tb cb [] z' 0 w5 HP.out (fun j q => q.2) HGO.out (by simp) (by
          have h1 := mea_le HGO.out 0 0 HGO.out.1
          have h2 := HP.out.2.2.2.2.2
          simp at h1 ⊢
          omega)).mono ?_
        rintro e w7 ⟨Ag, cg, rs, at7, rfl, hox, hdr, hp7, hk7, hob7, hrl⟩
        obtain rfl : rs = [] := by
          cases rs with
          | nil => rfl
          | cons a l => exact absurd rfl hdr.1
        have E7 := Lib.hid (ext_two (EX.out.trans E5.out) hk7 (by have := HP.out.1.inF; have := EX.out.size; omega) (by have := HP.out.1.inF; have := EX.out.size; omega))
        clear hox hdr hp7 hk7 hob7 hrl d1
        go_wp2_with fail
        go_roundw
        case rel => exact ⟨i + 1, by omega, by go_num, E7.out⟩
        case measure => simp [intOf]; omega
      | false =>
        have HNW := Lib.hid (pnew_mayno Ai ni ci zi wr HSI.out hmay HBI.out)
        have HMY : Hid (Calls Try.prog 23 #[.slice Ai ni ci] wr fun e w' => e = .returned (.bool false) ∧ wr = w') := Lib.hid (by rw [← hmay]; exact may_any Ai ni ci zi wr HSI.out HBI.out)
        clear hmay
        go_wp2_with fail
        refine HNW.out.mono ?_
        rintro e w5 ⟨rfl, rfl⟩
        go_wp2_with fail
        refine HMY.out.mono ?_
        rintro e w5 ⟨rfl, rfl⟩
        clear hc
        go_wp2_with fail
        go_roundw
        case rel => exact ⟨i + 1, by omega, by go_num, EX.out⟩
        case measure => simp [intOf]; omega
    · obtain rfl : i = 3 := by omega
      go_wp2_with fail
      refine (lives5 wr).mono ?_
      rintro e w8 ⟨rfl, e8⟩
      have E9 := Lib.hid ((E3.out.trans EX.out).trans e8)
      clear e8
      go_wp2
      go_ret
      exact ⟨rfl, E9.out⟩
end Go.Proofs.Ytjdcbmelladceaa
