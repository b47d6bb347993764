/-
  Layer 5: scripts that may be, made of any; whether a script may be.
-/
import Derived.Test.YtjdcbmelladceaaPipI
namespace Go.Proofs.Ytjdcbmelladceaa
open Go Go.RowKit
set_option linter.unusedVariables false
set_option linter.unusedSimpArgs false
def goodK (zs : List Int) (k : Nat) : List Int := (zs.take k).map fun x => aroundZ x 10
def goodZ (zs : List Int) : List Int := if smB (goodK zs 5) then goodK zs 5 else goodK zs 5 ++ [3]
theorem goodK_snoc (zs : List Int) (k : Nat) (x : Int) (hx : zs[k]? = some x) : goodK zs (k + 1) = goodK zs k ++ [aroundZ x 10] := by
  unfold goodK
  rw [List.take_add_one, hx]
  simp
theorem goodK_len (zs : List Int) (k : Nat) (hk : k ≤ zs.length) : (goodK zs k).length = k := by
  unfold goodK
  rw [List.length_map, List.length_take]
  omega
theorem goodK_mem (zs : List Int) (k : Nat) : ∀ x ∈ goodK zs k, 0 ≤ x ∧ x ≤ 9 := fun x hx => by
  unfold goodK at hx
  obtain ⟨y, _, rfl⟩ := List.mem_map.1 hx
  have := aroundZ_bound y 10 (by omega)
  omega
theorem okB_all {z : List Int} (h : ∀ x ∈ z, 0 ≤ x) : okB z = true := by
  unfold okB
  rw [List.all_eq_true]
  intro x hx
  simpa using h x hx
theorem smB_app (a b : List Int) : smB (a ++ b) = (smB a || smB b) := by simp [smB]
theorem goodZ_mem (zs : List Int) : ∀ x ∈ goodZ zs, 0 ≤ x ∧ x ≤ 9 := fun x hx => by
  unfold goodZ at hx
  split at hx
  · exact goodK_mem _ _ x hx
  · simp at hx
    rcases hx with hx | rfl
    · exact goodK_mem _ _ x hx
    · omega
theorem goodZ_some (zs : List Int) : smB (goodZ zs) = true := by
  unfold goodZ
  split
  · assumption
  · rw [smB_app]; simp [smB]
theorem goodZ_len (zs : List Int) : 0 < (goodZ zs).length ∧ (goodZ zs).length ≤ 6 := by
  have h5 : (goodK zs 5).length ≤ 5 := by unfold goodK; rw [List.length_map, List.length_take]; omega
  have hs := goodZ_some zs
  constructor
  · cases hg : goodZ zs with
    | nil => rw [hg] at hs; simp [smB] at hs
    | cons a l => simp
  · unfold goodZ
    split
    · omega
    · simp; omega
theorem goes_of {z : List Int} (h : smB z = true) : Goes z := by
  unfold smB at h
  rw [List.any_eq_true] at h
  obtain ⟨x, hx, hp⟩ := h
  obtain ⟨j, hj, rfl⟩ := List.mem_iff_getElem.1 hx
  refine ⟨by omega, j, hj, ?_⟩
  unfold szF
  rw [List.getD_eq_getElem?_getD, List.getElem?_eq_getElem hj]
  simp at hp ⊢
  omega
theorem goodZ_goes (zs : List Int) : Goes (goodZ zs) := goes_of (goodZ_some zs)
theorem goodZ_may (zs : List Int) : (okB (goodZ zs) && smB (goodZ zs)) = true := by
  rw [goodZ_some, okB_all fun x hx => (goodZ_mem zs x hx).1]
  rfl
theorem ints_map_snoc (zs : List Int) (x : Int) : (zs ++ [x]).map (Value.int .i64) = zs.map (Value.int .i64) ++ [.int .i64 x] := by simp
theorem infoInt2 : (Try.prog.info? 3).map (fun i => (i.zero, i.size, i.bytes)) = some (some (.int .i64 0), 1, 8) := by kernel_rfl
/-- An int behind ints of the call's own. -/
theorem own_int {w : World} {base n : Nat} {v : Value} {zs : List Int} (x : Int) (h : w.ownsRow base 3 1 v n (zs.map (Value.int .i64))) (hb : base ≤ w.heap.size) (hn : n ≤ 1000) :
    ∃ A c w', (Builtin.append_ #[22, 22] 22 #[v, .slice (some ⟨w.heap.size, 0, none⟩) 1 1]).run Try.prog (w.alloc (.cells #[.int .i64 x] 3)) = .ok (.slice A (n + 1) c) w' ∧
      w'.ownsRow base 3 1 (.slice A (n + 1) c) (n + 1) ((zs ++ [x]).map (Value.int .i64)) ∧ Below base w w' := by
  obtain ⟨i0, hi, hz0, hz1, hz2⟩ : ∃ j, Try.prog.info? 3 = some j ∧ j.zero = some (.int .i64 0) ∧ j.size = 1 ∧ j.bytes = 8 := by
    have := infoInt2
    cases hh : Try.prog.info? 3 with
    | none => rw [hh] at this; cases this
    | some j =>
      rw [hh] at this
      simp at this
      exact ⟨j, rfl, this⟩
  have he : Ext w (w.alloc (.cells #[.int .i64 x] 3)) := (Ext.refl _).alloc _
  obtain ⟨v', w', hrun, hown, hg, hat⟩ := run_append_sees (P := Try.prog) (w := w.alloc (.cells #[.int .i64 x] 3)) base 22 22 3 i0 _ 8 Try.underlying22 hi hz0 hz1 hz2 rfl v n _ (own_ext h he)
    (some ⟨w.heap.size, 0, none⟩) 1 1 [.int .i64 x] (sees_new w 3 #[.int .i64 x] (by simp [maxLen])) (by simp [Value.oneCell']) (by unfold maxLen; omega) (by omega) (by simp; omega)
  obtain ⟨A, c, rfl, _⟩ := Sees.of_own hown
  exact ⟨A, c, w', hrun, by rw [ints_map_snoc]; exact hown, Below.grown (Below.alloc (Below.refl base w) hb _) hg (by simp; omega) fun k hk => (h.lt k hk).1⟩
def PGood (w : World) (z : List Int) (e : Ending) (w' : World) : Prop := ∃ A c, e = .returned (.slice A z.length c) ∧ Sees w' A z.length c (z.map (Value.int .i64)) ∧ Ext w w'
theorem Ext.trans' {w a b : World} (h : Ext w a) (k : Below w.heap.size a b) : Ext w b := Below.trans h k
set_option maxRecDepth 20000 in
theorem good_any (A : Option Addr) (n c : Nat) (zs : List Int) (w : World) (h : Sees w A n c (zs.map (Value.int .i64))) (hb : ∀ x ∈ zs, -9223372036854775808 ≤ x ∧ x ≤ 9223372036854775807) :
    Calls Try.prog 9 #[.slice A n c] w (PGood w (goodZ zs)) := by
  have hle := h.le
  have hmx := h.max
  have hlen := h.len
  rw [List.length_map] at hlen
  unfold maxLen at hmx
  have H := Lib.hid h
  have HLEN := Lib.hid hlen
  have HBD := Lib.hid hb
  clear h hlen hb
  go_enter Try.func9, Try.ntmps9
  go_wp2_with fail
  go_loopw [3, 4, 5] (fun ov sv iv wr => ∃ k : Nat, k ≤ n ∧ k ≤ 5 ∧ iv = .int .i64 (k : Int) ∧ sv = .bool (smB (goodK zs k)) ∧ wr.ownsRow w.heap.size 3 1 ov k ((goodK zs k).map (Value.int .i64)) ∧ Ext w wr) (fun _ _ iv _ => 5 - (intOf iv).toNat)
  case atStart => exact ⟨0, by omega, by omega, rfl, rfl, World.ownsRow_nil _ _ _ _, Ext.refl _⟩
  case round =>
    obtain ⟨k, hk, hk5, rfl, rfl, hown, ext⟩ := hrel
    obtain ⟨Ao, co, rfl, hso⟩ := Sees.of_own hown
    have HO := Lib.hid hown
    have EX := Lib.hid ext
    have HSO := Lib.hid hso
    obtain ⟨sb, hsb⟩ : ∃ sb, smB (goodK zs k) = sb := ⟨_, rfl⟩
    have HSB := Lib.hid hsb
    rw [hsb]
    clear hown ext hso hsb
    by_cases hlt : k < n ∧ k < 5
    · obtain ⟨hlt1, hlt2⟩ := hlt
      obtain ⟨b, off, u, hA, hu, hc, _⟩ := (H.out.ext EX.out).at_ hlt1
      subst hA
      obtain ⟨x, hx⟩ : ∃ x, zs[k]? = some x := ⟨zs[k]'(by rw [HLEN.out]; exact hlt1), List.getElem?_eq_getElem _⟩
      have hu2 : u = .int .i64 x := by
        rw [List.getElem?_map, hx] at hu
        injection hu with hu
        exact hu.symm
      subst hu2
      have hxb := HBD.out x (List.mem_of_getElem? hx)
      have HX := Lib.hid hx
      clear hx hu
      go_wp2_with fail
      refine (around_any x 10 wr hxb.1 hxb.2 (by omega) (by omega)).mono ?_
      rintro e w1 ⟨rfl, rfl⟩
      have hab := aroundZ_bound x 10 (by omega)
      obtain ⟨y, hy⟩ : ∃ y, aroundZ x 10 = y := ⟨_, rfl⟩
      rw [hy] at hab ⊢
      obtain ⟨hy0, hy1⟩ := hab
      obtain ⟨A2, c2, w2, hrun, hown2, hbel⟩ := own_int y HO.out EX.out.size (by omega)
      have HFIN : Hid (w2.ownsRow w.heap.size 3 1 (.slice A2 (k + 1) c2) (k + 1) ((goodK zs (k + 1)).map (Value.int .i64)) ∧ Ext w w2 ∧ smB (goodK zs (k + 1)) = (sb || decide (0 < y))) := Lib.hid ⟨by rw [goodK_snoc zs k x HX.out, hy]; exact hown2, EX.out.trans' hbel, by rw [goodK_snoc zs k x HX.out, smB_app, HSB.out, hy]; simp [smB]⟩
      clear hown2 hbel hy hc
      by_cases hp : 0 < y
      · cases sb
        · go_wp2_with (first | (at_builtin; refine wpList_append_run rfl (.tmp 22) (.tmp 24) _ rfl _ _ rfl rfl _ w2 hrun ?_) | fail)
          go_roundw
          case rel => exact ⟨k + 1, by omega, by omega, by go_num, by rw [HFIN.out.2.2]; simp [hp], HFIN.out.1, HFIN.out.2.1⟩
          case measure => simp [intOf]; omega
        · go_wp2_with (first | (at_builtin; refine wpList_append_run rfl (.tmp 22) (.tmp 24) _ rfl _ _ rfl rfl _ w2 hrun ?_) | fail)
          go_roundw
          case rel => exact ⟨k + 1, by omega, by omega, by go_num, by rw [HFIN.out.2.2]; simp, HFIN.out.1, HFIN.out.2.1⟩
          case measure => simp [intOf]; omega
      · cases sb
        · go_wp2_with (first | (at_builtin; refine wpList_append_run rfl (.tmp 22) (.tmp 24) _ rfl _ _ rfl rfl _ w2 hrun ?_) | fail)
          go_roundw
          case rel => exact ⟨k + 1, by omega, by omega, by go_num, by rw [HFIN.out.2.2]; simp [hp], HFIN.out.1, HFIN.out.2.1⟩
          case measure => simp [intOf]; omega
        · go_wp2_with (first | (at_builtin; refine wpList_append_run rfl (.tmp 22) (.tmp 24) _ rfl _ _ rfl rfl _ w2 hrun ?_) | fail)
          go_roundw
          case rel => exact ⟨k + 1, by omega, by omega, by go_num, by rw [HFIN.out.2.2]; simp, HFIN.out.1, HFIN.out.2.1⟩
          case measure => simp [intOf]; omega
    · have hgk : goodK zs 5 = goodK zs k := by
        unfold goodK
        by_cases h5 : k = 5
        · rw [h5]
        · rw [List.take_of_length_le (by rw [HLEN.out]; omega), List.take_of_length_le (by rw [HLEN.out]; omega)]
      have hend : ¬ k < n ∨ (k < n ∧ ¬ k < 5) := by omega
      clear hlt
      obtain ⟨A2, c2, w2, hrun, hown2, hbel⟩ := own_int 3 HO.out EX.out.size (by omega)
      have hkl : (goodK zs k).length = k := goodK_len zs k (by rw [HLEN.out]; exact hk)
      cases sb
      · have HFIN : Hid (PGood w (goodZ zs) (.returned (.slice A2 (k + 1) c2)) w2) := Lib.hid ⟨A2, c2, by unfold goodZ; rw [hgk, HSB.out]; simp [hkl], by
          obtain ⟨A3, c3, hv, hs⟩ := Sees.of_own hown2
          injection hv with q1 _ q2
          subst q1 q2
          unfold goodZ
          rw [hgk, HSB.out]
          simpa [hkl] using hs, EX.out.trans' hbel⟩
        clear hown2 hbel hgk hkl
        rcases hend with he | ⟨he, he5⟩
        · go_wp2_with (first | (at_builtin; refine wpList_append_run rfl (.tmp 33) (.tmp 34) _ rfl _ _ rfl rfl _ w2 hrun ?_) | fail)
          go_ret
          exact HFIN.out
        · obtain rfl : k = 5 := by omega
          go_wp2_with (first | (at_builtin; refine wpList_append_run rfl (.tmp 33) (.tmp 34) _ rfl _ _ rfl rfl _ w2 hrun ?_) | fail)
          go_ret
          exact HFIN.out
      · have HFIN : Hid (PGood w (goodZ zs) (.returned (.slice Ao k co)) wr) := Lib.hid ⟨Ao, co, by unfold goodZ; rw [hgk, HSB.out]; simp [hkl], by
          unfold goodZ
          rw [hgk, HSB.out]
          simpa [hkl] using HSO.out, EX.out⟩
        clear hown2 hbel hgk hkl hrun
        rcases hend with he | ⟨he, he5⟩
        · go_wp2
          go_ret
          exact HFIN.out
        · obtain rfl : k = 5 := by omega
          go_wp2
          go_ret
          exact HFIN.out
end Go.Proofs.Ytjdcbmelladceaa
