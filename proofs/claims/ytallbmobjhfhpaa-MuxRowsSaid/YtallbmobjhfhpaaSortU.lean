/-
  The library's sort of few numbers (uint32): an insertion sort.
-/
import Derived.Test.YtallbmobjhfhpaaMuxA
import Derived.Test.YtallbmobjhfhpaaPln
namespace Go.Proofs.Ytallbmobjhfhpaa
open Go Go.RowKit
set_option linter.unusedVariables false
set_option linter.unusedSimpArgs false
/-! Plain words. -/
def swapF (X : Nat → Int) (j : Nat) : Nat → Int := fun k => if k = j then X (j - 1) else if k = j - 1 then X j else X k
def Srt (X : Nat → Int) (i : Nat) : Prop := ∀ a b, a < b → b < i → X a ≤ X b
def Mid (X : Nat → Int) (i j : Nat) : Prop := ∀ a b, a < b → b ≤ i → ¬ b = j → X a ≤ X b
def InjN (X : Nat → Int) (n : Nat) : Prop := ∀ a b, a < b → b < n → ¬ X a = X b
def SameV (X Y : Nat → Int) (n : Nat) : Prop := ∀ v, (∃ i, i < n ∧ X i = v) ↔ ∃ i, i < n ∧ Y i = v
theorem Srt.mid {X : Nat → Int} {i : Nat} (h : Srt X i) : Mid X i i := fun a b h1 h2 h3 => h a b h1 (by omega)
theorem Mid.srt {X : Nat → Int} {i j : Nat} (h : Mid X i j) (hj : j ≤ i) (he : j = 0 ∨ X (j - 1) ≤ X j) : Srt X (i + 1) := fun a b h1 h2 => by
  by_cases e : b = j
  · subst e
    rcases he with he | he
    · omega
    · by_cases e2 : a = b - 1
      · rw [e2]; exact he
      · exact Int.le_trans (h a (b - 1) (by omega) (by omega) (by omega)) he
  · exact h a b h1 (by omega) e
theorem Mid.swap {X : Nat → Int} {i j : Nat} (h : Mid X i j) (hj : 0 < j) (hji : j ≤ i) (he : X j < X (j - 1)) : Mid (swapF X j) i (j - 1) := fun a b h1 h2 h3 => by
  unfold swapF
  by_cases e : b = j
  · subst e
    rw [if_pos rfl, if_neg (by omega)]
    by_cases e2 : a = b - 1
    · rw [if_pos e2]; omega
    · rw [if_neg e2]; exact h a (b - 1) (by omega) (by omega) (by omega)
  · rw [if_neg e, if_neg h3]
    by_cases e2 : a = j
    · rw [if_pos e2]; exact h (j - 1) b (by omega) h2 e
    · rw [if_neg e2]
      by_cases e3 : a = j - 1
      · rw [if_pos e3]; exact h j b (by omega) h2 e
      · rw [if_neg e3]; exact h a b h1 h2 e
theorem InjN.swap {X : Nat → Int} {n j : Nat} (h : InjN X n) (hj : 0 < j) (hn : j < n) : InjN (swapF X j) n := fun a b h1 h2 => by
  have key : ∀ p q, p < n → q < n → ¬ p = q → ¬ X p = X q := fun p q hp hq hpq => by
    rcases Nat.lt_or_gt_of_ne hpq with k | k
    · exact h p q k hq
    · exact fun e => h q p k hp e.symm
  unfold swapF
  split <;> split <;> (try split) <;> (try split) <;> first | omega | exact key _ _ (by omega) (by omega) (by omega)
theorem SameV.refl (X : Nat → Int) (n : Nat) : SameV X X n := fun v => Iff.rfl
theorem SameV.swap {X Y : Nat → Int} {n j : Nat} (h : SameV X Y n) (hj : 0 < j) (hn : j < n) : SameV X (swapF Y j) n := fun v => by
  rw [h v]
  constructor
  · rintro ⟨i, hi, rfl⟩
    by_cases e : i = j
    · exact ⟨j - 1, by omega, by unfold swapF; rw [if_neg (by omega), if_pos rfl, e]⟩
    · by_cases e2 : i = j - 1
      · exact ⟨j, hn, by unfold swapF; rw [if_pos rfl, e2]⟩
      · exact ⟨i, hi, by unfold swapF; rw [if_neg e, if_neg e2]⟩
  · rintro ⟨i, hi, rfl⟩
    by_cases e : i = j
    · exact ⟨j - 1, by omega, by unfold swapF; rw [if_pos e]⟩
    · by_cases e2 : i = j - 1
      · exact ⟨j, hn, by unfold swapF; rw [if_neg e, if_pos e2]⟩
      · exact ⟨i, hi, by unfold swapF; rw [if_neg e, if_neg e2]⟩
/-- A block of numbers. -/
def RowU (w : World) (g n : Nat) (X : Nat → Int) : Prop := ∃ cur : Array Value, w.heap[g]? = some (.cells cur 22 (0, 0)) ∧ ∀ q, q < n → cur[q]? = some (.int .u32 (X q))
section
variable {w w' : World} {g n : Nat} {X : Nat → Int}
theorem RowU.heap (h : RowU w g n X) (he : w'.heap[g]? = w.heap[g]?) : RowU w' g n X := by
  obtain ⟨cur, h1, h2⟩ := h
  exact ⟨cur, he.trans h1, h2⟩
theorem RowU.lt (h : RowU w g n X) : g < w.heap.size := by
  obtain ⟨cur, h1, h2⟩ := h
  exact (Array.getElem?_eq_some_iff.1 h1).1
theorem RowU.ext (h : RowU w g n X) (he : Ext w w') : RowU w' g n X := h.heap (he.block g h.lt)
theorem RowU.cell (h : RowU w g n X) (q : Nat) (hq : q < n) : w.cell? ⟨g, q, none⟩ = some (.int .u32 (X q)) := by
  obtain ⟨cur, h1, h2⟩ := h
  rw [cell_of_row w g q _ _ _ h1]
  exact h2 q hq
theorem RowU.frozen (h : RowU w g n X) (q : Nat) : w.frozen? ⟨g, q, none⟩ = false := by
  obtain ⟨cur, h1, h2⟩ := h
  exact Lib.frozen_of_heap h1 q
theorem RowU.set (h : RowU w g n X) (q : Nat) (hq : q < n) (v : Int) : RowU (w.setCell ⟨g, q, none⟩ (.int .u32 v)) g n fun k => if k = q then v else X k := by
  obtain ⟨cur, h1, h2⟩ := h
  refine ⟨_, heap_setCell_same w g q _ _ (.int .u32 v) h1, fun k hk => ?_⟩
  have hlq : q < cur.size := (Array.getElem?_eq_some_iff.1 (h2 q hq)).1
  by_cases e : k = q
  · subst e
    simp [hlq]
  · have := h2 k hk
    simp [e, Array.getElem?_setIfInBounds, Ne.symm (show k ≠ q from e), this]
theorem RowU.congr {Y : Nat → Int} (h : RowU w g n X) (he : ∀ q, q < n → X q = Y q) : RowU w g n Y := by
  obtain ⟨cur, h1, h2⟩ := h
  exact ⟨cur, h1, fun q hq => by rw [← he q hq]; exact h2 q hq⟩
theorem RowU.swap (h : RowU w g n X) (j : Nat) (hj : 0 < j) (hn : j < n) : RowU ((w.setCell ⟨g, j, none⟩ (.int .u32 (X (j - 1)))).setCell ⟨g, j - 1, none⟩ (.int .u32 (X j))) g n (swapF X j) :=
  ((h.set j hn _).set (j - 1) (by omega) _).congr fun q hq => by
    unfold swapF
    by_cases e : q = j - 1
    · rw [if_pos e, if_neg (by omega), if_pos e]
    · rw [if_neg e]
      by_cases e2 : q = j
      · rw [if_pos e2, if_pos e2]
      · rw [if_neg e2, if_neg e2, if_neg e]
end
theorem isnan_any (x : Int) (w : World) : Calls Try.prog 50 #[.int .u32 x] w fun e w' => e = .returned (.bool false) ∧ w = w' := by
  go_enter Try.func50, Try.ntmps50
  go_wp2
  go_ret
  exact ⟨rfl, rfl⟩
theorem less_any (x y : Int) (b : Bool) (hb : decide (x < y) = b) (w : World) : Calls Try.prog 40 #[.int .u32 x, .int .u32 y] w fun e w' => e = .returned (.bool b) ∧ w = w' := by
  subst hb
  go_enter Try.func40, Try.ntmps40
  go_wp2_with fail
  refine (isnan_any x w).mono ?_
  rintro e w1 ⟨rfl, rfl⟩
  go_wp2
  go_ret
  exact ⟨rfl, rfl⟩
def Insd (w : World) (g n : Nat) (X : Nat → Int) (e : Ending) (w' : World) : Prop :=
  e = .returned (.tuple #[]) ∧ ∃ Y, RowU w' g n Y ∧ Srt Y n ∧ InjN Y n ∧ SameV X Y n ∧ Onm g g w w'
set_option maxRecDepth 20000 in
set_option maxHeartbeats 4000000 in
theorem ins_any (g n c : Nat) (hnc : n ≤ c) (hn : n ≤ 12) (X : Nat → Int) (w : World) (h : RowU w g n X) (hi : InjN X n) :
    Calls Try.prog 34 #[.slice (some ⟨g, 0, none⟩) n c, .int .i64 0, .int .i64 (n : Int)] w (Insd w g n X) := by
  have HR := Lib.hid h
  have HI := Lib.hid hi
  clear h hi
  go_enter Try.func34, Try.ntmps34
  go_wp2_with fail
  go_loopw [6] (fun iv wr => ∃ (i : Nat) (Y : Nat → Int), 1 ≤ i ∧ (i ≤ n ∨ i = 1) ∧ iv = .int .i64 (i : Int) ∧ RowU wr g n Y ∧ Srt Y i ∧ InjN Y n ∧ SameV X Y n ∧ Onm g g w wr) (fun iv _ => n + 1 - (intOf iv).toNat)
  case atStart => exact ⟨1, X, by omega, by omega, rfl, HR.out, fun a b h1 h2 => absurd h1 (by omega), HI.out, SameV.refl _ _, Onm.refl _ _ _⟩
  case round =>
    obtain ⟨i, Y, hi1, hi2, rfl, hr, hs, hj, hv, ho⟩ := hrel
    have HR1 := Lib.hid hr
    have HM1 := Lib.hid hs.mid
    have HS1 := Lib.hid hs
    have HJ1 := Lib.hid hj
    have HV1 := Lib.hid hv
    have HO1 := Lib.hid ho
    clear hr hs hj hv ho
    by_cases hin : i < n
    · go_wp2_with fail
      go_loopw [7] (fun jv wq => ∃ (j : Nat) (Z : Nat → Int), j ≤ i ∧ jv = .int .i64 (j : Int) ∧ RowU wq g n Z ∧ Mid Z i j ∧ InjN Z n ∧ SameV X Z n ∧ Onm g g w wq) (fun jv _ => (intOf jv).toNat)
      case atStart => exact ⟨i, Y, by omega, rfl, HR1.out, HM1.out, HJ1.out, HV1.out, HO1.out⟩
      case round =>
        obtain ⟨j, Z, hji, rfl, hr, hm, hj, hv, ho⟩ := hrel
        have HR2 := Lib.hid hr
        have HM2 := Lib.hid hm
        have HJ2 := Lib.hid hj
        have HV2 := Lib.hid hv
        have HO2 := Lib.hid ho
        clear hr hm hj hv ho
        by_cases hj0 : 0 < j
        · have hp : ((j : Int) - 1) = ((j - 1 : Nat) : Int) := by omega
          have x1 := (HR2.out.ext (Ext.refl wr).drew).cell j (by omega)
          have x2 := (HR2.out.ext (Ext.refl wr).drew).cell (j - 1) (by omega)
          have hw : IntKind.i64.wrap ((j : Int) - 1) = ((j - 1 : Nat) : Int) := by rw [IntKind.wrap_i64]; omega
          have hw2 : IntKind.i64.wrap ((j - 1 : Nat) : Int) = ((j - 1 : Nat) : Int) := by rw [IntKind.wrap_i64]; omega
          have hjn : j < n := by omega
          have hjm : j - 1 < n := by omega
          go_wp2_with fail
          refine wp_region_pl (.free 0 (.free 1 (.free 2 (.free 3 (.free 4 (.free 5 (.free 6 (.free 7 (.free 8 (.free 9 (.free 10 (.free 11 (.free 12 (.one 13 (.free 14 .nil))))))))))))))) (by kernel_rfl) (by kernel_rfl) (by kernel_rfl) (by kernel_rfl) ?_
          iterate 2 (refine pl_val (v := ?_) rfl rfl (fun w' hw' => ?_) ?_; rotate_left; (· go_simp; try with_reducible rfl); simp only [Act.put, List.setIfInBounds_toArray, List.set_cons_zero, List.set_cons_succ])
          refine pl_val (.bool true) rfl rfl (fun w' hw' => by
            go_simp
            first | done | omega | simp [hj0] | simpa using hj0) ?_
          simp only [Act.put, List.setIfInBounds_toArray, List.set_cons_zero, List.set_cons_succ]
          iterate 10 (refine pl_val (v := ?_) rfl rfl (fun w' hw' => ?_) ?_; rotate_left; (· have y1 := hw'.cell x1; have y2 := hw'.cell x2; go_simp; try with_reducible rfl); simp only [Act.put, List.setIfInBounds_toArray, List.set_cons_zero, List.set_cons_succ])
          refine pl_call 40 #[.int .u32 (Z j), .int .u32 (Z (j - 1))] rfl rfl (by go_simp) ?_
          by_cases hlt : Z j < Z (j - 1)
          · refine (less_any _ _ true (by simpa using hlt) _).mono ?_
            rintro e w9 ⟨rfl, rfl⟩
            refine ⟨_, rfl, Ext.refl _, ?_⟩
            simp only [Act.put, List.setIfInBounds_toArray, List.set_cons_zero, List.set_cons_succ]
            iterate 1 (refine pl_val (v := ?_) rfl rfl (fun w' hw' => ?_) ?_; rotate_left; (· go_simp; try with_reducible rfl); simp only [Act.put, List.setIfInBounds_toArray, List.set_cons_zero, List.set_cons_succ])
            refine pl_done ?_
            clear x1 x2
            go_wp2_with fail
            obtain ⟨wd, hwd⟩ : ∃ wd, wr.drew.drew = wd := ⟨_, rfl⟩
            have ewd : Ext wr wd := by rw [← hwd]; exact (Ext.refl wr).drew.drew
            have hrd := HR2.out.ext ewd
            have y1 := hrd.cell j (by omega)
            have y2 := hrd.cell (j - 1) (by omega)
            have f1 := hrd.frozen j
            have f2 := hrd.frozen (j - 1)
            have hrs := hrd.set j (by omega) (Z (j - 1))
            have d1 := hrs.cell (j - 1) (by omega)
            rw [if_neg (by omega)] at d1
            have f3 := hrs.frozen (j - 1)
            have HFIN := Lib.hid (And.intro (hrd.swap j hj0 (by omega)) (And.intro (HM2.out.swap hj0 hji hlt) (And.intro (HJ2.out.swap hj0 (by omega)) (And.intro (HV2.out.swap hj0 (by omega)) (((HO2.out.trans (Onm.of_ext ewd)).trans (Onm.set (p := ⟨g, j, none⟩) (v := .int .u32 (Z (j - 1))) (.inl rfl))).trans (Onm.set (p := ⟨g, j - 1, none⟩) (v := .int .u32 (Z j)) (.inl rfl)))))))
            clear hrd hrs ewd
            refine wp_region_plU (.free 0 (.free 1 (.free 2 (.free 3 (.free 4 (.free 5 (.free 6 (.free 7 (.free 8 (.free 10 (.free 11 (.free 12 (.fork 9 13 (.one 13 (.free 14 (.one 15 (.free 16 (.one 17 .nil))))) (.one 9 (.free 14 (.one 15 (.free 16 (.one 17 .nil)))))))))))))))))) (by kernel_rfl) (by kernel_rfl) (by kernel_rfl) (by kernel_rfl) ?_
            rw [hwd]
            clear hwd
            iterate 12 (refine plU_val (v := ?_) rfl rfl (fun w' => ?_) ?_; rotate_left; (· go_simp; try with_reducible rfl); simp only [Act.put, List.setIfInBounds_toArray, List.set_cons_zero, List.set_cons_succ])
            refine plU_fork ?_ ?_
            · refine plU_run (.int .u32 (Z (j - 1))) rfl rfl (by go_simp; try rfl) ?_
              simp only [Act.put, List.setIfInBounds_toArray, List.set_cons_zero, List.set_cons_succ]
              refine plU_run (.int .u32 (Z j)) rfl rfl (by go_simp; try rfl) ?_
              simp only [Act.put, List.setIfInBounds_toArray, List.set_cons_zero, List.set_cons_succ]
              iterate 1 (refine plU_val (v := ?_) rfl rfl (fun w' => ?_) ?_; rotate_left; (· go_simp; try with_reducible rfl); simp only [Act.put, List.setIfInBounds_toArray, List.set_cons_zero, List.set_cons_succ])
              refine plU_void (w' := wd.setCell ⟨g, j, none⟩ (.int .u32 (Z (j - 1)))) rfl rfl (by go_simp; try rfl) ?_
              simp only [Act.put, List.setIfInBounds_toArray, List.set_cons_zero, List.set_cons_succ]
              iterate 1 (refine plU_val (v := ?_) rfl rfl (fun w' => ?_) ?_; rotate_left; (· go_simp; try with_reducible rfl); simp only [Act.put, List.setIfInBounds_toArray, List.set_cons_zero, List.set_cons_succ])
              refine plU_void (w' := (wd.setCell ⟨g, j, none⟩ (.int .u32 (Z (j - 1)))).setCell ⟨g, j - 1, none⟩ (.int .u32 (Z j))) rfl rfl (by go_simp; try rfl) ?_
              simp only [Act.put, List.setIfInBounds_toArray, List.set_cons_zero, List.set_cons_succ]
              refine plU_done ?_
              clear y1 y2 f1 f2 f3 d1 hp hw
              go_wp2
              go_roundw
              case rel => exact ⟨j - 1, swapF Z j, by omega, by go_num, HFIN.out⟩
              case measure => simp [intOf]; omega
            · refine plU_run (.int .u32 (Z j)) rfl rfl (by go_simp; try rfl) ?_
              simp only [Act.put, List.setIfInBounds_toArray, List.set_cons_zero, List.set_cons_succ]
              refine plU_run (.int .u32 (Z (j - 1))) rfl rfl (by go_simp; try rfl) ?_
              simp only [Act.put, List.setIfInBounds_toArray, List.set_cons_zero, List.set_cons_succ]
              iterate 1 (refine plU_val (v := ?_) rfl rfl (fun w' => ?_) ?_; rotate_left; (· go_simp; try with_reducible rfl); simp only [Act.put, List.setIfInBounds_toArray, List.set_cons_zero, List.set_cons_succ])
              refine plU_void (w' := wd.setCell ⟨g, j, none⟩ (.int .u32 (Z (j - 1)))) rfl rfl (by go_simp; try rfl) ?_
              simp only [Act.put, List.setIfInBounds_toArray, List.set_cons_zero, List.set_cons_succ]
              iterate 1 (refine plU_val (v := ?_) rfl rfl (fun w' => ?_) ?_; rotate_left; (· go_simp; try with_reducible rfl); simp only [Act.put, List.setIfInBounds_toArray, List.set_cons_zero, List.set_cons_succ])
              refine plU_void (w' := (wd.setCell ⟨g, j, none⟩ (.int .u32 (Z (j - 1)))).setCell ⟨g, j - 1, none⟩ (.int .u32 (Z j))) rfl rfl (by go_simp; try rfl) ?_
              simp only [Act.put, List.setIfInBounds_toArray, List.set_cons_zero, List.set_cons_succ]
              refine plU_done ?_
              clear y1 y2 f1 f2 f3 d1 hp hw
              go_wp2
              go_roundw
              case rel => exact ⟨j - 1, swapF Z j, by omega, by go_num, HFIN.out⟩
              case measure => simp [intOf]; omega
          · refine (less_any _ _ false (by simpa using hlt) _).mono ?_
            rintro e w9 ⟨rfl, rfl⟩
            refine ⟨_, rfl, Ext.refl _, ?_⟩
            simp only [Act.put, List.setIfInBounds_toArray, List.set_cons_zero, List.set_cons_succ]
            iterate 1 (refine pl_val (v := ?_) rfl rfl (fun w' hw' => ?_) ?_; rotate_left; (· go_simp; try with_reducible rfl); simp only [Act.put, List.setIfInBounds_toArray, List.set_cons_zero, List.set_cons_succ])
            refine pl_done ?_
            have HE := Lib.hid (HM2.out.srt hji (.inr (by omega)))
            have HR3 := Lib.hid (HR2.out.ext (Ext.refl wr).drew)
            have HO3 := Lib.hid (HO2.out.trans (Onm.of_ext (Ext.refl wr).drew))
            clear x1 x2 hw hp
            go_wp2
            go_roundw
            case rel => exact ⟨i + 1, Z, by omega, by omega, by go_num, HR3.out, HE.out, HJ2.out, HV2.out, HO3.out⟩
            case measure => simp [intOf]; omega
        · obtain rfl : j = 0 := by omega
          have HE := Lib.hid (HM2.out.srt (by omega) (.inl rfl))
          have HR3 := Lib.hid (HR2.out.ext (Ext.refl wr).drew)
          have HO3 := Lib.hid (HO2.out.trans (Onm.of_ext (Ext.refl wr).drew))
          go_wp2_with fail
          refine wp_region_pl (.free 0 (.free 1 (.free 2 (.free 3 (.free 4 (.free 5 (.free 6 (.free 7 (.free 8 (.free 9 (.free 10 (.free 11 (.free 12 (.one 13 (.free 14 .nil))))))))))))))) (by kernel_rfl) (by kernel_rfl) (by kernel_rfl) (by kernel_rfl) ?_
          iterate 2 (refine pl_val (v := ?_) rfl rfl (fun w' hw' => ?_) ?_; rotate_left; (· go_simp; try with_reducible rfl); simp only [Act.put, List.setIfInBounds_toArray, List.set_cons_zero, List.set_cons_succ])
          refine pl_val (.bool false) rfl rfl (fun w' hw' => by
            go_simp
            first | done | omega | simp) ?_
          simp only [Act.put, List.setIfInBounds_toArray, List.set_cons_zero, List.set_cons_succ]
          iterate 1 (refine pl_val (v := ?_) rfl rfl (fun w' hw' => ?_) ?_; rotate_left; (· go_simp; try with_reducible rfl); simp only [Act.put, List.setIfInBounds_toArray, List.set_cons_zero, List.set_cons_succ])
          iterate 9 (refine pl_skip rfl rfl ?_; simp only [Act.put, List.setIfInBounds_toArray, List.set_cons_zero, List.set_cons_succ])
          refine pl_skip1 rfl rfl ?_
          simp only [Act.put, List.setIfInBounds_toArray, List.set_cons_zero, List.set_cons_succ]
          iterate 1 (refine pl_val (v := ?_) rfl rfl (fun w' hw' => ?_) ?_; rotate_left; (· go_simp; try with_reducible rfl); simp only [Act.put, List.setIfInBounds_toArray, List.set_cons_zero, List.set_cons_succ])
          refine pl_done ?_
          go_wp2
          go_roundw
          case rel => exact ⟨i + 1, Z, by omega, by omega, by go_num, HR3.out, HE.out, HJ2.out, HV2.out, HO3.out⟩
          case measure => simp [intOf]; omega
    · have HE := Lib.hid (show Srt Y n from fun a b h1 h2 => HS1.out a b h1 (by omega))
      go_wp2
      go_end0
      exact ⟨rfl, Y, HR1.out, HE.out, HJ1.out, HV1.out, HO1.out⟩
end Go.Proofs.Ytallbmobjhfhpaa
