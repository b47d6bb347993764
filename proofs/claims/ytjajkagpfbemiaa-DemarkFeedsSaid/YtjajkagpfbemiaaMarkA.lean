/-
  Layer 3: how many bytes each fragment has; plain facts and contracts.
-/
import Derived.Test.YtjajkagpfbemiaaRws
import Derived.Test.YtjajkagpfbemiaaXdrB
namespace Go.Proofs.Ytjajkagpfbemiaa
open Go Go.RowKit
set_option linter.unusedVariables false
set_option linter.unusedSimpArgs false

theorem infoI : (Try.prog.info? 3).map (fun i => (i.zero, i.size, i.bytes)) = some (some (.int .i64 0), 1, 8) := by kernel_rfl
theorem info_partsI {i : Option TypeInfo} (h : i.map (fun i => (i.zero, i.size, i.bytes)) = some (some (.int .i64 0), 1, 8)) : ∃ j, i = some j ∧ j.zero = some (.int .i64 0) ∧ j.size = 1 ∧ j.bytes = 8 := by
  cases i with
  | none => cases h
  | some j =>
    simp at h
    exact ⟨j, rfl, h⟩

/-- How many fragments. -/
def cnt (n S : Nat) : Nat := if n = 0 then 1 else (n - 1) / S + 1
theorem cnt_small {n S : Nat} (hS : 0 < S) (h : n ≤ S) : cnt n S = 1 := by
  unfold cnt
  split
  · rfl
  · rw [Nat.div_eq_of_lt (by omega)]
theorem cnt_more {n S : Nat} (hS : 0 < S) (h : S < n) : cnt n S = cnt (n - S) S + 1 := by
  unfold cnt
  rw [if_neg (by omega), if_neg (by omega), Nat.div_eq_sub_div hS (by omega)]
  congr 2
  congr 1
  omega
theorem cnt_pos (n S : Nat) : 0 < cnt n S := by
  unfold cnt
  split
  · omega
  · exact Nat.succ_pos _
theorem cnt_le {n S : Nat} (hS : 0 < S) : cnt n S ≤ n + 1 := by
  unfold cnt
  split
  · omega
  · have h1 := Nat.div_le_self (n - 1) S
    generalize (n - 1) / S = q at *
    omega
/-- The sizes of k fragments of n bytes. -/
def szl (S : Nat) : Nat → Nat → List Nat
  | 0, _ => []
  | k + 1, n => min n S :: szl S k (n - S)
def szs (n S : Nat) : List Nat := szl S (cnt n S) n
theorem szl_length (S : Nat) : ∀ k n, (szl S k n).length = k
  | 0, _ => rfl
  | k + 1, n => by simp [szl, szl_length S k]
theorem szs_length (n S : Nat) : (szs n S).length = cnt n S := szl_length _ _ _
theorem szs_small {n S : Nat} (hS : 0 < S) (h : n ≤ S) : szs n S = [n] := by
  unfold szs
  rw [cnt_small hS h]
  simp [szl, Nat.min_eq_left h]
theorem szs_more {n S : Nat} (hS : 0 < S) (h : S < n) : szs n S = S :: szs (n - S) S := by
  unfold szs
  rw [cnt_more hS h]
  simp [szl, Nat.min_eq_right (Nat.le_of_lt h)]
theorem szs_sum {S : Nat} (hS : 0 < S) : ∀ n, (szs n S).sum = n := fun n => by
  induction n using Nat.strongRecOn with
  | ind n ih =>
    by_cases h : n ≤ S
    · rw [szs_small hS h]
      simp
    · rw [szs_more hS (by omega), List.sum_cons, ih (n - S) (by omega)]
      omega
/-- As values. -/
def iv (l : List Nat) : List Value := l.map fun k : Nat => Value.int .i64 ((k : Nat) : Int)
theorem iv_length (l : List Nat) : (iv l).length = l.length := by simp [iv]
theorem iv_append (l m : List Nat) : iv (l ++ m) = iv l ++ iv m := by simp [iv]
theorem iv_one (l : List Nat) : ∀ u ∈ iv l, u.oneCell' = true := by
  intro u hu
  simp only [iv, List.mem_map] at hu
  obtain ⟨k, _, rfl⟩ := hu
  rfl

/-- append(v, x) of one integer. -/
theorem app_int {w : World} {base : Nat} {v : Value} {l : List Nat} (x : Int) (X : Nat) (hx : x = (X : Int)) (hX : X ≤ 1000000) (hl : l.length ≤ 1000000) (hown : w.ownsRow base 3 1 v l.length (iv l)) (hb : base ≤ w.heap.size) :
    ∃ v' w', (Builtin.append_ #[24, 24] 24 #[v, .slice (some ⟨w.heap.size, 0, none⟩) 1 1]).run Try.prog (w.alloc (.cells #[.int .i64 x] 3)) = .ok v' w' ∧ w'.ownsRow base 3 1 v' (l ++ [X]).length (iv (l ++ [X])) ∧ (w.alloc (.cells #[.int .i64 x] 3)).grownBy w' v.ownBlock := by
  subst hx
  obtain ⟨i0, hi, hz0, hz1, hz2⟩ := info_partsI infoI
  obtain ⟨v', w', hrun, hown', hg, hat⟩ := run_append_sees (P := Try.prog) (w := w.alloc (.cells #[.int .i64 (X : Int)] 3)) base 24 24 3 i0 _ 8 Try.underlying24 hi hz0 hz1 hz2 rfl v _ _ (hown.alloc _)
    _ 1 1 _ (sees_new w 3 #[.int .i64 (X : Int)] (by simp [maxLen])) (by simp [Value.oneCell']) (by unfold maxLen; omega) (by omega) (by simp; omega)
  refine ⟨v', w', hrun, ?_, hg⟩
  rw [iv_append, List.length_append]
  exact hown'

theorem rsizes_any (n S : Nat) (w : World) (hn : n ≤ 900000) (hS : 0 < S) (hS2 : S ≤ 9223372036854775807) :
    Calls Try.prog 24 #[.int .i64 (n : Int), .int .i64 (S : Int)] w fun e w' => ∃ v, e = .returned v ∧ w'.ownsRow w.heap.size 3 1 v (szs n S).length (iv (szs n S)) ∧ Ext w w' := by
  go_enter Try.func24, Try.ntmps24
  go_wp2_with fail
  go_loopw [0, 5] (fun nv v wr => ∃ (R : Nat) (l : List Nat), nv = .int .i64 (R : Int) ∧ l.length + R ≤ n ∧ wr.ownsRow w.heap.size 3 1 v l.length (iv l) ∧ l ++ szs R S = szs n S ∧ Ext w wr) (fun nv _ _ => (intOf nv).toNat)
  case atStart => exact ⟨n, [], rfl, by simp, World.ownsRow_nil _ _ _ _, rfl, Ext.refl w⟩
  case round =>
    obtain ⟨R, l, rfl, hlR, own, hl, ext⟩ := hrel
    have HL := Lib.hid hl
    have hl1 : l.length ≤ 1000000 := by omega
    clear hl
    by_cases hRS : S < R
    · have hnew : (l ++ [S]) ++ szs (R - S) S = szs n S := by
        rw [← HL.out, szs_more hS hRS, List.append_assoc]
        rfl
      obtain ⟨v', w', hrun, own', hg⟩ := app_int (w := wr) (base := w.heap.size) (S : Int) S rfl (by omega) hl1 own ext.size
      have ext' : Ext w w' := (ext.alloc _).grown hg fun k hk => (own.lt k hk).1
      have HN := Lib.hid hnew
      clear hnew own hg ext hl1
      go_wp2_with (at_builtin; refine wpList_append_run rfl (.tmp 9) (.tmp 11) _ rfl _ _ rfl rfl v' w' hrun ?_)
      go_roundw
      case rel => exact ⟨R - S, l ++ [S], by go_num, by rw [List.length_append]; simp; omega, own', HN.out, ext'⟩
      case measure => simp [intOf]; omega
    · obtain ⟨v', w', hrun, own', hg⟩ := app_int (w := wr) (base := w.heap.size) (R : Int) R rfl (by omega) hl1 own ext.size
      have ext' : Ext w w' := (ext.alloc _).grown hg fun k hk => (own.lt k hk).1
      have hfin : l ++ [R] = szs n S := by
        rw [← HL.out, szs_small hS (by omega)]
      have HF := Lib.hid hfin
      clear hfin own hg ext hl1
      go_wp2_with (at_builtin; refine wpList_append_run rfl (.tmp 16) (.tmp 18) _ rfl _ _ rfl rfl v' w' hrun ?_)
      go_ret
      exact ⟨_, rfl, by rw [← HF.out]; exact own', ext'⟩
end Go.Proofs.Ytjajkagpfbemiaa
