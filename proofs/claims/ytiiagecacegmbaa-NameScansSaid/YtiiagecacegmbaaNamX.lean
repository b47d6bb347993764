/-
  Layer 9: what is scanned, plainly.
-/
import Derived.Test.YtiiagecacegmbaaNamW
namespace Go.Proofs.Ytiiagecacegmbaa
open Go Go.RowKit
set_option linter.unusedVariables false
set_option linter.unusedSimpArgs false
/-- What is scanned: the text, the error. -/
def scanT (s : List UInt8) : List UInt8 := if s = [45] then [] else if printB (decF s) = s then decF s else []
def scanE (s : List UInt8) : Int := if s = [45] then 0 else if printB (decF s) = s then 0 else 2
theorem print_flat (t : List UInt8) (h0 : t ≠ []) (h1 : t ≠ [45]) : printB t = t.flatMap byteB := by
  unfold printB
  rw [if_neg h0, if_neg h1]
theorem flat45 : ([45] : List UInt8).flatMap byteB = [45] := by decide
theorem scan_ok (t s : List UInt8) (hs : s = t.flatMap byteB) (h0 : s ≠ []) (h1 : s ≠ [45]) : scanT s = t ∧ scanE s = 0 := by
  have ht0 : t ≠ [] := fun h => by subst h; exact h0 (by rw [hs]; rfl)
  have ht1 : t ≠ [45] := fun h => by subst h; exact h1 (by rw [hs]; exact flat45)
  have hd : decF s = t := by rw [hs, dec_flat]
  have hp : printB (decF s) = s := by rw [hd, print_flat t ht0 ht1, hs]
  exact ⟨by unfold scanT; rw [if_neg h1, if_pos hp, hd], by unfold scanE; rw [if_neg h1, if_pos hp]⟩
theorem dec_flat_app : ∀ (t r : List UInt8), decF (t.flatMap byteB ++ r) = t ++ decF r
  | [], r => rfl
  | c :: t, r => by
    rw [List.flatMap_cons, List.append_assoc, dec_byte, dec_flat_app t r]
    rfl
theorem scan_none (t r s : List UInt8) (hs : s = t.flatMap byteB ++ r) (hr : r ≠ []) (hno : ∀ c : UInt8, ¬ byteB c <+: r) (h1 : s ≠ [45]) (h2 : s ≠ [37, 50, 100]) : scanT s = [] ∧ scanE s = 2 := by
  have hp : ¬ printB (decF s) = s := fun hp => by
    have hd : decF s = t ++ decF r := by rw [hs, dec_flat_app]
    by_cases e0 : decF s = []
    · rw [e0] at hp
      exact h1 hp.symm
    · by_cases e1 : decF s = [45]
      · rw [e1] at hp
        exact h2 hp.symm
      · rw [print_flat _ e0 e1, hd, List.flatMap_append, hs] at hp
        have hr2 := List.append_cancel_left hp
        cases hq : decF r with
        | nil =>
          rw [hq] at hr2
          exact hr hr2.symm
        | cons c q =>
          rw [hq, List.flatMap_cons] at hr2
          exact hno c ⟨_, hr2⟩
  exact ⟨by unfold scanT; rw [if_neg h1, if_neg hp], by unfold scanE; rw [if_neg h1, if_neg hp]⟩
theorem scan_nil : scanT [] = [] ∧ scanE [] = 2 := by decide
theorem scan_2d : scanT [37, 50, 100] = [45] ∧ scanE [37, 50, 100] = 0 := by decide +kernel
theorem scan_45 : scanT [45] = [] ∧ scanE [45] = 0 := by decide
theorem scan_print (t : List UInt8) : scanT (printB t) = t ∧ scanE (printB t) = 0 := by
  by_cases h0 : t = []
  · subst h0; exact scan_45
  · by_cases h1 : t = [45]
    · subst h1; exact scan_2d
    · rw [print_flat t h0 h1]
      refine scan_ok t _ rfl (fun h => ?_) (fun h => ?_)
      · have := dec_flat t; rw [h] at this; exact h0 this.symm
      · have := dec_flat t; rw [h] at this; exact h1 (this.symm.trans (by decide))
theorem dec_le : ∀ l : List UInt8, (decF l).length ≤ l.length
  | [] => by simp [decF]
  | [c] => by simp [decF]
  | [c, d] => by simp [decF]
  | c :: a :: b :: r => by
    unfold decF
    split
    · have := dec_le r
      simp; omega
    · have := dec_le (a :: b :: r)
      simp at this ⊢; omega
set_option maxHeartbeats 1000000 in
theorem scan_any (l : List UInt8) (w : World) (hl : l.length ≤ 100000) :
    Calls Try.prog 34 #[.string ⟨l.toArray⟩] w fun e w' => e = .returned (.tuple #[.string ⟨(scanT l).toArray⟩, .int .i64 (scanE l)]) ∧ Ext w w' := by
  by_cases h1 : l = [45]
  · subst h1
    go_enter Try.func34, Try.ntmps34
    go_wp2
    go_ret2
    exact ⟨rfl, Ext.refl _⟩
  have hq1 : (l == [45]) = false := by simpa using h1
  have hd := dec_le l
  have HP := Lib.hid (fun w => print_any (decF l) w (by omega))
  have HT : Hid (scanT l = if printB (decF l) = l then decF l else []) := Lib.hid (by unfold scanT; rw [if_neg h1])
  have HE : Hid (scanE l = if printB (decF l) = l then 0 else 2) := Lib.hid (by unfold scanE; rw [if_neg h1])
  have HD := Lib.hid (fun w => dec_any l w (by omega))
  have hbq : (printB (decF l) == l) = decide (printB (decF l) = l) := by
    by_cases h : printB (decF l) = l <;> simp [h]
  generalize decF l = d at *
  generalize printB d = p at *
  have H1 := Lib.hid h1
  clear h1
  by_cases hp : p = l
  all_goals
    first | (rw [if_pos hp] at HT HE) | (rw [if_neg hp] at HT HE)
    first | (have hpq : (p == l) = true := by simpa using hp) | (have hpq : (p == l) = false := by simpa using hp)
    have HPp := Lib.hid hp
    clear hp hbq
    go_enter Try.func34, Try.ntmps34
    go_wp2_with fail
    refine (HD.out _).mono ?_
    rintro e w1 ⟨rfl, e1⟩
    go_wp2_with fail
    refine (HP.out _).mono ?_
    rintro e w2 ⟨rfl, e2⟩
    have E3 := Lib.hid (e1.trans e2)
    clear e1 e2
    go_wp2
    go_ret2
    exact ⟨by rw [HT.out, HE.out]; rfl, E3.out⟩
end Go.Proofs.Ytiiagecacegmbaa
