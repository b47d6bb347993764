/-
  The statement NameApart: its walk.
-/
import Derived.Test.YteledicllnimgaaNamP
namespace Go.Proofs.Yteledicllnimgaa
open Go Go.RowKit
set_option linter.unusedVariables false
set_option linter.unusedSimpArgs false
set_option maxHeartbeats 1000000 in
set_option maxRecDepth 20000 in
theorem na_walk (a b : List UInt8) (w : World) (ha : a.length ≤ maxLen) (hb : b.length ≤ maxLen) :
    Calls Try.prog 5 #[.string ⟨a.toArray⟩, .string ⟨b.toArray⟩] w fun e w' => e = .returned (.bool true) ∧ Ext w w' := by
  have H1 := Lib.hid (fun w => short_any a 12 w ha (by omega))
  have H2 := Lib.hid (fun w => short_any b 12 w hb (by omega))
  have hx : (a.take 12).length ≤ 12 := by rw [List.length_take]; omega
  have hy : (b.take 12).length ≤ 12 := by rw [List.length_take]; omega
  generalize a.take 12 = x at *
  generalize b.take 12 = y at *
  have P1 := Lib.hid (fun w => print_any x w (by omega))
  have P2 := Lib.hid (fun w => print_any y w (by omega))
  have hpos := print_pos x
  have hle := print_le x
  have hp : (printB x = printB y) = (x = y) := propext ⟨print_inj, fun h => by rw [h]⟩
  have hsz : (ByteArray.mk (printB x).toArray).size = (printB x).length := by simp [ByteArray.size]
  generalize printB x = px at *
  generalize printB y = py at *
  by_cases hxy : x = y
  · have hpp : px = py := by rw [hp]; exact hxy
    subst hxy hpp
    clear hp
    go_enter Try.func5, Try.ntmps5
    go_wp2_with fail
    refine (H1.out _).mono ?_
    rintro e w1 ⟨rfl, rfl⟩
    go_wp2_with fail
    refine (H2.out _).mono ?_
    rintro e w1 ⟨rfl, rfl⟩
    go_wp2_with fail
    refine (P1.out _).mono ?_
    rintro e w1 ⟨rfl, e1⟩
    go_wp2_with fail
    refine (P2.out _).mono ?_
    rintro e w2 ⟨rfl, e2⟩
    go_wp2_with fail
    refine (P1.out _).mono ?_
    rintro e w3 ⟨rfl, e3⟩
    go_wp2_with fail
    refine (lives9 _).mono ?_
    rintro e w4 ⟨rfl, e4⟩
    go_wp2
    go_ret
    exact ⟨rfl, ((e1.trans e2).trans e3).trans e4⟩
  · have hpp : ¬ px = py := by rw [hp]; exact hxy
    clear hp
    have hq1 : (px == py) = false := by simpa using hpp
    have hq2 : (x == y) = false := by simpa using hxy
    go_enter Try.func5, Try.ntmps5
    go_wp2_with fail
    refine (H1.out _).mono ?_
    rintro e w1 ⟨rfl, rfl⟩
    go_wp2_with fail
    refine (H2.out _).mono ?_
    rintro e w1 ⟨rfl, rfl⟩
    go_wp2_with fail
    refine (P1.out _).mono ?_
    rintro e w1 ⟨rfl, e1⟩
    go_wp2_with fail
    refine (P2.out _).mono ?_
    rintro e w2 ⟨rfl, e2⟩
    go_wp2_with fail
    refine (P1.out _).mono ?_
    rintro e w3 ⟨rfl, e3⟩
    go_wp2_with fail
    refine (lives9 _).mono ?_
    rintro e w4 ⟨rfl, e4⟩
    go_wp2
    go_ret
    exact ⟨rfl, ((e1.trans e2).trans e3).trans e4⟩
end Go.Proofs.Yteledicllnimgaa
