/-
  Layer 5: a new pipe.
-/
import Derived.Test.YtjdcbmelladceaaPipD
namespace Go.Proofs.Ytjdcbmelladceaa
open Go Go.RowKit
set_option linter.unusedVariables false
set_option linter.unusedSimpArgs false
def okB (z : List Int) : Bool := z.all fun x => decide (0 ≤ x)
def smB (z : List Int) : Bool := z.any fun x => decide (0 < x)
theorem okB_snoc (z : List Int) (k : Nat) (x : Int) (hx : z[k]? = some x) : okB (z.take (k + 1)) = (okB (z.take k) && decide (0 ≤ x)) := by
  unfold okB
  rw [List.take_add_one, hx]
  simp
theorem smB_snoc (z : List Int) (k : Nat) (x : Int) (hx : z[k]? = some x) : smB (z.take (k + 1)) = (smB (z.take k) || decide (0 < x)) := by
  unfold smB
  rw [List.take_add_one, hx]
  simp
theorem okB_bad (z : List Int) (k : Nat) (x : Int) (hx : z[k]? = some x) (hn : x < 0) : okB z = false := by
  unfold okB
  rw [List.all_eq_false]
  exact ⟨x, List.mem_of_getElem? hx, by simp; omega⟩
theorem ret_bool {a b : Bool} (h : a = b) : Ending.returned (.bool a) = .returned (.bool b) := by rw [h]
theorem goes_any (A : Option Addr) (n c : Nat) (z : List Int) (w : World) (h : Sees w A n c (z.map (Value.int .i64))) (hb : ∀ x ∈ z, -9223372036854775808 ≤ x ∧ x ≤ 9223372036854775807) :
    Calls Try.prog 24 #[.slice A n c] w fun e w' => e = .returned (.bool (okB z && smB z)) ∧ w = w' := by
  have hle := h.le
  have hmx := h.max
  have hlen := h.len
  rw [List.length_map] at hlen
  unfold maxLen at hmx
  have H := Lib.hid h
  have HLEN := Lib.hid hlen
  clear h hlen
  go_enter Try.func24, Try.ntmps24
  go_wp2_with fail
  go_loop [3, 8] (fun sv iv => ∃ k : Nat, k ≤ n ∧ iv = .int .i64 (k : Int) ∧ sv = .bool (smB (z.take k)) ∧ okB (z.take k) = true) (fun _ iv => n - (intOf iv).toNat)
  case atStart => exact ⟨0, by omega, rfl, rfl, rfl⟩
  case round =>
    obtain ⟨k, hk, rfl, rfl, hok⟩ := hrel
    have HOK := Lib.hid hok
    clear hok
    by_cases hlt : k < n
    · obtain ⟨b, off, u, hA, hu, hc, _⟩ := H.out.at_ hlt
      subst hA
      obtain ⟨x, hx⟩ : ∃ x, z[k]? = some x := ⟨z[k]'(by rw [HLEN.out]; exact hlt), List.getElem?_eq_getElem _⟩
      have hu2 : u = .int .i64 x := by
        rw [List.getElem?_map, hx] at hu
        injection hu with hu
        exact hu.symm
      subst hu2
      obtain ⟨hb0, hb1⟩ := hb x (List.mem_of_getElem? hx)
      have HX := Lib.hid hx
      have HB := Lib.hid hb
      clear hx hu hb
      obtain ⟨sb, hsb⟩ : ∃ sb, smB (z.take k) = sb := ⟨_, rfl⟩
      have HSB := Lib.hid hsb
      rw [hsb]
      clear hsb
      by_cases hn : x < 0
      · go_wp2
        go_ret
        exact ⟨ret_bool (by rw [okB_bad z k x HX.out hn]; rfl), rfl⟩
      · by_cases hp : 0 < x
        · cases sb
          · go_wp2
            go_round
            case rel => exact ⟨k + 1, by omega, by go_num, by rw [smB_snoc z k x HX.out, HSB.out]; simp [hp], by rw [okB_snoc z k x HX.out, HOK.out]; simp; omega⟩
            case measure => simp [intOf]; omega
          · go_wp2
            go_round
            case rel => exact ⟨k + 1, by omega, by go_num, by rw [smB_snoc z k x HX.out, HSB.out]; simp, by rw [okB_snoc z k x HX.out, HOK.out]; simp; omega⟩
            case measure => simp [intOf]; omega
        · cases sb
          · go_wp2
            go_round
            case rel => exact ⟨k + 1, by omega, by go_num, by rw [smB_snoc z k x HX.out, HSB.out]; simp [hp], by rw [okB_snoc z k x HX.out, HOK.out]; simp; omega⟩
            case measure => simp [intOf]; omega
          · go_wp2
            go_round
            case rel => exact ⟨k + 1, by omega, by go_num, by rw [smB_snoc z k x HX.out, HSB.out]; simp, by rw [okB_snoc z k x HX.out, HOK.out]; simp; omega⟩
            case measure => simp [intOf]; omega
    · obtain rfl : k = n := by omega
      have HF : Hid (smB (z.take k) = (okB z && smB z)) := Lib.hid (by
        have h1 := HOK.out
        rw [List.take_of_length_le (by rw [HLEN.out]; exact Nat.le_refl _)] at h1 ⊢
        rw [h1]
        rfl)
      go_wp2
      go_ret
      exact ⟨ret_bool HF.out, rfl⟩
end Go.Proofs.Ytjdcbmelladceaa
