/-
  Layer 18: the document's fields of a type; whether a type has a field; numbers brought into their bounds.
-/
import Derived.Test.YtihiclnbbpablaaTellH
import Derived.Test.YtihiclnbbpablaaPln
namespace Go.Proofs.Ytihiclnbbpablaa
open Go Go.RowKit
set_option linter.unusedVariables false
set_option linter.unusedSimpArgs false
def fpL : List Int := [101, 105, 107, 109, 111, 113, 115, 117, 119, 121, 123, 125, 127]
def faL : List (List UInt8) := [[122, 110], [113], [101], [45], [108], [113, 105], [113, 105], [100], [99], [45], [45], [115], [45]]
def fpV : List Value := [.int .i64 101, .int .i64 105, .int .i64 107, .int .i64 109, .int .i64 111, .int .i64 113, .int .i64 115, .int .i64 117, .int .i64 119, .int .i64 121, .int .i64 123, .int .i64 125, .int .i64 127]
def faV : List Value := [.string ⟨#[122, 110]⟩, .string ⟨#[113]⟩, .string ⟨#[101]⟩, .string ⟨#[45]⟩, .string ⟨#[108]⟩, .string ⟨#[113, 105]⟩, .string ⟨#[113, 105]⟩, .string ⟨#[100]⟩, .string ⟨#[99]⟩, .string ⟨#[45]⟩, .string ⟨#[45]⟩, .string ⟨#[115]⟩, .string ⟨#[45]⟩]
def fld (k : Int) : List UInt8 :=
  if k = 101 then [122, 110] else if k = 105 then [113] else if k = 107 then [101] else if k = 109 then [45] else if k = 111 then [108] else if k = 113 then [113, 105] else if k = 115 then [113, 105] else if k = 117 then [100] else if k = 119 then [99] else if k = 121 then [45] else if k = 123 then [45] else if k = 125 then [115] else if k = 127 then [45] else []
theorem fpV_get (j : Nat) (u : Value) (h : fpV[j]? = some u) : ∃ z, fpL[j]? = some z ∧ u = .int .i64 z := by
  have e : fpV = fpL.map (Value.int .i64) := rfl
  rw [e, List.getElem?_map, Option.map_eq_some_iff] at h
  obtain ⟨z, h1, h2⟩ := h
  exact ⟨z, h1, h2.symm⟩
theorem faV_get (j : Nat) (u : Value) (h : faV[j]? = some u) : ∃ s, faL[j]? = some s ∧ u = .string ⟨s.toArray⟩ := by
  have e : faV = faL.map (fun s => Value.string ⟨s.toArray⟩) := rfl
  rw [e, List.getElem?_map, Option.map_eq_some_iff] at h
  obtain ⟨z, h1, h2⟩ := h
  exact ⟨z, h1, h2.symm⟩
theorem fld_at (j : Nat) (k : Int) (s : List UInt8) (h1 : fpL[j]? = some k) (h2 : faL[j]? = some s) : fld k = s := by
  have hj : j < 13 := (List.getElem?_eq_some_iff.1 h1).1
  have h3 : j = 0 ∨ j = 1 ∨ j = 2 ∨ j = 3 ∨ j = 4 ∨ j = 5 ∨ j = 6 ∨ j = 7 ∨ j = 8 ∨ j = 9 ∨ j = 10 ∨ j = 11 ∨ j = 12 := by omega
  rcases h3 with rfl | rfl | rfl | rfl | rfl | rfl | rfl | rfl | rfl | rfl | rfl | rfl | rfl <;> (simp [fpL] at h1; simp [faL] at h2; subst h1 h2; rfl)
theorem fld_none (k : Int) (h : ∀ j, j < 13 → fpL[j]? ≠ some k) : fld k = [] := by
  have n101 : ¬ k = 101 := fun e => h 0 (by omega) (by rw [e]; rfl)
  have n105 : ¬ k = 105 := fun e => h 1 (by omega) (by rw [e]; rfl)
  have n107 : ¬ k = 107 := fun e => h 2 (by omega) (by rw [e]; rfl)
  have n109 : ¬ k = 109 := fun e => h 3 (by omega) (by rw [e]; rfl)
  have n111 : ¬ k = 111 := fun e => h 4 (by omega) (by rw [e]; rfl)
  have n113 : ¬ k = 113 := fun e => h 5 (by omega) (by rw [e]; rfl)
  have n115 : ¬ k = 115 := fun e => h 6 (by omega) (by rw [e]; rfl)
  have n117 : ¬ k = 117 := fun e => h 7 (by omega) (by rw [e]; rfl)
  have n119 : ¬ k = 119 := fun e => h 8 (by omega) (by rw [e]; rfl)
  have n121 : ¬ k = 121 := fun e => h 9 (by omega) (by rw [e]; rfl)
  have n123 : ¬ k = 123 := fun e => h 10 (by omega) (by rw [e]; rfl)
  have n125 : ¬ k = 125 := fun e => h 11 (by omega) (by rw [e]; rfl)
  have n127 : ¬ k = 127 := fun e => h 12 (by omega) (by rw [e]; rfl)
  simp only [fld, n101, n105, n107, n109, n111, n113, n115, n117, n119, n121, n123, n125, n127, if_false]
set_option maxHeartbeats 1000000 in
theorem fields18 (k : Int) (w : World) : Calls Try.prog 32 #[.int .i64 k] w fun e w' => e = .returned (.string ⟨(fld k).toArray⟩) ∧ Ext w w' := by
  obtain ⟨w1, hw1⟩ : ∃ w1, w.alloc (.cells #[.int .i64 101, .int .i64 105, .int .i64 107, .int .i64 109, .int .i64 111, .int .i64 113, .int .i64 115, .int .i64 117, .int .i64 119, .int .i64 121, .int .i64 123, .int .i64 125, .int .i64 127] 3) = w1 := ⟨_, rfl⟩
  obtain ⟨w2, hw2⟩ : ∃ w2, w1.alloc (.cells #[.string ⟨#[122, 110]⟩, .string ⟨#[113]⟩, .string ⟨#[101]⟩, .string ⟨#[45]⟩, .string ⟨#[108]⟩, .string ⟨#[113, 105]⟩, .string ⟨#[113, 105]⟩, .string ⟨#[100]⟩, .string ⟨#[99]⟩, .string ⟨#[45]⟩, .string ⟨#[45]⟩, .string ⟨#[115]⟩, .string ⟨#[45]⟩] 9) = w2 := ⟨_, rfl⟩
  have e1 : Ext w w1 := by rw [← hw1]; exact (Ext.refl w).alloc _
  have e2 : Ext w1 w2 := by rw [← hw2]; exact (Ext.refl w1).alloc _
  have s1 : Sees w1 (some ⟨w.heap.size, 0, none⟩) 13 13 fpV := by rw [← hw1]; exact sees_new w 3 #[.int .i64 101, .int .i64 105, .int .i64 107, .int .i64 109, .int .i64 111, .int .i64 113, .int .i64 115, .int .i64 117, .int .i64 119, .int .i64 121, .int .i64 123, .int .i64 125, .int .i64 127] (by unfold maxLen; simp)
  have s2 : Sees w2 (some ⟨w1.heap.size, 0, none⟩) 13 13 faV := by rw [← hw2]; exact sees_new w1 9 #[.string ⟨#[122, 110]⟩, .string ⟨#[113]⟩, .string ⟨#[101]⟩, .string ⟨#[45]⟩, .string ⟨#[108]⟩, .string ⟨#[113, 105]⟩, .string ⟨#[113, 105]⟩, .string ⟨#[100]⟩, .string ⟨#[99]⟩, .string ⟨#[45]⟩, .string ⟨#[45]⟩, .string ⟨#[115]⟩, .string ⟨#[45]⟩] (by unfold maxLen; simp)
  have S1 := Lib.hid (s1.ext e2)
  have S2 := Lib.hid s2
  have E2 := Lib.hid (e1.trans e2)
  clear e1 e2 s1 s2
  go_enter Try.func32, Try.ntmps32
  go_wp2_with fail
  go_loopw [5] (fun i wr => ∃ j : Nat, j ≤ 13 ∧ i = .int .i64 j ∧ (∀ m, m < j → fpL[m]? ≠ some k) ∧ w2 = wr) (fun i _ => 13 - (intOf i).toNat)
  case atStart => exact ⟨0, by omega, rfl, fun m h => absurd h (by omega), rfl⟩
  case round =>
    obtain ⟨j, hj, rfl, hall, rfl⟩ := hrel
    have HALL := Lib.hid hall
    clear hall
    by_cases hjl : j < 13
    · obtain ⟨b, off, u, hA, hu, hc, _⟩ := S1.out.at_ hjl
      obtain ⟨z, hz, rfl⟩ := fpV_get j u hu
      obtain ⟨b2, off2, u2, hA2, hu2, hc2, _⟩ := S2.out.at_ hjl
      obtain ⟨s, hs, rfl⟩ := faV_get j u2 hu2
      injection hA with hA
      injection hA with hb ho _
      subst hb ho
      injection hA2 with hA2
      injection hA2 with hb2 ho2 _
      subst hb2 ho2
      simp only [Nat.zero_add] at hc hc2
      have HZ := Lib.hid hz
      have HS := Lib.hid hs
      clear hu hu2 hz hs
      by_cases hzk : z = k
      · subst hzk
        have HF := Lib.hid (fld_at j z s HZ.out HS.out)
        go_wp2_with fail
        go_ret
        exact ⟨by rw [HF.out]; rfl, E2.out⟩
      · go_wp2_with fail
        go_roundw
        case rel => exact ⟨j + 1, by omega, by go_num, fun m hm => by
          by_cases hmj : m < j
          · exact HALL.out m hmj
          · rw [show m = j from by omega, HZ.out]
            exact fun e => hzk (by injection e), trivial⟩
        case measure => simp [intOf]; omega
    · obtain rfl : j = 13 := by omega
      have HF := Lib.hid (fld_none k (fun j h => HALL.out j h))
      go_wp2_with fail
      go_ret
      exact ⟨by rw [HF.out]; rfl, E2.out⟩
theorem fld_le (k : Int) : (fld k).length ≤ 2 := by
  by_cases n101 : k = 101
  · subst n101; decide
  by_cases n105 : k = 105
  · subst n105; decide
  by_cases n107 : k = 107
  · subst n107; decide
  by_cases n109 : k = 109
  · subst n109; decide
  by_cases n111 : k = 111
  · subst n111; decide
  by_cases n113 : k = 113
  · subst n113; decide
  by_cases n115 : k = 115
  · subst n115; decide
  by_cases n117 : k = 117
  · subst n117; decide
  by_cases n119 : k = 119
  · subst n119; decide
  by_cases n121 : k = 121
  · subst n121; decide
  by_cases n123 : k = 123
  · subst n123; decide
  by_cases n125 : k = 125
  · subst n125; decide
  by_cases n127 : k = 127
  · subst n127; decide
  simp only [fld, n101, n105, n107, n109, n111, n113, n115, n117, n119, n121, n123, n125, n127, if_false]
  decide
def hasB (l : List UInt8) (x : Int) : Bool := l.any fun b => ((b.toNat : Nat) : Int) == x
set_option maxHeartbeats 1000000 in
theorem has18 (k x : Int) (w : World) : Calls Try.prog 55 #[.int .i64 k, .int .u8 x] w fun e w' => e = .returned (.bool (hasB (fld k) x)) ∧ Ext w w' := by
  have HF := Lib.hid (fields18 k w)
  obtain ⟨l, hl⟩ : ∃ l, fld k = l := ⟨_, rfl⟩
  have hlen : l.length ≤ 2 := by rw [← hl]; exact fld_le k
  rw [hl] at HF ⊢
  clear hl
  go_enter Try.func55, Try.ntmps55
  go_wp2_with fail
  refine HF.out.mono ?_
  rintro e w1 ⟨rfl, e1⟩
  go_wp2_with fail
  go_loopw [6] (fun i wr => ∃ j : Nat, j ≤ l.length ∧ i = .int .i64 j ∧ (∀ m c, m < j → l[m]? = some c → ¬ ((c.toNat : Nat) : Int) = x) ∧ w1 = wr) (fun i _ => l.length - (intOf i).toNat)
  case atStart => exact ⟨0, by omega, rfl, fun m c h => absurd h (by omega), rfl⟩
  case round =>
    obtain ⟨j, hj, rfl, hall, rfl⟩ := hrel
    have HALL := Lib.hid hall
    clear hall
    by_cases hjl : j < l.length
    · obtain ⟨c, hc⟩ : ∃ c, l[j]? = some c := ⟨_, List.getElem?_eq_getElem hjl⟩
      have hidx : ∀ hp, (ByteArray.mk l.toArray)[j]'hp = c := fun hp => (List.getElem?_eq_some_iff.1 hc).2
      have HC := Lib.hid hc
      clear hc
      by_cases hx : ((c.toNat : Nat) : Int) = x
      · have HX := Lib.hid hx
        go_wp2_with fail
        go_ret
        exact ⟨congrArg (fun b => Ending.returned (Value.bool b)) (Eq.symm (List.any_eq_true.2 ⟨c, List.mem_of_getElem? HC.out, by rw [HX.out]; simp⟩)), e1⟩
      · have HX := Lib.hid hx
        go_wp2_with fail
        go_roundw
        case rel => exact ⟨j + 1, by omega, by go_num, fun m d hm hd => by
          by_cases hmj : m < j
          · exact HALL.out m d hmj hd
          · rw [show m = j from by omega, HC.out] at hd
            injection hd with hd
            rw [← hd]
            exact HX.out, trivial⟩
        case measure => simp [intOf]; omega
    · obtain rfl : j = l.length := by omega
      have hb : hasB l x = false := by
        unfold hasB
        rw [Bool.eq_false_iff]
        intro h
        obtain ⟨c, hc, hx⟩ := List.any_eq_true.1 h
        obtain ⟨m, hm, hg⟩ := List.getElem_of_mem hc
        exact HALL.out m c hm (by rw [← hg]; exact List.getElem?_eq_getElem hm) (by simpa using hx)
      go_wp2_with fail
      go_ret
      exact ⟨by rw [hb]; rfl, e1⟩
theorem low_any (n : Int) (w : World) (h0 : -9223372036854775808 ≤ n) (h1 : n ≤ 9223372036854775807) : Calls Try.prog 28 #[.int .i64 n] w fun e w' => e = .returned (.int .i64 (aroundZ n 4294967296)) ∧ w = w' := by
  go_enter Try.func28, Try.ntmps28
  go_wp2_with fail
  refine (around_any n 4294967296 _ h0 h1 (by omega) (by omega)).mono ?_
  rintro e w1 ⟨rfl, rfl⟩
  go_wp2_with fail
  go_ret
  exact ⟨rfl, rfl⟩
theorem high_any (n : Int) (w : World) (h0 : -9223372036854775808 ≤ n) (h1 : n ≤ 9223372036854775807) : Calls Try.prog 30 #[.int .i64 n] w fun e w' => e = .returned (.int .i64 (aroundZ n 4611686018427387905)) ∧ w = w' := by
  go_enter Try.func30, Try.ntmps30
  go_wp2_with fail
  refine (around_any n 4611686018427387905 _ h0 h1 (by omega) (by omega)).mono ?_
  rintro e w1 ⟨rfl, rfl⟩
  go_wp2_with fail
  go_ret
  exact ⟨rfl, rfl⟩
end Go.Proofs.Ytihiclnbbpablaa
