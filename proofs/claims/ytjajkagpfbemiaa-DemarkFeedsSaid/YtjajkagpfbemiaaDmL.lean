/-
  Layer 4: the document's own deframer: plain words, and bytes behind a record.
-/
import Derived.Test.YtjajkagpfbemiaaDmJ
namespace Go.Proofs.Ytjajkagpfbemiaa
open Go Go.RowKit
set_option linter.unusedVariables false
set_option linter.unusedSimpArgs false
section
variable {w w' : World} {X : Nat → Prop} {tb : Nat} {hv rv tv : Value} {H R : List UInt8} {T : List (List UInt8)}
theorem DOwn.appR (h : DOwn w X tb hv rv tv H R T) (hX : ∀ k, X k → k < w.heap.size) (ht : tb < w.heap.size) {A : Option Addr} {n c : Nat} {l : List UInt8} (hs : Sees w A n c (bs l)) (hl : R.length ≤ 100000) (hn : n ≤ 100000) :
    ∃ A' n' cp w', (Builtin.append_ #[22, 22] 22 #[rv, .slice A n c]).run Try.prog w = .ok (.slice A' n' cp) w' ∧ n' = R.length + n ∧
      DOwn w' X tb hv (.slice A' n' cp) tv H (R ++ l) T ∧ Kp (fun k => X k ∨ k = tb) w w' := by
  obtain ⟨h0, h1, h2, h3, h4, h5⟩ := h
  obtain ⟨i0, hi, hz0, hz1, hz2⟩ := info_parts infoB
  have hln := hs.len
  rw [bs_length] at hln
  obtain ⟨v', w', hrun, hown, hg, hat⟩ := run_append_sees (P := Try.prog) (w := w) 0 22 22 5 i0 _ 1 Try.underlying22 hi hz0 hz1 hz2 rfl rv R.length _ h3
    A n c (bs l) hs (bs_one _) (by unfold maxLen; omega) (by omega) (Nat.zero_le _)
  rw [← bs_append] at hown
  obtain ⟨A', cp, rfl, _⟩ := Sees.of_own hown
  have k0 : Kp (fun k => ¬ rv.ownBlock = some k) w w' := (Kp.refl _ w).grown hg fun k hk q => q hk
  have lh := own_lt h1
  refine ⟨A', _, cp, w', hrun, rfl, ⟨h0, k0.own h1 fun k hk q => h4 k q (.inr hk), h2, by simpa [hln] using hown, fun k hk q => ?_, ?_⟩, k0.mono fun k hk q => h4 k q (.inl hk)⟩
  · rcases hat with e | e
    · rw [e] at hk
      exact h4 k hk q
    · rw [e] at hk
      injection hk with hk
      rcases q with (q | q) | q
      · have := hX k q; omega
      · omega
      · have := lh k q; omega
  · refine (h5.grow k0 fun k q => .inr q).mono fun k q => ?_
    rcases q with q | q
    · exact .inl (.inl q)
    · rcases hat with e | e
      · rw [e] at q
        exact .inl (.inr q)
      · rw [e] at q
        injection q with q
        exact .inr (by omega)
end
theorem btw_put4 (n : Nat) (en b : Bool) (R : List UInt8) (T : List (List UInt8)) (l : List UInt8) (z : Nat) (hz : nb l % 2147483648 = z) (hb : decide (2147483648 ≤ nb l) = b) :
    (btw n en R T).put (l.take 4) = ⟨0, 0, [], n + 1, z, b, R, T⟩ := by
  unfold DS.put
  rw [nb_take l 4 (Nat.le_refl _), hz, hb]
  rfl
/-- A whole fragment. -/
theorem drun_whole {m f n : Nat} {en b : Bool} {R : List UInt8} {T : List (List UInt8)} (l : List UInt8) (z : Nat) (hz : nb l % 2147483648 = z) (hb : decide (2147483648 ≤ nb l) = b) (h4 : 4 ≤ l.length) (hn : n + 1 ≤ f) (hm : R.length + z ≤ m) (hl : 4 + z ≤ l.length) :
    drun m f (btw n en R T) l = drun m f (frS b n R ((l.drop 4).take z) T) (l.drop (4 + z)) := by
  have hnb : nb (l.take 4) % 2147483648 = z := by rw [nb_take l 4 (Nat.le_refl _)]; exact hz
  have hput := btw_put4 n en b R T l z hz hb
  have kf : ¬ f < (btw n en R T).bg + 1 := fun q => by
    have : f < n + 1 := q
    omega
  have km : ¬ m < nb (l.take 4) % 2147483648 + (btw n en R T).R.length := by
    rw [hnb]
    show ¬ m < z + R.length
    omega
  rw [drun_four m f _ _ rfl rfl h4, ← List.drop_drop]
  by_cases h0 : z = 0
  · rw [go_zero kf km (by rw [hnb]; exact h0), hput]
    subst h0
    unfold frS
    rw [List.take_zero, List.append_nil, List.drop_zero]
    cases b <;> rfl
  · rw [go_body kf km (by rw [hnb]; exact h0), hput, drun_body _ _ _ _ rfl (by show 1 ≤ z; omega) (by show z ≤ (l.drop 4).length; rw [List.length_drop]; omega)]
    show drun m f (DS.fin ⟨1, 0, [], n + 1, 0, b, R ++ (l.drop 4).take z, T⟩) ((l.drop 4).drop z) = _
    unfold frS
    cases b <;> rfl
/-- A fragment that is not whole. -/
theorem drun_part {m f n : Nat} {en : Bool} {R : List UInt8} {T : List (List UInt8)} (l : List UInt8) (z : Nat) (hz : nb l % 2147483648 = z) (h4 : 4 ≤ l.length) (hn : n + 1 ≤ f) (hm : R.length + z ≤ m) (hl : l.length < 4 + z) :
    (drun m f (btw n en R T) l).E = 0 ∧ (drun m f (btw n en R T) l).T = T ∧ (drun m f (btw n en R T) l).R.length + (drun m f (btw n en R T) l).H.length = R.length + l.length - 4 ∧ clB (drun m f (btw n en R T) l) = false := by
  have hnb : nb (l.take 4) % 2147483648 = z := by rw [nb_take l 4 (Nat.le_refl _)]; exact hz
  obtain ⟨b, hb⟩ : ∃ b, decide (2147483648 ≤ nb l) = b := ⟨_, rfl⟩
  have hput := btw_put4 n en b R T l z hz hb
  have kf : ¬ f < (btw n en R T).bg + 1 := fun q => by
    have : f < n + 1 := q
    omega
  have km : ¬ m < nb (l.take 4) % 2147483648 + (btw n en R T).R.length := by
    rw [hnb]
    show ¬ m < z + R.length
    omega
  rw [drun_four m f _ _ rfl rfl h4, go_body kf km (by rw [hnb]; omega), hput, drun_few _ _ _ _ rfl (by show (l.drop 4).length < z; rw [List.length_drop]; omega)]
  refine ⟨rfl, rfl, ?_, rfl⟩
  show (R ++ l.drop 4).length + 0 = _
  rw [List.length_append, List.length_drop]
  omega
theorem drun_full {m f n : Nat} {en : Bool} {R : List UInt8} {T : List (List UInt8)} (l : List UInt8) (h4 : 4 ≤ l.length) (hn : f < n + 1) :
    (drun m f (btw n en R T) l).E = 5 ∧ (drun m f (btw n en R T) l).T = T ∧ (drun m f (btw n en R T) l).R.length + (drun m f (btw n en R T) l).H.length = 0 ∧ clB (drun m f (btw n en R T) l) = false := by
  rw [drun_four m f _ _ rfl rfl h4, go_full (show f < (btw n en R T).bg + 1 from hn), drun_dead (show 2 ≤ 2 from Nat.le_refl _)]
  exact ⟨rfl, rfl, rfl, rfl⟩
theorem drun_range {m f n : Nat} {en : Bool} {R : List UInt8} {T : List (List UInt8)} (l : List UInt8) (z : Nat) (hz : nb l % 2147483648 = z) (h4 : 4 ≤ l.length) (hn : n + 1 ≤ f) (hm : m < R.length + z) :
    (drun m f (btw n en R T) l).E = 4 ∧ (drun m f (btw n en R T) l).T = T ∧ (drun m f (btw n en R T) l).R.length + (drun m f (btw n en R T) l).H.length = 0 ∧ clB (drun m f (btw n en R T) l) = false := by
  have hnb : nb (l.take 4) % 2147483648 = z := by rw [nb_take l 4 (Nat.le_refl _)]; exact hz
  have kf : ¬ f < (btw n en R T).bg + 1 := fun q => by
    have : f < n + 1 := q
    omega
  have km : m < nb (l.take 4) % 2147483648 + (btw n en R T).R.length := by
    rw [hnb]
    show m < z + R.length
    omega
  rw [drun_four m f _ _ rfl rfl h4, go_range kf km, drun_dead (show 2 ≤ 2 from Nat.le_refl _)]
  exact ⟨rfl, rfl, rfl, rfl⟩
theorem drun_rest {m f n : Nat} {en : Bool} {R : List UInt8} {T : List (List UInt8)} (l : List UInt8) (h4 : l.length < 4) :
    (drun m f (btw n en R T) l).E = 0 ∧ (drun m f (btw n en R T) l).T = T ∧ (drun m f (btw n en R T) l).R.length + (drun m f (btw n en R T) l).H.length = R.length + l.length ∧ clB (drun m f (btw n en R T) l) = (decide (n = 0) && decide (l.length = 0)) := by
  rw [drun_head m f l _ rfl (by simpa [btw] using h4)]
  refine ⟨rfl, rfl, rfl, ?_⟩
  unfold clB
  show (decide ((0 : Int) = 0) && (decide (n = 0) && (l).isEmpty)) = _
  cases l <;> simp
end Go.Proofs.Ytjajkagpfbemiaa
