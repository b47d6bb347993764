/-
  Layer 7: the numbers that wait, told rising.
-/
import Derived.Test.YtallbmobjhfhpaaMuxE
import Derived.Test.YtallbmobjhfhpaaSortV
import Derived.Maps.RangeWalk
namespace Go.Proofs.Ytallbmobjhfhpaa
open Go Go.RowKit
set_option linter.unusedVariables false
set_option linter.unusedSimpArgs false
theorem ris_uniq : ∀ (l m : List Int), l.Pairwise (· < ·) → m.Pairwise (· < ·) → (∀ v, v ∈ l ↔ v ∈ m) → l = m
  | [], [], _, _, _ => rfl
  | [], b :: m, _, _, h => absurd ((h b).2 (by simp)) (by simp)
  | a :: l, [], _, _, h => absurd ((h a).1 (by simp)) (by simp)
  | a :: l, b :: m, hl, hm, h => by
    rw [List.pairwise_cons] at hl hm
    have e : a = b := by
      have h1 := (h a).1 (by simp)
      have h2 := (h b).2 (by simp)
      simp at h1 h2
      rcases h1 with h1 | h1
      · exact h1
      · rcases h2 with h2 | h2
        · exact h2.symm
        · have := hl.1 b h2
          have := hm.1 a h1
          omega
    subst e
    rw [ris_uniq l m hl.2 hm.2 fun v => by
      have hv := h v
      simp at hv
      constructor
      · intro q
        have := hl.1 v q
        rcases hv.1 (.inr q) with e | e
        · omega
        · exact e
      · intro q
        have := hm.1 v q
        rcases hv.2 (.inr q) with e | e
        · omega
        · exact e]
def keyF (L : List (Int × Value)) : Nat → Int := fun i => (L.map (·.1)).getD i 0
theorem rise_keys {L : List (Int × Value)} {Y : Nat → Int} {n : Nat} (hr : RisL L) (hs : Srt Y n) (hi : InjN Y n) (hm : ∀ v, hasL L v = true ↔ ∃ i, i < n ∧ Y i = v) : n = L.length ∧ ∀ i, i < n → Y i = keyF L i := by
  have h1 : (L.map (·.1)).Pairwise (· < ·) := by
    rw [List.pairwise_map]
    exact hr
  have h2 : ((List.range n).map Y).Pairwise (· < ·) := by
    rw [List.pairwise_map]
    refine List.Pairwise.imp_of_mem ?_ List.pairwise_lt_range
    intro a b _ hb hab
    have hb' : b < n := by simpa using hb
    have := hs a b hab hb'
    have := hi a b hab hb'
    omega
  have h3 := ris_uniq _ _ h1 h2 fun v => by
    have := hm v
    rw [hasL_mem] at this
    simp only [List.mem_map, List.mem_range]
    exact this
  have h4 := congrArg List.length h3
  simp at h4
  refine ⟨h4.symm, fun i hi => ?_⟩
  unfold keyF
  rw [h3, List.getD_eq_getElem?_getD]
  simp [hi]
theorem OwnU.congr {w : World} {base n : Nat} {v : Value} {X Y : Nat → Int} (h : OwnU w base v n X) (he : ∀ i, i < n → X i = Y i) : OwnU w base v n Y := by
  obtain ⟨xs, h1, h2⟩ := h
  exact ⟨xs, h1, fun i hi => by rw [← he i hi]; exact h2 i hi⟩
theorem OwnU.row {w : World} {base n g c : Nat} {X : Nat → Int} (h : OwnU w base (.slice (some ⟨g, 0, none⟩) n c) n X) : RowU w g n X ∧ n ≤ c ∧ base ≤ g := by
  obtain ⟨xs, ⟨h1, h2⟩, h3⟩ := h
  rcases h2 with ⟨h2, _⟩ | ⟨g', cap, cur, hv, hb, hg, hn, hm, hs, ht⟩
  · cases h2
  · injection hv with hv _ hc
    injection hv with hv
    injection hv with hv
    subst hv hc
    refine ⟨⟨cur, hg, fun q hq => ?_⟩, hn, hb⟩
    have h4 := h3 q hq
    rw [← ht, List.getElem?_take] at h4
    split at h4
    · simpa using h4
    · cases h4
theorem has_of_hat {L : List (Int × Value)} {x : Int} {d : DataW Value} (h : ∀ zd, (enM .u32 L).atKey (.int .u32 x) zd = d) : hasL L x = true := by
  cases hl : lkL L x with
  | some v => unfold hasL; rw [hl]; rfl
  | none =>
    have h1 := (h (.held (.bool true))).trans (h (.held (.bool false))).symm
    rw [enM_at, enM_at, hl] at h1
    simp at h1
/-- What has come of the range: j numbers V. -/
def Come (L : List (Int × Value)) (left : Lit → Bool) (j : Nat) (V : Nat → Int) : Prop :=
  (∀ i, i < j → hasL L (V i) = true ∧ left (.int .u32 (V i)) = false) ∧ (∀ k, hasL L k = true → left (.int .u32 k) = true ∨ ∃ i, i < j ∧ V i = k) ∧ InjN V j
theorem Come.start (L : List (Int × Value)) (V : Nat → Int) : Come L (Maps.has (enM .u32 L)) 0 V :=
  ⟨fun i h => absurd h (by omega), fun k hk => .inl (by rw [enM_has]; exact hk), fun a b h1 h2 => absurd h2 (by omega)⟩
theorem Come.step {L : List (Int × Value)} {left : Lit → Bool} {j : Nat} {V : Nat → Int} (h : Come L left j V) (x : Int) (hx : hasL L x = true) (hl : left (.int .u32 x) = true) :
    Come L (fun z => left z && !z.sameKey (.int .u32 x)) (j + 1) fun i => if i = j then x else V i := by
  refine ⟨fun i hi => ?_, fun k hk => ?_, fun a b hab hb => ?_⟩
  · by_cases e : i = j
    · subst e
      simp only [if_pos]
      exact ⟨hx, by simp [sameKey_int]⟩
    · simp only [if_neg e]
      obtain ⟨h1, h2⟩ := h.1 i (by omega)
      exact ⟨h1, by simp [h2]⟩
  · by_cases e : k = x
    · exact .inr ⟨j, by omega, by simp [e]⟩
    · rcases h.2.1 k hk with q | ⟨i, hi, rfl⟩
      · exact .inl (by simp [q, sameKey_int, e])
      · exact .inr ⟨i, by omega, by simp only [if_neg (show ¬ i = j by omega)]⟩
  · have key : ∀ i, i < j → ¬ V i = x := fun i hi e => by
      have := (h.1 i hi).2
      rw [e, hl] at this
      cases this
    by_cases e : b = j
    · simp only [if_pos e, if_neg (show ¬ a = j by omega)]
      exact key a (by omega)
    · simp only [if_neg e, if_neg (show ¬ a = j by omega)]
      exact h.2.2 a b hab (by omega)
theorem Come.done {L : List (Int × Value)} {left : Lit → Bool} {j : Nat} {V : Nat → Int} (h : Come L left j V) (hl : ∀ z, left z = false) (v : Int) : hasL L v = true ↔ ∃ i, i < j ∧ V i = v := by
  constructor
  · intro hv
    rcases h.2.1 v hv with q | q
    · rw [hl] at q; cases q
    · exact q
  · rintro ⟨i, hi, rfl⟩
    exact (h.1 i hi).1
def LiveD (w : World) (L : List (Int × Value)) (e : Ending) (w' : World) : Prop :=
  ∃ g c, e = .returned (.slice (some ⟨g, 0, none⟩) L.length c) ∧ L.length ≤ c ∧ RowU w' g L.length (keyF L) ∧ w.heap.size ≤ g ∧ Ext w w'
set_option maxRecDepth 20000 in
set_option maxHeartbeats 800000 in
theorem live_any (tb mb most : Nat) (next : Int) (L : List (Int × Value)) (w : World) (h : MuxI w tb mb most next L) (h1 : 1 ≤ L.length) (h2 : L.length ≤ 12) :
    Calls Try.prog 20 #[.pointer (some ⟨tb, 0, none⟩)] w (LiveD w L) := by
  have c2 := cell_of_row w tb 2 _ _ _ h.1
  simp at c2
  have hmL := h.2.1
  have hlt := h.lt
  have HRIS := Lib.hid hmL.2
  clear h
  go_enter Try.func20, Try.ntmps20
  go_wp2_with (first | (at_range; refine wpList_range_own _ rfl (.tmp 8) _ rfl _ _ (Maps.int_keyed Try.underlying22) Try.underlying68 rdV mb L.length (enM .u32 L) rfl hmL.1 ?_; intro w0 hrg0 hg0 hs0) | fail)
  have E0 : Ext w w0 := Ext.grown (Ext.refl w) hg0 (fun k hk => by cases hk)
  go_frame
  go_loopw [3] (fun v wr => ∃ (left : Lit → Bool) (cnt j : Nat) (V : Nat → Int), wr.ranges Try.prog 22 rdV mb w.heap.size L.length (enM .u32 L) left cnt ∧ OwnU wr (w.heap.size + 1) v j V ∧ Come L left j V ∧ j + cnt ≤ L.length ∧ w.heap.size + 1 ≤ wr.heap.size ∧ Ext w wr) (fun _ wr => wr.rangeLeft mb w.heap.size)
  case atStart => exact ⟨_, _, 0, fun _ => 0, hrg0, OwnU.nil _ _ _, Come.start _ _, by rw [enM_size]; omega, by omega, E0⟩
  case round =>
    obtain ⟨left, cnt, j, V, hrg, hu, hcm, hle, hsz, ext⟩ := hrel
    obtain ⟨A, c, rfl⟩ := hu.shape
    have HRG := Lib.hid hrg
    have HU := Lib.hid hu
    have HC := Lib.hid hcm
    have EX := Lib.hid ext
    have HL := Lib.hid hlt
    clear hrg hu hcm ext hrg0 hg0 E0 hmL c2 hlt
    go_wp2_with (first | (at_next; refine wpList_next_ranges _ rfl (.tmp 9) rfl _ (Maps.int_keyed Try.underlying22) rdV (fun x : Int => Value.int .u32 x) (fun c : Value => c) (fun key kl hk => by obtain ⟨x, rfl, _⟩ := Maps.keyOf_int_inv Try.underlying22 hk; exact ⟨x, rfl⟩) (fun v y _ => ⟨v, rfl⟩) mb _ _ _ left cnt rfl HRG.out ?_ ?_) | fail)
    · intro hc0 hl0
      have hdn := HC.out.done hl0
      have hj1 : 0 < j := by
        cases L with
        | nil => simp at h1
        | cons p L =>
          obtain ⟨i, hi, _⟩ := (hdn p.1).1 (hasL_mem.2 ⟨p, by simp, rfl⟩)
          omega
      obtain ⟨g, c', hs, _, _⟩ := HU.out.at_ 0 hj1
      injection hs with hs _ hs2
      subst hs hs2
      obtain ⟨hrow, hjc, hbg⟩ := HU.out.row
      have HSO := Lib.hid (sort_any g j c hjc (by omega) V wr hrow HC.out.2.2)
      have HDN := Lib.hid hdn
      clear hrow hdn hl0
      go_wp2_with fail
      refine (HSO.out).mono ?_
      rintro e w3 ⟨rfl, Y, hrY, hsY, hiY, hvY, hoY⟩
      obtain ⟨hjl, hkey⟩ := rise_keys HRIS.out hsY hiY fun v => (HDN.out v).trans (hvY v)
      have HFIN : Hid (RowU w3 g j (keyF L) ∧ Ext w w3) := Lib.hid ⟨hrY.congr hkey, (Onm.ext EX.out hoY (by omega) (by omega))⟩
      have HJL := Lib.hid hjl
      clear hrY hsY hiY hvY hoY hkey hjl
      go_wp2
      go_ret
      exact ⟨g, c, by rw [HJL.out]; rfl, by rw [← HJL.out]; exact hjc, by rw [← HJL.out]; exact HFIN.out.1, by omega, HFIN.out.2⟩
    · intro x cv kl y1 y2 w1 cnt1 hkey hlk hv hat hrg1 hlt1 hg1 hs1 hen
      obtain ⟨x', ex, rfl, hwx⟩ := Maps.keyOf_int_inv Try.underlying22 hkey
      cases ex
      have hx := has_of_hat hat
      have hcm := HC.out.step x hx hlk
      have hu1 : OwnU w1 (w.heap.size + 1) (.slice A j c) j (fun i => if i = j then x else V i) := (HU.out.heap fun k _ hb hk => hg1.block k hk (fun e => by injection e; omega)).congr fun i hi => by rw [if_neg (by omega)]
      obtain ⟨v', w2, hrun, ho2, hg2, _⟩ := hu1.push (by omega) (by omega) x (by simp)
      obtain ⟨A', c', rfl⟩ := ho2.shape
      have how := hu1.lt
      have hrg2 := (hrg1.alloc (.cells #[.int .u32 x] 22)).kept hg2 (fun e => by have := (how mb e.symm).1; have := HL.out.2; omega) (fun e => by have := (how w.heap.size e.symm).1; omega)
      have hsz2 := hg2.size
      simp at hsz2
      have HFIN := Lib.hid (And.intro hrg2 (And.intro ho2 hcm))
      have E1 : Ext w w1 := Ext.grown EX.out hg1 (fun k hk => by injection hk; omega)
      have E2 := Lib.hid (Ext.grown (E1.alloc (.cells #[.int .u32 x] 22)) hg2 fun k hk => by have := (how k hk).1; omega)
      have HSZ := Lib.hid (show w.heap.size + 1 ≤ w2.heap.size by omega)
      clear hrg1 hg1 hat hcm hu1 ho2 hrg2 hg2 E1 how hkey hv hs1 hsz2
      go_wp2_with (first | (at_builtin; refine wpList_append_run rfl (.tmp 14) (.tmp 16) _ rfl _ _ rfl rfl _ w2 hrun ?_) | fail)
      go_roundw
      case rel => exact ⟨_, cnt1, j + 1, _, HFIN.out.1, HFIN.out.2.1, HFIN.out.2.2, by omega, HSZ.out, E2.out⟩
      case measure => rw [HFIN.out.1.left_eq, HRG.out.left_eq]; omega
end Go.Proofs.Ytallbmobjhfhpaa
