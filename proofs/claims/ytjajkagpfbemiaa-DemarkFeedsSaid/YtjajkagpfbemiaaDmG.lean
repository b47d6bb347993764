/-
  Layer 4: a deframer in memory: what is asked of it; a new one; what is told, gathered.
-/
import Derived.Test.YtjajkagpfbemiaaDmF
namespace Go.Proofs.Ytjajkagpfbemiaa
open Go Go.RowKit
set_option linter.unusedVariables false
set_option linter.unusedSimpArgs false
section
variable {X : Nat → Prop} {tb m f : Nat}
theorem derrno_any (s : DS) (w : World) (h : Dfm w X tb m f s) : Calls Try.prog 17 #[.pointer (some ⟨tb, 0, none⟩)] w fun x w' => x = .returned (.int .i64 s.E) ∧ w = w' := by
  obtain ⟨hv, rv, tv, hb, ho⟩ := h
  have c2 := cell_of_row w tb 2 _ _ _ hb
  simp at c2
  clear hb ho
  go_enter Try.func17, Try.ntmps17
  go_wp2
  go_ret
  exact ⟨rfl, rfl⟩
theorem dheld_any (s : DS) (w : World) (h : Dfm w X tb m f s) (h1 : s.R.length ≤ 100000) (h2 : s.H.length ≤ 100000) : Calls Try.prog 18 #[.pointer (some ⟨tb, 0, none⟩)] w fun x w' => x = .returned (.int .i64 ((s.R.length + s.H.length : Nat) : Int)) ∧ ∃ n, w' = w.drewN n := by
  obtain ⟨hv, rv, tv, hb, ho⟩ := h
  obtain ⟨Ah, ch, rfl, _⟩ := Sees.of_own ho.2.1
  obtain ⟨Ar, cr, rfl, _⟩ := Sees.of_own ho.2.2.2.1
  have c4 := cell_of_row w tb 4 _ _ _ hb
  have c8 := cell_of_row w tb 8 _ _ _ hb
  simp at c4 c8
  have hz : IntKind.i64.wrap ((s.R.length : Int) + (s.H.length : Int)) = (s.R.length : Int) + (s.H.length : Int) := IntWalk.i64_in _ (by omega)
  clear hb ho
  go_enter Try.func18, Try.ntmps18
  go_wp2
  go_quiet (fail)
  go_wp2
  go_ret
  exact ⟨by rw [Int.natCast_add]; rfl, _, rfl⟩
/-- Is nothing begun? -/
def clB (s : DS) : Bool := decide (s.E = 0) && (decide (s.bg = 0) && s.H.isEmpty)
theorem dclean_any (s : DS) (w : World) (h : Dfm w X tb m f s) : Calls Try.prog 19 #[.pointer (some ⟨tb, 0, none⟩)] w fun x w' => x = .returned (.bool (clB s)) ∧ w = w' := by
  obtain ⟨hv, rv, tv, hb, ho⟩ := h
  obtain ⟨Ah, ch, rfl, _⟩ := Sees.of_own ho.2.1
  have c2 := cell_of_row w tb 2 _ _ _ hb
  have c5 := cell_of_row w tb 5 _ _ _ hb
  have c4 := cell_of_row w tb 4 _ _ _ hb
  simp at c2 c4 c5
  clear hb ho
  by_cases h1 : s.E = 0
  · by_cases h2 : s.bg = 0
    · by_cases h3 : s.H.length = 0
      · have hr : clB s = true := by unfold clB; simp [h1, h2, List.length_eq_zero_iff.1 h3]
        rw [hr]
        rw [h1] at c2
        rw [h2] at c5
        rw [h3] at c4
        clear hr h1 h2 h3
        go_enter Try.func19, Try.ntmps19
        go_wp2
        go_ret
        exact ⟨rfl, rfl⟩
      · have hr : clB s = false := by
          unfold clB
          cases hH : s.H with
          | nil => rw [hH] at h3; exact absurd rfl h3
          | cons a b => simp
        rw [hr]
        rw [h1] at c2
        rw [h2] at c5
        have h4 : ¬ (s.H.length : Int) = 0 := by omega
        have h5 : ((s.H.length : Int) == 0) = false := by simpa using h3
        clear hr h1 h2
        go_enter Try.func19, Try.ntmps19
        go_wp2
        go_ret
        exact ⟨rfl, rfl⟩
    · have hr : clB s = false := by unfold clB; simp [h2]
      rw [hr]
      rw [h1] at c2
      have h5 : ((s.bg : Int) == 0) = false := by simpa using h2
      clear hr h1
      go_enter Try.func19, Try.ntmps19
      go_wp2
      go_ret
      exact ⟨rfl, rfl⟩
  · have hr : clB s = false := by unfold clB; simp [h1]
    rw [hr]
    have h5 : (s.E == 0) = false := by simpa using h1
    clear hr
    go_enter Try.func19, Try.ntmps19
    go_wp2
    go_ret
    exact ⟨rfl, rfl⟩
end
theorem dnew_no (m f : Int) (w : World) (h : m < 0 ∨ 4096 < m ∨ f < 1 ∨ 64 < f) :
    Calls Try.prog 12 #[.int .i64 m, .int .i64 f] w fun e w' => e = .returned (.tuple #[.pointer none, .int .i64 1]) ∧ w = w' := by
  by_cases h1 : m < 0
  · clear h
    go_enter Try.func12, Try.ntmps12
    go_wp2
    go_ret2
    exact ⟨rfl, rfl⟩
  · by_cases h2 : 4096 < m
    · clear h
      go_enter Try.func12, Try.ntmps12
      go_wp2
      go_ret2
      exact ⟨rfl, rfl⟩
    · by_cases h3 : f < 1
      · clear h
        go_enter Try.func12, Try.ntmps12
        go_wp2
        go_ret2
        exact ⟨rfl, rfl⟩
      · have h4 : 64 < f := by omega
        clear h
        go_enter Try.func12, Try.ntmps12
        go_wp2
        go_ret2
        exact ⟨rfl, rfl⟩
theorem dnew_ok (m f : Nat) (w : World) (h1 : m ≤ 4096) (h2 : 1 ≤ f) (h3 : f ≤ 64) :
    Calls Try.prog 12 #[.int .i64 (m : Int), .int .i64 (f : Int)] w fun e w' => e = .returned (.tuple #[.pointer (some ⟨w.heap.size, 0, none⟩), .int .i64 0]) ∧ Dfm w' (fun k => ¬ k = w.heap.size) w.heap.size m f d0 ∧ w.heap.size < w'.heap.size ∧ Ext w w' := by
  have hb := heap_alloc_new w (.cells #[.int .i64 (m : Int), .int .i64 (f : Int), .int .i64 0, .nilFunc, .slice none 0 0, .int .i64 0, .int .i64 0, .bool false, .slice none 0 0, .slice none 0 0] 52)
  have c3 := cell_of_row _ w.heap.size 3 _ _ _ hb
  simp at c3
  have f3 := Lib.frozen_of_heap hb 3
  clear hb
  have g1 : ¬ (m : Int) < 0 := by omega
  have g2 : ¬ (4096 : Int) < (m : Int) := by omega
  have g3 : ¬ (f : Int) < 1 := by omega
  have g4 : ¬ (64 : Int) < (f : Int) := by omega
  go_enter Try.func12, Try.ntmps12
  go_wp2
  go_ret2
  have kB := heap_alloc_new w (.cells #[.int .i64 (m : Int), .int .i64 (f : Int), .int .i64 0, .func (.func 23) #[.pointer (some ⟨w.heap.size, 0, none⟩)] #[], .slice none 0 0, .int .i64 0, .int .i64 0, .bool false, .slice none 0 0, .slice none 0 0] 52)
  exact ⟨rfl, ⟨.slice none 0 0, .slice none 0 0, .slice none 0 0, kB, fun q => q rfl, World.ownsRow_nil _ _ _ _, Off.nil _, World.ownsRow_nil _ _ _ _, Off.nil _, OwnX.nil _ _⟩, by simp, (Ext.refl w).alloc _⟩
/-- A deframer whose records are all told, and a row of records that was gathered; apart from each other, and from B. -/
def DG (w : World) (B : Nat → Prop) (tb m f : Nat) (s : DS) (gv : Value) (rows : List (List UInt8)) : Prop :=
  ∃ Z : Nat → Prop, Dfm w Z tb m f s ∧ (∀ k, B k → Z k) ∧ (∀ k, ¬ Z k → k < w.heap.size) ∧ OwnX w (fun k => B k ∨ ¬ Z k) gv rows
section
variable {w w' : World} {B : Nat → Prop} {tb m f : Nat} {s : DS} {gv : Value} {rows : List (List UInt8)}
theorem DG.start (h : Dfm w (fun k => ¬ k = tb) tb m f s) (ht : tb < w.heap.size) (hB : ∀ k, B k → ¬ k = tb) : DG w B tb m f s (.slice none 0 0) [] :=
  ⟨_, h, hB, fun k hk => by
    have : k = tb := Classical.byContradiction hk
    omega, OwnX.nil _ _⟩
theorem DG.ext (h : DG w B tb m f s gv rows) (he : Ext w w') : DG w' B tb m f s gv rows := by
  obtain ⟨Z, h1, h2, h3, h4⟩ := h
  exact ⟨Z, h1.keep (Kp.of_ext he), h2, fun k hk => Nat.lt_of_lt_of_le (h3 k hk) he.size, h4.ext he⟩
theorem DG.dfm (h : DG w B tb m f s gv rows) : Dfm w B tb m f s := by
  obtain ⟨Z, h1, h2, _⟩ := h
  exact h1.weak h2
theorem DG.lt (h : DG w B tb m f s gv rows) : tb < w.heap.size := h.dfm.lt
theorem DG.own (h : DG w B tb m f s gv rows) : OwnX w B gv rows := by
  obtain ⟨Z, _, _, _, h4⟩ := h
  exact h4.mono fun k q => .inl q
theorem DG.toB (h : DG w B tb m f s gv rows) : OwnB w 0 gv rows := h.own.toB
/-- What is kept in blocks of B keeps a deframer and a row apart from B. -/
theorem DG.keep (h : DG w B tb m f s gv rows) (hk : Kp (fun k => ¬ B k) w w') : DG w' B tb m f s gv rows := by
  obtain ⟨Z, h1, h2, h3, h4⟩ := h
  exact ⟨Z, h1.keep (hk.mono fun k hn q => hn (h2 k q)), h2, fun k hk' => Nat.lt_of_lt_of_le (h3 k hk') hk.size, h4.kept (hk.mono fun k hn q => hn (.inl q))⟩
/-- Bytes fed, and what is told gathered. -/
theorem DG.feed (h : DG w B tb m f s gv rows) (hB : ∀ k, B k → k < w.heap.size) (hok : DOk m f s) (hm : m ≤ 10000) (hf : f ≤ 1000) (hT : s.T = []) {A : Option Addr} {n c : Nat} {l : List UInt8}
    (hs : Sees w A n c (bs l)) (hn : n ≤ 10000) (hA : ∀ a, A = some a → 0 < n → B a.block) (hr : rows.length ≤ 10000) :
    Calls Try.prog 14 #[.pointer (some ⟨tb, 0, none⟩), .slice A n c] w fun x w1 => ∃ A' n' c', x = .returned (.slice A' n' c') ∧ Kp B w w1 ∧
      ∃ A2 n2 c2 w2, (Builtin.append_ #[23, 23] 23 #[gv, .slice A' n' c']).run Try.prog w1 = .ok (.slice A2 n2 c2) w2 ∧ n2 = (rows ++ (drun m f s l).T).length ∧ DG w2 B tb m f (drun m f s l).told (.slice A2 n2 c2) (rows ++ (drun m f s l).T) ∧ Kp B w w2 := by
  obtain ⟨Z, h1, h2, h3, h4⟩ := h
  have hln := hs.len
  rw [bs_length] at hln
  have hlt := drun_T m f l s
  rw [hT] at hlt
  simp at hlt
  refine (feed_any (X := fun k => Z k ∧ k < w.heap.size) A n c l s w (h1.weak fun k q => q.1) (fun k q => q.2) hok hm hf hT hs hn (fun a ha hp => ⟨h2 _ (hA a ha hp), hB _ (hA a ha hp)⟩)).mono ?_
  rintro x w1 ⟨v, Z1, rfl, d1, z1, z2, o1, k1⟩
  obtain ⟨A', c', vs', rfl, hs', hl', hel⟩ := o1.elem
  have kB : Kp B w w1 := k1.mono fun k q => ⟨h2 k q, hB k q⟩
  have hgo := h4.lt
  have hgoff := h4.off
  have g1 : OwnX w1 (fun k => B k ∨ ¬ Z1 k) gv rows := by
    have a1 : OwnX w (fun k => B k ∨ ¬ Z1 k ∨ ¬ Z k) gv rows := h4.more fun k q => by
      rcases q with q | q | q
      · exact .inl (.inl q)
      · by_cases hz : Z k
        · exact .inr (Nat.le_of_not_lt fun hlt => q (z1 k ⟨hz, hlt⟩))
        · exact .inl (.inr hz)
      · exact .inl (.inr q)
    refine (a1.kept (k1.lt.mono fun k hn => ?_)).mono fun k q => ?_
    · exact Classical.byContradiction fun hz => hn (.inr (.inr hz))
    · rcases q with q | q
      · exact .inl q
      · exact .inr (.inl q)
  obtain ⟨v2, w2, hrun, o2, hg, hat⟩ := ownX_app g1 (fun k q => by
    rcases q with q | q
    · exact Nat.lt_of_lt_of_le (hB k q) k1.size
    · exact z2 k q) (by omega) hs' hl' (fun j r hr => by
      obtain ⟨u, e1, ⟨A0, n0, c0, rfl, s0, ne0⟩, e3⟩ := hel j r hr
      refine ⟨_, e1, ⟨A0, n0, c0, rfl, s0, fun a ha hp e => e3 a n0 c0 (by rw [ha]) hp (.inl ⟨Classical.byContradiction fun hz => hgoff _ e (.inr hz), hgo _ e⟩)⟩, e3.mono fun k q => ?_⟩
      rcases q with q | q
      · exact .inl ⟨h2 k q, hB k q⟩
      · exact .inr q)
  obtain ⟨A2, c2, vs2, rfl, _⟩ := o2.elem
  have k2 : Kp (fun k => ¬ gv.ownBlock = some k) w1 w2 := (Kp.refl _ w1).grown hg fun k hk q => q hk
  refine ⟨A', _, c', rfl, kB, A2, _, c2, w2, hrun, rfl, ⟨Z1, d1.keep (k2.mono fun k hn q => hn (Classical.byContradiction fun hz => ?_)), fun k q => z1 k ⟨h2 k q, hB k q⟩, fun k hk => Nat.lt_of_lt_of_le (z2 k hk) k2.size, o2⟩, kB.trans (k2.mono fun k q e => hgoff k e (.inl q))⟩
  exact g1.off k q (.inr hz)
end
end Go.Proofs.Ytjajkagpfbemiaa
