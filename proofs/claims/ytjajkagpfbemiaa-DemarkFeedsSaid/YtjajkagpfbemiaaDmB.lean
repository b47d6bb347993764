/-
  Layer 4: a deframer in memory: what its functions return and leave.
-/
import Derived.Test.YtjajkagpfbemiaaDmA
import Derived.Test.YtjajkagpfbemiaaDmP
import Derived.Test.YtjajkagpfbemiaaXdrS
import Derived.Laws.EntriesVeiled
namespace Go.Proofs.Ytjajkagpfbemiaa
open Go Go.RowKit
set_option linter.unusedVariables false
set_option linter.unusedSimpArgs false
theorem exec_app {P : Program} {w : World} {o : Oper} {a : Act} (s x : Operand) (t : TypeId)
    (ho : o.op = .call { callee := .builtin .append, args := #[s, x], argTypes := #[t, t] }) (v u : Value) (hs : a.eval s = v) (hx : a.eval x = u) (v' : Value) (w' : World)
    (hrun : (Builtin.append_ #[t, t] o.type #[v, u]).run P w = .ok v' w') : (execOp a.eval o).run P w = .ok (.value v') w' := by
  unfold execOp
  simp only [ho, resolve, invoke, builtin, Sem.run_bind, Sem.run_pure, Result.andThen_ok, List.map_toArray, List.map_cons, List.map_nil, hs, hx, hrun]
def stp (md tb : Nat) : Value := match md with
  | 0 => .func (.func 23) #[.pointer (some ⟨tb, 0, none⟩)] #[]
  | 1 => .func (.func 30) #[.pointer (some ⟨tb, 0, none⟩)] #[]
  | _ => .func (.func 32) #[.pointer (some ⟨tb, 0, none⟩)] #[]
def Y1 (X : Nat → Prop) (tb : Nat) : Nat → Prop := fun k => X k ∨ k = tb
def Y2 (X : Nat → Prop) (tb : Nat) (hv : Value) : Nat → Prop := fun k => Y1 X tb k ∨ hv.ownBlock = some k
def Y3 (X : Nat → Prop) (tb : Nat) (hv rv : Value) : Nat → Prop := fun k => Y2 X tb hv k ∨ rv.ownBlock = some k
def DRow (w : World) (tb m f : Nat) (E : Int) (st hv : Value) (bg lf : Nat) (en : Bool) (rv tv : Value) : Prop :=
  w.heap[tb]? = some (.cells #[.int .i64 (m : Int), .int .i64 (f : Int), .int .i64 E, st, hv, .int .i64 (bg : Int), .int .i64 (lf : Int), .bool en, rv, tv] 52 (0, 0))
def DOwn (w : World) (X : Nat → Prop) (tb : Nat) (hv rv tv : Value) (H R : List UInt8) (T : List (List UInt8)) : Prop :=
  ¬ X tb ∧ w.ownsRow 0 5 1 hv H.length (bs H) ∧ Off (Y1 X tb) hv ∧ w.ownsRow 0 5 1 rv R.length (bs R) ∧ Off (Y2 X tb hv) rv ∧ OwnX w (Y3 X tb hv rv) tv T
/-- A deframer in block tb, apart from the blocks X. -/
def Dfm (w : World) (X : Nat → Prop) (tb m f : Nat) (s : DS) : Prop :=
  ∃ hv rv tv, DRow w tb m f s.E (stp s.md tb) hv s.bg s.lf s.en rv tv ∧ DOwn w X tb hv rv tv s.H s.R s.T
section
variable {w w' : World} {X : Nat → Prop} {tb m f : Nat} {hv rv tv : Value} {H R : List UInt8} {T : List (List UInt8)}
theorem DOwn.keep (h : DOwn w X tb hv rv tv H R T) (hk : Kp (fun k => ¬ Y1 X tb k) w w') : DOwn w' X tb hv rv tv H R T := by
  obtain ⟨h0, h1, h2, h3, h4, h5⟩ := h
  exact ⟨h0, hk.own h1 h2, h2, hk.own h3 (fun k e q => h4 k e (.inl q)), h4, h5.kept (hk.mono fun k hn q => hn (.inl (.inl q)))⟩
theorem DOwn.weak {X' : Nat → Prop} (h : DOwn w X tb hv rv tv H R T) (hx : ∀ k, X' k → X k) : DOwn w X' tb hv rv tv H R T := by
  obtain ⟨h0, h1, h2, h3, h4, h5⟩ := h
  have g1 : ∀ k, Y1 X' tb k → Y1 X tb k := fun k q => q.imp (hx k) id
  have g2 : ∀ k, Y2 X' tb hv k → Y2 X tb hv k := fun k q => q.imp (g1 k) id
  exact ⟨fun q => h0 (hx _ q), h1, h2.mono g1, h3, h4.mono g2, h5.mono fun k q => q.imp (g2 k) id⟩
theorem DOwn.dropH (h : DOwn w X tb hv rv tv H R T) : DOwn w X tb (.slice none 0 0) rv tv [] R T := by
  obtain ⟨h0, h1, h2, h3, h4, h5⟩ := h
  have g2 : ∀ k, Y2 X tb (.slice none 0 0) k → Y2 X tb hv k := fun k q => by
    rcases q with q | q
    · exact .inl q
    · cases q
  exact ⟨h0, World.ownsRow_nil _ _ _ _, Off.nil _, h3, h4.mono g2, h5.mono fun k q => q.imp (g2 k) id⟩
theorem DOwn.dropR (h : DOwn w X tb hv rv tv H R T) : DOwn w X tb hv (.slice none 0 0) tv H [] T := by
  obtain ⟨h0, h1, h2, h3, h4, h5⟩ := h
  exact ⟨h0, h1, h2, World.ownsRow_nil _ _ _ _, Off.nil _, h5.mono fun k q => by
    rcases q with q | q
    · exact .inl q
    · cases q⟩
theorem own_lt {base : Nat} {e : TypeId} {v : Value} {n : Nat} {xs : List Value} (h : w.ownsRow base e 1 v n xs) : ∀ k, v.ownBlock = some k → k < w.heap.size := fun k hk => (h.lt k hk).2
theorem OwnX.more {Y Y' : Nat → Prop} {v : Value} {rs : List (List UInt8)} (h : OwnX w Y v rs) (hy : ∀ k, Y' k → Y k ∨ w.heap.size ≤ k) : OwnX w Y' v rs := by
  have hlt := h.lt
  obtain ⟨vs, h1, h2, h3⟩ := h
  refine ⟨vs, h1, fun k hk q => ?_, fun j r hr => ?_⟩
  · rcases hy k q with q | q
    · exact h2 k hk q
    · have := hlt k hk
      omega
  · obtain ⟨u, a, ⟨A, n, c, rfl, hs, hne⟩, ho⟩ := h3 j r hr
    refine ⟨_, a, ⟨A, n, c, rfl, hs, hne⟩, fun ad n' c' hu hn q => ?_⟩
    rcases hy _ q with q | q
    · exact ho ad n' c' hu hn q
    · injection hu with e1 e2 e3
      subst e1 e2 e3
      obtain ⟨b, off, u, hA, _, _, hlt⟩ := hs.at_ hn
      injection hA with hA
      subst hA
      simp at q
      omega
theorem OwnX.grow {Y : Nat → Prop} {v : Value} {rs : List (List UInt8)} {row : Option Nat} (h : OwnX w Y v rs) (hk : Kp (fun k => ¬ row = some k) w w') (hr : ∀ k, row = some k → Y k) : OwnX w' (fun k => Y k ∨ w.heap.size ≤ k) v rs :=
  (h.more fun k q => q).kept (hk.mono fun k hn q => hn (.inl (hr k q)))
/-- One byte more of a fragment's first four. -/
theorem DOwn.byteH (h : DOwn w X tb hv rv tv H R T) (hX : ∀ k, X k → k < w.heap.size) (ht : tb < w.heap.size) (c : UInt8) (hl : H.length ≤ 100000) :
    ∃ A n cp w', (Builtin.append_ #[22, 22] 22 #[hv, .slice (some ⟨w.heap.size, 0, none⟩) 1 1]).run Try.prog (w.alloc (.cells #[.int .u8 (c.toNat : Int)] 5)) = .ok (.slice A n cp) w' ∧ n = H.length + 1 ∧
      DOwn w' X tb (.slice A n cp) rv tv (H ++ [c]) R T ∧ Kp (fun k => X k ∨ k = tb) w w' := by
  obtain ⟨h0, h1, h2, h3, h4, h5⟩ := h
  obtain ⟨v', w', hrun, hown, hg, hat⟩ := own_byte c h1 hl
  obtain ⟨A, cp, rfl, _⟩ := Sees.of_own hown
  have k0 : Kp (fun k => ¬ hv.ownBlock = some k) w w' := ((Kp.refl _ w).alloc _).grown hg fun k hk q => q hk
  have lr := own_lt h3
  refine ⟨A, _, cp, w', hrun, rfl, ⟨h0, by simpa using hown, fun k hk q => ?_, k0.own h3 fun k hk q => h4 k hk (.inr q), fun k hk q => ?_, ?_⟩, k0.mono fun k hk q => h2 k q hk⟩
  · rcases hat with e | e
    · rw [e] at hk
      exact h2 k hk q
    · rw [e] at hk
      injection hk with hk
      rcases q with q | q
      · have := hX k q; omega
      · omega
  · rcases q with q | q
    · exact h4 k hk (.inl q)
    · rcases hat with e | e
      · rw [e] at q
        exact h4 k hk (.inr q)
      · rw [e] at q
        injection q with q
        have := lr k hk
        omega
  · refine (h5.grow k0 fun k q => .inl (.inr q)).mono fun k q => ?_
    rcases q with (q | q) | q
    · exact .inl (.inl (.inl q))
    · rcases hat with e | e
      · rw [e] at q
        exact .inl (.inl (.inr q))
      · rw [e] at q
        injection q with q
        exact .inr (by omega)
    · exact .inl (.inr q)
/-- One byte more of a record. -/
theorem DOwn.byteR (h : DOwn w X tb hv rv tv H R T) (hX : ∀ k, X k → k < w.heap.size) (ht : tb < w.heap.size) (c : UInt8) (hl : R.length ≤ 100000) :
    ∃ A n cp w', (Builtin.append_ #[22, 22] 22 #[rv, .slice (some ⟨w.heap.size, 0, none⟩) 1 1]).run Try.prog (w.alloc (.cells #[.int .u8 (c.toNat : Int)] 5)) = .ok (.slice A n cp) w' ∧ n = R.length + 1 ∧
      DOwn w' X tb hv (.slice A n cp) tv H (R ++ [c]) T ∧ Kp (fun k => X k ∨ k = tb) w w' := by
  obtain ⟨h0, h1, h2, h3, h4, h5⟩ := h
  obtain ⟨v', w', hrun, hown, hg, hat⟩ := own_byte c h3 hl
  obtain ⟨A, cp, rfl, _⟩ := Sees.of_own hown
  have k0 : Kp (fun k => ¬ rv.ownBlock = some k) w w' := ((Kp.refl _ w).alloc _).grown hg fun k hk q => q hk
  have lh := own_lt h1
  refine ⟨A, _, cp, w', hrun, rfl, ⟨h0, k0.own h1 fun k hk q => h4 k q (.inr hk), h2, by simpa using hown, fun k hk q => ?_, ?_⟩, k0.mono fun k hk q => h4 k q (.inl hk)⟩
  · rcases hat with e | e
    · rw [e] at hk
      exact h4 k hk q
    · rw [e] at hk
      injection hk with hk
      rcases q with (q | q) | q
      · have := hX k q; omega
      · omega
      · have := lh k q; omega
  · refine (h5.grow k0 fun k q => .inr q).mono fun k q => ?_
    rcases q with q | q
    · exact .inl (.inl q)
    · rcases hat with e | e
      · rw [e] at q
        exact .inl (.inr q)
      · rw [e] at q
        injection q with q
        exact .inr (by omega)
/-- A record is there. -/
theorem DOwn.pushT {A : Option Addr} {n cp : Nat} (h : DOwn w X tb hv (.slice A n cp) tv H R T) (hX : ∀ k, X k → k < w.heap.size) (ht : tb < w.heap.size) (hl : T.length ≤ 99999) :
    ∃ A' n' cp' w', (Builtin.append_ #[23, 23] 23 #[tv, .slice (some ⟨w.heap.size, 0, none⟩) 1 1]).run Try.prog (w.alloc (.cells #[.slice A n cp] 22)) = .ok (.slice A' n' cp') w' ∧
      DOwn w' X tb hv (.slice none 0 0) (.slice A' n' cp') H [] (T ++ [R]) ∧ Kp (fun k => X k ∨ k = tb) w w' := by
  obtain ⟨h0, h1, h2, h3, h4, h5⟩ := h
  have lh := own_lt h1
  have hto := h5.off
  obtain ⟨A2, cp2, e2, hs⟩ := Sees.of_own h3
  injection e2 with q1 q2 q3
  subst q1 q2 q3
  have hblk : ∀ a, A = some a → 0 < R.length → (Value.slice A R.length cp).ownBlock = some a.block := fun a hA hn => by
    obtain ⟨g, cap, hv', _⟩ := h3.form hn
    injection hv' with q1 q2 q3
    rw [q1] at hA
    injection hA with hA
    subst hA
    rw [q1]
    rfl
  have h6 : OwnX w (Y3 X tb hv (.slice none 0 0)) tv T := h5.mono fun k q => by
    rcases q with q | q
    · exact .inl q
    · cases q
  obtain ⟨v', w', hrun, hown, hg, hat⟩ := ownX_push h6 (fun k q => by
    rcases q with ((q | q) | q) | q
    · exact hX k q
    · omega
    · exact lh k q
    · cases q) hl hs (fun a hA hn e => hto _ e (.inr (hblk a hA hn))) (fun a hA hn q => by
      rcases q with q | q
      · exact h4 _ (hblk a hA hn) q
      · cases q)
  obtain ⟨A', cp', vs, rfl, _⟩ := hown.elem
  have k0 : Kp (fun k => ¬ tv.ownBlock = some k) w w' := ((Kp.refl _ w).alloc _).grown hg fun k hk q => q hk
  exact ⟨A', _, cp', w', hrun, ⟨h0, k0.own h1 fun k hk q => hto k q (.inl (.inr hk)), h2, World.ownsRow_nil _ _ _ _, Off.nil _, hown⟩, k0.mono fun k hk q => hto k q (.inl (.inl hk))⟩
/-- The row in which a deframer has its cells, and a cell set. -/
theorem Dfm.lt {s : DS} (h : Dfm w X tb m f s) : tb < w.heap.size := by
  obtain ⟨_, _, _, h, _⟩ := h
  exact (Array.getElem?_eq_some_iff.1 h).1
theorem Dfm.keep {s : DS} (h : Dfm w X tb m f s) (hk : Kp (fun k => ¬ X k) w w') : Dfm w' X tb m f s := by
  obtain ⟨hv, rv, tv, h1, h2⟩ := h
  exact ⟨hv, rv, tv, hk.heap h1 h2.1, h2.keep (hk.mono fun k hn q => hn (.inl q))⟩
theorem Dfm.weak {X' : Nat → Prop} {s : DS} (h : Dfm w X tb m f s) (hx : ∀ k, X' k → X k) : Dfm w X' tb m f s := by
  obtain ⟨hv, rv, tv, h1, h2⟩ := h
  exact ⟨hv, rv, tv, h1, h2.weak hx⟩
end
section
variable {X : Nat → Prop} {tb m f : Nat}
set_option maxHeartbeats 400000 in
theorem dfail_any (E : Int) (s : DS) (w : World) (h : Dfm w X tb m f s) :
    Calls Try.prog 28 #[.pointer (some ⟨tb, 0, none⟩), .int .i64 E] w fun x w' => x = .returned (.tuple #[]) ∧ Dfm w' X tb m f (s.bad E) ∧ Kp X w w' := by
  obtain ⟨hv, rv, tv, hb, ho⟩ := h
  have f2 := blk_free hb 2
  have f8 := blk_free hb 8
  have f3 := blk_free hb 3
  have c2 := cell_of_row w tb 2 _ _ _ hb
  have c8 := cell_of_row w tb 8 _ _ _ hb
  have c3 := cell_of_row w tb 3 _ _ _ hb
  simp at c2 c8 c3
  have hx := ho.1
  have HB := Lib.hid hb
  have HO := Lib.hid ho
  clear hb ho
  go_enter Try.func28, Try.ntmps28
  go_wp2
  go_end0
  refine ⟨rfl, ?_, (((Kp.refl X w).set tb 2 _ hx).set tb 8 _ hx).set tb 3 _ hx⟩
  have := set_blk (set_blk (set_blk HB.out 2 (.int .i64 E)) 8 (.slice none 0 0)) 3 (stp 2 tb)
  exact ⟨hv, .slice none 0 0, tv, by simpa [DRow, DS.bad, stp] using this, HO.out.dropR.keep ((((Kp.refl _ w).set tb 2 _ (fun q => q (.inr rfl))).set tb 8 _ (fun q => q (.inr rfl))).set tb 3 _ (fun q => q (.inr rfl)))⟩
end
end Go.Proofs.Ytjajkagpfbemiaa
