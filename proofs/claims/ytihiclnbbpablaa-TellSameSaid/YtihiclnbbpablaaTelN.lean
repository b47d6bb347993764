/-
  Layer 18: a reply that may be, made of any.
-/
import Derived.Test.YtihiclnbbpablaaTelM
import Derived.Test.YtihiclnbbpablaaShort
import Derived.Test.YtihiclnbbpablaaCom
import Derived.Test.YtihiclnbbpablaaExA
namespace Go.Proofs.Ytihiclnbbpablaa
open Go Go.RowKit
set_option linter.unusedVariables false
set_option linter.unusedSimpArgs false
def lw (x : Int) : Int := aroundZ x 4294967296
def hi62 (x : Int) : Int := aroundZ x 4611686018427387905
def RQ (q : Bool × Int × Int) : Prop := I64 q.2.1 ∧ I64 q.2.2
/-- All numbers have 64 bits, all texts may be. -/
structure TL.rng (t : TL) : Prop where
  ty : I64 t.ty
  tg : I64 t.tg
  cd : I64 t.cd
  ms : I64 t.ms
  io : I64 t.io
  ct : I64 t.ct
  nm : t.nm.length ≤ 9223372036854775807
  q : RQ t.q
  ql : ∀ q ∈ t.ql, RQ q
  s : RQ t.s
  sm : I64 t.sm
  sz : I64 t.sz
  sn : t.sn.length ≤ 9223372036854775807
def mk1 (t : TL) : TL := { TL.zero (gk t.ty) (aroundZ t.tg 65536) with cd := aroundZ t.cd 65536, ms := lw t.ms, io := lw t.io, ct := lw t.ct, q := gq t.q }
def mk2 (t : TL) : TL := { mk1 t with nm := t.nm.take 40 }
def mkq (t : TL) (A : Option Addr) (n c : Nat) (l : List (Bool × Int × Int)) : TL := { mk2 t with qA := A, qn := n, qk := c, ql := l }
def mkd (u : TL) (A : Option Addr) (n c : Nat) (l : List UInt8) : TL := { u with dA := A, dn := n, dk := c, dl := l }
def mks (t u : TL) : TL := { u with s := gq t.s, sm := lw t.sm, sz := hi62 t.sz, sn := t.sn.take 40 }
theorem TL.noB (t : TL) (i : Nat) (x : Int) : ¬ t.cs[i]? = some (Value.int .u8 x) := by
  intro h
  have hm := Array.mem_of_getElem? h
  simp [TL.cs] at hm
theorem exec_loadCells {P : Program} {o : Oper} {a : Act} {w : World} (ty : TypeId) (x : Operand) (ho : o.op = .load ty x)
    (g off : Nat) (hx : a.eval x = .pointer (some ⟨g, off, none⟩)) (xs : Array Value) (d : TypeDesc) (hc : ∀ j v, xs[j]? = some v → w.cell? ⟨g, off + j, none⟩ = some v)
    (hu : P.underlying ty = some d) (hd : (match d with | .struct _ | .array _ _ => true | _ => false) = true) (hi : (P.info? ty).map (·.size) = some xs.size) : (execOp a.eval o).run P w = .ok (.value (.agg xs)) w := by
  have hl : (loadCells ⟨g, off, none⟩ xs.toList.length).run P w = .ok xs.toList.toArray w :=
    run_loadCells_list (P := P) w ⟨g, off, none⟩ xs.toList (fun j v hv => by
      rw [addr_add]
      exact hc j v (by simpa using hv))
  have hrun : (loadVar ty ⟨g, off, none⟩).run P w = .ok (.agg xs) w := by
    cases hq : P.info? ty with
    | none => simp [hq] at hi
    | some i =>
      have hs : i.size = xs.size := by simpa [hq] using hi
      have hagg : (isAgg ty).run P w = .ok true w := by
        unfold isAgg
        rw [Sem.run_bind, run_underlying hu w]
        cases d <;> simp_all
      simp only [Array.length_toList, Array.toArray_toList] at hl
      simp [loadVar, Sem.run_bind, hagg, sizeOf, typeInfo, hq, hs, hl]
  unfold execOp
  simp only [ho, hx, Instr.loadAt, Instr.sureAddr, Sem.run_bind, Sem.run_pure, Result.andThen_ok, hrun]
theorem own_ext3 {w w' : World} {base sz : Nat} {e : TypeId} {v : Value} {n : Nat} {xs : List Value} (h : w.ownsRow base e sz v n xs) (he : Ext w w') : w'.ownsRow base e sz v n xs := by
  obtain ⟨h1, h2⟩ := h
  refine ⟨h1, ?_⟩
  rcases h2 with h2 | ⟨g, cap, cur, hv, hg, hh, r⟩
  · exact .inl h2
  · exact .inr ⟨g, cap, cur, hv, hg, he.heap hh, r⟩
theorem own_mono3 {w : World} {base base' sz : Nat} {e : TypeId} {v : Value} {n : Nat} {xs : List Value} (h : w.ownsRow base e sz v n xs) (hb : base' ≤ base) : w.ownsRow base' e sz v n xs := by
  obtain ⟨h1, h2⟩ := h
  refine ⟨h1, ?_⟩
  rcases h2 with h2 | ⟨g, cap, cur, hv, hg, r⟩
  · exact .inl h2
  · exact .inr ⟨g, cap, cur, hv, by omega, r⟩
/-- A row of the call's own, while other blocks are written. -/
theorem own_on2 {w w' : World} {base sz tb : Nat} {e : TypeId} {v : Value} {n : Nat} {xs : List Value} (h : w.ownsRow base e sz v n xs) (ho : On2 tb tb w w') (hne : v.ownBlock ≠ some tb) : w'.ownsRow base e sz v n xs := by
  obtain ⟨h1, h2⟩ := h
  refine ⟨h1, ?_⟩
  rcases h2 with h2 | ⟨g, cap, cur, hv, hg, hh, r⟩
  · exact .inl h2
  · have hgt : ¬ g = tb := fun e => hne (by rw [hv, e]; rfl)
    exact .inr ⟨g, cap, cur, hv, hg, ho.heap hh hgt hgt, r⟩
theorem seesQ_own {w : World} {base : Nat} {v : Value} {n : Nat} {l : List (Bool × Int × Int)} (h : w.ownsRow base 23 3 v n (l.flatMap qc)) (hn : l.length = n) : ∃ A c, v = .slice A n c ∧ SeesQ w A n c l := by
  obtain ⟨h1, h2⟩ := h
  rcases h2 with ⟨rfl, rfl⟩ | ⟨g, cap, cur, rfl, hg, hh, h3, h4, h5, h6⟩
  · have : l = [] := List.length_eq_zero_iff.1 hn
    subst this
    exact ⟨none, 0, rfl, SeesQ.nil w⟩
  · refine ⟨_, cap, rfl, hn, h1, h3, h4, nofun, fun _ => ⟨g, 0, rfl, fun j u hu => ?_⟩⟩
    rw [Nat.zero_add, cell_of_row w g j cur _ _ hh]
    rw [← h6, List.getElem?_take] at hu
    split at hu
    · simpa using hu
    · cases hu
theorem qcs_len (l : List (Bool × Int × Int)) : (l.flatMap qc).length = l.length * 3 := by
  induction l with
  | nil => rfl
  | cons a l ih => rw [List.flatMap_cons, List.length_append, ih, List.length_cons, show (qc a).length = 3 from rfl]; omega
theorem push_qid {a w : World} {base n : Nat} {v : Value} {l : List (Bool × Int × Int)} {q : Bool × Int × Int} {b : Nat} (hown : w.ownsRow base 23 3 v n (l.flatMap qc)) (hb : w.heap[b]? = some (.cells (qv q) 23 (0, 0))) (hn : n ≤ 1000) (he : Ext a w) (ha : a.heap.size ≤ base) (hbs : base ≤ w.heap.size) :
    ∃ v' w', (Builtin.append_ #[24, 24] 24 #[v, .slice (some ⟨b, 0, none⟩) 1 1]).run Try.prog w = .ok v' w' ∧ w'.ownsRow base 23 3 v' (n + 1) ((l ++ [q]).flatMap qc) ∧ (∀ k o, k < base → w.heap[k]? = some o → w'.heap[k]? = some o) ∧ Ext a w' ∧ w.heap.size ≤ w'.heap.size := by
  have hi : ∃ i, Try.prog.info? 23 = some i ∧ i.size = 3 ∧ i.bytes = 24 ∧ ∃ z, i.zero = some z ∧ z.cells.size = 3 := by
    have h : (Try.prog.info? 23).map (fun i => (i.size, i.bytes, i.zero.map (·.cells.size))) = some (3, 24, some 3) := by kernel_rfl
    obtain ⟨i, hi, h1⟩ := Option.map_eq_some_iff.1 h
    injection h1 with h1 h2
    injection h2 with h2 h3
    obtain ⟨z, hz, hzs⟩ := Option.map_eq_some_iff.1 h3
    exact ⟨i, hi, h1, h2, z, hz, hzs⟩
  obtain ⟨i, hi, hs, hby, z, hz, hzs⟩ := hi
  obtain ⟨v', w', hrun, hown', hg, _⟩ := run_append_own (P := Try.prog) w base 24 24 23 i z 3 24 Try.underlying24 hi hz hs hby hzs (by omega) v n _ hown ⟨b, 0, none⟩ 1 1 (qc q) rfl
    (fun j u hu => by
      rw [addr_add, Nat.zero_add, cell_of_row w b j _ _ _ hb]
      simpa [qv, qc] using hu) (fun u hu => by simp [qc] at hu; rcases hu with rfl | rfl | rfl <;> rfl) (by unfold maxLen; omega) (by omega) hbs
  refine ⟨v', w', hrun, ?_, fun k o hk hko => (hg.block k (Array.getElem?_eq_some_iff.1 hko).1 (fun e => by have := (hown.lt k e.symm).1; omega)).trans hko, he.grown hg fun k hk => Nat.le_trans ha (hown.lt k hk).1, hg.size⟩
  rw [List.flatMap_append]
  simpa using hown'
end Go.Proofs.Ytihiclnbbpablaa
