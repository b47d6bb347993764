/-
  Plain words for slices: 'Sees w A n c xs': the slice value .slice A n c reads as the one-cell elements xs in the world w; laws for append, string(..) and slicing over it.
  Conditions: lengths at most 'maxLen'.
-/
import Derived.Test.YtihiclnbbpablaaReg
import Derived.ArgAppend
import Derived.Laws.OwnMore
import Derived.Laws.BytesArg
import Derived.Laws.IdiomStrings
import Derived.Deep.AppendLies
import Derived.Maps.AppendAt
import Derived.OwnWalk
import Derived.OpenShut
import Derived.Lib.Hide
namespace Go.Proofs.Ytihiclnbbpablaa
open Go Go.RowKit
set_option linter.unusedVariables false
set_option linter.unusedSimpArgs false

/-- The cells of bytes. -/
def bs (l : List UInt8) : List Value := l.map fun b => Value.int .u8 (b.toNat : Int)
theorem bs_length (l : List UInt8) : (bs l).length = l.length := by simp [bs]
theorem bs_append (l m : List UInt8) : bs (l ++ m) = bs l ++ bs m := by simp [bs]
theorem bs_nil : bs [] = [] := rfl
theorem bs_take (l : List UInt8) (k : Nat) : (bs l).take k = bs (l.take k) := by simp [bs, List.map_take]
theorem bs_drop (l : List UInt8) (k : Nat) : (bs l).drop k = bs (l.drop k) := by simp [bs, List.map_drop]
theorem bs_one (l : List UInt8) : ∀ u ∈ bs l, u.oneCell' = true := by
  intro u hu
  obtain ⟨b, _, rfl⟩ := List.mem_map.1 hu
  rfl
theorem bs_get (l : List UInt8) (j : Nat) (u : Value) (h : (bs l)[j]? = some u) : ∃ hj : j < l.length, u = .int .u8 ((l[j]).toNat : Int) := by
  have hj : j < l.length := by simpa [bs] using (List.getElem?_eq_some_iff.1 h).1
  refine ⟨hj, ?_⟩
  simp [bs, List.getElem?_eq_getElem hj] at h
  exact h.symm

/-- The slice .slice A n c reads as the elements xs, a cell each. -/
def Sees (w : World) (A : Option Addr) (n c : Nat) (xs : List Value) : Prop :=
  xs.length = n ∧ n ≤ c ∧ c ≤ maxLen ∧ (A = none → c = 0) ∧ (0 < n → ∃ b off, A = some ⟨b, off, none⟩ ∧ ∀ j u, xs[j]? = some u → w.cell? ⟨b, off + j, none⟩ = some u)

theorem addr_add (b off j : Nat) : (⟨b, off, none⟩ : Addr).add j = ⟨b, off + j, none⟩ := by unfold Addr.add; split <;> simp_all
theorem addr_add_zero (a : Addr) : a.add 0 = a := by simp [Addr.add]
theorem ownBlock_nil : (Value.slice none 0 0).ownBlock = none := rfl

section
variable {w w' : World} {A : Option Addr} {n c : Nat} {xs : List Value}
theorem Sees.nil (w : World) : Sees w none 0 0 [] := ⟨rfl, Nat.le_refl _, by simp [maxLen], fun _ => rfl, fun h => absurd h (by omega)⟩
theorem Sees.len (h : Sees w A n c xs) : xs.length = n := h.1
theorem Sees.le (h : Sees w A n c xs) : n ≤ c := h.2.1
theorem Sees.max (h : Sees w A n c xs) : c ≤ maxLen := h.2.2.1
theorem Sees.keep (h : Sees w A n c xs) (hk : ∀ (p : Addr) (u : Value), w.cell? p = some u → w'.cell? p = some u) : Sees w' A n c xs :=
  ⟨h.1, h.2.1, h.2.2.1, h.2.2.2.1, fun hn => by
    obtain ⟨b, off, e, hc⟩ := h.2.2.2.2 hn
    exact ⟨b, off, e, fun j u hu => hk _ _ (hc j u hu)⟩⟩
theorem Sees.ext (h : Sees w A n c xs) (he : Ext w w') : Sees w' A n c xs := h.keep fun _ _ hc => he.cell hc
theorem Sees.drew (h : Sees w A n c xs) : Sees w.drew A n c xs := h.keep fun _ _ hc => by simpa using hc
theorem Sees.below {B : Nat} (h : Sees w A n c xs) (he : Below B w w') (hB : ∀ ad, A = some ad → 0 < n → ad.block < B) : Sees w' A n c xs :=
  ⟨h.1, h.2.1, h.2.2.1, h.2.2.2.1, fun hn => by
    obtain ⟨b, off, e, hc⟩ := h.2.2.2.2 hn
    exact ⟨b, off, e, fun j u hu => (he.cell (p := ⟨b, off + j, none⟩) (hB ⟨b, off, none⟩ e hn)).trans (hc j u hu)⟩⟩
theorem Sees.at_ {k : Nat} (h : Sees w A n c xs) (hk : k < n) : ∃ b off u, A = some ⟨b, off, none⟩ ∧ xs[k]? = some u ∧ w.cell? ⟨b, off + k, none⟩ = some u ∧ b < w.heap.size := by
  obtain ⟨b, off, e, hc⟩ := h.2.2.2.2 (by omega)
  have hl : k < xs.length := by rw [h.1]; exact hk
  have hcell := hc k _ (List.getElem?_eq_getElem hl)
  exact ⟨b, off, xs[k], e, List.getElem?_eq_getElem hl, hcell, World.block_lt_of_cell? w ⟨b, off + k, none⟩ hcell⟩
theorem Sees.of_own {base : Nat} {e : TypeId} {v : Value} (h : w.ownsRow base e 1 v n xs) : ∃ A c, v = .slice A n c ∧ Sees w A n c xs := by
  obtain ⟨hl, h⟩ := h
  rcases h with ⟨rfl, rfl⟩ | ⟨g, cap, cur, rfl, _, hg, hnc, hm, hs, ht⟩
  · obtain rfl : xs = [] := List.eq_nil_of_length_eq_zero (by simpa using hl)
    exact ⟨none, 0, rfl, Sees.nil w⟩
  · refine ⟨some ⟨g, 0, none⟩, cap, rfl, by simpa using hl, hnc, hm, nofun, fun _ => ⟨g, 0, rfl, fun j u hu => ?_⟩⟩
    rw [Nat.zero_add, cell_of_row w g j cur e (0, 0) hg]
    rw [← ht, List.getElem?_take] at hu
    split at hu
    · simpa using hu
    · cases hu
/-- The first k elements; the room stays. -/
theorem Sees.take (h : Sees w A n c xs) (k : Nat) (hk : k ≤ n) : Sees w A k c (xs.take k) :=
  ⟨by rw [List.length_take, h.1]; omega, by have := h.2.1; omega, h.2.2.1, h.2.2.2.1, fun hn => by
    obtain ⟨b, off, e, hc⟩ := h.2.2.2.2 (by omega)
    refine ⟨b, off, e, fun j u hu => hc j u ?_⟩
    rw [List.getElem?_take] at hu
    split at hu
    · exact hu
    · cases hu⟩
/-- What stands behind the first k elements. -/
theorem Sees.drop (h : Sees w A n c xs) (k : Nat) (hk : k ≤ n) (hc : ¬ c = k) : Sees w (Option.map (fun x => x.add k) A) (n - k) (c - k) (xs.drop k) :=
  ⟨by rw [List.length_drop, h.1], by have := h.2.1; omega, by have := h.2.2.1; omega, fun hA => by
    have : A = none := by simpa using hA
    have := h.2.2.2.1 this
    omega, fun hn => by
    obtain ⟨b, off, e, hcell⟩ := h.2.2.2.2 (by omega)
    subst e
    refine ⟨b, off + k, by simp [addr_add], fun j u hu => ?_⟩
    rw [Nat.add_assoc]
    exact hcell (k + j) u (by rw [← hu, List.getElem?_drop])⟩
theorem Sees.drop_all (h : Sees w A n c xs) (k : Nat) (hk : k ≤ n) (hc : c = k) : Sees w A (n - k) 0 (xs.drop k) :=
  ⟨by rw [List.length_drop, h.1], by have := h.2.1; omega, Nat.zero_le _, fun _ => rfl, fun hn => by have := h.2.1; omega⟩
/-- No spare room any more. -/
theorem Sees.fix (h : Sees w A n c xs) : Sees w (if c = 0 then none else A) n n xs :=
  ⟨h.1, Nat.le_refl _, Nat.le_trans h.2.1 h.2.2.1, fun hA => by
    have := h.2.1
    by_cases hc : c = 0
    · omega
    · rw [if_neg hc] at hA
      have := h.2.2.2.1 hA
      omega, fun hn => by
    rw [if_neg (by have := h.2.1; omega)]
    exact h.2.2.2.2 hn⟩
end

section
variable {P : Program} {w : World}

/-- What may be appended: a slice that is read. -/
theorem Sees.cells {A : Option Addr} {n c : Nat} {xs : List Value} {ad : Addr} (h : Sees w A n c xs) (hA : A = some ad) : ∀ j u, xs[j]? = some u → w.cell? (ad.add j) = some u := by
  intro j u hu
  have hn : 0 < n := by
    have := (List.getElem?_eq_some_iff.1 hu).1
    have := h.1
    omega
  obtain ⟨b, off, e, hc⟩ := h.2.2.2.2 hn
  rw [hA] at e
  injection e with e
  subst e
  rw [addr_add]
  exact hc j u hu

/-- append(s, x...) where s is a row of the call's own. -/
theorem run_append_sees (base : Nat) (t ty e : TypeId) (i : TypeInfo) (z : Value) (bytes : Nat) (ht : P.underlying t = some (.slice e)) (hi : P.info? e = some i) (hz : i.zero = some z)
    (hsize : i.size = 1) (hby : i.bytes = bytes) (hzs : z.cells.size = 1)
    (v : Value) (n : Nat) (xs : List Value) (hown : w.ownsRow base e 1 v n xs) (A : Option Addr) (m c : Nat) (news : List Value) (hr : Sees w A m c news) (h1 : ∀ u ∈ news, u.oneCell' = true)
    (h63 : n + m ≤ maxLen) (hbytes : (n + m) * bytes ≤ 140737488355328) (hbase : base ≤ w.heap.size) :
    ∃ v' w', (Builtin.append_ #[t, t] ty #[v, .slice A m c]).run P w = .ok v' w' ∧ w'.ownsRow base e 1 v' (n + m) (xs ++ news) ∧ w.grownBy w' v.ownBlock ∧ (v'.ownBlock = v.ownBlock ∨ v'.ownBlock = some w.heap.size) := by
  cases A with
  | none =>
    have hc := hr.2.2.2.1 rfl
    have hm : m = 0 := by have := hr.2.1; omega
    subst hm
    obtain rfl : news = [] := List.eq_nil_of_length_eq_zero hr.1
    refine ⟨v, w, ?_, by simpa using hown, ⟨rfl, rfl, rfl, Nat.le_refl _, fun _ _ _ => rfl⟩, .inl rfl⟩
    rcases hown.2 with ⟨rfl, rfl⟩ | ⟨g, cap, cur, rfl, _, _, hnc, _⟩
    · simp [Builtin.append_, run_underlying ht, sizeOf, typeInfo, hi, Builtin.lenOf, Builtin.firstCells]
    · simp [Builtin.append_, run_underlying ht, sizeOf, typeInfo, hi, Builtin.lenOf, Builtin.firstCells, hnc, storeCells]
  | some ad =>
    obtain ⟨v', w', hrun, h2, h3, _, h5⟩ := run_append_own_at (P := P) w base t ty e i z 1 bytes ht hi hz hsize hby hzs (by omega) v n xs hown ad m c news (by rw [hr.1, Nat.mul_one]) (hr.cells rfl) h1 h63 hbytes hbase
    exact ⟨v', w', hrun, h2, h3, h5⟩

/-- append(s, x...) where s has no room for x: a new row. -/
theorem run_append_full (t ty e : TypeId) (i : TypeInfo) (z : Value) (bytes : Nat) (ht : P.underlying t = some (.slice e)) (hi : P.info? e = some i) (hz : i.zero = some z)
    (hsize : i.size = 1) (hby : i.bytes = bytes) (hzs : z.cells.size = 1)
    (A : Option Addr) (n c : Nat) (xs : List Value) (hs : Sees w A n c xs) (A' : Option Addr) (m c' : Nat) (news : List Value) (hr : Sees w A' m c' news) (h1 : ∀ u ∈ news, u.oneCell' = true)
    (hfull : c < n + m) (h63 : n + m ≤ maxLen) (hbytes : (n + m) * bytes ≤ 140737488355328) :
    ∃ v' w', (Builtin.append_ #[t, t] ty #[.slice A n c, .slice A' m c']).run P w = .ok v' w' ∧ w'.ownsRow w.heap.size e 1 v' (n + m) (xs ++ news) ∧ w.grownBy w' none := by
  have hm : 0 < m := by have := hs.2.1; omega
  obtain ⟨b', off', e', hc'⟩ := hr.2.2.2.2 hm
  subst e'
  cases A with
  | none =>
    have hc := hs.2.2.2.1 rfl
    subst hc
    obtain rfl : n = 0 := by have := hs.2.1; omega
    obtain rfl : xs = [] := List.eq_nil_of_length_eq_zero hs.1
    obtain ⟨v', w', hrun, r1, r2, _⟩ := run_append_own (P := P) w w.heap.size t ty e i z 1 bytes ht hi hz hsize hby hzs (by omega) (.slice none 0 0) 0 [] (World.ownsRow_nil w _ e 1) ⟨b', off', none⟩ m c' news
      (by rw [hr.1, Nat.mul_one]) (hr.cells rfl) h1 h63 hbytes (Nat.le_refl _)
    exact ⟨v', w', hrun, r1, r2⟩
  | some ad =>
    obtain ⟨v', w', hrun, r1, r2⟩ := run_append_arg_grows (P := P) w t ty e i z 1 bytes ht hi hz hsize hby hzs (by omega) ad n c xs (by rw [hs.1, Nat.mul_one]) (hs.cells rfl) ⟨b', off', none⟩ m c' news
      (by rw [hr.1, Nat.mul_one]) (hr.cells rfl) hfull h63 hbytes
    exact ⟨v', w', hrun, r1, r2⟩

/-- A builtin append at the operation, by its run. -/
theorem wpList_append_run {ops : Array Oper} {rest : List Oper} {o : Oper} {a : Act} {Q : Exit → Act → World → Prop} (hgd : o.guard = none) (s x : Operand) (t : TypeId)
    (ho : o.op = .call { callee := .builtin .append, args := #[s, x], argTypes := #[t, t] }) (v u : Value) (hs : a.eval s = v) (hx : a.eval x = u) (v' : Value) (w' : World)
    (hrun : (Builtin.append_ #[t, t] o.type #[v, u]).run P w = .ok v' w') (h : wpList P ops Q rest (a.put o.dst v') w') : wpList P ops Q (o :: rest) a w := by
  refine wpList_plain hgd fun K hK => ?_
  unfold Oper.wp execOp
  simp only [ho, resolve, invoke, builtin, Sem.run_bind, Sem.run_pure, Result.andThen_ok, List.map_toArray, List.map_cons, List.map_nil, hs, hx, hrun]
  exact hK _ _ h

/-- string(b). -/
theorem run_string_sees {A : Option Addr} {n c : Nat} {l : List UInt8} (src dst e : TypeId) (hs : P.underlying src = some (.slice e)) (he : P.underlying e = some (.int .u8)) (hd : P.underlying dst = some .string)
    (h : Sees w A n c (bs l)) : (convert src dst (.slice A n c)).run P w = .ok (.string ⟨l.toArray⟩) w := by
  have hn : n = l.length := by rw [← h.1, bs_length]
  subst hn
  cases A with
  | none =>
    have hc := h.2.2.2.1 rfl
    have hl : l.length = 0 := by have := h.2.1; omega
    obtain rfl := List.eq_nil_of_length_eq_zero hl
    rw [run_convert_bytes_nil w src e hs he _ _ dst hd]
    rfl
  | some ad =>
    refine run_convert_bytes_back w src dst e ad c l hs he hd fun j hj => ?_
    exact h.cells rfl j _ (by simp [bs, List.getElem?_eq_getElem hj])
end

/-- A slice [:k] of what is read. -/
theorem sliced_take (A : Option Addr) (k m s : Nat) : sliced A 0 k m s = .slice A k m := by
  unfold sliced
  cases A with
  | none => simp
  | some a => by_cases h : m = 0 <;> simp [h, Addr.add]

/-- A row of integers that came in is read. -/
theorem sees_row {k : IntKind} {w : World} {a : Option Addr} {len cap : Nat} {zs : List Int}
    (h : (a = none ∧ len = 0 ∧ cap = 0 ∧ zs = []) ∨ ∃ x, a = some x ∧ len ≤ cap ∧ cap ≤ maxLen ∧ zs.length = cap ∧ (∀ i, i < zs.length → w.cell? (x.add i) = some (.int k (zs.getD i 0))) ∧ ∀ n ∈ zs, (Lit.int k n).wf = true) :
    ∃ l : List Int, Sees w a len cap (l.map (Value.int k)) ∧ ∀ n ∈ l, (Lit.int k n).wf = true := by
  rcases h with ⟨rfl, rfl, rfl, rfl⟩ | ⟨x, rfl, hl, hm, hz, hcell, hw⟩
  · exact ⟨[], Sees.nil w, fun _ h => by cases h⟩
  · refine ⟨zs.take len, ⟨by simp; omega, hl, hm, nofun, fun hn => ?_⟩, fun n hn => hw n (List.mem_of_mem_take hn)⟩
    obtain ⟨b, off, spot⟩ := x
    have h0 := hcell 0 (by omega)
    have hspot : spot = none := by simpa [Addr.add] using World.cell?_spot h0
    subst hspot
    refine ⟨b, off, rfl, fun j u hu => ?_⟩
    have hj : j < len ∧ j < zs.length := by
      have := (List.getElem?_eq_some_iff.1 hu).1
      simp at this
      omega
    have hc := hcell j hj.2
    rw [addr_add] at hc
    rw [hc]
    simp [hj.1, List.getElem?_eq_getElem hj.2] at hu
    simp [List.getD, List.getElem?_eq_getElem hj.2, hu]
theorem u8_wf (n : Int) (h : (Lit.int .u8 n).wf = true) : Value.int .u8 n = Value.int .u8 ((UInt8.ofNat n.toNat).toNat : Int) := by
  have hb : 0 ≤ n ∧ n ≤ 255 := bounds_u8 h
  rw [UInt8.toNat_ofNat']
  congr 1
  omega
theorem sees_bytes {w : World} {a : Option Addr} {len cap : Nat} {zs : List Int}
    (h : (a = none ∧ len = 0 ∧ cap = 0 ∧ zs = []) ∨ ∃ x, a = some x ∧ len ≤ cap ∧ cap ≤ maxLen ∧ zs.length = cap ∧ (∀ i, i < zs.length → w.cell? (x.add i) = some (.int .u8 (zs.getD i 0))) ∧ ∀ n ∈ zs, (Lit.int .u8 n).wf = true) :
    ∃ l : List UInt8, Sees w a len cap (bs l) := by
  obtain ⟨l, hs, hw⟩ := sees_row h
  refine ⟨l.map fun n => UInt8.ofNat n.toNat, ?_⟩
  have e : bs (l.map fun n => UInt8.ofNat n.toNat) = l.map (Value.int .u8) := by
    simp only [bs, List.map_map]
    exact List.map_congr_left fun n hn => (u8_wf n (hw n hn)).symm
  rw [e]
  exact hs

/-! Two steps on strings, in a statement whose order is open. -/
section
variable {P : Program} {ops : Array Oper} {Q : Exit → Act → World → Prop} {al : List Nat} {k : Nat} {rest : List Oper} {act : Act} {w : World}
variable {dst : Option Tmp} {x y : Operand} {t t2 ty : TypeId} {ps : String} {af : Array Edge} {g : Option (Nat × Bool)}
theorem str_eq (a b : List UInt8) : ((ByteArray.mk a.toArray).toList == (ByteArray.mk b.toArray).toList) = decide (a = b) := by
  have h : ∀ l : List UInt8, (ByteArray.mk l.toArray).toList = l := fun l => by simp
  rw [h, h]
  by_cases e : a = b <;> simp [e]
theorem lex_add (a b : List UInt8) (hc : al.contains k = false) (hw : Region.wanted ⟨dst, .binOp .add t x y t2, ty, ps, af, g⟩ (yielded ops act.tmps) = true)
    (hx : act.eval x = .string ⟨a.toArray⟩) (hy : act.eval y = .string ⟨b.toArray⟩) (hl : a.length + b.length ≤ 4194304)
    (hk : wpLex P ops Q al (k + 1) rest (act.put dst (.string ⟨(a ++ b).toArray⟩)) w) : wpLex P ops Q al k (⟨dst, .binOp .add t x y t2, ty, ps, af, g⟩ :: rest) act w :=
  lex_val _ hc hw (fun w' _ => by
    have h := run_string_add_lists (P := P) w' a b (by omega) (by omega)
    simp [execOp, hx, hy, binOp, eqGuard, h]) hk
theorem lex_eqs (a b : List UInt8) (hc : al.contains k = false) (hw : Region.wanted ⟨dst, .binOp .eql t x y t2, ty, ps, af, g⟩ (yielded ops act.tmps) = true)
    (hx : act.eval x = .string ⟨a.toArray⟩) (hy : act.eval y = .string ⟨b.toArray⟩) (hab : a = b)
    (hk : wpLex P ops Q al (k + 1) rest (act.put dst (.bool true)) w) : wpLex P ops Q al k (⟨dst, .binOp .eql t x y t2, ty, ps, af, g⟩ :: rest) act w :=
  lex_val _ hc hw (fun w' _ => by
    subst hab
    simp [execOp, hx, hy, binOp_string_eql, eqGuard]) hk
end
end Go.Proofs.Ytihiclnbbpablaa
