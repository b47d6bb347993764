/-
  A map of integers' keys that the call has made, whatever its elements are, as a rising list of keys and values.
-/
import Derived.Test.YtpjigdfllbhknaaReg
import Derived.Maps.OwnSet
namespace Go.Proofs.Ytpjigdfllbhknaa
open Go Go.RowKit
open Go.Maps (Keyed)
set_option linter.unusedVariables false
set_option linter.unusedSimpArgs false
/-- Every value reads as itself. -/
def rdV (v : Value) : Option (DataW Value × List MemPlace) := some (.held v, [])
def enM (q : IntKind) (L : List (Int × Value)) : DataW Value := .map (L.map fun p => (Lit.int q p.1, .held p.2))
def insL (x : Int × Value) : List (Int × Value) → List (Int × Value)
  | [] => [x]
  | y :: r => if x.1 < y.1 then x :: y :: r else y :: insL x r
def delL (L : List (Int × Value)) (k : Int) : List (Int × Value) := L.filter fun p => !(p.1 == k)
def putL (L : List (Int × Value)) (k : Int) (v : Value) : List (Int × Value) := insL (k, v) (delL L k)
def lkL (L : List (Int × Value)) (k : Int) : Option Value := (L.find? fun p => p.1 == k).map (·.2)
def hasL (L : List (Int × Value)) (k : Int) : Bool := (lkL L k).isSome
theorem enM_ins (q : IntKind) (x : Int × Value) : ∀ L : List (Int × Value), DataW.insert (Lit.int q x.1, .held x.2) (L.map fun p => (Lit.int q p.1, DataW.held p.2)) = (insL x L).map fun p => (Lit.int q p.1, .held p.2)
  | [] => rfl
  | y :: r => by
    have ih := enM_ins q x r
    simp only [List.map_cons, DataW.insert, insL, Lit.before]
    by_cases h : x.1 < y.1
    · simp [h]
    · simp [h, ih]
theorem enM_filter (q : IntKind) (k : Int) : ∀ L : List (Int × Value), (L.map fun p => (Lit.int q p.1, (DataW.held p.2 : DataW Value))).filter (fun p => !p.1.sameKey (.int q k)) = (delL L k).map fun p => (Lit.int q p.1, .held p.2)
  | [] => rfl
  | y :: r => by
    have ih := enM_filter q k r
    unfold delL at ih ⊢
    simp only [List.map_cons, List.filter_cons, ih]
    by_cases h : y.1 = k <;> simp [Lit.sameKey, h]
theorem enM_del (q : IntKind) (L : List (Int × Value)) (k : Int) : (enM q L).del (.int q k) = enM q (delL L k) := by
  exact congrArg DataW.map (enM_filter q k L)
theorem enM_put (q : IntKind) (L : List (Int × Value)) (k : Int) (v : Value) : (enM q L).put (.int q k) (.held v) = enM q (putL L k v) := by
  exact congrArg DataW.map ((congrArg (DataW.insert (Lit.int q k, DataW.held v)) (enM_filter q k L)).trans (enM_ins q (k, v) (delL L k)))
theorem sameKey_int (q : IntKind) (a k : Int) : (Lit.int q a).sameKey (.int q k) = (a == k) := by
  by_cases h : a = k <;> simp [Lit.sameKey, h]
theorem enM_find (q : IntKind) (k : Int) : ∀ L : List (Int × Value), (L.map fun p => (Lit.int q p.1, (DataW.held p.2 : DataW Value))).find? (fun p => p.1.sameKey (.int q k)) = (L.find? fun p => p.1 == k).map fun p => (Lit.int q p.1, .held p.2)
  | [] => rfl
  | y :: r => by
    have ih := enM_find q k r
    simp only [List.map_cons, List.find?_cons, sameKey_int, ih]
    cases (y.1 == k) <;> rfl
theorem enM_at (q : IntKind) (L : List (Int × Value)) (k : Int) (z : Value) : (enM q L).atKey (.int q k) (.held z) = .held ((lkL L k).getD z) := by
  unfold enM DataW.atKey
  dsimp only
  rw [enM_find]
  unfold lkL
  cases (L.find? fun p => p.1 == k) <;> rfl
theorem enM_has (q : IntKind) (k : Int) : ∀ L : List (Int × Value), Maps.has (enM q L) (.int q k) = hasL L k
  | [] => rfl
  | y :: r => by
    have ih := enM_has q k r
    unfold enM at ih ⊢
    rw [Maps.has_eq] at ih ⊢
    simp only [List.map_cons, List.any_cons, ih, sameKey_int]
    unfold hasL lkL
    rw [List.find?_cons]
    cases (y.1 == k) <;> rfl
theorem enM_size (q : IntKind) (L : List (Int × Value)) : Maps.size (enM q L) = L.length := by
  unfold enM
  rw [Maps.size_eq, List.length_map]
/-! Plain laws. -/
theorem find_ins (x : Int × Value) (k : Int) (hk : ¬ k = x.1) : ∀ L : List (Int × Value), (insL x L).find? (fun p => p.1 == k) = L.find? fun p => p.1 == k
  | [] => by simp [insL, show ¬ x.1 = k from fun e => hk e.symm]
  | y :: r => by
    unfold insL
    have ih := find_ins x k hk r
    have hx : ¬ x.1 = k := fun e => hk e.symm
    split
    · rw [List.find?_cons, show (x.1 == k) = false by simpa using hx]
    · simp only [List.find?_cons, ih]
theorem find_ins_same (x : Int × Value) : ∀ L : List (Int × Value), (∀ p ∈ L, ¬ p.1 = x.1) → (insL x L).find? (fun p => p.1 == x.1) = some x
  | [], _ => by simp [insL]
  | y :: r, h => by
    unfold insL
    split
    · simp
    · have hy : ¬ y.1 = x.1 := h y (by simp)
      rw [List.find?_cons, show (y.1 == x.1) = false by simpa using hy]
      exact find_ins_same x r (fun p hp => h p (by simp [hp]))
theorem del_mem {L : List (Int × Value)} {k : Int} {p : Int × Value} (h : p ∈ delL L k) : p ∈ L ∧ ¬ p.1 = k := by
  unfold delL at h
  simpa using h
theorem find_del (L : List (Int × Value)) (k j : Int) (h : ¬ j = k) : (delL L k).find? (fun p => p.1 == j) = L.find? fun p => p.1 == j := by
  unfold delL
  induction L with
  | nil => rfl
  | cons y r ih =>
    simp only [List.filter_cons, List.find?_cons]
    by_cases hy : y.1 = k
    · have : ¬ y.1 = j := fun e => h (by omega)
      simp only [hy, beq_self_eq_true, Bool.not_true, Bool.false_eq_true, ↓reduceIte, ih]
      rw [show (k == j) = false by simpa using fun e => h e.symm]
    · simp only [show (y.1 == k) = false by simpa using hy, Bool.not_false, ↓reduceIte, List.find?_cons, ih]
theorem lk_put_same (L : List (Int × Value)) (k : Int) (v : Value) : lkL (putL L k v) k = some v := by
  unfold lkL putL
  rw [find_ins_same (k, v) (delL L k) (fun p hp => (del_mem hp).2)]
  rfl
theorem lk_put_other (L : List (Int × Value)) (k j : Int) (v : Value) (h : ¬ j = k) : lkL (putL L k v) j = lkL L j := by
  unfold lkL putL
  rw [find_ins (k, v) j h, find_del L k j h]
theorem lk_del_same (L : List (Int × Value)) (k : Int) : lkL (delL L k) k = none := by
  unfold lkL
  rw [List.find?_eq_none.2 (fun p hp => by simpa using (del_mem hp).2)]
  rfl
theorem lk_del_other (L : List (Int × Value)) (k j : Int) (h : ¬ j = k) : lkL (delL L k) j = lkL L j := by
  unfold lkL
  rw [find_del L k j h]
theorem has_put_same (L : List (Int × Value)) (k : Int) (v : Value) : hasL (putL L k v) k = true := by unfold hasL; rw [lk_put_same]; rfl
theorem has_put_other (L : List (Int × Value)) (k j : Int) (v : Value) (h : ¬ j = k) : hasL (putL L k v) j = hasL L j := by unfold hasL; rw [lk_put_other _ _ _ _ h]
theorem has_del_same (L : List (Int × Value)) (k : Int) : hasL (delL L k) k = false := by unfold hasL; rw [lk_del_same]; rfl
theorem has_del_other (L : List (Int × Value)) (k j : Int) (h : ¬ j = k) : hasL (delL L k) j = hasL L j := by unfold hasL; rw [lk_del_other _ _ _ h]
theorem len_ins (x : Int × Value) : ∀ L : List (Int × Value), (insL x L).length = L.length + 1
  | [] => rfl
  | y :: r => by
    unfold insL
    split
    · rfl
    · simp [len_ins x r]
theorem hasL_mem {L : List (Int × Value)} {k : Int} : hasL L k = true ↔ ∃ p ∈ L, p.1 = k := by
  unfold hasL lkL
  rw [Option.isSome_map, List.find?_isSome]
  simp
theorem del_none {L : List (Int × Value)} {k : Int} (h : hasL L k = false) : delL L k = L := by
  unfold delL
  rw [List.filter_eq_self]
  intro p hp
  have : ¬ p.1 = k := fun e => by
    have := hasL_mem.2 ⟨p, hp, e⟩
    rw [h] at this
    cases this
  simpa using this
theorem len_put_new {L : List (Int × Value)} {k : Int} (v : Value) (h : hasL L k = false) : (putL L k v).length = L.length + 1 := by
  unfold putL
  rw [len_ins, del_none h]
/-- The keys rise. -/
def RisL (L : List (Int × Value)) : Prop := L.Pairwise fun p r => p.1 < r.1
theorem ris_nil : RisL [] := List.Pairwise.nil
theorem ris_del {L : List (Int × Value)} (h : RisL L) (k : Int) : RisL (delL L k) := List.Pairwise.sublist List.filter_sublist h
theorem mem_ins {x p : Int × Value} : ∀ {L : List (Int × Value)}, p ∈ insL x L → p = x ∨ p ∈ L
  | [], h => by simpa [insL] using h
  | y :: r, h => by
    unfold insL at h
    split at h
    · simpa using h
    · rcases List.mem_cons.1 h with h | h
      · exact .inr (by simp [h])
      · rcases mem_ins h with h | h
        · exact .inl h
        · exact .inr (by simp [h])
theorem ris_ins (x : Int × Value) : ∀ {L : List (Int × Value)}, RisL L → (∀ p ∈ L, ¬ p.1 = x.1) → RisL (insL x L)
  | [], _, _ => by simp [insL, RisL]
  | y :: r, h, hn => by
    obtain ⟨h1, h2⟩ := List.pairwise_cons.1 h
    unfold insL
    split
    · rename_i hxy
      refine List.pairwise_cons.2 ⟨fun p hp => ?_, h⟩
      rcases List.mem_cons.1 hp with rfl | hp
      · exact hxy
      · have := h1 p hp
        omega
    · rename_i hxy
      have hy : ¬ y.1 = x.1 := hn y (by simp)
      refine List.pairwise_cons.2 ⟨fun p hp => ?_, ris_ins x h2 fun p hp => hn p (by simp [hp])⟩
      rcases mem_ins hp with rfl | hp
      · omega
      · exact h1 p hp
theorem ris_put {L : List (Int × Value)} (h : RisL L) (k : Int) (v : Value) : RisL (putL L k v) := ris_ins (k, v) (ris_del h k) fun p hp => (del_mem hp).2
theorem len_del_has : ∀ {L : List (Int × Value)} {k : Int}, RisL L → hasL L k = true → (delL L k).length + 1 = L.length
  | [], k, _, h => by cases h
  | y :: r, k, hr, h => by
    obtain ⟨h1, h2⟩ := List.pairwise_cons.1 hr
    unfold delL
    rw [List.filter_cons]
    by_cases hy : y.1 = k
    · have hn : hasL r k = false := by
        cases hq : hasL r k with
        | false => rfl
        | true =>
          obtain ⟨p, hp, hpk⟩ := hasL_mem.1 hq
          have := h1 p hp
          omega
      have := del_none hn
      unfold delL at this
      simp [hy, this]
    · have hk : hasL r k = true := by
        obtain ⟨p, hp, hpk⟩ := hasL_mem.1 h
        rcases List.mem_cons.1 hp with rfl | hp
        · exact absurd hpk hy
        · exact hasL_mem.2 ⟨p, hp, hpk⟩
      have ih := len_del_has h2 hk
      unfold delL at ih
      simp [hy]
      simpa using ih
/-! In memory. -/
section
variable {P : Program} {w w' : World} {k e t : TypeId} {q : IntKind} {b n : Nat} {L : List (Int × Value)}
/-- The map in block b has these keys and values, at most n of them. -/
def MapL (P : Program) (w : World) (k : TypeId) (q : IntKind) (b n : Nat) (L : List (Int × Value)) : Prop := w.ownsMap P k rdV b n (enM q L) ∧ RisL L
theorem MapL.made (P : Program) (w : World) (k : TypeId) (q : IntKind) : MapL P (w.alloc (.map #[] 0)) k q w.heap.size 0 [] := ⟨World.ownsMap_made w P k rdV, ris_nil⟩
theorem MapL.lt (h : MapL P w k q b n L) : b < w.heap.size := h.1.lt
theorem MapL.keep (h : MapL P w k q b n L) (hk : w'.heap[b]? = w.heap[b]?) : MapL P w' k q b n L := by
  obtain ⟨⟨es, clock, hb, r⟩, h2⟩ := h
  exact ⟨⟨es, clock, hk.trans hb, r⟩, h2⟩
theorem MapL.ext (h : MapL P w k q b n L) (he : Ext w w') : MapL P w' k q b n L := h.keep (he.block b h.lt)
theorem MapL.len_le (h : MapL P w k q b n L) : L.length ≤ n := by
  have := h.1.size_le
  rwa [enM_size] at this
theorem MapL.len (h : MapL P w k q b n L) (ht : P.underlying t = some (.map k e)) (ty : TypeId) : (Builtin.len_ #[t] ty #[.map (some b)]).run P w = .ok (.int .i64 (L.length : Int)) w := by
  have := h.1.len ht ty
  rwa [enM_size] at this
theorem MapL.look (h : MapL P w k q b n L) (hk : P.underlying k = some (.int q)) (ht : P.underlying t = some (.map k e)) {z : Value} (hz : (zeroValue e).run P w = .ok z w) (x : Int) (hx : (Lit.int q x).wf = true) :
    (Instr.lookup t (.map (some b)) (.int q x) true).run P w = .ok (.tuple #[(lkL L x).getD z, .bool (hasL L x)]) w := by
  obtain ⟨v, ps, hrun, hv⟩ := h.1.look_ok (Maps.int_keyed hk) ht hz (zd := .held z) (zp := []) rfl (Maps.keyOf_int_mk hk hx)
  rw [enM_at] at hv
  rw [enM_has] at hrun
  injection hv with hv
  injection hv with hv _
  injection hv with hv
  rw [hrun, hv]
theorem MapL.put (h : MapL P w k q b n L) (hk : P.underlying k = some (.int q)) (ht : P.underlying t = some (.map k e)) (hn : n < maxLen) (x : Int) (v : Value) (hx : (Lit.int q x).wf = true) :
    ∃ w', (Instr.mapUpdate t (.map (some b)) (.int q x) v).run P w = .ok () w' ∧ MapL P w' k q b (n + 1) (putL L x v) ∧ w.grownBy w' (some b) := by
  obtain ⟨w', hrun, hown, hg⟩ := h.1.update (Maps.int_keyed hk) ht hn (val := v) (d := .held v) (ps := []) (Maps.keyOf_int_mk hk hx) rfl
  rw [enM_put] at hown
  exact ⟨w', hrun, ⟨hown, ris_put h.2 x v⟩, hg⟩
theorem MapL.drop (h : MapL P w k q b n L) (hk : P.underlying k = some (.int q)) (ht : P.underlying t = some (.map k e)) (x : Int) (hx : (Lit.int q x).wf = true) (ty : TypeId) :
    ∃ w', (Builtin.delete_ #[t, k] ty #[.map (some b), .int q x]).run P w = .ok (.tuple #[]) w' ∧ MapL P w' k q b n (delL L x) ∧ w.grownBy w' (some b) := by
  obtain ⟨w', hrun, hown, hg⟩ := h.1.drop (Maps.int_keyed hk) ht (Maps.keyOf_int_mk hk hx) ty
  rw [enM_del] at hown
  exact ⟨w', hrun, ⟨hown, ris_del h.2 x⟩, hg.grown⟩
end
end Go.Proofs.Ytpjigdfllbhknaa
