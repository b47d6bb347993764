/-
  Layer 5: the document's own pipe: a new one, what is left, a text that is sent.
-/
import Derived.Test.YtjdcbmelladceaaPipK
import Derived.Laws.Concat
namespace Go.Proofs.Ytjdcbmelladceaa
open Go Go.RowKit
set_option linter.unusedVariables false
set_option linter.unusedSimpArgs false
def strV (l : List UInt8) : Value := .string ⟨l.toArray⟩
theorem str_one (T : List (List UInt8)) : ∀ u ∈ T.map strV, u.oneCell' = true := by
  intro u hu
  obtain ⟨b, _, rfl⟩ := List.mem_map.1 hu
  rfl
theorem infoP : (Try.prog.info? 31).map (·.size) = some 3 := by kernel_rfl
theorem infoStr : (Try.prog.info? 9).map (fun i => (i.zero, i.size, i.bytes)) = some (some (.string ⟨#[]⟩), 1, 16) := by kernel_rfl
theorem infoStr_at : ∃ j, Try.prog.info? 9 = some j ∧ j.zero = some (.string ⟨#[]⟩) ∧ j.size = 1 ∧ j.bytes = 16 := by
  have := infoStr
  cases hh : Try.prog.info? 9 with
  | none => rw [hh] at this; cases this
  | some j =>
    rw [hh] at this
    simp at this
    exact ⟨j, rfl, this⟩
theorem results_cell_t1 {P : Program} {fn : Func} {p q : Tmp} {ty : TypeId} (h : fn.results = #[.cell p ty, .tmp q]) (tmps : Array Value) (w : World) (g : Nat) (t : TypeId) (cs : Array Value) (fr : Nat × Nat) (d : TypeDesc) (u : Value)
    (hp : tmps.getD p undef = .pointer (some ⟨g, 0, none⟩)) (hq : tmps.getD q undef = u) (hg : w.heap[g]? = some (.cells cs t fr))
    (hu : P.underlying ty = some d) (hd : (match d with | .struct _ | .array _ _ => true | _ => false) = true) (hi : (P.info? ty).map (·.size) = some cs.size) :
    (results fn tmps).run P w = .ok (.tuple #[.agg cs, u]) w := by
  have hp' : tmps[p]?.getD undef = .pointer (some ⟨g, 0, none⟩) := by simpa using hp
  have hq' : tmps[q]?.getD undef = u := by simpa using hq
  simp [results, h, hp', hq', asAddr, run_loadVar_row w g t ty cs fr d hg hu hd hi]
theorem results_cell_t2 {P : Program} {fn : Func} {p q r : Tmp} {ty : TypeId} (h : fn.results = #[.cell p ty, .tmp q, .tmp r]) (tmps : Array Value) (w : World) (g : Nat) (t : TypeId) (cs : Array Value) (fr : Nat × Nat) (d : TypeDesc) (u v : Value)
    (hp : tmps.getD p undef = .pointer (some ⟨g, 0, none⟩)) (hq : tmps.getD q undef = u) (hr : tmps.getD r undef = v) (hg : w.heap[g]? = some (.cells cs t fr))
    (hu : P.underlying ty = some d) (hd : (match d with | .struct _ | .array _ _ => true | _ => false) = true) (hi : (P.info? ty).map (·.size) = some cs.size) :
    (results fn tmps).run P w = .ok (.tuple #[.agg cs, u, v]) w := by
  have hp' : tmps[p]?.getD undef = .pointer (some ⟨g, 0, none⟩) := by simpa using hp
  have hq' : tmps[q]?.getD undef = u := by simpa using hq
  have hr' : tmps[r]?.getD undef = v := by simpa using hr
  simp [results, h, hp', hq', hr', asAddr, run_loadVar_row w g t ty cs fr d hg hu hd hi]
/-- The document's pipe, as a value. -/
abbrev refP (A : Option Addr) (n c : Nat) (As : Option Addr) (L cs k : Nat) : Value := .agg #[.slice A n c, .slice As L cs, .int .i64 (k : Int)]
theorem rnew_any (As : Option Addr) (L cs : Nat) (hL : 0 < L) (hL2 : L ≤ 1000) (w : World) :
    Calls Try.prog 11 #[.slice As L cs] w fun e w' => e = .returned (refP none 0 0 As L cs 0) ∧ Ext w w' := by
  have h0 : ((L : Int) == 0) = false := by simpa using (show ¬ L = 0 by omega)
  have HZ := Lib.hid infoP
  go_enter Try.func11, Try.ntmps11
  go_wp2
  refine bodyPost_ret (results_cell_row rfl _ _ w.heap.size _ _ (0, 0) _ rfl (heap_alloc_new w _) Try.underlying31 rfl HZ.out) rfl ?_
  exact ⟨rfl, (Ext.refl w).alloc _⟩
theorem take_flat_le (rs : List (List UInt8)) (j : Nat) : (rs.take j).flatten.length ≤ rs.flatten.length := by
  have h : rs.flatten = (rs.take j).flatten ++ (rs.drop j).flatten := by rw [← List.flatten_append, List.take_append_drop]
  rw [h, List.length_append]
  omega
theorem flat_take_snoc (T : List (List UInt8)) (k : Nat) (h : List UInt8) (hh : T[k]? = some h) : (T.take (k + 1)).flatten.length = (T.take k).flatten.length + h.length := by
  rw [take_snoc_get hh]
  simp
set_option maxRecDepth 20000 in
theorem rleft_any (A : Option Addr) (n c : Nat) (As : Option Addr) (L cs k : Nat) (T : List (List UInt8)) (w : World) (S : Nat) (hS : T.flatten.length = S) (hs : Sees w A n c (T.map strV)) (hl : S ≤ 100000) :
    Calls Try.prog 18 #[refP A n c As L cs k] w fun e w' => e = .returned (.int .i64 (S : Int)) ∧ Ext w w' := by
  have hle := hs.le
  have hmx := hs.max
  have hlen := hs.len
  rw [List.length_map] at hlen
  unfold maxLen at hmx
  have H := Lib.hid hs
  have HLEN := Lib.hid hlen
  have HSS := Lib.hid hS
  clear hs hlen hS
  go_enter Try.func18, Try.ntmps18
  go_wp2_with fail
  have e1 : Ext w (w.alloc (.cells #[.slice A n c, .slice As L cs, .int .i64 (k : Int)] 31)) := (Ext.refl w).alloc _
  have d0 : (w.alloc (.cells #[.slice A n c, .slice As L cs, .int .i64 (k : Int)] 31)).cell? ⟨w.heap.size, 0, none⟩ = some (.slice A n c) := by
    rw [cell_of_row _ w.heap.size 0 _ _ _ (heap_alloc_new w _)]
    rfl
  obtain ⟨w1, hw1⟩ : ∃ w1, w.alloc (.cells #[.slice A n c, .slice As L cs, .int .i64 (k : Int)] 31) = w1 := ⟨_, rfl⟩
  rw [hw1] at e1 d0 ⊢
  have E1 := Lib.hid e1
  clear hw1 e1
  go_loop [3, 4] (fun sv iv => ∃ j : Nat, j ≤ n ∧ iv = .int .i64 (j : Int) ∧ sv = .int .i64 ((T.take j).flatten.length : Int)) (fun _ iv => n - (intOf iv).toNat)
  case atStart => exact ⟨0, by omega, rfl, rfl⟩
  case round =>
    obtain ⟨j, hj, rfl, rfl⟩ := hrel
    by_cases hlt : j < n
    · obtain ⟨b, off, u, hA, hu, hc, _⟩ := (H.out.ext E1.out).at_ hlt
      subst hA
      obtain ⟨h, hh⟩ : ∃ h, T[j]? = some h := ⟨T[j]'(by rw [HLEN.out]; exact hlt), List.getElem?_eq_getElem _⟩
      have hu2 : u = .string ⟨h.toArray⟩ := by
        rw [List.getElem?_map, hh] at hu
        injection hu with hu
        exact hu.symm
      subst hu2
      have hfs := flat_take_snoc T j h hh
      have hb1 := take_flat_le T (j + 1)
      rw [HSS.out] at hb1
      obtain ⟨s, hs⟩ : ∃ s, (T.take j).flatten.length = s := ⟨_, rfl⟩
      rw [hs] at hfs ⊢
      have HFS := Lib.hid hfs
      have hsb : s + h.length ≤ 100000 := by omega
      clear hu hh hfs hs hb1
      go_wp2
      go_round
      case rel => exact ⟨j + 1, by omega, by go_num, by rw [HFS.out]; go_num⟩
      case measure => simp [intOf]; omega
    · obtain rfl : j = n := by omega
      rw [List.take_of_length_le (by rw [HLEN.out]; exact Nat.le_refl _)]
      rw [HSS.out]
      go_wp2
      go_ret
      exact ⟨rfl, E1.out⟩
end Go.Proofs.Ytjdcbmelladceaa
