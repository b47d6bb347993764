/-
  Layer 8: what the listed variable's reading says of the world: the table stands there.
-/
import Derived.Test.YtgbdaohigpnmeaaRRRDoorCodA
import Derived.Test.YtgbdaohigpnmeaaRRRDoorRows
import Derived.ProofKit
import Derived.LaidMore
import Derived.OpenShut
import Derived.Lib.SmallJoins
namespace Go.Proofs.YtgbdaohigpnmeaaRRRDoor
open Go Go.RowKit
set_option linter.unusedVariables false
set_option linter.unusedSimpArgs false

/-- The listed variable, by the name that the rows give. -/
def tabN : String := (Rows.codesOfRow.laid.map (·.1)).headD ""
theorem gTab : Tryd.prog.globalNamed tabN = some 0 := by kernel_rfl
theorem tTab : (Tryd.prog.globals[0]?).map (·.type) = some 44 := by kernel_rfl
/-- What the variable reads as. -/
def rowD (k : Nat) : DataW Unit := .agg [.lit (.int .i64 (errs.getD k 0)), .lit (.int .u32 (sts.getD k 0)), .lit (.int .i64 (k : Int)), .lit (.string (txs.getD k []))]
theorem laid_rows : Rows.laid_truchman_codes_table (H := Unit) = .agg ((List.range 19).map rowD) := rfl
theorem str_bytes {s : ByteArray} {l : List UInt8} (h : s.data.toList = l) : s = ⟨l.toArray⟩ := by
  subst h
  simp
theorem row_of {w : World} {m : Nat} {cs : List Value} {y : DataW Unit × List MemPlace} {k : Nat} (h : DataW.trod (fun _ => ()) Tryd.prog w 0 (fun _ => true) false m 38 cs = some y) (hy : y.1 = rowD k) : cs = (rowC k).toList := by
  obtain ⟨y0, y1, y2, y3, n, rfl, hl, h0, h1, h2, h3⟩ := Go.Joins.trod_struct4 Tryd.underlying38 h
  have c4 : Tryd.prog.cellsOf 38 = 4 := by kernel_rfl
  have c3 : Tryd.prog.cellsOf 3 = 1 := by kernel_rfl
  have c22 : Tryd.prog.cellsOf 22 = 1 := by kernel_rfl
  have c25 : Tryd.prog.cellsOf 25 = 1 := by kernel_rfl
  have c9 : Tryd.prog.cellsOf 9 = 1 := by kernel_rfl
  rw [c4] at hl
  match cs, hl with
  | [v0, v1, v2, v3], _ =>
    simp only [c3, c22, c25, c9] at h0 h1 h2 h3
    obtain ⟨n0, e0, q0, _⟩ := DataW.trod_int Tryd.underlying22 h0
    obtain ⟨n1, e1, q1, _⟩ := DataW.trod_int Tryd.underlying25 h1
    obtain ⟨n2, e2, q2, _⟩ := DataW.trod_int Tryd.underlying3 h2
    obtain ⟨s3, e3, q3, _⟩ := DataW.trod_string Tryd.underlying9 h3
    subst q0 q1 q2 q3
    simp at e0 e1 e2 e3
    subst e0 e1 e2 e3
    simp only [rowD, DataW.agg.injEq, List.cons.injEq, DataW.lit.injEq, Lit.int.injEq, Lit.string.injEq, true_and, and_true] at hy
    obtain ⟨r0, r1, r2, r3⟩ := hy
    rw [r0, r1, r2, str_bytes r3]
    rfl
theorem chunks {cs ds : List Value} (hc : cs.length = 76) (hd : ds.length = 76) (h : ∀ i, i < 19 → (cs.drop (i * 4)).take 4 = (ds.drop (i * 4)).take 4) : cs = ds := by
  apply List.ext_getElem?
  intro j
  by_cases hj : j < 76
  · have h1 := congrArg (fun l => l[j % 4]?) (h (j / 4) (by omega))
    have hm : j % 4 < 4 := Nat.mod_lt _ (by omega)
    simp only [List.getElem?_take, hm, if_true, List.getElem?_drop] at h1
    have e : j / 4 * 4 + j % 4 = j := by omega
    rw [e] at h1
    exact h1
  · rw [List.getElem?_eq_none (by omega), List.getElem?_eq_none (by omega)]
theorem tab_chunk (k : Nat) (hk : k < 19) : (tabC.toList.drop (k * 4)).take 4 = (rowC k).toList := by
  have h : k = 0 ∨ k = 1 ∨ k = 2 ∨ k = 3 ∨ k = 4 ∨ k = 5 ∨ k = 6 ∨ k = 7 ∨ k = 8 ∨ k = 9 ∨ k = 10 ∨ k = 11 ∨ k = 12 ∨ k = 13 ∨ k = 14 ∨ k = 15 ∨ k = 16 ∨ k = 17 ∨ k = 18 := by omega
  rcases h with rfl | rfl | rfl | rfl | rfl | rfl | rfl | rfl | rfl | rfl | rfl | rfl | rfl | rfl | rfl | rfl | rfl | rfl | rfl
  all_goals rfl
theorem tab_of_laid {W : World} (h : laidMetH Tryd.prog [(tabN, Rows.laid_truchman_codes_table)] W) : Tab W := by
  rw [MakeChecks.laidMetH_plain _ _ _ (by kernel_rfl)] at h
  obtain ⟨ps, ⟨g0, t0, cs0, f0, p0, q0, hg0, ht0, hv0, hd0, _, _⟩, _, _⟩ := h
  obtain rfl := Option.some.inj (gTab.symm.trans hg0)
  obtain rfl := Option.some.inj (tTab.symm.trans ht0)
  obtain ⟨xs, m, rfl, hx, hlen, hn, hel⟩ := DataW.trod_array Tryd.underlying44 hd0
  have c44 : Tryd.prog.cellsOf 44 = 76 := by kernel_rfl
  have c4 : Tryd.prog.cellsOf 38 = 4 := by kernel_rfl
  rw [c44] at hlen
  rw [c4] at hel
  have hx1 : xs.map (·.1) = (List.range 19).map rowD := by
    have := congrArg Prod.fst hx
    rw [laid_rows] at this
    simpa using this.symm
  have hcs : cs0.toList = tabC.toList := chunks hlen (by rw [Array.length_toList, tabC_size]) fun i hi => by
    have h1 := hel i hi
    have hxi : i < xs.length := by omega
    rw [List.getElem?_eq_getElem hxi] at h1
    have h2 : (xs[i]).1 = rowD i := by
      have := congrArg (fun l => l[i]?) hx1
      simp only [List.getElem?_map, List.getElem?_eq_getElem hxi, List.getElem?_range hi, Option.map_some] at this
      exact Option.some.inj this
    rw [row_of h1 h2, tab_chunk i hi]
  have hcs2 : cs0 = tabC := Array.toList_inj.1 hcs
  subst hcs2
  unfold World.var? at hv0
  rw [gTab] at hv0
  simp only [Option.bind_some] at hv0
  cases hq : W.heap[0]? with
  | none => rw [hq] at hv0; cases hv0
  | some o =>
    rw [hq] at hv0
    cases o with
    | cells c t fr =>
      simp only [Option.some.injEq] at hv0
      subst hv0
      exact ⟨t, fr, hq⟩
    | _ => cases hv0
end Go.Proofs.YtgbdaohigpnmeaaRRRDoor
