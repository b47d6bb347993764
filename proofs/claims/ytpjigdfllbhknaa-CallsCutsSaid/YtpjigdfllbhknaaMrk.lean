/-
  Rows of bytes whose block may bear a mark behind its last cell ([]byte of a string): what is read, stored, appended: plain rules.
-/
import Derived.Test.YtpjigdfllbhknaaCom0
import Derived.Laws.IdiomStrings
import Derived.Laws.Rows
namespace Go.Proofs.Ytpjigdfllbhknaa
open Go Go.RowKit
set_option linter.unusedVariables false
set_option linter.unusedSimpArgs false

/-- The slice (block g, from its first cell on) of n bytes with room for cap reads as xs; nothing of it is marked. -/
def OwnM (w : World) (base g n cap : Nat) (xs : List UInt8) : Prop :=
  base ≤ g ∧ xs.length = n ∧ n ≤ cap ∧ cap ≤ maxLen ∧ ∃ cur lo hi, w.heap[g]? = some (.cells cur 5 (lo, hi)) ∧ (cap ≤ lo ∨ hi = 0) ∧ cur.size = cap ∧ cur.toList.take n = bs xs
section
variable {w w' : World} {base g n cap : Nat} {xs : List UInt8}
theorem OwnM.lt (h : OwnM w base g n cap xs) : g < w.heap.size := by
  obtain ⟨_, _, _, _, cur, lo, hi, hg, _⟩ := h
  rcases Nat.lt_or_ge g w.heap.size with h' | h'
  · exact h'
  · simp [Array.getElem?_eq_none h'] at hg
theorem OwnM.frozen (h : OwnM w base g n cap xs) (j : Nat) (hj : j < cap) : w.frozen? ⟨g, j, none⟩ = false := by
  obtain ⟨_, _, _, _, cur, lo, hi, hg, hm, hs, _⟩ := h
  unfold World.frozen?
  simp only [hg]
  rcases hm with hm | hm
  · have : ¬ lo ≤ j := by omega
    simp [this]
  · subst hm
    simp
theorem OwnM.some_ (h : OwnM w base g n cap xs) (j : Nat) (hj : j < cap) : ∃ u, w.cell? ⟨g, j, none⟩ = some u := by
  obtain ⟨_, _, _, _, cur, lo, hi, hg, hm, hs, _⟩ := h
  rw [cell_of_row w g j cur _ _ hg]
  exact ⟨cur[j]'(by omega), by simp [show j < cur.size from by omega]⟩
theorem OwnM.sees (h : OwnM w base g n cap xs) : Sees w (some ⟨g, 0, none⟩) n cap (bs xs) := by
  obtain ⟨_, hl, hn, hc, cur, lo, hi, hg, hm, hs, ht⟩ := h
  refine ⟨by rw [bs_length, hl], hn, hc, nofun, fun _ => ⟨g, 0, rfl, fun j u hu => ?_⟩⟩
  rw [Nat.zero_add, cell_of_row w g j cur _ _ hg]
  rw [← ht, List.getElem?_take] at hu
  split at hu
  · simpa using hu
  · cases hu
theorem OwnM.keep (h : OwnM w base g n cap xs) (hk : w'.heap[g]? = w.heap[g]?) : OwnM w' base g n cap xs := by
  obtain ⟨hb, hl, hn, hc, cur, lo, hi, hg, r⟩ := h
  exact ⟨hb, hl, hn, hc, cur, lo, hi, hk.trans hg, r⟩
theorem OwnM.ext (h : OwnM w base g n cap xs) (he : Ext w w') : OwnM w' base g n cap xs := h.keep (he.block g h.lt)
theorem OwnM.drew (h : OwnM w base g n cap xs) : OwnM w.drew base g n cap xs := h.keep rfl
theorem OwnM.alloc (h : OwnM w base g n cap xs) (o : Obj) : OwnM (w.alloc o) base g n cap xs := h.ext ((Ext.refl w).alloc o)
theorem OwnM.mono {base' : Nat} (h : OwnM w base g n cap xs) (hb : base' ≤ base) : OwnM w base' g n cap xs := ⟨Nat.le_trans hb h.1, h.2⟩
theorem heap_setCell_mark (w : World) (g i : Nat) (cs : Array Value) (t : TypeId) (fr : Nat × Nat) (v : Value) (hg : w.heap[g]? = some (.cells cs t fr)) :
    (w.setCell ⟨g, i, none⟩ v).heap[g]? = some (.cells (cs.setIfInBounds i v) t fr) := by
  rw [setCell_eq_setRow w g i cs t fr v hg]
  exact setRow_heap w g cs _ t _ hg
/-- A byte is stored. -/
theorem OwnM.set (h : OwnM w base g n cap xs) (j : Nat) (hj : j < n) (b : UInt8) : OwnM (w.setCell ⟨g, j, none⟩ (.int .u8 (b.toNat : Int))) base g n cap (xs.set j b) := by
  obtain ⟨hb, hl, hn, hc, cur, lo, hi, hg, hm, hs, ht⟩ := h
  refine ⟨hb, by simp [hl], hn, hc, _, lo, hi, heap_setCell_mark w g j cur _ _ _ hg, hm, by simp [hs], ?_⟩
  rw [Array.toList_setIfInBounds, List.take_set, ht]
  unfold bs
  rw [List.map_set]
/-- What a new row of the call's own is. -/
theorem OwnM.of_own {v : Value} (h : w.ownsRow base 5 1 v n (bs xs)) (hn : 0 < n) : ∃ g cap, v = .slice (some ⟨g, 0, none⟩) n cap ∧ OwnM w base g n cap xs := by
  obtain ⟨hl, h⟩ := h
  rcases h with ⟨rfl, rfl⟩ | ⟨g, cap, cur, rfl, hb, hg, hnc, hm, hs, ht⟩
  · omega
  · exact ⟨g, cap, rfl, hb, by rw [bs_length] at hl; omega, hnc, hm, cur, 0, 0, hg, .inr rfl, by omega, by rw [Nat.mul_one] at ht; exact ht⟩
/-- []byte of a string. -/
theorem bytes_new (w : World) (l : List UInt8) (base : Nat) (hl : l.length ≤ maxLen) (hb : base ≤ w.heap.size) : ∃ cap w', (convert 9 24 (.string ⟨l.toArray⟩)).run Try.prog w = .ok (.slice (some ⟨w.heap.size, 0, none⟩) l.length cap) w' ∧
    OwnM w' base w.heap.size l.length cap l ∧ Ext w w' := by
  have hz : (ByteArray.mk l.toArray).size = l.length := by simp [ByteArray.size]
  have hr := run_bytes_of_string (P := Try.prog) w 9 24 5 ⟨l.toArray⟩ Try.underlying9 Try.underlying24 Try.underlying5
  rw [hz] at hr
  have h1 := grownCap_ge w l.length 0 5
  have h2 := grownCap_le_maxLen w l.length 0 5 hl
  generalize grownCap w l.length 0 5 = cap at *
  have h3 : (bytesRow ⟨l.toArray⟩ cap).size = cap := by
    unfold bytesRow
    simp [hz]
    omega
  refine ⟨cap, _, hr, ⟨hb, rfl, h1, h2, _, _, _, heap_alloc_new w.drew _, .inl (by rw [h3]; exact Nat.le_refl _), h3, ?_⟩, (Ext.refl w).drew.alloc _⟩
  unfold bytesRow
  rw [Array.toList_append, List.take_append_of_le_length (by simp), List.take_of_length_le (by simp)]
  simp [bs]
/-- append of a byte. -/
theorem OwnM.push (h : OwnM w base g n cap xs) (ad : Addr) (b : UInt8) (hc : w.cell? ad = some (.int .u8 (b.toNat : Int))) (hlen : n + 1 ≤ 1000000) (hbase : base ≤ w.heap.size) :
    ∃ g' cap' w', (Builtin.append_ #[24, 24] 24 #[.slice (some ⟨g, 0, none⟩) n cap, .slice (some ad) 1 1]).run Try.prog w = .ok (.slice (some ⟨g', 0, none⟩) (n + 1) cap') w' ∧
      OwnM w' base g' (n + 1) cap' (xs ++ [b]) ∧ w.grownBy w' (some g) := by
  obtain ⟨i0, hi, hz0, hz1, hz2⟩ := info_parts infoB
  have hs := h.sees
  have hcm := h.2.2.2.1
  by_cases hr : n + 1 ≤ cap
  · have hrun := run_append_room_cells (P := Try.prog) w 24 24 5 i0 Try.underlying24 hi g 0 n cap ad 1 1 [.int .u8 (b.toNat : Int)] (by rw [hz1]; rfl)
      (fun j u hj => by
        match j, hj with
        | 0, hj => simp at hj; subst hj; rw [addr_add_zero]; exact hc) (fun u hu => by simp at hu; subst hu; rfl) hr
      (fun j hj => by
        have : j = 0 := by simpa using hj
        subst this
        rw [hz1, Nat.mul_one, Nat.zero_add, Nat.add_zero]
        obtain ⟨u, hu⟩ := h.some_ n (by omega)
        rw [hu]; rfl)
      (fun j hj => by
        have : j = 0 := by simpa using hj
        subst this
        rw [hz1, Nat.mul_one, Nat.zero_add, Nat.add_zero]
        exact h.frozen n (by omega))
    rw [hz1, Nat.mul_one, Nat.zero_add] at hrun
    refine ⟨g, cap, _, hrun, ?_, ?_⟩
    · obtain ⟨hb, hl, hn, hc2, cur, lo, hi2, hg, hm, hs2, ht⟩ := h
      refine ⟨hb, by simp [hl], hr, hc2, _, lo, hi2, heap_setCell_mark w g n cur _ _ _ hg, hm, by simp [hs2], ?_⟩
      rw [Array.toList_setIfInBounds, bs_append, ← ht]
      have hnl : n < cur.toList.length := by simp; omega
      rw [List.take_add_one, List.getElem?_set_self (by simpa using hnl), List.take_set_of_le (Nat.le_refl _)]
      rfl
    · refine ⟨rfl, rfl, rfl, by simp [World.setCells], fun k hk hne => ?_⟩
      exact heap_setCell_other w ⟨g, n, none⟩ k _ (fun e => hne (by rw [e]))
  · obtain ⟨v', w', hrun, r1, r2⟩ := run_append_full (P := Try.prog) (w := w) 24 24 5 i0 _ 1 Try.underlying24 hi hz0 hz1 hz2 rfl (some ⟨g, 0, none⟩) n cap (bs xs) hs (some ad) 1 1 [.int .u8 (b.toNat : Int)]
      ⟨rfl, by omega, by unfold maxLen; omega, nofun, fun _ => by
        obtain ⟨ab, ao, asp⟩ := ad
        have hsp : asp = none := by simpa using World.cell?_spot hc
        subst hsp
        exact ⟨ab, ao, rfl, fun j u hu => by
          match j, hu with
          | 0, hu => simp at hu; subst hu; exact hc⟩⟩ (fun u hu => by simp at hu; subst hu; rfl) (by omega) (by unfold maxLen; omega) (by omega)
    have r1' : w'.ownsRow base 5 1 v' (n + 1) (bs (xs ++ [b])) := own_mono (by rw [bs_append]; exact r1) hbase
    obtain ⟨g', cap', rfl, ho⟩ := OwnM.of_own r1' (by omega)
    refine ⟨g', cap', w', hrun, ho, ⟨r2.os, r2.tape, r2.output, r2.size, fun k hk _ => r2.block k hk nofun⟩⟩
end
end Go.Proofs.Ytpjigdfllbhknaa
