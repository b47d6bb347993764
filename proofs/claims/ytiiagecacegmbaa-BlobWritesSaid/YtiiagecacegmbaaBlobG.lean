/-
  Layer 12: bytes that are made greater, and written, on the document's side.
-/
import Derived.Test.YtiiagecacegmbaaBlobD
import Derived.Test.YtiiagecacegmbaaMrk
namespace Go.Proofs.Ytiiagecacegmbaa
open Go Go.RowKit
set_option linter.unusedVariables false
set_option linter.unusedSimpArgs false
theorem u8_zero : (Value.int .u8 (((0 : UInt8).toNat : Nat) : Int)) = .int .u8 0 := rfl
/-- append of a byte 0 that was just made. -/
theorem push_zero {w wr : World} {base g n cap : Nat} {xs : List UInt8} (h : OwnM wr base g n cap xs) (he : Ext w wr) (hb : base = w.heap.size) (hlen : n + 1 ≤ 1000000) :
    ∃ g' cap' w', (Builtin.append_ #[22, 22] 22 #[.slice (some ⟨g, 0, none⟩) n cap, .slice (some ⟨wr.heap.size, 0, none⟩) 1 1]).run Try.prog (wr.alloc (.cells #[.int .u8 0] 5)) = .ok (.slice (some ⟨g', 0, none⟩) (n + 1) cap') w' ∧
      OwnM w' base g' (n + 1) cap' (xs ++ [0]) ∧ Ext w w' := by
  have hc : (wr.alloc (.cells #[.int .u8 0] 5)).cell? ⟨wr.heap.size, 0, none⟩ = some (.int .u8 (((0 : UInt8).toNat : Nat) : Int)) := by
    rw [cell_of_row _ wr.heap.size 0 _ _ _ (heap_alloc_new wr _)]
    rfl
  obtain ⟨g', cap', w', hrun, hown, hg⟩ := (h.alloc (.cells #[.int .u8 0] 5)).push ⟨wr.heap.size, 0, none⟩ 0 hc hlen (by have := he.size; simp; omega)
  exact ⟨g', cap', w', hrun, hown, (he.alloc _).grown hg fun k hk => by injection hk with hk; have := h.1; omega⟩
theorem sizeL_take (l : List UInt8) (k j : Nat) (h : k ≤ l.length + j) (h2 : j = 0 ∨ l.length + j = k) : (l ++ zeros j).take k = sizeL l k := by
  unfold sizeL
  rcases h2 with rfl | h2
  · have : k - l.length = 0 := by omega
    rw [this]
    simp [zeros]
  · rw [List.take_of_length_le (by simp [zeros_length]; omega), List.take_of_length_le (by omega), show k - l.length = j from by omega]
set_option maxRecDepth 20000 in
set_option maxHeartbeats 1000000 in
theorem rresize_any (l : List UInt8) (k : Nat) (w : World) (hl : l.length ≤ 900000) (hk : k ≤ 2048) :
    Calls Try.prog 45 #[.string ⟨l.toArray⟩, .int .i64 (k : Int)] w fun e w' => e = .returned (.tuple #[.string ⟨(sizeL l k).toArray⟩, .int .i64 0]) ∧ Ext w w' := by
  obtain ⟨cap0, w1, hrun, hown, e1⟩ := bytes_new w l w.heap.size (by unfold maxLen; omega) (Nat.le_refl _)
  generalize hn : l.length = n at *
  have HN := Lib.hid hn
  have Own1 := Lib.hid hown
  have E1 := Lib.hid e1
  clear hn hown e1
  go_enter Try.func45, Try.ntmps45
  go_wp2_with fail
  clear hrun
  go_loopw [6] (fun v wr => ∃ g cap j : Nat, v = .slice (some ⟨g, 0, none⟩) (n + j) cap ∧ OwnM wr w.heap.size g (n + j) cap (l ++ zeros j) ∧ Ext w wr ∧ (j = 0 ∨ n + j ≤ k)) (fun v _ => k - lenV v)
  case atStart => exact ⟨w.heap.size, cap0, 0, rfl, by simpa [zeros] using Own1.out, E1.out, .inl rfl⟩
  case round =>
    obtain ⟨g, cap, j, rfl, own, ext, hj⟩ := hrel
    have hcap := own.2.2.1
    have hcm := own.2.2.2.1
    unfold maxLen at hcm
    have Own := Lib.hid own
    have EX := Lib.hid ext
    by_cases hlt : n + j < k
    · obtain ⟨g', cap', w', hrun, hown, e'⟩ := push_zero own ext rfl (by omega)
      have Own2 := Lib.hid hown
      have E2 := Lib.hid e'
      clear own ext hown e' hj
      go_wp2_with (first | (at_builtin; refine wpList_append_run rfl (.tmp 15) (.tmp 16) _ rfl _ _ rfl rfl _ w' hrun ?_) | fail)
      go_roundw
      case rel => exact ⟨g', cap', j + 1, rfl, by rw [zeros_succ, ← List.append_assoc]; exact Own2.out, E2.out, .inr (by omega)⟩
      case measure => simp [lenV]; omega
    · have hst := str_of (l := (l ++ zeros j).take k) (by have := own.sees.take k (by omega); rw [bs_take] at this; exact this)
      rw [sizeL_take l k j (by have := HN.out; omega) (by have := HN.out; omega)] at hst
      have hkc : (k : Int) ≤ (cap : Int) := by omega
      clear own ext hj
      go_wp2
      go_ret2
      exact ⟨rfl, EX.out⟩
theorem write_step (l d : List UInt8) (o i : Nat) (hi : i < d.length) : (writeL l o (d.take i) ++ zeros (o + i + 1 - (writeL l o (d.take i)).length)).set (o + i) (d.getD i 0) = writeL l o (d.take (i + 1)) := by
  have hd1 : d.take (i + 1) ≠ [] := fun h => by have := congrArg List.length h; rw [List.length_take, List.length_nil] at this; omega
  have hl1 : (d.take (i + 1)).length = i + 1 := by rw [List.length_take]; omega
  have hgd : d[i]? = some (d.getD i 0) := by rw [List.getD_eq_getElem?_getD, List.getElem?_eq_getElem hi]; rfl
  by_cases hi0 : i = 0
  · subst hi0
    rw [List.take_zero, writeL_nil]
    simp only [Nat.add_zero, Nat.zero_add] at hd1 hl1 ⊢
    apply List.ext_getElem?
    intro q
    rw [writeL_get l o _ hd1, hl1]
    by_cases h1 : q < o
    · rw [if_pos h1, List.getElem?_set_ne (by omega)]
      by_cases h2 : q < l.length
      · rw [List.getElem?_append_left h2, List.getD_eq_getElem?_getD, List.getElem?_eq_getElem h2]; rfl
      · rw [List.getElem?_append_right (by omega), zeros, List.getElem?_replicate, if_pos (by omega), List.getD_eq_getElem?_getD, List.getElem?_eq_none (by omega)]; rfl
    · rw [if_neg h1]
      by_cases h2 : q = o
      · subst h2
        rw [List.getElem?_set_self (by simp [zeros_length]; omega), if_pos (by omega), Nat.sub_self, List.getElem?_take, if_pos (by omega), hgd]
      · rw [List.getElem?_set_ne (by omega), if_neg (by omega)]
        by_cases h3 : q < l.length
        · rw [List.getElem?_append_left h3]
        · rw [List.getElem?_append_right (by omega), zeros, List.getElem?_replicate, if_neg (by omega), List.getElem?_eq_none (by omega)]
  · have hd0 : d.take i ≠ [] := fun h => by have := congrArg List.length h; rw [List.length_take, List.length_nil] at this; omega
    have hl0 : (d.take i).length = i := by rw [List.length_take]; omega
    have hlen := writeL_length l o (d.take i) hd0
    rw [hl0] at hlen
    apply List.ext_getElem?
    intro q
    rw [writeL_get l o _ hd1, hl1]
    by_cases h2 : q = o + i
    · subst h2
      rw [List.getElem?_set_self (by simp [zeros_length]; omega), if_neg (by omega), if_pos (by omega), show o + i - o = i from by omega, List.getElem?_take, if_pos (by omega), hgd]
    · rw [List.getElem?_set_ne (by omega)]
      by_cases h3 : q < (writeL l o (d.take i)).length
      · rw [List.getElem?_append_left h3, writeL_get l o _ hd0, hl0]
        by_cases h4 : q < o
        · rw [if_pos h4, if_pos h4]
        · rw [if_neg h4, if_neg h4]
          by_cases h5 : q < o + i
          · rw [if_pos h5, if_pos (by omega), List.getElem?_take, if_pos (by omega), List.getElem?_take, if_pos (by omega)]
          · rw [if_neg h5, if_neg (by omega)]
      · rw [List.getElem?_append_right (by omega), zeros, List.getElem?_replicate, if_neg (by omega), if_neg (by omega), if_neg (by omega), List.getElem?_eq_none (by omega)]
theorem idx_str12 (t : List UInt8) (k : Nat) (hk : k < t.length) (w : World) : (Instr.index 9 (.string ⟨t.toArray⟩) (.int .i64 (k : Int))).run Try.prog w = .ok (.int .u8 ((t[k]).toNat : Int)) w := by
  rw [run_index_string w _ _ _ _ Try.underlying9]
  have h1 : k < (ByteArray.mk t.toArray).size := by simpa [ByteArray.size] using hk
  have h2 : (0 : Int) ≤ (k : Int) ∧ (k : Int).toNat < (ByteArray.mk t.toArray).size := ⟨by omega, by simpa using h1⟩
  simp [hk]
  rw [dif_pos h1]
  rfl
set_option maxRecDepth 20000 in
set_option maxHeartbeats 2000000 in
theorem rwrite_any (l d : List UInt8) (o : Int) (w : World) (hl : l.length ≤ 900000) (ho0 : 0 ≤ o) (ho1 : o ≤ 9223372036854775807) (hd : d.length ≤ 2048) (hb : d.length = 0 ∨ o + d.length ≤ 2048) :
    Calls Try.prog 43 #[.string ⟨l.toArray⟩, .int .i64 o, .string ⟨d.toArray⟩] w fun e w' => e = .returned (.tuple #[.string ⟨(writeL l o.toNat d).toArray⟩, .int .i64 0]) ∧ Ext w w' := by
  obtain ⟨cap0, w1, hrun, hown, e1⟩ := bytes_new w l w.heap.size (by unfold maxLen; omega) (Nat.le_refl _)
  have hsz : (ByteArray.mk d.toArray).size = d.length := by simp [ByteArray.size]
  have hn0 := hown.2.1
  have Own1 := Lib.hid hown
  have E1 := Lib.hid e1
  have HB := Lib.hid (fun w => refBig_no o (d.length : Int) w ho0 ho1 (by omega) (by omega) (by omega))
  clear hown e1
  obtain ⟨O, rfl⟩ := Int.eq_ofNat_of_zero_le ho0
  have HX : Hid (∀ i, i < d.length → (writeL l O (d.take i)).length ≤ 900000 + 2048 ∧ (O + i) + 1 ≤ 2048) := Lib.hid fun i hi => by
    refine ⟨?_, by omega⟩
    by_cases h : d.take i = []
    · rw [h, writeL_nil]; omega
    · rw [writeL_length _ _ _ h, List.length_take]; omega
  go_enter Try.func43, Try.ntmps43
  go_wp2_with fail
  refine (HB.out _).mono ?_
  rintro e w2 ⟨rfl, rfl⟩
  go_wp2_with fail
  clear hrun hb
  go_loopw [9, 10] (fun v i wr => ∃ g n cap q : Nat, v = .slice (some ⟨g, 0, none⟩) n cap ∧ i = .int .i64 q ∧ q ≤ d.length ∧ OwnM wr w.heap.size g n cap (writeL l O (d.take q)) ∧ Ext w wr) (fun _ i _ => d.length - (intOf i).toNat)
  case atStart => exact ⟨_, _, _, 0, rfl, rfl, by omega, by rw [List.take_zero, writeL_nil]; exact Own1.out, E1.out⟩
  case round =>
    obtain ⟨g, n, cap, q, rfl, rfl, hq, own, ext⟩ := hrel
    have Own := Lib.hid own
    have EX := Lib.hid ext
    have hcap := own.2.2.1
    have hcm := own.2.2.2.1
    have hnl := own.2.1
    unfold maxLen at hcm
    by_cases hlt : q < d.length
    · have hx := HX.out q hlt
      have hix := idx_str12 d q hlt
      have HW := Lib.hid (write_step l d O q hlt)
      have hgd : d[q] = d.getD q 0 := by rw [List.getD_eq_getElem?_getD, List.getElem?_eq_getElem hlt]; rfl
      rw [hgd] at hix
      generalize d.getD q 0 = b at *
      generalize writeL l O (d.take q) = x at *
      clear own ext hgd
      go_wp2_with fail
      go_loopw [9] (fun v wr' => ∃ g cap j : Nat, v = .slice (some ⟨g, 0, none⟩) (n + j) cap ∧ OwnM wr' w.heap.size g (n + j) cap (x ++ zeros j) ∧ Ext w wr' ∧ (j = 0 ∨ n + j ≤ O + q + 1)) (fun v _ => O + q + 1 - lenV v)
      case atStart => exact ⟨g, cap, 0, rfl, by simpa [zeros] using Own.out, EX.out, .inl rfl⟩
      case round =>
        obtain ⟨g2, cap2, j, rfl, own2, ext2, hj⟩ := hrel
        have hcap2 := own2.2.2.1
        have hcm2 := own2.2.2.2.1
        unfold maxLen at hcm2
        by_cases hlt2 : n + j < O + q + 1
        · obtain ⟨g', cap', w', hrun, hown, e'⟩ := push_zero own2 ext2 rfl (by omega)
          have Own2 := Lib.hid hown
          have E2 := Lib.hid e'
          clear own2 ext2 hown e' hj
          go_wp2_with (first | (at_builtin; refine wpList_append_run rfl (.tmp 30) (.tmp 31) _ rfl _ _ rfl rfl _ w' hrun ?_) | fail)
          go_roundw
          case rel => exact ⟨g', cap', j + 1, rfl, by rw [zeros_succ, ← List.append_assoc]; exact Own2.out, E2.out, .inr (by omega)⟩
          case measure => simp [lenV]; omega
        · obtain ⟨u, hcell⟩ := own2.some_ (O + q) (by omega)
          have hfz := own2.frozen (O + q) (by omega)
          have own3 := own2.set (O + q) (by omega) b
          have hj2 : j = O + q + 1 - x.length := by omega
          rw [hj2, HW.out] at own3
          have Own3 := Lib.hid own3
          have E3 := Lib.hid (ext2.setCell (p := ⟨g2, O + q, none⟩) own2.1 (.int .u8 (b.toNat : Int)))
          have hnj : n + (O + q + 1 - x.length) = n + j := by omega
          rw [hnj] at Own3
          clear own2 ext2 own3 hj hj2 hnj
          go_wp2
          go_roundw
          case rel => exact ⟨g2, n + j, cap2, q + 1, rfl, by go_num, by omega, Own3.out, E3.out⟩
          case measure => simp [intOf]; omega
    · obtain rfl : q = d.length := by omega
      have hst := str_of own.sees
      rw [List.take_length] at hst
      clear own ext
      go_wp2
      go_ret2
      exact ⟨rfl, EX.out⟩
theorem rwrite_big (l d : List UInt8) (o : Int) (w : World) (ho0 : 0 ≤ o) (ho1 : o ≤ 9223372036854775807) (hd0 : 0 < d.length) (hd : d.length ≤ 2048) (hb : 2048 < o + d.length) :
    Calls Try.prog 43 #[.string ⟨l.toArray⟩, .int .i64 o, .string ⟨d.toArray⟩] w fun e w' => e = .returned (.tuple #[.string ⟨#[]⟩, .int .i64 15]) ∧ Ext w w' := by
  have hsz : (ByteArray.mk d.toArray).size = d.length := by simp [ByteArray.size]
  have HB := Lib.hid (fun w => refBig_yes o (d.length : Int) w ho0 ho1 (by omega) (by omega) (by omega))
  go_enter Try.func43, Try.ntmps43
  go_wp2_with fail
  refine (HB.out _).mono ?_
  rintro e w2 ⟨rfl, rfl⟩
  go_wp2
  go_ret2
  exact ⟨rfl, Ext.refl _⟩
end Go.Proofs.Ytiiagecacegmbaa
