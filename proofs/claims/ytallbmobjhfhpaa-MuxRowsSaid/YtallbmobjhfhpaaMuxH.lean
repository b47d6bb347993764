/-
  Layer 7: the document's row of those that wait: the numbers, rising.
-/
import Derived.Test.YtallbmobjhfhpaaMuxG
import Derived.Test.YtallbmobjhfhpaaPln
namespace Go.Proofs.Ytallbmobjhfhpaa
open Go Go.RowKit
set_option linter.unusedVariables false
set_option linter.unusedSimpArgs false
def insA (L : List Int) (x : Int) : List Int := L.takeWhile (fun y => decide (y < x)) ++ x :: L.dropWhile (fun y => decide (y < x))
def irow (X : Nat → Int) : Nat → List Int
  | 0 => []
  | i + 1 => insA (irow X i) (X i)
theorem insA_len (L : List Int) (x : Int) : (insA L x).length = L.length + 1 := by
  have h := congrArg List.length (List.takeWhile_append_dropWhile (p := fun y => decide (y < x)) (l := L))
  simp only [List.length_append] at h
  simp only [insA, List.length_append, List.length_cons]
  omega
theorem irow_len (X : Nat → Int) : ∀ i, (irow X i).length = i
  | 0 => rfl
  | i + 1 => by rw [irow, insA_len, irow_len X i]
theorem own_seesU {w : World} {base : Nat} {v : Value} {n m : Nat} {xs : List Value} (h : w.ownsRow base 22 1 v n xs) (hm : n = m) : ∃ A c, v = .slice A m c ∧ Sees w A m c xs := by
  subst hm
  exact Sees.of_own h
theorem tw_at (x : Int) : ∀ (L : List Int) (k : Nat), (∀ j y, L[j]? = some y → j < k → y < x) → (∀ y, L[k]? = some y → ¬ y < x) → k ≤ L.length → L.take k = L.takeWhile (fun y => decide (y < x)) ∧ L.drop k = L.dropWhile (fun y => decide (y < x))
  | [], k, _, _, hk => by
    obtain rfl : k = 0 := by simpa using hk
    simp
  | a :: L, 0, _, h2, _ => by
    have := h2 a rfl
    simp [List.takeWhile_cons, List.dropWhile_cons, this]
  | a :: L, k + 1, h1, h2, hk => by
    have ha := h1 0 a rfl (by omega)
    obtain ⟨q1, q2⟩ := tw_at x L k (fun j y hj hjk => h1 (j + 1) y (by simpa using hj) (by omega)) (fun y hy => h2 y (by simpa using hy)) (by simpa using hk)
    simp [List.takeWhile_cons, List.dropWhile_cons, ha, q1, q2]
def u3 (L : List Int) : List Value := L.map (Value.int .u32)
theorem u3_get (L : List Int) (k : Nat) (u : Value) (h : (u3 L)[k]? = some u) : ∃ y, L[k]? = some y ∧ u = .int .u32 y := by
  simp only [u3, List.getElem?_map, Option.map_eq_some_iff] at h
  obtain ⟨f, h1, h2⟩ := h
  exact ⟨f, h1, h2.symm⟩
theorem u3_one (L : List Int) : ∀ u ∈ u3 L, u.oneCell' = true := by
  intro u hu
  obtain ⟨y, _, rfl⟩ := List.mem_map.1 hu
  rfl
theorem u3_len (L : List Int) : (u3 L).length = L.length := by simp [u3]
/-- append of what is read to a row of uint32 that the call makes. -/
theorem app_u {w : World} {base n : Nat} {v : Value} {L : List Int} (h : w.ownsRow base 22 1 v n (u3 L)) (hb : base ≤ w.heap.size) (hn : n ≤ 1000) {A : Option Addr} {m c : Nat} {M : List Int} (hs : Sees w A m c (u3 M)) (hm : m ≤ 1000) :
    ∃ v' w', (Builtin.append_ #[32, 32] 32 #[v, .slice A m c]).run Try.prog w = .ok v' w' ∧ w'.ownsRow base 22 1 v' (n + m) (u3 (L ++ M)) ∧ w.grownBy w' v.ownBlock ∧ (v'.ownBlock = v.ownBlock ∨ v'.ownBlock = some w.heap.size) := by
  obtain ⟨i0, hi, hz0, hz1, hz2⟩ : ∃ j, Try.prog.info? 22 = some j ∧ j.zero = some (.int .u32 0) ∧ j.size = 1 ∧ j.bytes = 4 := by
    have := infoU
    cases hh : Try.prog.info? 22 with
    | none => rw [hh] at this; cases this
    | some j =>
      rw [hh] at this
      simp at this
      exact ⟨j, rfl, this⟩
  obtain ⟨v', w', h1, h2, h3, h4⟩ := run_append_sees (P := Try.prog) (w := w) base 32 32 22 i0 _ 4 Try.underlying32 hi hz0 hz1 hz2 rfl v n (u3 L) h A m c (u3 M) hs (u3_one M) (by unfold maxLen; omega) (by omega) hb
  exact ⟨v', w', h1, by rw [show u3 (L ++ M) = u3 L ++ u3 M from by simp [u3]]; exact h2, h3, h4⟩
set_option maxRecDepth 20000 in
set_option maxHeartbeats 1000000 in
theorem rlive_any (a b : Value) (A : Option Addr) (n c : Nat) (X : Nat → Int) (w : World) (hnc : n ≤ c) (hc : c ≤ 9223372036854775807) (hn : n ≤ 100) (hX : ∀ i, i < n → ∃ g off, A = some ⟨g, off, none⟩ ∧ w.cell? ⟨g, off + i * 3, none⟩ = some (.int .u32 (X i)) ∧ g < w.heap.size) :
    Calls Try.prog 21 #[.agg #[a, b, .slice A n c]] w fun e w' => ∃ A' c', e = .returned (.slice A' n c') ∧ Sees w' A' n c' (u3 (irow X n)) ∧ Ext w w' := by
  obtain ⟨w1, hw1⟩ : ∃ w1, w.alloc (.cells #[a, b, .slice A n c] 31) = w1 := ⟨_, rfl⟩
  have e1 : Ext w w1 := by rw [← hw1]; exact (Ext.refl w).alloc _
  have hb : w1.heap[w.heap.size]? = some (.cells #[a, b, .slice A n c] 31 (0, 0)) := by rw [← hw1]; exact heap_alloc_new w _
  have x2 := cell_of_row w1 w.heap.size 2 _ _ _ hb
  simp at x2
  have HC : Hid (∀ w', Ext w1 w' → w'.cell? ⟨w.heap.size, 2, none⟩ = some (.slice A n c)) := Lib.hid fun w' h => h.cell x2
  have HX : Hid (∀ i, i < n → ∃ g off, A = some ⟨g, off, none⟩ ∧ w1.cell? ⟨g, off + i * 3, none⟩ = some (.int .u32 (X i)) ∧ g < w1.heap.size) := Lib.hid fun i hi => by
    obtain ⟨g, off, h1, h2, h3⟩ := hX i hi
    exact ⟨g, off, h1, e1.cell h2, by have := e1.size; omega⟩
  have E1 := Lib.hid e1
  clear hb e1 hX x2
  go_enter Try.func21, Try.ntmps21
  go_wp2_with fail
  go_loopw [3, 4] (fun v i wr => ∃ (k cv : Nat) (B : Option Addr), k ≤ n ∧ i = .int .i64 k ∧ v = .slice B k cv ∧ Sees wr B k cv (u3 (irow X k)) ∧ Ext w1 wr) (fun _ i _ => n - (intOf i).toNat)
  case atStart => exact ⟨0, 0, none, by omega, rfl, rfl, Sees.nil _, Ext.refl _⟩
  case round =>
    obtain ⟨i, cv, B, hi, rfl, rfl, seeB, ext⟩ := hrel
    obtain ⟨WO, hWO⟩ : ∃ W, W = wr := ⟨_, rfl⟩
    subst hWO
    have x2 := HC.out WO ext
    have SB := Lib.hid seeB
    have EX := Lib.hid ext
    have hic := seeB.le
    have hcm := seeB.max
    unfold maxLen at hcm
    clear seeB ext
    by_cases hin : i < n
    · obtain ⟨g, off, rfl, hxc, hg⟩ := HX.out i hin
      have HXC : Hid (∀ w', Ext WO w' → w'.cell? ⟨g, off + i * 3, none⟩ = some (.int .u32 (X i))) := Lib.hid fun w' h => (EX.out.trans h).cell hxc
      have HC2 : Hid (∀ w', Ext WO w' → w'.cell? ⟨w.heap.size, 2, none⟩ = some (.slice (some ⟨g, off, none⟩) n c)) := Lib.hid fun w' h => HC.out w' (EX.out.trans h)
      obtain ⟨x, hx⟩ : ∃ x, X i = x := ⟨_, rfl⟩
      obtain ⟨L, hL⟩ : ∃ L, irow X i = L := ⟨_, rfl⟩
      have hLn : L.length = i := by rw [← hL, irow_len]
      have HN : Hid (irow X (i + 1) = insA L x) := Lib.hid (by rw [irow, hL, hx])
      rw [hx] at HXC
      rw [hL] at SB
      clear hxc
      go_wp2_with fail
      go_loopw [5] (fun kv wq => ∃ k : Nat, k ≤ i ∧ kv = .int .i64 k ∧ (∀ j y, L[j]? = some y → j < k → y < x) ∧ Ext WO wq) (fun kv _ => i - (intOf kv).toNat)
      case atStart => exact ⟨0, by omega, rfl, fun j y _ h => absurd h (by omega), Ext.refl _⟩
      case round =>
        obtain ⟨k, hk, rfl, hall, extq⟩ := hrel
        have HALL := Lib.hid hall
        have EQ := Lib.hid extq
        clear hall extq x2
        have HCq : Hid (∀ w', Ext wr.drew w' → w'.cell? ⟨w.heap.size, 2, none⟩ = some (.slice (some ⟨g, off, none⟩) n c)) := Lib.hid fun w' h => HC2.out w' (EQ.out.trans ((Ext.refl wr).drew.trans h))
        have HXq : Hid (∀ w', Ext wr.drew w' → w'.cell? ⟨g, off + i * 3, none⟩ = some (.int .u32 x)) := Lib.hid fun w' h => HXC.out w' (EQ.out.trans ((Ext.refl wr).drew.trans h))
        by_cases hki : k = i
        · subst hki
          have hki' : ¬ (k : Int) < (k : Int) := by omega
          go_wp2_with fail
          refine wp_region_pl (.free 0 (.free 1 (.free 2 (.free 3 (.free 4 (.free 5 (.free 6 (.free 7 (.free 8 (.free 9 (.free 10 (.free 11 (.free 12 (.free 13 (.free 14 (.free 15 (.free 16 .nil))))))))))))))))) (by kernel_rfl) (by kernel_rfl) (by kernel_rfl) (by kernel_rfl) ?_
          refine pl_val (v := ?_) rfl rfl (fun w' hw' => ?_) ?_; rotate_left; (· skip; go_simp; try with_reducible rfl); simp only [Act.put, List.setIfInBounds_toArray, List.set_cons_zero, List.set_cons_succ]
          refine pl_val (v := ?_) rfl rfl (fun w' hw' => ?_) ?_; rotate_left; (· skip; go_simp; try with_reducible rfl); simp only [Act.put, List.setIfInBounds_toArray, List.set_cons_zero, List.set_cons_succ]
          refine pl_val (v := ?_) rfl rfl (fun w' hw' => ?_) ?_; rotate_left; (· skip; go_simp; try with_reducible rfl); simp only [Act.put, List.setIfInBounds_toArray, List.set_cons_zero, List.set_cons_succ]
          refine pl_val (.bool false) rfl rfl (fun w' hw' => by
            go_simp
            first | done | omega | simp [hki'] | simpa using hki') ?_
          simp only [Act.put, List.setIfInBounds_toArray, List.set_cons_zero, List.set_cons_succ]
          refine pl_val (v := ?_) rfl rfl (fun w' hw' => ?_) ?_; rotate_left; (· skip; go_simp; try with_reducible rfl); simp only [Act.put, List.setIfInBounds_toArray, List.set_cons_zero, List.set_cons_succ]
          refine pl_skip rfl rfl ?_; simp only [Act.put, List.setIfInBounds_toArray, List.set_cons_zero, List.set_cons_succ]
          refine pl_skip rfl rfl ?_; simp only [Act.put, List.setIfInBounds_toArray, List.set_cons_zero, List.set_cons_succ]
          refine pl_skip rfl rfl ?_; simp only [Act.put, List.setIfInBounds_toArray, List.set_cons_zero, List.set_cons_succ]
          refine pl_skip rfl rfl ?_; simp only [Act.put, List.setIfInBounds_toArray, List.set_cons_zero, List.set_cons_succ]
          refine pl_skip rfl rfl ?_; simp only [Act.put, List.setIfInBounds_toArray, List.set_cons_zero, List.set_cons_succ]
          refine pl_skip rfl rfl ?_; simp only [Act.put, List.setIfInBounds_toArray, List.set_cons_zero, List.set_cons_succ]
          refine pl_skip rfl rfl ?_; simp only [Act.put, List.setIfInBounds_toArray, List.set_cons_zero, List.set_cons_succ]
          refine pl_skip rfl rfl ?_; simp only [Act.put, List.setIfInBounds_toArray, List.set_cons_zero, List.set_cons_succ]
          refine pl_skip rfl rfl ?_; simp only [Act.put, List.setIfInBounds_toArray, List.set_cons_zero, List.set_cons_succ]
          refine pl_skip rfl rfl ?_; simp only [Act.put, List.setIfInBounds_toArray, List.set_cons_zero, List.set_cons_succ]
          refine pl_skip rfl rfl ?_; simp only [Act.put, List.setIfInBounds_toArray, List.set_cons_zero, List.set_cons_succ]
          refine pl_val (v := ?_) rfl rfl (fun w' hw' => ?_) ?_; rotate_left; (· skip; go_simp; try with_reducible rfl); simp only [Act.put, List.setIfInBounds_toArray, List.set_cons_zero, List.set_cons_succ]
          refine pl_done ?_
          have HTW := Lib.hid (tw_at x L k HALL.out (fun y hy => absurd (List.getElem?_eq_some_iff.1 hy).1 (by omega)) (by omega))
          clear HCq HXq
          have E0 : Hid (Ext WO wr.drew) := Lib.hid (EQ.out.trans (Ext.refl wr).drew)
          obtain ⟨W, hW⟩ : ∃ W, wr.drew = W := ⟨_, rfl⟩
          rw [hW] at E0
          have SBW := SB.out.ext E0.out
          have hst := SBW.take k (by omega)
          rw [show (u3 L).take k = u3 (L.take k) from by simp [u3, List.map_take]] at hst
          obtain ⟨v1, W1, run1, own1, gr1, _⟩ := app_u (base := W.heap.size) (n := 0) (m := k) (L := []) (World.ownsRow_nil W W.heap.size 22 1 : W.ownsRow W.heap.size 22 1 (.slice none 0 0) 0 (u3 [])) (Nat.le_refl _) (by omega) hst (by omega)
          have eW1 : Ext W W1 := (Ext.refl W).grown gr1 (fun b hb => by cases hb)
          have x2 := HC2.out W1 (E0.out.trans eW1)
          have xc := HXC.out W1 (E0.out.trans eW1)
          have hs1 := sees_new W1 22 #[.int .u32 x] (by simp [maxLen])
          have ownA := own1.alloc (.cells #[.int .u32 x] 22)
          have eA : Ext W (W1.alloc (.cells #[.int .u32 x] 22)) := eW1.alloc _
          obtain ⟨v2, W2, run2, own2, gr2, _⟩ := app_u (n := 0 + k) (m := 1) ownA (by have := eA.size; omega) (by omega) (show Sees _ _ 1 1 (u3 [x]) from hs1) (by omega)
          have eW2 : Ext W W2 := eA.grown gr2 fun b hb => (ownA.lt b hb).1
          have hg2 : g < W1.heap.size := by have := (E0.out.trans eW1).size; have := EX.out.size; omega
          clear hst own1 gr1 hs1 gr2 ownA
          by_cases hck : cv = k
          · have hdr := (SBW.ext eW2).drop_all k (by omega) hck
            rw [show (u3 L).drop k = u3 (L.drop k) from by simp [u3, List.map_drop], Nat.sub_self] at hdr
            subst hck
            obtain ⟨v3, W3, run3, own3, gr3, _⟩ := app_u (n := 0 + cv + 1) (m := 0) own2 (by have := eW2.size; omega) (by omega) hdr (by omega)
            have eW3 : Ext W W3 := eW2.grown gr3 fun b hb => (own2.lt b hb).1
            obtain ⟨B3, c3, rfl, see3⟩ := own_seesU own3 (show 0 + cv + 1 + 0 = cv + 1 from by omega)
            have S3 : Hid (Sees W3 B3 (cv + 1) c3 (u3 (irow X (cv + 1)))) := Lib.hid (by
              rw [HN.out]
              have := see3
              rw [List.nil_append, HTW.out.1, HTW.out.2, List.append_assoc] at this
              exact this)
            have E3 : Hid (Ext w1 W3) := Lib.hid (EX.out.trans (E0.out.trans eW3))
            clear own2 own3 gr3 see3 eW3 eW2 eW1 eA
            go_wp2_with (first | (at_builtin; first | (refine wpList_append_run rfl (.tmp 33) (.tmp 36) _ rfl _ _ rfl rfl v1 W1 run1 ?_) | (refine wpList_append_run rfl (.tmp 38) (.tmp 45) _ rfl _ _ rfl rfl v2 W2 run2 ?_) | (refine wpList_append_run rfl (.tmp 47) (.tmp 50) _ rfl _ _ rfl rfl _ W3 run3 ?_)) | fail)
            go_roundw
            case rel => exact ⟨cv + 1, c3, B3, by omega, by go_num, rfl, S3.out, E3.out⟩
            case measure => simp [intOf]; omega
          · have hBs : B ≠ none := fun q => by have := (SB.out).2.2.2.1 q; omega
            obtain ⟨⟨gb, ob, sp⟩, rfl⟩ := Option.ne_none_iff_exists'.1 hBs
            have hdr := (SBW.ext eW2).drop k (by omega) hck
            rw [show (u3 L).drop k = u3 (L.drop k) from by simp [u3, List.map_drop], Nat.sub_self] at hdr
            obtain ⟨v3, W3, run3, own3, gr3, _⟩ := app_u (n := 0 + k + 1) (m := 0) own2 (by have := eW2.size; omega) (by omega) hdr (by omega)
            have eW3 : Ext W W3 := eW2.grown gr3 fun b hb => (own2.lt b hb).1
            obtain ⟨B3, c3, rfl, see3⟩ := own_seesU own3 (show 0 + k + 1 + 0 = k + 1 from by omega)
            have S3 : Hid (Sees W3 B3 (k + 1) c3 (u3 (irow X (k + 1)))) := Lib.hid (by
              rw [HN.out]
              have := see3
              rw [List.nil_append, HTW.out.1, HTW.out.2, List.append_assoc] at this
              exact this)
            have E3 : Hid (Ext w1 W3) := Lib.hid (EX.out.trans (E0.out.trans eW3))
            clear own2 own3 gr3 see3 eW3 eW2 eW1 eA
            go_wp2_with (first | (at_builtin; first | (refine wpList_append_run rfl (.tmp 33) (.tmp 36) _ rfl _ _ rfl rfl v1 W1 run1 ?_) | (refine wpList_append_run rfl (.tmp 38) (.tmp 45) _ rfl _ _ rfl rfl v2 W2 run2 ?_) | (refine wpList_append_run rfl (.tmp 47) (.tmp 50) _ rfl _ _ rfl rfl _ W3 run3 ?_)) | fail)
            go_roundw
            case rel => exact ⟨k + 1, c3, B3, by omega, by go_num, rfl, S3.out, E3.out⟩
            case measure => simp [intOf]; omega
        · obtain ⟨gb, ob, u, rfl, hu, hcu, hgb⟩ := SB.out.at_ (k := k) (by omega)
          obtain ⟨y, hy, rfl⟩ := u3_get L k u hu
          have HCU : Hid (∀ w', Ext wr.drew w' → w'.cell? ⟨gb, ob + k, none⟩ = some (.int .u32 y)) := Lib.hid fun w' h => (EQ.out.trans ((Ext.refl wr).drew.trans h)).cell hcu
          have HY := Lib.hid hy
          have hki' : (k : Int) < (i : Int) := by omega
          have hgw : g < WO.heap.size := by have := EX.out.size; omega
          clear hu hcu hy
          by_cases hyx : y < x
          · go_wp2_with fail
            refine wp_region_pl (.free 0 (.free 1 (.free 2 (.free 3 (.free 4 (.free 5 (.free 6 (.free 7 (.free 8 (.free 9 (.free 10 (.free 11 (.free 12 (.free 13 (.free 14 (.free 15 (.free 16 .nil))))))))))))))))) (by kernel_rfl) (by kernel_rfl) (by kernel_rfl) (by kernel_rfl) ?_
            refine pl_val (v := ?_) rfl rfl (fun w' hw' => ?_) ?_; rotate_left; (· skip; go_simp; try with_reducible rfl); simp only [Act.put, List.setIfInBounds_toArray, List.set_cons_zero, List.set_cons_succ]
            refine pl_val (v := ?_) rfl rfl (fun w' hw' => ?_) ?_; rotate_left; (· skip; go_simp; try with_reducible rfl); simp only [Act.put, List.setIfInBounds_toArray, List.set_cons_zero, List.set_cons_succ]
            refine pl_val (v := ?_) rfl rfl (fun w' hw' => ?_) ?_; rotate_left; (· skip; go_simp; try with_reducible rfl); simp only [Act.put, List.setIfInBounds_toArray, List.set_cons_zero, List.set_cons_succ]
            refine pl_val (.bool true) rfl rfl (fun w' hw' => by
              go_simp
              first | done | omega | simp [hki'] | simpa using hki') ?_
            simp only [Act.put, List.setIfInBounds_toArray, List.set_cons_zero, List.set_cons_succ]
            refine pl_val (v := ?_) rfl rfl (fun w' hw' => ?_) ?_; rotate_left; (· skip; go_simp; try with_reducible rfl); simp only [Act.put, List.setIfInBounds_toArray, List.set_cons_zero, List.set_cons_succ]
            refine pl_val (v := ?_) rfl rfl (fun w' hw' => ?_) ?_; rotate_left; (· have y2 := HCq.out w' hw'; have y3 := HXq.out w' hw'; have y4 := HCU.out w' hw'; have s1 := hw'.size; go_simp; try with_reducible rfl); simp only [Act.put, List.setIfInBounds_toArray, List.set_cons_zero, List.set_cons_succ]
            refine pl_val (v := ?_) rfl rfl (fun w' hw' => ?_) ?_; rotate_left; (· have y2 := HCq.out w' hw'; have y3 := HXq.out w' hw'; have y4 := HCU.out w' hw'; have s1 := hw'.size; go_simp; try with_reducible rfl); simp only [Act.put, List.setIfInBounds_toArray, List.set_cons_zero, List.set_cons_succ]
            refine pl_val (v := ?_) rfl rfl (fun w' hw' => ?_) ?_; rotate_left; (· have y2 := HCq.out w' hw'; have y3 := HXq.out w' hw'; have y4 := HCU.out w' hw'; have s1 := hw'.size; go_simp; try with_reducible rfl); simp only [Act.put, List.setIfInBounds_toArray, List.set_cons_zero, List.set_cons_succ]
            refine pl_val (v := ?_) rfl rfl (fun w' hw' => ?_) ?_; rotate_left; (· have y2 := HCq.out w' hw'; have y3 := HXq.out w' hw'; have y4 := HCU.out w' hw'; have s1 := hw'.size; go_simp; try with_reducible rfl); simp only [Act.put, List.setIfInBounds_toArray, List.set_cons_zero, List.set_cons_succ]
            refine pl_val (v := ?_) rfl rfl (fun w' hw' => ?_) ?_; rotate_left; (· have y2 := HCq.out w' hw'; have y3 := HXq.out w' hw'; have y4 := HCU.out w' hw'; have s1 := hw'.size; go_simp; try with_reducible rfl); simp only [Act.put, List.setIfInBounds_toArray, List.set_cons_zero, List.set_cons_succ]
            refine pl_val (v := ?_) rfl rfl (fun w' hw' => ?_) ?_; rotate_left; (· have y2 := HCq.out w' hw'; have y3 := HXq.out w' hw'; have y4 := HCU.out w' hw'; have s1 := hw'.size; go_simp; try with_reducible rfl); simp only [Act.put, List.setIfInBounds_toArray, List.set_cons_zero, List.set_cons_succ]
            refine pl_val (v := ?_) rfl rfl (fun w' hw' => ?_) ?_; rotate_left; (· have y2 := HCq.out w' hw'; have y3 := HXq.out w' hw'; have y4 := HCU.out w' hw'; have s1 := hw'.size; go_simp; try with_reducible rfl); simp only [Act.put, List.setIfInBounds_toArray, List.set_cons_zero, List.set_cons_succ]
            refine pl_val (v := ?_) rfl rfl (fun w' hw' => ?_) ?_; rotate_left; (· have y2 := HCq.out w' hw'; have y3 := HXq.out w' hw'; have y4 := HCU.out w' hw'; have s1 := hw'.size; go_simp; try with_reducible rfl); simp only [Act.put, List.setIfInBounds_toArray, List.set_cons_zero, List.set_cons_succ]
            refine pl_val (v := ?_) rfl rfl (fun w' hw' => ?_) ?_; rotate_left; (· have y2 := HCq.out w' hw'; have y3 := HXq.out w' hw'; have y4 := HCU.out w' hw'; have s1 := hw'.size; go_simp; try with_reducible rfl); simp only [Act.put, List.setIfInBounds_toArray, List.set_cons_zero, List.set_cons_succ]
            refine pl_val (v := ?_) rfl rfl (fun w' hw' => ?_) ?_; rotate_left; (· have y2 := HCq.out w' hw'; have y3 := HXq.out w' hw'; have y4 := HCU.out w' hw'; have s1 := hw'.size; go_simp; try with_reducible rfl); simp only [Act.put, List.setIfInBounds_toArray, List.set_cons_zero, List.set_cons_succ]
            refine pl_val (v := ?_) rfl rfl (fun w' hw' => ?_) ?_; rotate_left; (· have y2 := HCq.out w' hw'; have y3 := HXq.out w' hw'; have y4 := HCU.out w' hw'; have s1 := hw'.size; go_simp; try with_reducible rfl); simp only [Act.put, List.setIfInBounds_toArray, List.set_cons_zero, List.set_cons_succ]
            refine pl_val (v := ?_) rfl rfl (fun w' hw' => ?_) ?_; rotate_left; (· have y2 := HCq.out w' hw'; have y3 := HXq.out w' hw'; have y4 := HCU.out w' hw'; have s1 := hw'.size; go_simp; try with_reducible rfl); simp only [Act.put, List.setIfInBounds_toArray, List.set_cons_zero, List.set_cons_succ]
            refine pl_done ?_
            clear HCq HXq HCU
            go_wp2_with fail
            go_roundw
            case rel => exact ⟨k + 1, by omega, by go_num, fun j z hj hjk => by
              by_cases q : j = k
              · subst q
                rw [HY.out] at hj
                injection hj with hj
                omega
              · exact HALL.out j z hj (by omega), EQ.out.trans (Ext.refl wr).drew⟩
            case measure => simp [intOf]; omega
          · go_wp2_with fail
            refine wp_region_pl (.free 0 (.free 1 (.free 2 (.free 3 (.free 4 (.free 5 (.free 6 (.free 7 (.free 8 (.free 9 (.free 10 (.free 11 (.free 12 (.free 13 (.free 14 (.free 15 (.free 16 .nil))))))))))))))))) (by kernel_rfl) (by kernel_rfl) (by kernel_rfl) (by kernel_rfl) ?_
            refine pl_val (v := ?_) rfl rfl (fun w' hw' => ?_) ?_; rotate_left; (· skip; go_simp; try with_reducible rfl); simp only [Act.put, List.setIfInBounds_toArray, List.set_cons_zero, List.set_cons_succ]
            refine pl_val (v := ?_) rfl rfl (fun w' hw' => ?_) ?_; rotate_left; (· skip; go_simp; try with_reducible rfl); simp only [Act.put, List.setIfInBounds_toArray, List.set_cons_zero, List.set_cons_succ]
            refine pl_val (v := ?_) rfl rfl (fun w' hw' => ?_) ?_; rotate_left; (· skip; go_simp; try with_reducible rfl); simp only [Act.put, List.setIfInBounds_toArray, List.set_cons_zero, List.set_cons_succ]
            refine pl_val (.bool true) rfl rfl (fun w' hw' => by
              go_simp
              first | done | omega | simp [hki'] | simpa using hki') ?_
            simp only [Act.put, List.setIfInBounds_toArray, List.set_cons_zero, List.set_cons_succ]
            refine pl_val (v := ?_) rfl rfl (fun w' hw' => ?_) ?_; rotate_left; (· skip; go_simp; try with_reducible rfl); simp only [Act.put, List.setIfInBounds_toArray, List.set_cons_zero, List.set_cons_succ]
            refine pl_val (v := ?_) rfl rfl (fun w' hw' => ?_) ?_; rotate_left; (· have y2 := HCq.out w' hw'; have y3 := HXq.out w' hw'; have y4 := HCU.out w' hw'; have s1 := hw'.size; go_simp; try with_reducible rfl); simp only [Act.put, List.setIfInBounds_toArray, List.set_cons_zero, List.set_cons_succ]
            refine pl_val (v := ?_) rfl rfl (fun w' hw' => ?_) ?_; rotate_left; (· have y2 := HCq.out w' hw'; have y3 := HXq.out w' hw'; have y4 := HCU.out w' hw'; have s1 := hw'.size; go_simp; try with_reducible rfl); simp only [Act.put, List.setIfInBounds_toArray, List.set_cons_zero, List.set_cons_succ]
            refine pl_val (v := ?_) rfl rfl (fun w' hw' => ?_) ?_; rotate_left; (· have y2 := HCq.out w' hw'; have y3 := HXq.out w' hw'; have y4 := HCU.out w' hw'; have s1 := hw'.size; go_simp; try with_reducible rfl); simp only [Act.put, List.setIfInBounds_toArray, List.set_cons_zero, List.set_cons_succ]
            refine pl_val (v := ?_) rfl rfl (fun w' hw' => ?_) ?_; rotate_left; (· have y2 := HCq.out w' hw'; have y3 := HXq.out w' hw'; have y4 := HCU.out w' hw'; have s1 := hw'.size; go_simp; try with_reducible rfl); simp only [Act.put, List.setIfInBounds_toArray, List.set_cons_zero, List.set_cons_succ]
            refine pl_val (v := ?_) rfl rfl (fun w' hw' => ?_) ?_; rotate_left; (· have y2 := HCq.out w' hw'; have y3 := HXq.out w' hw'; have y4 := HCU.out w' hw'; have s1 := hw'.size; go_simp; try with_reducible rfl); simp only [Act.put, List.setIfInBounds_toArray, List.set_cons_zero, List.set_cons_succ]
            refine pl_val (v := ?_) rfl rfl (fun w' hw' => ?_) ?_; rotate_left; (· have y2 := HCq.out w' hw'; have y3 := HXq.out w' hw'; have y4 := HCU.out w' hw'; have s1 := hw'.size; go_simp; try with_reducible rfl); simp only [Act.put, List.setIfInBounds_toArray, List.set_cons_zero, List.set_cons_succ]
            refine pl_val (v := ?_) rfl rfl (fun w' hw' => ?_) ?_; rotate_left; (· have y2 := HCq.out w' hw'; have y3 := HXq.out w' hw'; have y4 := HCU.out w' hw'; have s1 := hw'.size; go_simp; try with_reducible rfl); simp only [Act.put, List.setIfInBounds_toArray, List.set_cons_zero, List.set_cons_succ]
            refine pl_val (v := ?_) rfl rfl (fun w' hw' => ?_) ?_; rotate_left; (· have y2 := HCq.out w' hw'; have y3 := HXq.out w' hw'; have y4 := HCU.out w' hw'; have s1 := hw'.size; go_simp; try with_reducible rfl); simp only [Act.put, List.setIfInBounds_toArray, List.set_cons_zero, List.set_cons_succ]
            refine pl_val (v := ?_) rfl rfl (fun w' hw' => ?_) ?_; rotate_left; (· have y2 := HCq.out w' hw'; have y3 := HXq.out w' hw'; have y4 := HCU.out w' hw'; have s1 := hw'.size; go_simp; try with_reducible rfl); simp only [Act.put, List.setIfInBounds_toArray, List.set_cons_zero, List.set_cons_succ]
            refine pl_val (v := ?_) rfl rfl (fun w' hw' => ?_) ?_; rotate_left; (· have y2 := HCq.out w' hw'; have y3 := HXq.out w' hw'; have y4 := HCU.out w' hw'; have s1 := hw'.size; go_simp; try with_reducible rfl); simp only [Act.put, List.setIfInBounds_toArray, List.set_cons_zero, List.set_cons_succ]
            refine pl_val (v := ?_) rfl rfl (fun w' hw' => ?_) ?_; rotate_left; (· have y2 := HCq.out w' hw'; have y3 := HXq.out w' hw'; have y4 := HCU.out w' hw'; have s1 := hw'.size; go_simp; try with_reducible rfl); simp only [Act.put, List.setIfInBounds_toArray, List.set_cons_zero, List.set_cons_succ]
            refine pl_val (v := ?_) rfl rfl (fun w' hw' => ?_) ?_; rotate_left; (· have y2 := HCq.out w' hw'; have y3 := HXq.out w' hw'; have y4 := HCU.out w' hw'; have s1 := hw'.size; go_simp; try with_reducible rfl); simp only [Act.put, List.setIfInBounds_toArray, List.set_cons_zero, List.set_cons_succ]
            refine pl_done ?_
            have HTW := Lib.hid (tw_at x L k HALL.out (fun z hz => by rw [HY.out] at hz; injection hz with hz; omega) (by omega))
            clear HCq HXq HCU
            have E0 : Hid (Ext WO wr.drew) := Lib.hid (EQ.out.trans (Ext.refl wr).drew)
            obtain ⟨W, hW⟩ : ∃ W, wr.drew = W := ⟨_, rfl⟩
            rw [hW] at E0
            have SBW := SB.out.ext E0.out
            have hst := SBW.take k (by omega)
            rw [show (u3 L).take k = u3 (L.take k) from by simp [u3, List.map_take]] at hst
            obtain ⟨v1, W1, run1, own1, gr1, _⟩ := app_u (base := W.heap.size) (n := 0) (m := k) (L := []) (World.ownsRow_nil W W.heap.size 22 1 : W.ownsRow W.heap.size 22 1 (.slice none 0 0) 0 (u3 [])) (Nat.le_refl _) (by omega) hst (by omega)
            have eW1 : Ext W W1 := (Ext.refl W).grown gr1 (fun b hb => by cases hb)
            have x2 := HC2.out W1 (E0.out.trans eW1)
            have xc := HXC.out W1 (E0.out.trans eW1)
            have hs1 := sees_new W1 22 #[.int .u32 x] (by simp [maxLen])
            have ownA := own1.alloc (.cells #[.int .u32 x] 22)
            have eA : Ext W (W1.alloc (.cells #[.int .u32 x] 22)) := eW1.alloc _
            obtain ⟨v2, W2, run2, own2, gr2, _⟩ := app_u (n := 0 + k) (m := 1) ownA (by have := eA.size; omega) (by omega) (show Sees _ _ 1 1 (u3 [x]) from hs1) (by omega)
            have eW2 : Ext W W2 := eA.grown gr2 fun b hb => (ownA.lt b hb).1
            have hg2 : g < W1.heap.size := by have := (E0.out.trans eW1).size; have := EX.out.size; omega
            clear hst own1 gr1 hs1 gr2 ownA
            have hck : ¬ cv = k := by omega
            have hdr := (SBW.ext eW2).drop k (by omega) hck
            rw [show (u3 L).drop k = u3 (L.drop k) from by simp [u3, List.map_drop]] at hdr
            simp only [Option.map_some, addr_add] at hdr
            obtain ⟨v3, W3, run3, own3, gr3, _⟩ := app_u (n := 0 + k + 1) (m := i - k) own2 (by have := eW2.size; omega) (by omega) hdr (by omega)
            have eW3 : Ext W W3 := eW2.grown gr3 fun b hb => (own2.lt b hb).1
            obtain ⟨B3, c3, rfl, see3⟩ := own_seesU own3 (show 0 + k + 1 + (i - k) = i + 1 from by omega)
            have S3 : Hid (Sees W3 B3 (i + 1) c3 (u3 (irow X (i + 1)))) := Lib.hid (by
              rw [HN.out]
              have := see3
              rw [List.nil_append, HTW.out.1, HTW.out.2, List.append_assoc] at this
              exact this)
            have E3 : Hid (Ext w1 W3) := Lib.hid (EX.out.trans (E0.out.trans eW3))
            clear own2 own3 gr3 see3 eW3 eW2 eW1 eA
            go_wp2_with (first | (at_builtin; first | (refine wpList_append_run rfl (.tmp 33) (.tmp 36) _ rfl _ _ rfl rfl v1 W1 run1 ?_) | (refine wpList_append_run rfl (.tmp 38) (.tmp 45) _ rfl _ _ rfl rfl v2 W2 run2 ?_) | (refine wpList_append_run rfl (.tmp 47) (.tmp 50) _ rfl _ _ rfl rfl _ W3 run3 ?_)) | fail)
            go_roundw
            case rel => exact ⟨i + 1, c3, B3, by omega, by go_num, rfl, S3.out, E3.out⟩
            case measure => simp [intOf]; omega
    · obtain rfl : i = n := by omega
      go_wp2_with fail
      go_ret
      exact ⟨_, _, rfl, SB.out, E1.out.trans EX.out⟩
end Go.Proofs.Ytallbmobjhfhpaa
