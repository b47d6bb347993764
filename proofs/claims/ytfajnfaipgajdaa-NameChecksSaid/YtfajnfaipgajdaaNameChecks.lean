/-
  The statement NameChecks: its walk.
-/
import Derived.Test.YtfajnfaipgajdaaNamF
namespace Go.Proofs.Ytfajnfaipgajdaa
open Go Go.RowKit
set_option linter.unusedVariables false
set_option linter.unusedSimpArgs false
/-- The small world's names. -/
def ofL : List (List UInt8) := [[97], [98], [97, 98], [99], [122], [66], [97, 32, 98], [46, 46, 46], [97, 97, 97, 97, 97, 97, 97, 97, 97, 97, 97, 97, 97, 97, 97, 97, 97, 97, 97, 97, 97, 97, 97, 97, 97, 97, 97, 97, 97, 97, 97, 97], [45]]
def ofT (r : Nat) : List UInt8 := ofL.getD r []
theorem ofL_at (r : Nat) (h : r < 10) : (sv ofL)[r]? = some (.string ⟨(ofT r).toArray⟩) ∧ (ofT r).length ≤ 32 := by
  have h : r = 0 ∨ r = 1 ∨ r = 2 ∨ r = 3 ∨ r = 4 ∨ r = 5 ∨ r = 6 ∨ r = 7 ∨ r = 8 ∨ r = 9 := by omega
  rcases h with rfl | rfl | rfl | rfl | rfl | rfl | rfl | rfl | rfl | rfl <;> exact ⟨rfl, by decide⟩
set_option maxRecDepth 20000 in
theorem of_any (n : Int) (w : World) (h0 : -9223372036854775808 ≤ n) (h1 : n ≤ 9223372036854775807) :
    Calls Try.prog 27 #[.int .i64 n] w fun e w' => ∃ t : List UInt8, e = .returned (.string ⟨t.toArray⟩) ∧ t.length ≤ 32 ∧ Ext w w' := by
  have hA := Lib.hid (fun w => around_any n 10 w h0 h1 (by omega) (by omega))
  obtain ⟨hr0, hr1⟩ := aroundZ_bound n 10 (by omega)
  obtain ⟨r, hr⟩ := Int.eq_ofNat_of_zero_le hr0
  rw [hr] at hr0 hr1 hA
  obtain ⟨ha, hl⟩ := ofL_at r (by omega)
  obtain ⟨cs, hcs⟩ : ∃ cs, cs = (sv ofL).toArray := ⟨_, rfl⟩
  have hcs2 : cs[r]? = some (.string ⟨(ofT r).toArray⟩) := by rw [hcs]; simpa using ha
  generalize ofT r = t at *
  have hcell : (w.alloc (.cells cs 9)).cell? ⟨w.heap.size, r, none⟩ = some (.string ⟨t.toArray⟩) := by
    rw [cell_of_row _ w.heap.size r cs _ _ (heap_alloc_new w _)]
    exact hcs2
  have e0 : Ext w (w.alloc (.cells cs 9)) := (Ext.refl w).alloc _
  have hcs3 : (#[Value.string ⟨#[97]⟩, .string ⟨#[98]⟩, .string ⟨#[97, 98]⟩, .string ⟨#[99]⟩, .string ⟨#[122]⟩, .string ⟨#[66]⟩, .string ⟨#[97, 32, 98]⟩, .string ⟨#[46, 46, 46]⟩, .string ⟨#[97, 97, 97, 97, 97, 97, 97, 97, 97, 97, 97, 97, 97, 97, 97, 97, 97, 97, 97, 97, 97, 97, 97, 97, 97, 97, 97, 97, 97, 97, 97, 97]⟩, .string ⟨#[45]⟩] : Array Value) = cs := by rw [hcs]; rfl
  clear hcs hr ha hcs2
  go_enter Try.func27, Try.ntmps27
  go_wp2_with fail
  clear hcs3
  generalize w.alloc (.cells cs 9) = W at *
  refine (hA.out _).mono ?_
  rintro e w1 ⟨rfl, rfl⟩
  go_wp2
  go_ret
  exact ⟨t, rfl, hl, e0⟩
def NCEnd (w : World) : Ending → World → Prop := fun e w' => e = .returned (.bool true) ∧ Ext w w'
def Short60 (ss : List (List UInt8)) : Prop := ∀ t ∈ ss, t.length ≤ 60
theorem short_nil : Short60 [] := fun t h => absurd h (by simp)
theorem short_set {ss : List (List UInt8)} {t : List UInt8} (h : Short60 ss) (k : Nat) (ht : t.length ≤ 60) : Short60 (ss.set k t) := by
  intro x hx
  rcases List.mem_or_eq_of_mem_set hx with h1 | h1
  · exact h x h1
  · subst h1
    exact ht
theorem short_push {ss : List (List UInt8)} {t : List UInt8} (h : Short60 ss) (ht : t.length ≤ 60) : Short60 (ss ++ [t]) := by
  intro x hx
  rcases List.mem_append.1 hx with h1 | h1
  · exact h x h1
  · have : x = t := by simpa using h1
    subst this
    exact ht
/-- A row of texts, one more. -/
theorem sv_push {w : World} {base : Nat} {v : Value} {ss : List (List UInt8)} (h : w.ownsRow base 9 1 v ss.length (sv ss)) (hb : base ≤ w.heap.size) (hl : ss.length ≤ 1000) (t : List UInt8) :
    ∃ v' w', (Builtin.append_ #[40, 40] 40 #[v, .slice (some ⟨w.heap.size, 0, none⟩) 1 1]).run Try.prog (w.alloc (.cells #[.string ⟨t.toArray⟩] 9)) = .ok v' w' ∧
      w'.ownsRow base 9 1 v' (ss.length + 1) (sv (ss ++ [t])) ∧ ∀ w0, Ext w0 w → w0.heap.size ≤ base → Ext w0 w' := by
  obtain ⟨i0, hi, hz0, hz1, hz2⟩ := info_parts infoS
  have hs1 := sees_new w 9 #[.string ⟨t.toArray⟩] (by simp [maxLen])
  have eA : Ext w (w.alloc (.cells #[.string ⟨t.toArray⟩] 9)) := (Ext.refl _).alloc _
  have ownA := h.alloc (.cells #[.string ⟨t.toArray⟩] 9)
  have hcl : (#[Value.string ⟨t.toArray⟩] : Array Value).toList = sv [t] := by simp [sv]
  rw [hcl] at hs1
  obtain ⟨v3, w3, hrun3, own3, hg3, _⟩ := run_append_sees (P := Try.prog) (w := w.alloc (.cells #[.string ⟨t.toArray⟩] 9)) base 40 40 9 i0 _ 16 Try.underlying40 hi hz0 hz1 hz2 rfl _ _ _ ownA _ 1 1 _ hs1 (sv_one _) (by unfold maxLen; omega) (by omega) (by have := eA.size; omega)
  rw [← sv_append] at own3
  exact ⟨v3, w3, hrun3, own3, fun w0 e0 hb0 => (e0.trans eA).grown hg3 fun k hk => by have := (ownA.lt k hk).1; omega⟩
theorem own_max {w : World} {base : Nat} {e : TypeId} {v : Value} {n : Nat} {xs : List Value} (h : w.ownsRow base e 1 v n xs) : xs.length = n := by simpa using h.1
set_option maxHeartbeats 4000000 in
set_option maxRecDepth 20000 in
theorem nc_walk (A0 A1 : Option Addr) (n0 c0 n1 c1 : Nat) (ls : List (List UInt8)) (zs : List Int) (at_ : Int) (s : List UInt8) (w : World) (hs0 : Sees w A0 n0 c0 (sv ls)) (hls : ∀ t ∈ ls, t.length ≤ maxLen)
    (hs1 : Sees w A1 n1 c1 (zs.map (Value.int .i64))) (hz : ∀ n ∈ zs, -9223372036854775808 ≤ n ∧ n ≤ 9223372036854775807)
    (ha0 : -9223372036854775808 ≤ at_) (ha1 : at_ ≤ 9223372036854775807) (hs : s.length ≤ maxLen) :
    Calls Try.prog 6 #[.slice A0 n0 c0, .slice A1 n1 c1, .int .i64 at_, .string ⟨s.toArray⟩] w (NCEnd w) := by
  have hln0 := hs0.len
  rw [sv_length] at hln0
  have hln1 := hs1.len
  rw [List.length_map] at hln1
  have hc0 := hs0.le
  have hm0 := hs0.max
  have hc1 := hs1.le
  have hm1 := hs1.max
  unfold maxLen at hm0 hm1
  have HS0 := Lib.hid hs0
  have HS1 := Lib.hid hs1
  have HLS := Lib.hid hls
  have HZ := Lib.hid hz
  clear hs0 hs1 hls hz
  go_enter Try.func6, Try.ntmps6
  go_wp2_with fail
  go_loopw [9, 10] (fun v i wr => ∃ ss : List (List UInt8), ss.length ≤ n0 ∧ ss.length ≤ 10 ∧ i = .int .i64 ss.length ∧ Short60 ss ∧ wr.ownsRow w.heap.size 9 1 v ss.length (sv ss) ∧ Ext w wr) (fun _ i _ => 10 - (intOf i).toNat)
  case atStart => exact ⟨[], by simp, by simp, rfl, short_nil, World.ownsRow_nil _ _ _ _, Ext.refl _⟩
  case round =>
    obtain ⟨ss, hk0, hk1, rfl, hsh, own, ext⟩ := hrel
    by_cases hlt : ss.length < n0 ∧ ss.length < 10
    · obtain ⟨hlt0, hlt1⟩ := hlt
      obtain ⟨b, off, u, hA, hu, hcell, _⟩ := (HS0.out.ext ext).at_ hlt0
      obtain ⟨t, ht, rfl⟩ := sv_at ls _ u hu
      subst hA
      have htl := HLS.out t (List.mem_of_getElem? ht)
      have HP := Lib.hid (fun w => short_any t 40 w htl (by omega))
      have hq : (t.take 40).length ≤ 60 := by rw [List.length_take]; omega
      generalize t.take 40 = q at *
      obtain ⟨v3, w3, hrun3, own3, hext⟩ := sv_push own ext.size (by omega) q
      have Own3 := Lib.hid own3
      have Ext3 := Lib.hid (hext w ext (Nat.le_refl _))
      have HSH := Lib.hid (short_push hsh hq)
      have hll : (ss ++ [q]).length = ss.length + 1 := by simp
      have HLL := Lib.hid hll
      generalize ss ++ [q] = ss2 at *
      clear hu ht own own3 ext hext hsh hll
      generalize ss.length = k at *
      go_wp2_with fail
      refine (HP.out _).mono ?_
      rintro e w1 ⟨rfl, rfl⟩
      go_wp2_with (first | (at_builtin; refine wpList_append_run rfl (.tmp 30) (.tmp 36) _ rfl _ _ rfl rfl v3 w3 hrun3 ?_) | fail)
      go_roundw
      case rel => exact ⟨ss2, by rw [HLL.out]; omega, by rw [HLL.out]; omega, by rw [HLL.out]; go_num, HSH.out, by rw [HLL.out]; exact Own3.out, Ext3.out⟩
      case measure => simp [intOf]; omega
    · have Own := Lib.hid own
      have Ext1 := Lib.hid ext
      have HSH := Lib.hid hsh
      clear own ext hsh
      generalize hk : ss.length = k at *
      obtain ⟨w1, hw1⟩ : ∃ w1, w1 = wr := ⟨_, rfl⟩
      rw [← hw1] at Own Ext1 ⊢
      clear hw1
      by_cases hlt0 : k < n0
      · have hlt1 : ¬ k < 10 := by omega
        clear hlt
        obtain ⟨Ao, co, rfl, seeO⟩ := Sees.of_own Own.out
        have HO := Lib.hid seeO
        clear seeO
        go_wp2_with fail
        go_loopw [11, 12] (fun v i wr => ∃ ns : List (List UInt8), ns.length ≤ n1 ∧ ns.length ≤ 10 ∧ i = .int .i64 ns.length ∧ Short60 ns ∧ wr.ownsRow w1.heap.size 9 1 v ns.length (sv ns) ∧ Ext w1 wr) (fun _ i _ => 10 - (intOf i).toNat)
        case atStart => exact ⟨[], by simp, by simp, rfl, short_nil, World.ownsRow_nil _ _ _ _, Ext.refl _⟩
        case round =>
          obtain ⟨ns, hj0, hj1, rfl, hsh, own, ext⟩ := hrel
          by_cases hlt : ns.length < n1 ∧ ns.length < 10
          · obtain ⟨hlt0, hlt1⟩ := hlt
            obtain ⟨b, off, u, hA, hu, hcell, _⟩ := (HS1.out.ext (Ext1.out.trans ext)).at_ hlt0
            obtain ⟨x, hx, rfl⟩ : ∃ x ∈ zs, u = .int .i64 x := by
              obtain ⟨x, hx1, hx2⟩ := List.mem_map.1 (List.mem_of_getElem? hu)
              exact ⟨x, hx1, hx2.symm⟩
            subst hA
            obtain ⟨hx0, hx1⟩ := HZ.out x hx
            have HP := Lib.hid (fun w => of_any x w hx0 hx1)
            have Own := Lib.hid own
            have HX := Lib.hid ext
            have HSH2 := Lib.hid hsh
            clear hu hx own ext hsh
            generalize hkk : ns.length = kk at *
            go_wp2_with fail
            refine (HP.out _).mono ?_
            rintro e w5 ⟨t, rfl, htl, e5⟩
            have own5 := own_ext Own.out e5
            have ext5 := HX.out.trans e5
            rw [← hkk] at own5
            obtain ⟨v3, w3, hrun3, own3, hext⟩ := sv_push own5 ext5.size (by omega) t
            have Own3 := Lib.hid own3
            have Ext3 := Lib.hid (hext w1 ext5 (Nat.le_refl _))
            have HSH3 := Lib.hid (short_push HSH2.out (by omega : t.length ≤ 60))
            have hll : (ns ++ [t]).length = kk + 1 := by simp [hkk]
            rw [hkk] at Own3
            have HLL := Lib.hid hll
            generalize ns ++ [t] = ns2 at *
            clear own5 own3 ext5 hext hll e5 hcell
            go_wp2_with (first | (at_builtin; refine wpList_append_run rfl (.tmp 48) (.tmp 54) _ rfl _ _ rfl rfl v3 w3 hrun3 ?_) | fail)
            go_roundw
            case rel => exact ⟨ns2, by rw [HLL.out]; omega, by rw [HLL.out]; omega, by rw [HLL.out]; go_num, HSH3.out, by rw [HLL.out]; exact Own3.out, Ext3.out⟩
            case measure => simp [intOf]; omega
          · have Own2 := Lib.hid own
            have E12 := Lib.hid ext
            have HSN := Lib.hid hsh
            obtain ⟨An, cn, rfl, seeN⟩ := Sees.of_own own
            have HN := Lib.hid seeN
            have hcn := seeN.max
            have hcn1 := seeN.le
            unfold maxLen at hcn
            clear own ext hsh seeN
            generalize hk2 : ns.length = k2 at *
            obtain ⟨w2, hw2⟩ : ∃ w2, w2 = wr := ⟨_, rfl⟩
            rw [← hw2] at E12 HN Own2 ⊢
            clear hw2
            by_cases hlt0 : k2 < n1
            · have hlt1 : ¬ k2 < 10 := by omega
              clear hlt
              obtain ⟨i0, hi, hz0, hz1, hz2⟩ := info_parts infoS
              obtain ⟨v3, w3, hrun3, own3, hg3, _⟩ := run_append_sees (P := Try.prog) (w := w2) w2.heap.size 40 40 9 i0 _ 16 Try.underlying40 hi hz0 hz1 hz2 rfl _ _ _ (World.ownsRow_nil w2 w2.heap.size 9 1) An k2 cn _ HN.out (sv_one _) (by unfold maxLen; omega) (by omega) (Nat.le_refl _)
              have E23 := Lib.hid ((Ext.refl w2).grown hg3 fun k hk => by cases hk)
              rw [Nat.zero_add, List.nil_append] at own3
              clear hg3 hi hz0 hz1 hz2
              by_cases hk2p : 0 < k2
              · obtain ⟨g, cap, cur, rfl, hg, hcap, hcm, hheap, hcs⟩ := own_some own3 hk2p
                have hAt := Lib.hid (fun w => around_any at_ k2 w ha0 ha1 (by omega) (by omega))
                obtain ⟨hq0, hq1⟩ := aroundZ_bound at_ k2 (by omega)
                obtain ⟨q, hq⟩ := Int.eq_ofNat_of_zero_le hq0
                rw [hq] at hq0 hq1 hAt
                clear hq
                have HP := Lib.hid (fun w => short_any s 40 w hs (by omega))
                have hqs : (s.take 40).length ≤ 60 := by rw [List.length_take]; omega
                generalize s.take 40 = s4 at *
                have hcell : ∃ o, w3.cell? ⟨g, q, none⟩ = some o := by
                  rw [cell_of_row w3 g q cur _ _ hheap]
                  exact ⟨cur[q]'(by omega), by simp [show q < cur.size from by omega]⟩
                obtain ⟨o, hcell⟩ := hcell
                have hfz : w3.frozen? ⟨g, q, none⟩ = false := Lib.frozen_of_heap hheap q
                have own4 := own_set own3 q (by omega) (.string ⟨s4.toArray⟩)
                rw [sv_set] at own4
                have HSO := Lib.hid (short_set HSN.out q hqs)
                generalize ns.set q s4 = os at *
                have E24 := Lib.hid (E23.out.setCell (p := ⟨g, q, none⟩) hg (.string ⟨s4.toArray⟩))
                have Own4 := Lib.hid own4
                unfold maxLen at hcm
                clear own4 own3 hheap
                go_wp2_with (first | (at_builtin; refine wpList_append_run rfl (.tmp 56) (.tmp 57) _ rfl _ _ rfl rfl _ w3 hrun3 ?_) | fail)
                clear hrun3
                refine (hAt.out _).mono ?_
                rintro e w5 ⟨rfl, rfl⟩
                go_wp2_with fail
                refine (HP.out _).mono ?_
                rintro e w5 ⟨rfl, rfl⟩
                go_wp2_with fail
                clear hcell hfz hAt HP
                have hsz : (w3.setCell ⟨g, q, none⟩ (.string ⟨s4.toArray⟩)).heap.size = w3.heap.size := by simp [World.setCell]
                rw [← hsz]
                clear hsz
                generalize w3.setCell ⟨g, q, none⟩ (.string ⟨s4.toArray⟩) = w4 at *
                obtain ⟨A4, c4, hv4, see4⟩ := Sees.of_own Own4.out
                obtain ⟨rfl, rfl⟩ : some (⟨g, 0, none⟩ : Addr) = A4 ∧ cap = c4 := by
                  injection hv4 with a b c
                  exact ⟨a, c⟩
                have HQ := Lib.hid see4
                have hA4 : Hid (∃ A4 : Option Addr, A4 = some ⟨g, 0, none⟩) := Lib.hid ⟨_, rfl⟩
                clear see4 hv4
                obtain ⟨A4, hA4⟩ := hA4.out
                rw [← hA4] at HQ ⊢
                clear hA4
                obtain ⟨c4, hc4⟩ : ∃ c4, c4 = cap := ⟨_, rfl⟩
                rw [← hc4] at HQ ⊢
                clear hc4
                obtain ⟨tx, htx⟩ : ∃ tx, tx = #[Value.slice Ao k co, Value.slice An k2 cn, Value.slice A4 k2 c4] := ⟨_, rfl⟩
                have hb := heap_alloc_new w4 (.cells tx 40)
                have e5 : Ext w4 (w4.alloc (.cells tx 40)) := (Ext.refl _).alloc _
                have HK : Hid (∀ i, i < 3 → ∃ A n c ss, Short60 ss ∧ Sees (w4.alloc (.cells tx 40)) A n c (sv ss) ∧ ∀ w', Ext (w4.alloc (.cells tx 40)) w' → w'.cell? ⟨w4.heap.size, i, none⟩ = some (.slice A n c)) := Lib.hid fun i hi => by
                  have key : ∀ A n c ss, tx[i]? = some (.slice A n c) → Short60 ss → Sees w4 A n c (sv ss) → ∃ A n c ss, Short60 ss ∧ Sees (w4.alloc (.cells tx 40)) A n c (sv ss) ∧ ∀ w', Ext (w4.alloc (.cells tx 40)) w' → w'.cell? ⟨w4.heap.size, i, none⟩ = some (.slice A n c) := fun A n c ss ht hsh hse =>
                    ⟨A, n, c, ss, hsh, hse.ext e5, fun w' he => by rw [cell_of_row w' w4.heap.size i tx _ _ (he.heap hb)]; exact ht⟩
                  have h3 : i = 0 ∨ i = 1 ∨ i = 2 := by omega
                  rw [htx] at key
                  rw [htx]
                  rcases h3 with rfl | rfl | rfl
                  · exact key Ao k co ss rfl HSH.out (HO.out.ext ((E12.out.trans E24.out)))
                  · exact key An k2 cn ns rfl HSN.out (HN.out.ext E24.out)
                  · exact key A4 k2 c4 os rfl HSO.out HQ.out
                have HE := Lib.hid (((Ext1.out.trans E12.out).trans E24.out).trans e5)
                clear hb e5
                try go_wp2_with fail
                rw [← htx]
                clear htx
                generalize hW : w4.alloc (.cells tx 40) = W at *
                generalize w4.heap.size = z0 at *
                clear hW
                go_loopw [15] (fun i wr => ∃ j : Nat, j ≤ 3 ∧ i = .int .i64 j ∧ Ext W wr) (fun i _ => 3 - (intOf i).toNat)
                case atStart => exact ⟨0, by omega, rfl, Ext.refl _⟩
                case round =>
                  obtain ⟨j, hj, rfl, ext⟩ := hrel
                  have HX := Lib.hid ext
                  by_cases hjt : j < 3
                  · obtain ⟨A, m, c, st, hsh, hse, hcl⟩ := HK.out j hjt
                    have hcell := hcl _ ext
                    have P1 := Lib.hid (fun w he => check_any A m c st w (hse.ext he) (fun t ht => by have := hsh t ht; omega))
                    have P2 := Lib.hid (fun w he => rcheck_any A m c st w (hse.ext he) (fun t ht => by have := hsh t ht; omega))
                    have HCL := Lib.hid hcl
                    generalize chk1 st = r1 at *
                    generalize chk2 st = r2 at *
                    have hm := hse.le
                    have hm2 := hse.max
                    unfold maxLen at hm2
                    clear hsh hse hcl ext
                    go_wp2_with fail
                    refine (P1.out _ HX.out).mono ?_
                    rintro e w6 ⟨rfl, e6⟩
                    have HX2 := Lib.hid (HX.out.trans e6)
                    clear e6 hcell
                    have hcell := HCL.out _ HX2.out
                    go_wp2_with fail
                    refine (P2.out _ HX2.out).mono ?_
                    rintro e w7 ⟨rfl, e7⟩
                    have HX3 := Lib.hid (HX2.out.trans e7)
                    clear e7 hcell
                    go_wp2_with fail
                    go_roundw
                    case rel => exact ⟨j + 1, by omega, by go_num, HX3.out⟩
                    case measure => simp [intOf]; omega
                  · obtain rfl : j = 3 := by omega
                    go_wp2_with fail
                    refine (lives9 _).mono ?_
                    rintro e w8 ⟨rfl, e8⟩
                    have E5 := Lib.hid ((HE.out.trans HX.out).trans e8)
                    go_wp2
                    go_ret
                    exact ⟨rfl, E5.out⟩
              · omega
            · clear hlt
              obtain ⟨i0, hi, hz0, hz1, hz2⟩ := info_parts infoS
              obtain ⟨v3, w3, hrun3, own3, hg3, _⟩ := run_append_sees (P := Try.prog) (w := w2) w2.heap.size 40 40 9 i0 _ 16 Try.underlying40 hi hz0 hz1 hz2 rfl _ _ _ (World.ownsRow_nil w2 w2.heap.size 9 1) An k2 cn _ HN.out (sv_one _) (by unfold maxLen; omega) (by omega) (Nat.le_refl _)
              have E23 := Lib.hid ((Ext.refl w2).grown hg3 fun k hk => by cases hk)
              rw [Nat.zero_add, List.nil_append] at own3
              clear hg3 hi hz0 hz1 hz2
              by_cases hk2p : 0 < k2
              · obtain ⟨g, cap, cur, rfl, hg, hcap, hcm, hheap, hcs⟩ := own_some own3 hk2p
                have hAt := Lib.hid (fun w => around_any at_ k2 w ha0 ha1 (by omega) (by omega))
                obtain ⟨hq0, hq1⟩ := aroundZ_bound at_ k2 (by omega)
                obtain ⟨q, hq⟩ := Int.eq_ofNat_of_zero_le hq0
                rw [hq] at hq0 hq1 hAt
                clear hq
                have HP := Lib.hid (fun w => short_any s 40 w hs (by omega))
                have hqs : (s.take 40).length ≤ 60 := by rw [List.length_take]; omega
                generalize s.take 40 = s4 at *
                have hcell : ∃ o, w3.cell? ⟨g, q, none⟩ = some o := by
                  rw [cell_of_row w3 g q cur _ _ hheap]
                  exact ⟨cur[q]'(by omega), by simp [show q < cur.size from by omega]⟩
                obtain ⟨o, hcell⟩ := hcell
                have hfz : w3.frozen? ⟨g, q, none⟩ = false := Lib.frozen_of_heap hheap q
                have own4 := own_set own3 q (by omega) (.string ⟨s4.toArray⟩)
                rw [sv_set] at own4
                have HSO := Lib.hid (short_set HSN.out q hqs)
                generalize ns.set q s4 = os at *
                have E24 := Lib.hid (E23.out.setCell (p := ⟨g, q, none⟩) hg (.string ⟨s4.toArray⟩))
                have Own4 := Lib.hid own4
                unfold maxLen at hcm
                clear own4 own3 hheap
                go_wp2_with (first | (at_builtin; refine wpList_append_run rfl (.tmp 56) (.tmp 57) _ rfl _ _ rfl rfl _ w3 hrun3 ?_) | fail)
                clear hrun3
                refine (hAt.out _).mono ?_
                rintro e w5 ⟨rfl, rfl⟩
                go_wp2_with fail
                refine (HP.out _).mono ?_
                rintro e w5 ⟨rfl, rfl⟩
                go_wp2_with fail
                clear hcell hfz hAt HP
                have hsz : (w3.setCell ⟨g, q, none⟩ (.string ⟨s4.toArray⟩)).heap.size = w3.heap.size := by simp [World.setCell]
                rw [← hsz]
                clear hsz
                generalize w3.setCell ⟨g, q, none⟩ (.string ⟨s4.toArray⟩) = w4 at *
                obtain ⟨A4, c4, hv4, see4⟩ := Sees.of_own Own4.out
                obtain ⟨rfl, rfl⟩ : some (⟨g, 0, none⟩ : Addr) = A4 ∧ cap = c4 := by
                  injection hv4 with a b c
                  exact ⟨a, c⟩
                have HQ := Lib.hid see4
                have hA4 : Hid (∃ A4 : Option Addr, A4 = some ⟨g, 0, none⟩) := Lib.hid ⟨_, rfl⟩
                clear see4 hv4
                obtain ⟨A4, hA4⟩ := hA4.out
                rw [← hA4] at HQ ⊢
                clear hA4
                obtain ⟨c4, hc4⟩ : ∃ c4, c4 = cap := ⟨_, rfl⟩
                rw [← hc4] at HQ ⊢
                clear hc4
                obtain ⟨tx, htx⟩ : ∃ tx, tx = #[Value.slice Ao k co, Value.slice An k2 cn, Value.slice A4 k2 c4] := ⟨_, rfl⟩
                have hb := heap_alloc_new w4 (.cells tx 40)
                have e5 : Ext w4 (w4.alloc (.cells tx 40)) := (Ext.refl _).alloc _
                have HK : Hid (∀ i, i < 3 → ∃ A n c ss, Short60 ss ∧ Sees (w4.alloc (.cells tx 40)) A n c (sv ss) ∧ ∀ w', Ext (w4.alloc (.cells tx 40)) w' → w'.cell? ⟨w4.heap.size, i, none⟩ = some (.slice A n c)) := Lib.hid fun i hi => by
                  have key : ∀ A n c ss, tx[i]? = some (.slice A n c) → Short60 ss → Sees w4 A n c (sv ss) → ∃ A n c ss, Short60 ss ∧ Sees (w4.alloc (.cells tx 40)) A n c (sv ss) ∧ ∀ w', Ext (w4.alloc (.cells tx 40)) w' → w'.cell? ⟨w4.heap.size, i, none⟩ = some (.slice A n c) := fun A n c ss ht hsh hse =>
                    ⟨A, n, c, ss, hsh, hse.ext e5, fun w' he => by rw [cell_of_row w' w4.heap.size i tx _ _ (he.heap hb)]; exact ht⟩
                  have h3 : i = 0 ∨ i = 1 ∨ i = 2 := by omega
                  rw [htx] at key
                  rw [htx]
                  rcases h3 with rfl | rfl | rfl
                  · exact key Ao k co ss rfl HSH.out (HO.out.ext ((E12.out.trans E24.out)))
                  · exact key An k2 cn ns rfl HSN.out (HN.out.ext E24.out)
                  · exact key A4 k2 c4 os rfl HSO.out HQ.out
                have HE := Lib.hid (((Ext1.out.trans E12.out).trans E24.out).trans e5)
                clear hb e5
                try go_wp2_with fail
                rw [← htx]
                clear htx
                generalize hW : w4.alloc (.cells tx 40) = W at *
                generalize w4.heap.size = z0 at *
                clear hW
                go_loopw [15] (fun i wr => ∃ j : Nat, j ≤ 3 ∧ i = .int .i64 j ∧ Ext W wr) (fun i _ => 3 - (intOf i).toNat)
                case atStart => exact ⟨0, by omega, rfl, Ext.refl _⟩
                case round =>
                  obtain ⟨j, hj, rfl, ext⟩ := hrel
                  have HX := Lib.hid ext
                  by_cases hjt : j < 3
                  · obtain ⟨A, m, c, st, hsh, hse, hcl⟩ := HK.out j hjt
                    have hcell := hcl _ ext
                    have P1 := Lib.hid (fun w he => check_any A m c st w (hse.ext he) (fun t ht => by have := hsh t ht; omega))
                    have P2 := Lib.hid (fun w he => rcheck_any A m c st w (hse.ext he) (fun t ht => by have := hsh t ht; omega))
                    have HCL := Lib.hid hcl
                    generalize chk1 st = r1 at *
                    generalize chk2 st = r2 at *
                    have hm := hse.le
                    have hm2 := hse.max
                    unfold maxLen at hm2
                    clear hsh hse hcl ext
                    go_wp2_with fail
                    refine (P1.out _ HX.out).mono ?_
                    rintro e w6 ⟨rfl, e6⟩
                    have HX2 := Lib.hid (HX.out.trans e6)
                    clear e6 hcell
                    have hcell := HCL.out _ HX2.out
                    go_wp2_with fail
                    refine (P2.out _ HX2.out).mono ?_
                    rintro e w7 ⟨rfl, e7⟩
                    have HX3 := Lib.hid (HX2.out.trans e7)
                    clear e7 hcell
                    go_wp2_with fail
                    go_roundw
                    case rel => exact ⟨j + 1, by omega, by go_num, HX3.out⟩
                    case measure => simp [intOf]; omega
                  · obtain rfl : j = 3 := by omega
                    go_wp2_with fail
                    refine (lives9 _).mono ?_
                    rintro e w8 ⟨rfl, e8⟩
                    have E5 := Lib.hid ((HE.out.trans HX.out).trans e8)
                    go_wp2
                    go_ret
                    exact ⟨rfl, E5.out⟩
              · obtain ⟨A4, c4, rfl, see4⟩ := Sees.of_own own3
                have HQ := Lib.hid see4
                have HSO := HSN
                have E24 := E23
                obtain ⟨os, hos⟩ : ∃ os, os = ns := ⟨_, rfl⟩
                rw [← hos] at HQ HSO
                obtain ⟨w4, hw4⟩ : ∃ w4, w4 = w3 := ⟨_, rfl⟩
                rw [← hw4] at HQ E24 hrun3
                clear hw4
                have hc41 := see4.max
                have hc42 := see4.le
                unfold maxLen at hc41
                clear see4 own3 hos
                go_wp2_with (first | (at_builtin; refine wpList_append_run rfl (.tmp 56) (.tmp 57) _ rfl _ _ rfl rfl _ w4 hrun3 ?_) | fail)
                clear hrun3
                obtain ⟨tx, htx⟩ : ∃ tx, tx = #[Value.slice Ao k co, Value.slice An k2 cn, Value.slice A4 k2 c4] := ⟨_, rfl⟩
                have hb := heap_alloc_new w4 (.cells tx 40)
                have e5 : Ext w4 (w4.alloc (.cells tx 40)) := (Ext.refl _).alloc _
                have HK : Hid (∀ i, i < 3 → ∃ A n c ss, Short60 ss ∧ Sees (w4.alloc (.cells tx 40)) A n c (sv ss) ∧ ∀ w', Ext (w4.alloc (.cells tx 40)) w' → w'.cell? ⟨w4.heap.size, i, none⟩ = some (.slice A n c)) := Lib.hid fun i hi => by
                  have key : ∀ A n c ss, tx[i]? = some (.slice A n c) → Short60 ss → Sees w4 A n c (sv ss) → ∃ A n c ss, Short60 ss ∧ Sees (w4.alloc (.cells tx 40)) A n c (sv ss) ∧ ∀ w', Ext (w4.alloc (.cells tx 40)) w' → w'.cell? ⟨w4.heap.size, i, none⟩ = some (.slice A n c) := fun A n c ss ht hsh hse =>
                    ⟨A, n, c, ss, hsh, hse.ext e5, fun w' he => by rw [cell_of_row w' w4.heap.size i tx _ _ (he.heap hb)]; exact ht⟩
                  have h3 : i = 0 ∨ i = 1 ∨ i = 2 := by omega
                  rw [htx] at key
                  rw [htx]
                  rcases h3 with rfl | rfl | rfl
                  · exact key Ao k co ss rfl HSH.out (HO.out.ext ((E12.out.trans E24.out)))
                  · exact key An k2 cn ns rfl HSN.out (HN.out.ext E24.out)
                  · exact key A4 k2 c4 os rfl HSO.out HQ.out
                have HE := Lib.hid (((Ext1.out.trans E12.out).trans E24.out).trans e5)
                clear hb e5
                try go_wp2_with fail
                rw [← htx]
                clear htx
                generalize hW : w4.alloc (.cells tx 40) = W at *
                generalize w4.heap.size = z0 at *
                clear hW
                go_loopw [15] (fun i wr => ∃ j : Nat, j ≤ 3 ∧ i = .int .i64 j ∧ Ext W wr) (fun i _ => 3 - (intOf i).toNat)
                case atStart => exact ⟨0, by omega, rfl, Ext.refl _⟩
                case round =>
                  obtain ⟨j, hj, rfl, ext⟩ := hrel
                  have HX := Lib.hid ext
                  by_cases hjt : j < 3
                  · obtain ⟨A, m, c, st, hsh, hse, hcl⟩ := HK.out j hjt
                    have hcell := hcl _ ext
                    have P1 := Lib.hid (fun w he => check_any A m c st w (hse.ext he) (fun t ht => by have := hsh t ht; omega))
                    have P2 := Lib.hid (fun w he => rcheck_any A m c st w (hse.ext he) (fun t ht => by have := hsh t ht; omega))
                    have HCL := Lib.hid hcl
                    generalize chk1 st = r1 at *
                    generalize chk2 st = r2 at *
                    have hm := hse.le
                    have hm2 := hse.max
                    unfold maxLen at hm2
                    clear hsh hse hcl ext
                    go_wp2_with fail
                    refine (P1.out _ HX.out).mono ?_
                    rintro e w6 ⟨rfl, e6⟩
                    have HX2 := Lib.hid (HX.out.trans e6)
                    clear e6 hcell
                    have hcell := HCL.out _ HX2.out
                    go_wp2_with fail
                    refine (P2.out _ HX2.out).mono ?_
                    rintro e w7 ⟨rfl, e7⟩
                    have HX3 := Lib.hid (HX2.out.trans e7)
                    clear e7 hcell
                    go_wp2_with fail
                    go_roundw
                    case rel => exact ⟨j + 1, by omega, by go_num, HX3.out⟩
                    case measure => simp [intOf]; omega
                  · obtain rfl : j = 3 := by omega
                    go_wp2_with fail
                    refine (lives9 _).mono ?_
                    rintro e w8 ⟨rfl, e8⟩
                    have E5 := Lib.hid ((HE.out.trans HX.out).trans e8)
                    go_wp2
                    go_ret
                    exact ⟨rfl, E5.out⟩
      · clear hlt
        obtain ⟨Ao, co, rfl, seeO⟩ := Sees.of_own Own.out
        have HO := Lib.hid seeO
        clear seeO
        go_wp2_with fail
        go_loopw [11, 12] (fun v i wr => ∃ ns : List (List UInt8), ns.length ≤ n1 ∧ ns.length ≤ 10 ∧ i = .int .i64 ns.length ∧ Short60 ns ∧ wr.ownsRow w1.heap.size 9 1 v ns.length (sv ns) ∧ Ext w1 wr) (fun _ i _ => 10 - (intOf i).toNat)
        case atStart => exact ⟨[], by simp, by simp, rfl, short_nil, World.ownsRow_nil _ _ _ _, Ext.refl _⟩
        case round =>
          obtain ⟨ns, hj0, hj1, rfl, hsh, own, ext⟩ := hrel
          by_cases hlt : ns.length < n1 ∧ ns.length < 10
          · obtain ⟨hlt0, hlt1⟩ := hlt
            obtain ⟨b, off, u, hA, hu, hcell, _⟩ := (HS1.out.ext (Ext1.out.trans ext)).at_ hlt0
            obtain ⟨x, hx, rfl⟩ : ∃ x ∈ zs, u = .int .i64 x := by
              obtain ⟨x, hx1, hx2⟩ := List.mem_map.1 (List.mem_of_getElem? hu)
              exact ⟨x, hx1, hx2.symm⟩
            subst hA
            obtain ⟨hx0, hx1⟩ := HZ.out x hx
            have HP := Lib.hid (fun w => of_any x w hx0 hx1)
            have Own := Lib.hid own
            have HX := Lib.hid ext
            have HSH2 := Lib.hid hsh
            clear hu hx own ext hsh
            generalize hkk : ns.length = kk at *
            go_wp2_with fail
            refine (HP.out _).mono ?_
            rintro e w5 ⟨t, rfl, htl, e5⟩
            have own5 := own_ext Own.out e5
            have ext5 := HX.out.trans e5
            rw [← hkk] at own5
            obtain ⟨v3, w3, hrun3, own3, hext⟩ := sv_push own5 ext5.size (by omega) t
            have Own3 := Lib.hid own3
            have Ext3 := Lib.hid (hext w1 ext5 (Nat.le_refl _))
            have HSH3 := Lib.hid (short_push HSH2.out (by omega : t.length ≤ 60))
            have hll : (ns ++ [t]).length = kk + 1 := by simp [hkk]
            rw [hkk] at Own3
            have HLL := Lib.hid hll
            generalize ns ++ [t] = ns2 at *
            clear own5 own3 ext5 hext hll e5 hcell
            go_wp2_with (first | (at_builtin; refine wpList_append_run rfl (.tmp 48) (.tmp 54) _ rfl _ _ rfl rfl v3 w3 hrun3 ?_) | fail)
            go_roundw
            case rel => exact ⟨ns2, by rw [HLL.out]; omega, by rw [HLL.out]; omega, by rw [HLL.out]; go_num, HSH3.out, by rw [HLL.out]; exact Own3.out, Ext3.out⟩
            case measure => simp [intOf]; omega
          · have Own2 := Lib.hid own
            have E12 := Lib.hid ext
            have HSN := Lib.hid hsh
            obtain ⟨An, cn, rfl, seeN⟩ := Sees.of_own own
            have HN := Lib.hid seeN
            have hcn := seeN.max
            have hcn1 := seeN.le
            unfold maxLen at hcn
            clear own ext hsh seeN
            generalize hk2 : ns.length = k2 at *
            obtain ⟨w2, hw2⟩ : ∃ w2, w2 = wr := ⟨_, rfl⟩
            rw [← hw2] at E12 HN Own2 ⊢
            clear hw2
            by_cases hlt0 : k2 < n1
            · have hlt1 : ¬ k2 < 10 := by omega
              clear hlt
              obtain ⟨i0, hi, hz0, hz1, hz2⟩ := info_parts infoS
              obtain ⟨v3, w3, hrun3, own3, hg3, _⟩ := run_append_sees (P := Try.prog) (w := w2) w2.heap.size 40 40 9 i0 _ 16 Try.underlying40 hi hz0 hz1 hz2 rfl _ _ _ (World.ownsRow_nil w2 w2.heap.size 9 1) An k2 cn _ HN.out (sv_one _) (by unfold maxLen; omega) (by omega) (Nat.le_refl _)
              have E23 := Lib.hid ((Ext.refl w2).grown hg3 fun k hk => by cases hk)
              rw [Nat.zero_add, List.nil_append] at own3
              clear hg3 hi hz0 hz1 hz2
              by_cases hk2p : 0 < k2
              · obtain ⟨g, cap, cur, rfl, hg, hcap, hcm, hheap, hcs⟩ := own_some own3 hk2p
                have hAt := Lib.hid (fun w => around_any at_ k2 w ha0 ha1 (by omega) (by omega))
                obtain ⟨hq0, hq1⟩ := aroundZ_bound at_ k2 (by omega)
                obtain ⟨q, hq⟩ := Int.eq_ofNat_of_zero_le hq0
                rw [hq] at hq0 hq1 hAt
                clear hq
                have HP := Lib.hid (fun w => short_any s 40 w hs (by omega))
                have hqs : (s.take 40).length ≤ 60 := by rw [List.length_take]; omega
                generalize s.take 40 = s4 at *
                have hcell : ∃ o, w3.cell? ⟨g, q, none⟩ = some o := by
                  rw [cell_of_row w3 g q cur _ _ hheap]
                  exact ⟨cur[q]'(by omega), by simp [show q < cur.size from by omega]⟩
                obtain ⟨o, hcell⟩ := hcell
                have hfz : w3.frozen? ⟨g, q, none⟩ = false := Lib.frozen_of_heap hheap q
                have own4 := own_set own3 q (by omega) (.string ⟨s4.toArray⟩)
                rw [sv_set] at own4
                have HSO := Lib.hid (short_set HSN.out q hqs)
                generalize ns.set q s4 = os at *
                have E24 := Lib.hid (E23.out.setCell (p := ⟨g, q, none⟩) hg (.string ⟨s4.toArray⟩))
                have Own4 := Lib.hid own4
                unfold maxLen at hcm
                clear own4 own3 hheap
                go_wp2_with (first | (at_builtin; refine wpList_append_run rfl (.tmp 56) (.tmp 57) _ rfl _ _ rfl rfl _ w3 hrun3 ?_) | fail)
                clear hrun3
                refine (hAt.out _).mono ?_
                rintro e w5 ⟨rfl, rfl⟩
                go_wp2_with fail
                refine (HP.out _).mono ?_
                rintro e w5 ⟨rfl, rfl⟩
                go_wp2_with fail
                clear hcell hfz hAt HP
                have hsz : (w3.setCell ⟨g, q, none⟩ (.string ⟨s4.toArray⟩)).heap.size = w3.heap.size := by simp [World.setCell]
                rw [← hsz]
                clear hsz
                generalize w3.setCell ⟨g, q, none⟩ (.string ⟨s4.toArray⟩) = w4 at *
                obtain ⟨A4, c4, hv4, see4⟩ := Sees.of_own Own4.out
                obtain ⟨rfl, rfl⟩ : some (⟨g, 0, none⟩ : Addr) = A4 ∧ cap = c4 := by
                  injection hv4 with a b c
                  exact ⟨a, c⟩
                have HQ := Lib.hid see4
                have hA4 : Hid (∃ A4 : Option Addr, A4 = some ⟨g, 0, none⟩) := Lib.hid ⟨_, rfl⟩
                clear see4 hv4
                obtain ⟨A4, hA4⟩ := hA4.out
                rw [← hA4] at HQ ⊢
                clear hA4
                obtain ⟨c4, hc4⟩ : ∃ c4, c4 = cap := ⟨_, rfl⟩
                rw [← hc4] at HQ ⊢
                clear hc4
                obtain ⟨tx, htx⟩ : ∃ tx, tx = #[Value.slice Ao k co, Value.slice An k2 cn, Value.slice A4 k2 c4] := ⟨_, rfl⟩
                have hb := heap_alloc_new w4 (.cells tx 40)
                have e5 : Ext w4 (w4.alloc (.cells tx 40)) := (Ext.refl _).alloc _
                have HK : Hid (∀ i, i < 3 → ∃ A n c ss, Short60 ss ∧ Sees (w4.alloc (.cells tx 40)) A n c (sv ss) ∧ ∀ w', Ext (w4.alloc (.cells tx 40)) w' → w'.cell? ⟨w4.heap.size, i, none⟩ = some (.slice A n c)) := Lib.hid fun i hi => by
                  have key : ∀ A n c ss, tx[i]? = some (.slice A n c) → Short60 ss → Sees w4 A n c (sv ss) → ∃ A n c ss, Short60 ss ∧ Sees (w4.alloc (.cells tx 40)) A n c (sv ss) ∧ ∀ w', Ext (w4.alloc (.cells tx 40)) w' → w'.cell? ⟨w4.heap.size, i, none⟩ = some (.slice A n c) := fun A n c ss ht hsh hse =>
                    ⟨A, n, c, ss, hsh, hse.ext e5, fun w' he => by rw [cell_of_row w' w4.heap.size i tx _ _ (he.heap hb)]; exact ht⟩
                  have h3 : i = 0 ∨ i = 1 ∨ i = 2 := by omega
                  rw [htx] at key
                  rw [htx]
                  rcases h3 with rfl | rfl | rfl
                  · exact key Ao k co ss rfl HSH.out (HO.out.ext ((E12.out.trans E24.out)))
                  · exact key An k2 cn ns rfl HSN.out (HN.out.ext E24.out)
                  · exact key A4 k2 c4 os rfl HSO.out HQ.out
                have HE := Lib.hid (((Ext1.out.trans E12.out).trans E24.out).trans e5)
                clear hb e5
                try go_wp2_with fail
                rw [← htx]
                clear htx
                generalize hW : w4.alloc (.cells tx 40) = W at *
                generalize w4.heap.size = z0 at *
                clear hW
                go_loopw [15] (fun i wr => ∃ j : Nat, j ≤ 3 ∧ i = .int .i64 j ∧ Ext W wr) (fun i _ => 3 - (intOf i).toNat)
                case atStart => exact ⟨0, by omega, rfl, Ext.refl _⟩
                case round =>
                  obtain ⟨j, hj, rfl, ext⟩ := hrel
                  have HX := Lib.hid ext
                  by_cases hjt : j < 3
                  · obtain ⟨A, m, c, st, hsh, hse, hcl⟩ := HK.out j hjt
                    have hcell := hcl _ ext
                    have P1 := Lib.hid (fun w he => check_any A m c st w (hse.ext he) (fun t ht => by have := hsh t ht; omega))
                    have P2 := Lib.hid (fun w he => rcheck_any A m c st w (hse.ext he) (fun t ht => by have := hsh t ht; omega))
                    have HCL := Lib.hid hcl
                    generalize chk1 st = r1 at *
                    generalize chk2 st = r2 at *
                    have hm := hse.le
                    have hm2 := hse.max
                    unfold maxLen at hm2
                    clear hsh hse hcl ext
                    go_wp2_with fail
                    refine (P1.out _ HX.out).mono ?_
                    rintro e w6 ⟨rfl, e6⟩
                    have HX2 := Lib.hid (HX.out.trans e6)
                    clear e6 hcell
                    have hcell := HCL.out _ HX2.out
                    go_wp2_with fail
                    refine (P2.out _ HX2.out).mono ?_
                    rintro e w7 ⟨rfl, e7⟩
                    have HX3 := Lib.hid (HX2.out.trans e7)
                    clear e7 hcell
                    go_wp2_with fail
                    go_roundw
                    case rel => exact ⟨j + 1, by omega, by go_num, HX3.out⟩
                    case measure => simp [intOf]; omega
                  · obtain rfl : j = 3 := by omega
                    go_wp2_with fail
                    refine (lives9 _).mono ?_
                    rintro e w8 ⟨rfl, e8⟩
                    have E5 := Lib.hid ((HE.out.trans HX.out).trans e8)
                    go_wp2
                    go_ret
                    exact ⟨rfl, E5.out⟩
              · omega
            · clear hlt
              obtain ⟨i0, hi, hz0, hz1, hz2⟩ := info_parts infoS
              obtain ⟨v3, w3, hrun3, own3, hg3, _⟩ := run_append_sees (P := Try.prog) (w := w2) w2.heap.size 40 40 9 i0 _ 16 Try.underlying40 hi hz0 hz1 hz2 rfl _ _ _ (World.ownsRow_nil w2 w2.heap.size 9 1) An k2 cn _ HN.out (sv_one _) (by unfold maxLen; omega) (by omega) (Nat.le_refl _)
              have E23 := Lib.hid ((Ext.refl w2).grown hg3 fun k hk => by cases hk)
              rw [Nat.zero_add, List.nil_append] at own3
              clear hg3 hi hz0 hz1 hz2
              by_cases hk2p : 0 < k2
              · obtain ⟨g, cap, cur, rfl, hg, hcap, hcm, hheap, hcs⟩ := own_some own3 hk2p
                have hAt := Lib.hid (fun w => around_any at_ k2 w ha0 ha1 (by omega) (by omega))
                obtain ⟨hq0, hq1⟩ := aroundZ_bound at_ k2 (by omega)
                obtain ⟨q, hq⟩ := Int.eq_ofNat_of_zero_le hq0
                rw [hq] at hq0 hq1 hAt
                clear hq
                have HP := Lib.hid (fun w => short_any s 40 w hs (by omega))
                have hqs : (s.take 40).length ≤ 60 := by rw [List.length_take]; omega
                generalize s.take 40 = s4 at *
                have hcell : ∃ o, w3.cell? ⟨g, q, none⟩ = some o := by
                  rw [cell_of_row w3 g q cur _ _ hheap]
                  exact ⟨cur[q]'(by omega), by simp [show q < cur.size from by omega]⟩
                obtain ⟨o, hcell⟩ := hcell
                have hfz : w3.frozen? ⟨g, q, none⟩ = false := Lib.frozen_of_heap hheap q
                have own4 := own_set own3 q (by omega) (.string ⟨s4.toArray⟩)
                rw [sv_set] at own4
                have HSO := Lib.hid (short_set HSN.out q hqs)
                generalize ns.set q s4 = os at *
                have E24 := Lib.hid (E23.out.setCell (p := ⟨g, q, none⟩) hg (.string ⟨s4.toArray⟩))
                have Own4 := Lib.hid own4
                unfold maxLen at hcm
                clear own4 own3 hheap
                go_wp2_with (first | (at_builtin; refine wpList_append_run rfl (.tmp 56) (.tmp 57) _ rfl _ _ rfl rfl _ w3 hrun3 ?_) | fail)
                clear hrun3
                refine (hAt.out _).mono ?_
                rintro e w5 ⟨rfl, rfl⟩
                go_wp2_with fail
                refine (HP.out _).mono ?_
                rintro e w5 ⟨rfl, rfl⟩
                go_wp2_with fail
                clear hcell hfz hAt HP
                have hsz : (w3.setCell ⟨g, q, none⟩ (.string ⟨s4.toArray⟩)).heap.size = w3.heap.size := by simp [World.setCell]
                rw [← hsz]
                clear hsz
                generalize w3.setCell ⟨g, q, none⟩ (.string ⟨s4.toArray⟩) = w4 at *
                obtain ⟨A4, c4, hv4, see4⟩ := Sees.of_own Own4.out
                obtain ⟨rfl, rfl⟩ : some (⟨g, 0, none⟩ : Addr) = A4 ∧ cap = c4 := by
                  injection hv4 with a b c
                  exact ⟨a, c⟩
                have HQ := Lib.hid see4
                have hA4 : Hid (∃ A4 : Option Addr, A4 = some ⟨g, 0, none⟩) := Lib.hid ⟨_, rfl⟩
                clear see4 hv4
                obtain ⟨A4, hA4⟩ := hA4.out
                rw [← hA4] at HQ ⊢
                clear hA4
                obtain ⟨c4, hc4⟩ : ∃ c4, c4 = cap := ⟨_, rfl⟩
                rw [← hc4] at HQ ⊢
                clear hc4
                obtain ⟨tx, htx⟩ : ∃ tx, tx = #[Value.slice Ao k co, Value.slice An k2 cn, Value.slice A4 k2 c4] := ⟨_, rfl⟩
                have hb := heap_alloc_new w4 (.cells tx 40)
                have e5 : Ext w4 (w4.alloc (.cells tx 40)) := (Ext.refl _).alloc _
                have HK : Hid (∀ i, i < 3 → ∃ A n c ss, Short60 ss ∧ Sees (w4.alloc (.cells tx 40)) A n c (sv ss) ∧ ∀ w', Ext (w4.alloc (.cells tx 40)) w' → w'.cell? ⟨w4.heap.size, i, none⟩ = some (.slice A n c)) := Lib.hid fun i hi => by
                  have key : ∀ A n c ss, tx[i]? = some (.slice A n c) → Short60 ss → Sees w4 A n c (sv ss) → ∃ A n c ss, Short60 ss ∧ Sees (w4.alloc (.cells tx 40)) A n c (sv ss) ∧ ∀ w', Ext (w4.alloc (.cells tx 40)) w' → w'.cell? ⟨w4.heap.size, i, none⟩ = some (.slice A n c) := fun A n c ss ht hsh hse =>
                    ⟨A, n, c, ss, hsh, hse.ext e5, fun w' he => by rw [cell_of_row w' w4.heap.size i tx _ _ (he.heap hb)]; exact ht⟩
                  have h3 : i = 0 ∨ i = 1 ∨ i = 2 := by omega
                  rw [htx] at key
                  rw [htx]
                  rcases h3 with rfl | rfl | rfl
                  · exact key Ao k co ss rfl HSH.out (HO.out.ext ((E12.out.trans E24.out)))
                  · exact key An k2 cn ns rfl HSN.out (HN.out.ext E24.out)
                  · exact key A4 k2 c4 os rfl HSO.out HQ.out
                have HE := Lib.hid (((Ext1.out.trans E12.out).trans E24.out).trans e5)
                clear hb e5
                try go_wp2_with fail
                rw [← htx]
                clear htx
                generalize hW : w4.alloc (.cells tx 40) = W at *
                generalize w4.heap.size = z0 at *
                clear hW
                go_loopw [15] (fun i wr => ∃ j : Nat, j ≤ 3 ∧ i = .int .i64 j ∧ Ext W wr) (fun i _ => 3 - (intOf i).toNat)
                case atStart => exact ⟨0, by omega, rfl, Ext.refl _⟩
                case round =>
                  obtain ⟨j, hj, rfl, ext⟩ := hrel
                  have HX := Lib.hid ext
                  by_cases hjt : j < 3
                  · obtain ⟨A, m, c, st, hsh, hse, hcl⟩ := HK.out j hjt
                    have hcell := hcl _ ext
                    have P1 := Lib.hid (fun w he => check_any A m c st w (hse.ext he) (fun t ht => by have := hsh t ht; omega))
                    have P2 := Lib.hid (fun w he => rcheck_any A m c st w (hse.ext he) (fun t ht => by have := hsh t ht; omega))
                    have HCL := Lib.hid hcl
                    generalize chk1 st = r1 at *
                    generalize chk2 st = r2 at *
                    have hm := hse.le
                    have hm2 := hse.max
                    unfold maxLen at hm2
                    clear hsh hse hcl ext
                    go_wp2_with fail
                    refine (P1.out _ HX.out).mono ?_
                    rintro e w6 ⟨rfl, e6⟩
                    have HX2 := Lib.hid (HX.out.trans e6)
                    clear e6 hcell
                    have hcell := HCL.out _ HX2.out
                    go_wp2_with fail
                    refine (P2.out _ HX2.out).mono ?_
                    rintro e w7 ⟨rfl, e7⟩
                    have HX3 := Lib.hid (HX2.out.trans e7)
                    clear e7 hcell
                    go_wp2_with fail
                    go_roundw
                    case rel => exact ⟨j + 1, by omega, by go_num, HX3.out⟩
                    case measure => simp [intOf]; omega
                  · obtain rfl : j = 3 := by omega
                    go_wp2_with fail
                    refine (lives9 _).mono ?_
                    rintro e w8 ⟨rfl, e8⟩
                    have E5 := Lib.hid ((HE.out.trans HX.out).trans e8)
                    go_wp2
                    go_ret
                    exact ⟨rfl, E5.out⟩
              · obtain ⟨A4, c4, rfl, see4⟩ := Sees.of_own own3
                have HQ := Lib.hid see4
                have HSO := HSN
                have E24 := E23
                obtain ⟨os, hos⟩ : ∃ os, os = ns := ⟨_, rfl⟩
                rw [← hos] at HQ HSO
                obtain ⟨w4, hw4⟩ : ∃ w4, w4 = w3 := ⟨_, rfl⟩
                rw [← hw4] at HQ E24 hrun3
                clear hw4
                have hc41 := see4.max
                have hc42 := see4.le
                unfold maxLen at hc41
                clear see4 own3 hos
                go_wp2_with (first | (at_builtin; refine wpList_append_run rfl (.tmp 56) (.tmp 57) _ rfl _ _ rfl rfl _ w4 hrun3 ?_) | fail)
                clear hrun3
                obtain ⟨tx, htx⟩ : ∃ tx, tx = #[Value.slice Ao k co, Value.slice An k2 cn, Value.slice A4 k2 c4] := ⟨_, rfl⟩
                have hb := heap_alloc_new w4 (.cells tx 40)
                have e5 : Ext w4 (w4.alloc (.cells tx 40)) := (Ext.refl _).alloc _
                have HK : Hid (∀ i, i < 3 → ∃ A n c ss, Short60 ss ∧ Sees (w4.alloc (.cells tx 40)) A n c (sv ss) ∧ ∀ w', Ext (w4.alloc (.cells tx 40)) w' → w'.cell? ⟨w4.heap.size, i, none⟩ = some (.slice A n c)) := Lib.hid fun i hi => by
                  have key : ∀ A n c ss, tx[i]? = some (.slice A n c) → Short60 ss → Sees w4 A n c (sv ss) → ∃ A n c ss, Short60 ss ∧ Sees (w4.alloc (.cells tx 40)) A n c (sv ss) ∧ ∀ w', Ext (w4.alloc (.cells tx 40)) w' → w'.cell? ⟨w4.heap.size, i, none⟩ = some (.slice A n c) := fun A n c ss ht hsh hse =>
                    ⟨A, n, c, ss, hsh, hse.ext e5, fun w' he => by rw [cell_of_row w' w4.heap.size i tx _ _ (he.heap hb)]; exact ht⟩
                  have h3 : i = 0 ∨ i = 1 ∨ i = 2 := by omega
                  rw [htx] at key
                  rw [htx]
                  rcases h3 with rfl | rfl | rfl
                  · exact key Ao k co ss rfl HSH.out (HO.out.ext ((E12.out.trans E24.out)))
                  · exact key An k2 cn ns rfl HSN.out (HN.out.ext E24.out)
                  · exact key A4 k2 c4 os rfl HSO.out HQ.out
                have HE := Lib.hid (((Ext1.out.trans E12.out).trans E24.out).trans e5)
                clear hb e5
                try go_wp2_with fail
                rw [← htx]
                clear htx
                generalize hW : w4.alloc (.cells tx 40) = W at *
                generalize w4.heap.size = z0 at *
                clear hW
                go_loopw [15] (fun i wr => ∃ j : Nat, j ≤ 3 ∧ i = .int .i64 j ∧ Ext W wr) (fun i _ => 3 - (intOf i).toNat)
                case atStart => exact ⟨0, by omega, rfl, Ext.refl _⟩
                case round =>
                  obtain ⟨j, hj, rfl, ext⟩ := hrel
                  have HX := Lib.hid ext
                  by_cases hjt : j < 3
                  · obtain ⟨A, m, c, st, hsh, hse, hcl⟩ := HK.out j hjt
                    have hcell := hcl _ ext
                    have P1 := Lib.hid (fun w he => check_any A m c st w (hse.ext he) (fun t ht => by have := hsh t ht; omega))
                    have P2 := Lib.hid (fun w he => rcheck_any A m c st w (hse.ext he) (fun t ht => by have := hsh t ht; omega))
                    have HCL := Lib.hid hcl
                    generalize chk1 st = r1 at *
                    generalize chk2 st = r2 at *
                    have hm := hse.le
                    have hm2 := hse.max
                    unfold maxLen at hm2
                    clear hsh hse hcl ext
                    go_wp2_with fail
                    refine (P1.out _ HX.out).mono ?_
                    rintro e w6 ⟨rfl, e6⟩
                    have HX2 := Lib.hid (HX.out.trans e6)
                    clear e6 hcell
                    have hcell := HCL.out _ HX2.out
                    go_wp2_with fail
                    refine (P2.out _ HX2.out).mono ?_
                    rintro e w7 ⟨rfl, e7⟩
                    have HX3 := Lib.hid (HX2.out.trans e7)
                    clear e7 hcell
                    go_wp2_with fail
                    go_roundw
                    case rel => exact ⟨j + 1, by omega, by go_num, HX3.out⟩
                    case measure => simp [intOf]; omega
                  · obtain rfl : j = 3 := by omega
                    go_wp2_with fail
                    refine (lives9 _).mono ?_
                    rintro e w8 ⟨rfl, e8⟩
                    have E5 := Lib.hid ((HE.out.trans HX.out).trans e8)
                    go_wp2
                    go_ret
                    exact ⟨rfl, E5.out⟩
end Go.Proofs.Ytfajnfaipgajdaa
