/-
  The statement DemarkErrors: its walk.
-/
import Derived.Test.YtjajkagpfbemiaaDmJ
import Derived.Test.YtjajkagpfbemiaaDmK
namespace Go.Proofs.Ytjajkagpfbemiaa
open Go Go.RowKit
set_option linter.unusedVariables false
set_option linter.unusedSimpArgs false
theorem SeesRows.take {k : IntKind} {w : World} {A : Option Addr} {n c : Nat} {rows : List (List Int)} (h : SeesRows k w A n c rows) (j : Nat) (hj : j ≤ n) : SeesRows k w A j c (rows.take j) := by
  obtain ⟨h1, h2, h3, h4, h5⟩ := h
  refine ⟨by rw [List.length_take]; omega, by omega, h3, h4, fun hp => ?_⟩
  obtain ⟨b, off, e, hc⟩ := h5 (by omega)
  refine ⟨b, off, e, fun i r hr => hc i r ?_⟩
  rw [List.getElem?_take] at hr
  split at hr
  · exact hr
  · cases hr
/-- Bytes that are an error behind records. -/
def BadB (b : Bool) : List UInt8 := match b with
  | false => [0, 0, 0, 41, 1, 2]
  | true => [0, 0, 0, 0, 0, 0, 0, 0, 0, 0, 0, 0]
def BadE (b : Bool) : Int := match b with
  | false => 4
  | true => 5
theorem bad_run (b en : Bool) (rs : List (List UInt8)) : (drun 40 2 (btw 0 en [] rs) (BadB b)).T = rs ∧ (drun 40 2 (btw 0 en [] rs) (BadB b)).E = BadE b ∧ (drun 40 2 (btw 0 en [] rs) (BadB b)).md = 2 ∧
    (drun 40 2 (btw 0 en [] rs) (BadB b)).R = [] ∧ (drun 40 2 (btw 0 en [] rs) (BadB b)).H = [] := by
  have e : btw 0 en [] rs = (btw 0 en [] []).onT rs := by unfold btw DS.onT; simp
  rw [e, drun_onT]
  have h : (drun 40 2 (btw 0 en [] []) (BadB b)).T = [] ∧ (drun 40 2 (btw 0 en [] []) (BadB b)).E = BadE b ∧ (drun 40 2 (btw 0 en [] []) (BadB b)).md = 2 ∧ (drun 40 2 (btw 0 en [] []) (BadB b)).R = [] ∧ (drun 40 2 (btw 0 en [] []) (BadB b)).H = [] := by
    cases b <;> cases en <;> decide +kernel
  obtain ⟨h1, h2, h3, h4, h5⟩ := h
  exact ⟨by show rs ++ _ = rs; rw [h1, List.append_nil], h2, h3, h4, h5⟩
theorem SeesI.none (w : World) : SeesI w none 0 0 [] := ⟨Sees.nil w, fun z h => by cases h⟩
set_option maxRecDepth 20000 in
set_option maxHeartbeats 8000000 in
theorem de_a (A A2 : Option Addr) (n c n2 c2 : Nat) (rows rows2 : List (List Int)) (w : World) (hs0 : SeesRows .u8 w A n c rows) (hs : SeesRows .u8 w A n c (rows.take n)) (hs2 : SeesRows .u8 w A2 n2 c2 rows2) (hn : n ≤ 3) :
    Calls Try.prog 6 #[.slice A n c, .bool false, .slice A2 n2 c2] w fun e w' => e = .returned (.bool true) ∧ Ext w w' := by
  obtain ⟨i0, hi0, hz0, hz1, hz2⟩ := info_parts infoB
  have hn1 := hs0.2.1
  have hm1 := hs0.2.2.1
  unfold maxLen at hm1
  have HGD := Lib.hid (rgood_any A none n c 0 0 (rows.take n) [] w hs (SeesI.none w))
  have HS2 := Lib.hid hs2
  clear hs0 hs hs2
  go_enter Try.func6, Try.ntmps6
  go_wp2_with fail
  refine HGD.out.mono ?_
  rintro e w0 ⟨v1, v2, rfl, k, lz, hk1, hk2, hk3, own1, hl5, hl20, own2, e0⟩
  obtain ⟨Ar, cr, rfl, seer⟩ := own1.sees
  obtain ⟨rs, hrs⟩ : ∃ rs, (rowF (rows.take n) 40).take k = rs := ⟨_, rfl⟩
  have hr40 : ∀ r ∈ rs, r.length ≤ 40 := fun r hr => rowF_le (rows.take n) 40 r (by rw [← hrs] at hr; exact List.mem_of_mem_take hr)
  have hrl : rs.length ≤ 3 := by rw [← hrs, List.length_take]; omega
  rw [hrs] at seer ⊢
  have hg1 : ∀ i, 1 ≤ szOf [] i := fun i => by unfold szOf; simp
  have hE0 := allE_ok (szOf []) hg1 rs 0 (fun r hr => by have := hr40 r hr; omega)
  have hAL : allL (szOf []) rs = allB (szOf []) 0 rs := if_pos hE0
  have HMA := Lib.hid (rmall_any none Ar 0 0 rs.length cr [] rs w0 (SeesI.none w0) seer (by omega) (fun r hr => by have := hr40 r hr; omega))
  rw [hE0, hAL] at HMA
  obtain ⟨en9, hen9⟩ := drun_allB (m := 40) (f := 2) (szOf []) rs 0 false [] (fun r hr => by have := hr40 r hr; omega) hg1 (fun r hr i => ⟨by
    have := hr40 r hr
    rw [show szOf [] i = 4096 from rfl, cnt_small (by decide) (show r.length ≤ (4096 : Int).toNat by omega)]
    omega, mkE_g (by have := hr40 r hr; omega) (hg1 i)⟩)
  have hlen := allB_len (szOf []) hg1 rs 0 hr40
  obtain ⟨L, hL⟩ : ∃ L, allB (szOf []) 0 rs = L := ⟨_, rfl⟩
  rw [hL] at HMA hen9 hlen
  rw [List.nil_append] at hen9
  obtain ⟨b1, b2, b3, b4, b5⟩ := bad_run false en9 rs
  rw [← hen9, ← drun_app] at b1 b2 b3 b4 b5
  have HB := Lib.hid (show (drun 40 2 d0 (L ++ BadB false)).T = rs ∧ (drun 40 2 d0 (L ++ BadB false)).E = BadE false ∧ (drun 40 2 d0 (L ++ BadB false)).md = 2 ∧ (drun 40 2 d0 (L ++ BadB false)).R = [] ∧ (drun 40 2 d0 (L ++ BadB false)).H = [] from ⟨b1, b2, b3, b4, b5⟩)
  have HSR0 := Lib.hid seer
  have E0 := Lib.hid e0
  have hLN : L.length ≤ 612 := by omega
  have HRL := Lib.hid hrl
  clear own1 own2 seer hr40 hg1 hE0 hAL hen9 hlen hL hl20 hk3 hrs HGD e0 hrl b1 b2 b3 b4 b5
  go_wp2_with fail
  refine HMA.out.mono ?_
  rintro e w1 ⟨v, rfl, own3, e1⟩
  obtain ⟨A1, c1, rfl, see1⟩ := Sees.of_own own3
  have HS1 := Lib.hid see1
  have E1 := Lib.hid (E0.out.trans e1)
  have HSRr := Lib.hid (HSR0.out.ext e1)
  clear own3 see1 HMA HSR0
  go_wp2_with fail
  refine (dnew_nat 40 2 40 2 rfl rfl w1 (by omega) (by omega) (by omega)).mono ?_
  rintro e w3 ⟨rfl, hdx, szx, e2⟩
  have X3 := Lib.hid e2
  have HDX := Lib.hid hdx
  obtain ⟨xb, hxb⟩ : ∃ xb, w1.heap.size = xb := ⟨_, rfl⟩
  have hXY := Lib.hid (show w1.heap.size = xb ∧ xb < w3.heap.size by omega)
  have hwx := Lib.hid (show ∀ k, k < w1.heap.size → ¬ k = xb from fun k hk => by omega)
  rw [hxb] at HDX ⊢
  clear hxb szx e2 hdx
  go_wp2_with fail
  have sb := sees_new w3 5 #[.int .u8 0, .int .u8 0, .int .u8 0, .int .u8 41, .int .u8 1, .int .u8 2] (by simp [maxLen])
  have sb' : Sees (w3.alloc (.cells #[.int .u8 0, .int .u8 0, .int .u8 0, .int .u8 41, .int .u8 1, .int .u8 2] 5)) (some ⟨w3.heap.size, 0, none⟩) 6 6 (bs (BadB false)) := by simpa [BadB, bs] using sb
  have eb : Ext w3 (w3.alloc (.cells #[.int .u8 0, .int .u8 0, .int .u8 0, .int .u8 41, .int .u8 1, .int .u8 2] 5)) := (Ext.refl w3).alloc (.cells #[.int .u8 0, .int .u8 0, .int .u8 0, .int .u8 41, .int .u8 1, .int .u8 2] 5)
  have X4 := Lib.hid (X3.out.trans eb)
  have HD4 := Lib.hid (HDX.out.keep (Kp.of_ext eb))
  have HSB := Lib.hid sb'
  have hX4 := Lib.hid (show xb < ((w3.alloc (.cells #[.int .u8 0, .int .u8 0, .int .u8 0, .int .u8 41, .int .u8 1, .int .u8 2] 5))).heap.size by have := hXY.out; have := eb.size; omega)
  clear sb sb' eb HDX
  refine (few_nat A1 L.length c1 1000 1000 (bs L) _ (HS1.out.ext X4.out) (bs_one L) (by omega) (by omega) rfl).mono ?_
  rintro e w5 ⟨v5, rfl, own5, e5⟩
  rw [show min L.length 1000 = L.length by omega, bs_take, List.take_of_length_le (show L.length ≤ 1000 by omega)] at own5
  obtain ⟨A5, c5, rfl, _⟩ := Sees.of_own own5
  obtain ⟨v6, w6, hrun, own6, hg6, hat6⟩ := run_append_sees (P := Try.prog) (w := w5) 0 22 22 5 i0 _ 1 Try.underlying22 hi0 hz0 hz1 hz2 rfl (.slice A5 L.length c5) L.length (bs L) (own_mono own5 (Nat.zero_le _))
    (some ⟨w3.heap.size, 0, none⟩) 6 6 (bs (BadB false)) (HSB.out.ext e5) (bs_one _) (by unfold maxLen; omega) (by omega) (Nat.zero_le _)
  rw [← bs_append] at own6
  have k6 : Kp (fun k => k < ((w3.alloc (.cells #[.int .u8 0, .int .u8 0, .int .u8 0, .int .u8 41, .int .u8 1, .int .u8 2] 5))).heap.size) w5 w6 := (Kp.refl _ w5).grown hg6 fun k hk q => by
    have := (own5.lt k hk).1
    omega
  have e6 : Ext (w3.alloc (.cells #[.int .u8 0, .int .u8 0, .int .u8 0, .int .u8 41, .int .u8 1, .int .u8 2] 5)) w6 := (Ext.kp e5 k6 fun k hk => hk)
  obtain ⟨A6, c6, rfl, see6⟩ := Sees.of_own own6
  have h6blk : ∀ a, A6 = some a → 0 < L.length + 6 → a.block < w6.heap.size ∧ ¬ a.block = xb := fun a ha hn => by
    obtain ⟨g, cap, hv, hg, hlt⟩ := own6.form hn
    have hv0 := hv
    injection hv with q1 q2 q3
    rw [ha] at q1
    injection q1 with q1
    subst q1
    refine ⟨hlt, fun e => ?_⟩
    have hX := hX4.out
    rcases hat6 with h | h
    · have h7 : (Value.slice A5 L.length c5).ownBlock = some g := by rw [← h, hv0]; rfl
      have := (own5.lt g h7).1
      simp at e
      omega
    · rw [hv0] at h
      injection h with h
      have := e5.size
      simp at h e
      omega
  have HF := Lib.hid (feed_any (X := fun k => ¬ k = xb ∧ k < w6.heap.size) A6 (L.length + 6) c6 (L ++ BadB false) d0 w6 ((HD4.out.keep (Kp.of_ext e6)).weak fun k q => q.1) (fun k q => q.2) (d0_ok _ _) (by omega) (by omega) rfl see6 (by omega) (fun a ha hn => ⟨(h6blk a ha hn).2, (h6blk a ha hn).1⟩))
  have X6 := Lib.hid (X4.out.trans e6)
  clear own5 own6 hg6 hat6 k6 see6 h6blk e5 e6
  go_wp2_with (first | (at_builtin; refine wpList_append_run rfl (.tmp 49) (.tmp 50) _ rfl _ _ rfl rfl (.slice A6 (L.length + 6) c6) w6 hrun ?_) | fail)
  refine HF.out.mono ?_
  rintro x w7 ⟨v7, Z, rfl, d7, z1, z2, o7, k7⟩
  rw [HB.out.1] at o7
  obtain ⟨A7, c7, rfl, s7⟩ := o7.toB.sees
  obtain ⟨S, hS⟩ : ∃ S, drun 40 2 d0 (L ++ BadB false) = S := ⟨_, rfl⟩
  have HOK : Hid (DOk 40 2 S) := Lib.hid (by rw [← hS]; exact (d0_ok 40 2).run _)
  rw [hS] at d7 HB
  have X7 := Lib.hid (Ext.kp X6.out k7 fun k hk => ⟨hwx.out k hk, Nat.lt_of_lt_of_le hk X6.out.size⟩)
  have D7 := Lib.hid (show Dfm w7 (fun k => ¬ k = xb ∧ k < w6.heap.size) xb 40 2 S.told from d7.weak z1)
  have Z7 := Lib.hid (show Dfm w7 Z xb 40 2 S.told from d7)
  have S7 := Lib.hid s7
  have HZ2 := Lib.hid z2
  have HZ1 := Lib.hid z1
  have L6 := Lib.hid X6.out.size
  clear d7 z1 z2 o7 k7 s7 hS HF HD4 HSB hX4 hrun
  go_wp2_with fail
  refine (sameB_eq _ _ _ _ _ _ _ S7.out (HSRr.out.ext X7.out)).mono ?_
  rintro e w8 ⟨rfl, e8⟩
  have X8 := Lib.hid (X7.out.trans e8)
  have M8 := Lib.hid e8.size
  have D8 := Lib.hid (Z7.out.keep (Kp.of_ext e8))
  clear e8 S7 Z7 D7
  go_wp2_with fail
  refine (derrno_any _ w8 D8.out).mono ?_
  rintro e w9 ⟨rfl, rfl⟩
  rw [show S.told.E = BadE false from HB.out.2.1, show BadE false = 4 from rfl]
  go_wp2_with fail
  refine (dheld_nat _ 0 w8 D8.out (by show S.R.length + S.H.length = 0; rw [HB.out.2.2.2.1, HB.out.2.2.2.2]; rfl) (by omega)).mono ?_
  rintro e w9 ⟨rfl, q9, rfl⟩
  have e9 : Ext w8 (w8.drewN q9) := (Ext.refl _).drewN _
  have X9 := Lib.hid (X8.out.trans e9)
  have M9 := Lib.hid (Nat.le_trans M8.out e9.size)
  have D9 := Lib.hid (D8.out.keep (Kp.of_ext e9))
  clear e9
  go_wp2_with fail
  refine (dclean_any _ _ D9.out).mono ?_
  rintro e w10 ⟨rfl, rfl⟩
  rw [show clB S.told = false from by unfold clB; rw [show S.told.E = BadE false from HB.out.2.1]; rfl]
  go_wp2_with fail
  refine (rgood_any A2 none n2 c2 0 0 rows2 [] _ (HS2.out.ext (E1.out.trans X9.out)) (SeesI.none _)).mono ?_
  rintro e w11 ⟨v1, v2, rfl, kk, ll, gk1, gk2, gk3, gwn1, gl5, gl20, gwn2, ge0⟩
  obtain ⟨Ag, cg, rfl, seeg⟩ := gwn1.sees
  obtain ⟨Az, cz, rfl, seez⟩ := Sees.of_own gwn2
  obtain ⟨gs, hgs⟩ : ∃ gs, (rowF rows2 40).take kk = gs := ⟨_, rfl⟩
  have hg40 : ∀ r ∈ gs, r.length ≤ 40 := fun r hr => rowF_le rows2 40 r (by rw [← hgs] at hr; exact List.mem_of_mem_take hr)
  have hgl : gs.length ≤ 5 := by rw [← hgs, List.length_take]; omega
  rw [hgs] at seeg ⊢
  rw [iv_intsF] at seez
  obtain ⟨zl, hzl⟩ : ∃ zl : List Int, (ll.map fun k : Nat => (k : Int)) = zl := ⟨_, rfl⟩
  rw [hzl] at seez
  have hz1 : ∀ z ∈ zl, 1 ≤ z ∧ z ≤ 20 := fun z hz => by
    rw [← hzl] at hz
    obtain ⟨x, hx, rfl⟩ := List.mem_map.1 hz
    have := gl20 x hx
    omega
  have hg1 := fun i => szOf_ge (fun z hz => (hz1 z hz).1) i
  have hE0 := allE_ok (szOf zl) hg1 gs 0 (fun r hr => by have := hg40 r hr; omega)
  have hAL : allL (szOf zl) gs = allB (szOf zl) 0 gs := if_pos hE0
  have hlen := allB_len (szOf zl) hg1 gs 0 hg40
  have HMA := Lib.hid (rmall_any Az Ag ll.length cz gs.length cg zl gs w11 ⟨seez, fun z hz => by have := hz1 z hz; omega⟩ seeg (by omega) (fun r hr => by have := hg40 r hr; omega))
  rw [hE0, hAL] at HMA
  obtain ⟨G, hG⟩ : ∃ G, allB (szOf zl) 0 gs = G := ⟨_, rfl⟩
  rw [hG] at HMA hlen
  have X11 := Lib.hid (X9.out.trans ge0)
  have M11 := Lib.hid (Nat.le_trans M9.out ge0.size)
  have D11 := Lib.hid (D9.out.keep (Kp.of_ext ge0))
  have hGl : G.length ≤ 1020 := by omega
  clear gwn1 gwn2 seeg seez hgs hg40 hzl hz1 hg1 hE0 hAL hlen hG gl20 gk3 ge0 hgl
  go_wp2_with fail
  refine HMA.out.mono ?_
  rintro e w12 ⟨v12, rfl, own12, e12⟩
  obtain ⟨A12, c12, rfl, see12⟩ := Sees.of_own own12
  have h12blk : ∀ a, A12 = some a → 0 < G.length → a.block < w12.heap.size ∧ ¬ a.block = xb ∧ Z a.block := fun a ha hn => by
    obtain ⟨g, cap, hv, hg, hlt⟩ := own12.form hn
    injection hv with q1 q2 q3
    rw [ha] at q1
    injection q1 with q1
    subst q1
    have := D11.out.lt
    refine ⟨hlt, fun e => by simp at e; omega, Classical.byContradiction fun hz => ?_⟩
    have h1 := HZ2.out _ hz
    have h2 := M11.out
    simp at h1
    omega
  have X12 := Lib.hid (X11.out.trans e12)
  have HF := Lib.hid (feed_any (X := fun k => ¬ k = xb ∧ Z k ∧ k < w12.heap.size) A12 G.length c12 G S.told w12 ((D11.out.keep (Kp.of_ext e12)).weak fun k q => q.2.1) (fun k q => q.2.2) (told_ok HOK.out) (by omega) (by omega) rfl see12 (by omega) (fun a ha hn => ⟨(h12blk a ha hn).2.1, (h12blk a ha hn).2.2, (h12blk a ha hn).1⟩))
  rw [drun_dead (show 2 ≤ S.told.md by show 2 ≤ S.md; rw [HB.out.2.2.1]; exact Nat.le_refl _)] at HF
  clear own12 see12 h12blk e12
  go_wp2_with fail
  refine HF.out.mono ?_
  rintro x w13 ⟨v13, Z2, rfl, d13, z13, y13, o13, k13⟩
  obtain ⟨A13, c13, vs13, rfl, _⟩ := o13.elem
  rw [show S.told.T.length = 0 from rfl]
  have X13 := Lib.hid (Ext.kp X12.out k13 fun k hk => ⟨hwx.out k hk, HZ1.out k ⟨hwx.out k hk, Nat.lt_of_lt_of_le hk L6.out⟩, Nat.lt_of_lt_of_le hk X12.out.size⟩)
  have D13 := Lib.hid d13
  clear d13 z13 y13 o13 k13
  go_wp2_with fail
  refine (derrno_any _ w13 D13.out).mono ?_
  rintro e w14 ⟨rfl, rfl⟩
  rw [show S.told.told.E = BadE false from HB.out.2.1, show BadE false = 4 from rfl]
  go_wp2_with fail
  refine (dheld_nat _ 0 w13 D13.out (by show S.R.length + S.H.length = 0; rw [HB.out.2.2.2.1, HB.out.2.2.2.2]; rfl) (by omega)).mono ?_
  rintro e w14 ⟨rfl, q14, rfl⟩
  have e14 : Ext w13 (w13.drewN q14) := (Ext.refl _).drewN _
  have X14 := Lib.hid (X13.out.trans e14)
  clear e14
  go_wp2_with fail
  refine (dlives_any _).mono ?_
  rintro e w15 ⟨rfl, e15⟩
  have X15 := Lib.hid (E1.out.trans (X14.out.trans e15))
  clear e15
  go_wp2
  go_ret
  exact ⟨rfl, X15.out⟩
set_option maxRecDepth 20000 in
set_option maxHeartbeats 8000000 in
theorem de_b (A A2 : Option Addr) (n c n2 c2 : Nat) (rows rows2 : List (List Int)) (w : World) (hs0 : SeesRows .u8 w A n c rows) (hs : SeesRows .u8 w A n c (rows.take n)) (hs2 : SeesRows .u8 w A2 n2 c2 rows2) (hn : n ≤ 3) :
    Calls Try.prog 6 #[.slice A n c, .bool true, .slice A2 n2 c2] w fun e w' => e = .returned (.bool true) ∧ Ext w w' := by
  obtain ⟨i0, hi0, hz0, hz1, hz2⟩ := info_parts infoB
  have hn1 := hs0.2.1
  have hm1 := hs0.2.2.1
  unfold maxLen at hm1
  have HGD := Lib.hid (rgood_any A none n c 0 0 (rows.take n) [] w hs (SeesI.none w))
  have HS2 := Lib.hid hs2
  clear hs0 hs hs2
  go_enter Try.func6, Try.ntmps6
  go_wp2_with fail
  refine HGD.out.mono ?_
  rintro e w0 ⟨v1, v2, rfl, k, lz, hk1, hk2, hk3, own1, hl5, hl20, own2, e0⟩
  obtain ⟨Ar, cr, rfl, seer⟩ := own1.sees
  obtain ⟨rs, hrs⟩ : ∃ rs, (rowF (rows.take n) 40).take k = rs := ⟨_, rfl⟩
  have hr40 : ∀ r ∈ rs, r.length ≤ 40 := fun r hr => rowF_le (rows.take n) 40 r (by rw [← hrs] at hr; exact List.mem_of_mem_take hr)
  have hrl : rs.length ≤ 3 := by rw [← hrs, List.length_take]; omega
  rw [hrs] at seer ⊢
  have hg1 : ∀ i, 1 ≤ szOf [] i := fun i => by unfold szOf; simp
  have hE0 := allE_ok (szOf []) hg1 rs 0 (fun r hr => by have := hr40 r hr; omega)
  have hAL : allL (szOf []) rs = allB (szOf []) 0 rs := if_pos hE0
  have HMA := Lib.hid (rmall_any none Ar 0 0 rs.length cr [] rs w0 (SeesI.none w0) seer (by omega) (fun r hr => by have := hr40 r hr; omega))
  rw [hE0, hAL] at HMA
  obtain ⟨en9, hen9⟩ := drun_allB (m := 40) (f := 2) (szOf []) rs 0 false [] (fun r hr => by have := hr40 r hr; omega) hg1 (fun r hr i => ⟨by
    have := hr40 r hr
    rw [show szOf [] i = 4096 from rfl, cnt_small (by decide) (show r.length ≤ (4096 : Int).toNat by omega)]
    omega, mkE_g (by have := hr40 r hr; omega) (hg1 i)⟩)
  have hlen := allB_len (szOf []) hg1 rs 0 hr40
  obtain ⟨L, hL⟩ : ∃ L, allB (szOf []) 0 rs = L := ⟨_, rfl⟩
  rw [hL] at HMA hen9 hlen
  rw [List.nil_append] at hen9
  obtain ⟨b1, b2, b3, b4, b5⟩ := bad_run true en9 rs
  rw [← hen9, ← drun_app] at b1 b2 b3 b4 b5
  have HB := Lib.hid (show (drun 40 2 d0 (L ++ BadB true)).T = rs ∧ (drun 40 2 d0 (L ++ BadB true)).E = BadE true ∧ (drun 40 2 d0 (L ++ BadB true)).md = 2 ∧ (drun 40 2 d0 (L ++ BadB true)).R = [] ∧ (drun 40 2 d0 (L ++ BadB true)).H = [] from ⟨b1, b2, b3, b4, b5⟩)
  have HSR0 := Lib.hid seer
  have E0 := Lib.hid e0
  have hLN : L.length ≤ 612 := by omega
  have HRL := Lib.hid hrl
  clear own1 own2 seer hr40 hg1 hE0 hAL hen9 hlen hL hl20 hk3 hrs HGD e0 hrl b1 b2 b3 b4 b5
  go_wp2_with fail
  refine HMA.out.mono ?_
  rintro e w1 ⟨v, rfl, own3, e1⟩
  obtain ⟨A1, c1, rfl, see1⟩ := Sees.of_own own3
  have HS1 := Lib.hid see1
  have E1 := Lib.hid (E0.out.trans e1)
  have HSRr := Lib.hid (HSR0.out.ext e1)
  clear own3 see1 HMA HSR0
  go_wp2_with fail
  refine (dnew_nat 40 2 40 2 rfl rfl w1 (by omega) (by omega) (by omega)).mono ?_
  rintro e w3 ⟨rfl, hdx, szx, e2⟩
  have X3 := Lib.hid e2
  have HDX := Lib.hid hdx
  obtain ⟨xb, hxb⟩ : ∃ xb, w1.heap.size = xb := ⟨_, rfl⟩
  have hXY := Lib.hid (show w1.heap.size = xb ∧ xb < w3.heap.size by omega)
  have hwx := Lib.hid (show ∀ k, k < w1.heap.size → ¬ k = xb from fun k hk => by omega)
  rw [hxb] at HDX ⊢
  clear hxb szx e2 hdx
  go_wp2_with fail
  have sb := sees_new (w3.alloc (.cells #[.int .u8 0, .int .u8 0, .int .u8 0, .int .u8 41, .int .u8 1, .int .u8 2] 5)) 5 #[.int .u8 0, .int .u8 0, .int .u8 0, .int .u8 0, .int .u8 0, .int .u8 0, .int .u8 0, .int .u8 0, .int .u8 0, .int .u8 0, .int .u8 0, .int .u8 0] (by simp [maxLen])
  have sb' : Sees ((w3.alloc (.cells #[.int .u8 0, .int .u8 0, .int .u8 0, .int .u8 41, .int .u8 1, .int .u8 2] 5)).alloc (.cells #[.int .u8 0, .int .u8 0, .int .u8 0, .int .u8 0, .int .u8 0, .int .u8 0, .int .u8 0, .int .u8 0, .int .u8 0, .int .u8 0, .int .u8 0, .int .u8 0] 5)) (some ⟨w3.heap.size + 1, 0, none⟩) 12 12 (bs (BadB true)) := by simpa [BadB, bs] using sb
  have eb : Ext w3 ((w3.alloc (.cells #[.int .u8 0, .int .u8 0, .int .u8 0, .int .u8 41, .int .u8 1, .int .u8 2] 5)).alloc (.cells #[.int .u8 0, .int .u8 0, .int .u8 0, .int .u8 0, .int .u8 0, .int .u8 0, .int .u8 0, .int .u8 0, .int .u8 0, .int .u8 0, .int .u8 0, .int .u8 0] 5)) := ((Ext.refl w3).alloc (.cells #[.int .u8 0, .int .u8 0, .int .u8 0, .int .u8 41, .int .u8 1, .int .u8 2] 5)).alloc (.cells #[.int .u8 0, .int .u8 0, .int .u8 0, .int .u8 0, .int .u8 0, .int .u8 0, .int .u8 0, .int .u8 0, .int .u8 0, .int .u8 0, .int .u8 0, .int .u8 0] 5)
  have X4 := Lib.hid (X3.out.trans eb)
  have HD4 := Lib.hid (HDX.out.keep (Kp.of_ext eb))
  have HSB := Lib.hid sb'
  have hX4 := Lib.hid (show xb < (((w3.alloc (.cells #[.int .u8 0, .int .u8 0, .int .u8 0, .int .u8 41, .int .u8 1, .int .u8 2] 5)).alloc (.cells #[.int .u8 0, .int .u8 0, .int .u8 0, .int .u8 0, .int .u8 0, .int .u8 0, .int .u8 0, .int .u8 0, .int .u8 0, .int .u8 0, .int .u8 0, .int .u8 0] 5))).heap.size by have := hXY.out; have := eb.size; omega)
  clear sb sb' eb HDX
  refine (few_nat A1 L.length c1 1000 1000 (bs L) _ (HS1.out.ext X4.out) (bs_one L) (by omega) (by omega) rfl).mono ?_
  rintro e w5 ⟨v5, rfl, own5, e5⟩
  rw [show min L.length 1000 = L.length by omega, bs_take, List.take_of_length_le (show L.length ≤ 1000 by omega)] at own5
  obtain ⟨A5, c5, rfl, _⟩ := Sees.of_own own5
  obtain ⟨v6, w6, hrun, own6, hg6, hat6⟩ := run_append_sees (P := Try.prog) (w := w5) 0 22 22 5 i0 _ 1 Try.underlying22 hi0 hz0 hz1 hz2 rfl (.slice A5 L.length c5) L.length (bs L) (own_mono own5 (Nat.zero_le _))
    (some ⟨w3.heap.size + 1, 0, none⟩) 12 12 (bs (BadB true)) (HSB.out.ext e5) (bs_one _) (by unfold maxLen; omega) (by omega) (Nat.zero_le _)
  rw [← bs_append] at own6
  have k6 : Kp (fun k => k < (((w3.alloc (.cells #[.int .u8 0, .int .u8 0, .int .u8 0, .int .u8 41, .int .u8 1, .int .u8 2] 5)).alloc (.cells #[.int .u8 0, .int .u8 0, .int .u8 0, .int .u8 0, .int .u8 0, .int .u8 0, .int .u8 0, .int .u8 0, .int .u8 0, .int .u8 0, .int .u8 0, .int .u8 0] 5))).heap.size) w5 w6 := (Kp.refl _ w5).grown hg6 fun k hk q => by
    have := (own5.lt k hk).1
    omega
  have e6 : Ext ((w3.alloc (.cells #[.int .u8 0, .int .u8 0, .int .u8 0, .int .u8 41, .int .u8 1, .int .u8 2] 5)).alloc (.cells #[.int .u8 0, .int .u8 0, .int .u8 0, .int .u8 0, .int .u8 0, .int .u8 0, .int .u8 0, .int .u8 0, .int .u8 0, .int .u8 0, .int .u8 0, .int .u8 0] 5)) w6 := (Ext.kp e5 k6 fun k hk => hk)
  obtain ⟨A6, c6, rfl, see6⟩ := Sees.of_own own6
  have h6blk : ∀ a, A6 = some a → 0 < L.length + 12 → a.block < w6.heap.size ∧ ¬ a.block = xb := fun a ha hn => by
    obtain ⟨g, cap, hv, hg, hlt⟩ := own6.form hn
    have hv0 := hv
    injection hv with q1 q2 q3
    rw [ha] at q1
    injection q1 with q1
    subst q1
    refine ⟨hlt, fun e => ?_⟩
    have hX := hX4.out
    rcases hat6 with h | h
    · have h7 : (Value.slice A5 L.length c5).ownBlock = some g := by rw [← h, hv0]; rfl
      have := (own5.lt g h7).1
      simp at e
      omega
    · rw [hv0] at h
      injection h with h
      have := e5.size
      simp at h e
      omega
  have HF := Lib.hid (feed_any (X := fun k => ¬ k = xb ∧ k < w6.heap.size) A6 (L.length + 12) c6 (L ++ BadB true) d0 w6 ((HD4.out.keep (Kp.of_ext e6)).weak fun k q => q.1) (fun k q => q.2) (d0_ok _ _) (by omega) (by omega) rfl see6 (by omega) (fun a ha hn => ⟨(h6blk a ha hn).2, (h6blk a ha hn).1⟩))
  have X6 := Lib.hid (X4.out.trans e6)
  clear own5 own6 hg6 hat6 k6 see6 h6blk e5 e6
  go_wp2_with (first | (at_builtin; refine wpList_append_run rfl (.tmp 49) (.tmp 50) _ rfl _ _ rfl rfl (.slice A6 (L.length + 12) c6) w6 hrun ?_) | fail)
  refine HF.out.mono ?_
  rintro x w7 ⟨v7, Z, rfl, d7, z1, z2, o7, k7⟩
  rw [HB.out.1] at o7
  obtain ⟨A7, c7, rfl, s7⟩ := o7.toB.sees
  obtain ⟨S, hS⟩ : ∃ S, drun 40 2 d0 (L ++ BadB true) = S := ⟨_, rfl⟩
  have HOK : Hid (DOk 40 2 S) := Lib.hid (by rw [← hS]; exact (d0_ok 40 2).run _)
  rw [hS] at d7 HB
  have X7 := Lib.hid (Ext.kp X6.out k7 fun k hk => ⟨hwx.out k hk, Nat.lt_of_lt_of_le hk X6.out.size⟩)
  have D7 := Lib.hid (show Dfm w7 (fun k => ¬ k = xb ∧ k < w6.heap.size) xb 40 2 S.told from d7.weak z1)
  have Z7 := Lib.hid (show Dfm w7 Z xb 40 2 S.told from d7)
  have S7 := Lib.hid s7
  have HZ2 := Lib.hid z2
  have HZ1 := Lib.hid z1
  have L6 := Lib.hid X6.out.size
  clear d7 z1 z2 o7 k7 s7 hS HF HD4 HSB hX4 hrun
  go_wp2_with fail
  refine (sameB_eq _ _ _ _ _ _ _ S7.out (HSRr.out.ext X7.out)).mono ?_
  rintro e w8 ⟨rfl, e8⟩
  have X8 := Lib.hid (X7.out.trans e8)
  have M8 := Lib.hid e8.size
  have D8 := Lib.hid (Z7.out.keep (Kp.of_ext e8))
  clear e8 S7 Z7 D7
  go_wp2_with fail
  refine (derrno_any _ w8 D8.out).mono ?_
  rintro e w9 ⟨rfl, rfl⟩
  rw [show S.told.E = BadE true from HB.out.2.1, show BadE true = 5 from rfl]
  go_wp2_with fail
  refine (dheld_nat _ 0 w8 D8.out (by show S.R.length + S.H.length = 0; rw [HB.out.2.2.2.1, HB.out.2.2.2.2]; rfl) (by omega)).mono ?_
  rintro e w9 ⟨rfl, q9, rfl⟩
  have e9 : Ext w8 (w8.drewN q9) := (Ext.refl _).drewN _
  have X9 := Lib.hid (X8.out.trans e9)
  have M9 := Lib.hid (Nat.le_trans M8.out e9.size)
  have D9 := Lib.hid (D8.out.keep (Kp.of_ext e9))
  clear e9
  go_wp2_with fail
  refine (dclean_any _ _ D9.out).mono ?_
  rintro e w10 ⟨rfl, rfl⟩
  rw [show clB S.told = false from by unfold clB; rw [show S.told.E = BadE true from HB.out.2.1]; rfl]
  go_wp2_with fail
  refine (rgood_any A2 none n2 c2 0 0 rows2 [] _ (HS2.out.ext (E1.out.trans X9.out)) (SeesI.none _)).mono ?_
  rintro e w11 ⟨v1, v2, rfl, kk, ll, gk1, gk2, gk3, gwn1, gl5, gl20, gwn2, ge0⟩
  obtain ⟨Ag, cg, rfl, seeg⟩ := gwn1.sees
  obtain ⟨Az, cz, rfl, seez⟩ := Sees.of_own gwn2
  obtain ⟨gs, hgs⟩ : ∃ gs, (rowF rows2 40).take kk = gs := ⟨_, rfl⟩
  have hg40 : ∀ r ∈ gs, r.length ≤ 40 := fun r hr => rowF_le rows2 40 r (by rw [← hgs] at hr; exact List.mem_of_mem_take hr)
  have hgl : gs.length ≤ 5 := by rw [← hgs, List.length_take]; omega
  rw [hgs] at seeg ⊢
  rw [iv_intsF] at seez
  obtain ⟨zl, hzl⟩ : ∃ zl : List Int, (ll.map fun k : Nat => (k : Int)) = zl := ⟨_, rfl⟩
  rw [hzl] at seez
  have hz1 : ∀ z ∈ zl, 1 ≤ z ∧ z ≤ 20 := fun z hz => by
    rw [← hzl] at hz
    obtain ⟨x, hx, rfl⟩ := List.mem_map.1 hz
    have := gl20 x hx
    omega
  have hg1 := fun i => szOf_ge (fun z hz => (hz1 z hz).1) i
  have hE0 := allE_ok (szOf zl) hg1 gs 0 (fun r hr => by have := hg40 r hr; omega)
  have hAL : allL (szOf zl) gs = allB (szOf zl) 0 gs := if_pos hE0
  have hlen := allB_len (szOf zl) hg1 gs 0 hg40
  have HMA := Lib.hid (rmall_any Az Ag ll.length cz gs.length cg zl gs w11 ⟨seez, fun z hz => by have := hz1 z hz; omega⟩ seeg (by omega) (fun r hr => by have := hg40 r hr; omega))
  rw [hE0, hAL] at HMA
  obtain ⟨G, hG⟩ : ∃ G, allB (szOf zl) 0 gs = G := ⟨_, rfl⟩
  rw [hG] at HMA hlen
  have X11 := Lib.hid (X9.out.trans ge0)
  have M11 := Lib.hid (Nat.le_trans M9.out ge0.size)
  have D11 := Lib.hid (D9.out.keep (Kp.of_ext ge0))
  have hGl : G.length ≤ 1020 := by omega
  clear gwn1 gwn2 seeg seez hgs hg40 hzl hz1 hg1 hE0 hAL hlen hG gl20 gk3 ge0 hgl
  go_wp2_with fail
  refine HMA.out.mono ?_
  rintro e w12 ⟨v12, rfl, own12, e12⟩
  obtain ⟨A12, c12, rfl, see12⟩ := Sees.of_own own12
  have h12blk : ∀ a, A12 = some a → 0 < G.length → a.block < w12.heap.size ∧ ¬ a.block = xb ∧ Z a.block := fun a ha hn => by
    obtain ⟨g, cap, hv, hg, hlt⟩ := own12.form hn
    injection hv with q1 q2 q3
    rw [ha] at q1
    injection q1 with q1
    subst q1
    have := D11.out.lt
    refine ⟨hlt, fun e => by simp at e; omega, Classical.byContradiction fun hz => ?_⟩
    have h1 := HZ2.out _ hz
    have h2 := M11.out
    simp at h1
    omega
  have X12 := Lib.hid (X11.out.trans e12)
  have HF := Lib.hid (feed_any (X := fun k => ¬ k = xb ∧ Z k ∧ k < w12.heap.size) A12 G.length c12 G S.told w12 ((D11.out.keep (Kp.of_ext e12)).weak fun k q => q.2.1) (fun k q => q.2.2) (told_ok HOK.out) (by omega) (by omega) rfl see12 (by omega) (fun a ha hn => ⟨(h12blk a ha hn).2.1, (h12blk a ha hn).2.2, (h12blk a ha hn).1⟩))
  rw [drun_dead (show 2 ≤ S.told.md by show 2 ≤ S.md; rw [HB.out.2.2.1]; exact Nat.le_refl _)] at HF
  clear own12 see12 h12blk e12
  go_wp2_with fail
  refine HF.out.mono ?_
  rintro x w13 ⟨v13, Z2, rfl, d13, z13, y13, o13, k13⟩
  obtain ⟨A13, c13, vs13, rfl, _⟩ := o13.elem
  rw [show S.told.T.length = 0 from rfl]
  have X13 := Lib.hid (Ext.kp X12.out k13 fun k hk => ⟨hwx.out k hk, HZ1.out k ⟨hwx.out k hk, Nat.lt_of_lt_of_le hk L6.out⟩, Nat.lt_of_lt_of_le hk X12.out.size⟩)
  have D13 := Lib.hid d13
  clear d13 z13 y13 o13 k13
  go_wp2_with fail
  refine (derrno_any _ w13 D13.out).mono ?_
  rintro e w14 ⟨rfl, rfl⟩
  rw [show S.told.told.E = BadE true from HB.out.2.1, show BadE true = 5 from rfl]
  go_wp2_with fail
  refine (dheld_nat _ 0 w13 D13.out (by show S.R.length + S.H.length = 0; rw [HB.out.2.2.2.1, HB.out.2.2.2.2]; rfl) (by omega)).mono ?_
  rintro e w14 ⟨rfl, q14, rfl⟩
  have e14 : Ext w13 (w13.drewN q14) := (Ext.refl _).drewN _
  have X14 := Lib.hid (X13.out.trans e14)
  clear e14
  go_wp2_with fail
  refine (dlives_any _).mono ?_
  rintro e w15 ⟨rfl, e15⟩
  have X15 := Lib.hid (E1.out.trans (X14.out.trans e15))
  clear e15
  go_wp2
  go_ret
  exact ⟨rfl, X15.out⟩
set_option maxRecDepth 20000 in
set_option maxHeartbeats 8000000 in
theorem de_c (A A2 : Option Addr) (n c n2 c2 : Nat) (rows rows2 : List (List Int)) (w : World) (hs0 : SeesRows .u8 w A n c rows) (hs : SeesRows .u8 w A 3 c (rows.take 3)) (hs2 : SeesRows .u8 w A2 n2 c2 rows2) (hn : 3 < n) :
    Calls Try.prog 6 #[.slice A n c, .bool false, .slice A2 n2 c2] w fun e w' => e = .returned (.bool true) ∧ Ext w w' := by
  obtain ⟨i0, hi0, hz0, hz1, hz2⟩ := info_parts infoB
  have hn1 := hs0.2.1
  have hm1 := hs0.2.2.1
  unfold maxLen at hm1
  have HGD := Lib.hid (rgood_any A none 3 c 0 0 (rows.take 3) [] w hs (SeesI.none w))
  have HS2 := Lib.hid hs2
  clear hs0 hs hs2
  go_enter Try.func6, Try.ntmps6
  go_wp2_with fail
  refine HGD.out.mono ?_
  rintro e w0 ⟨v1, v2, rfl, k, lz, hk1, hk2, hk3, own1, hl5, hl20, own2, e0⟩
  obtain ⟨Ar, cr, rfl, seer⟩ := own1.sees
  obtain ⟨rs, hrs⟩ : ∃ rs, (rowF (rows.take 3) 40).take k = rs := ⟨_, rfl⟩
  have hr40 : ∀ r ∈ rs, r.length ≤ 40 := fun r hr => rowF_le (rows.take 3) 40 r (by rw [← hrs] at hr; exact List.mem_of_mem_take hr)
  have hrl : rs.length ≤ 3 := by rw [← hrs, List.length_take]; omega
  rw [hrs] at seer ⊢
  have hg1 : ∀ i, 1 ≤ szOf [] i := fun i => by unfold szOf; simp
  have hE0 := allE_ok (szOf []) hg1 rs 0 (fun r hr => by have := hr40 r hr; omega)
  have hAL : allL (szOf []) rs = allB (szOf []) 0 rs := if_pos hE0
  have HMA := Lib.hid (rmall_any none Ar 0 0 rs.length cr [] rs w0 (SeesI.none w0) seer (by omega) (fun r hr => by have := hr40 r hr; omega))
  rw [hE0, hAL] at HMA
  obtain ⟨en9, hen9⟩ := drun_allB (m := 40) (f := 2) (szOf []) rs 0 false [] (fun r hr => by have := hr40 r hr; omega) hg1 (fun r hr i => ⟨by
    have := hr40 r hr
    rw [show szOf [] i = 4096 from rfl, cnt_small (by decide) (show r.length ≤ (4096 : Int).toNat by omega)]
    omega, mkE_g (by have := hr40 r hr; omega) (hg1 i)⟩)
  have hlen := allB_len (szOf []) hg1 rs 0 hr40
  obtain ⟨L, hL⟩ : ∃ L, allB (szOf []) 0 rs = L := ⟨_, rfl⟩
  rw [hL] at HMA hen9 hlen
  rw [List.nil_append] at hen9
  obtain ⟨b1, b2, b3, b4, b5⟩ := bad_run false en9 rs
  rw [← hen9, ← drun_app] at b1 b2 b3 b4 b5
  have HB := Lib.hid (show (drun 40 2 d0 (L ++ BadB false)).T = rs ∧ (drun 40 2 d0 (L ++ BadB false)).E = BadE false ∧ (drun 40 2 d0 (L ++ BadB false)).md = 2 ∧ (drun 40 2 d0 (L ++ BadB false)).R = [] ∧ (drun 40 2 d0 (L ++ BadB false)).H = [] from ⟨b1, b2, b3, b4, b5⟩)
  have HSR0 := Lib.hid seer
  have E0 := Lib.hid e0
  have hLN : L.length ≤ 612 := by omega
  have HRL := Lib.hid hrl
  clear own1 own2 seer hr40 hg1 hE0 hAL hen9 hlen hL hl20 hk3 hrs HGD e0 hrl b1 b2 b3 b4 b5
  go_wp2_with fail
  refine HMA.out.mono ?_
  rintro e w1 ⟨v, rfl, own3, e1⟩
  obtain ⟨A1, c1, rfl, see1⟩ := Sees.of_own own3
  have HS1 := Lib.hid see1
  have E1 := Lib.hid (E0.out.trans e1)
  have HSRr := Lib.hid (HSR0.out.ext e1)
  clear own3 see1 HMA HSR0
  go_wp2_with fail
  refine (dnew_nat 40 2 40 2 rfl rfl w1 (by omega) (by omega) (by omega)).mono ?_
  rintro e w3 ⟨rfl, hdx, szx, e2⟩
  have X3 := Lib.hid e2
  have HDX := Lib.hid hdx
  obtain ⟨xb, hxb⟩ : ∃ xb, w1.heap.size = xb := ⟨_, rfl⟩
  have hXY := Lib.hid (show w1.heap.size = xb ∧ xb < w3.heap.size by omega)
  have hwx := Lib.hid (show ∀ k, k < w1.heap.size → ¬ k = xb from fun k hk => by omega)
  rw [hxb] at HDX ⊢
  clear hxb szx e2 hdx
  go_wp2_with fail
  have sb := sees_new w3 5 #[.int .u8 0, .int .u8 0, .int .u8 0, .int .u8 41, .int .u8 1, .int .u8 2] (by simp [maxLen])
  have sb' : Sees (w3.alloc (.cells #[.int .u8 0, .int .u8 0, .int .u8 0, .int .u8 41, .int .u8 1, .int .u8 2] 5)) (some ⟨w3.heap.size, 0, none⟩) 6 6 (bs (BadB false)) := by simpa [BadB, bs] using sb
  have eb : Ext w3 (w3.alloc (.cells #[.int .u8 0, .int .u8 0, .int .u8 0, .int .u8 41, .int .u8 1, .int .u8 2] 5)) := (Ext.refl w3).alloc (.cells #[.int .u8 0, .int .u8 0, .int .u8 0, .int .u8 41, .int .u8 1, .int .u8 2] 5)
  have X4 := Lib.hid (X3.out.trans eb)
  have HD4 := Lib.hid (HDX.out.keep (Kp.of_ext eb))
  have HSB := Lib.hid sb'
  have hX4 := Lib.hid (show xb < ((w3.alloc (.cells #[.int .u8 0, .int .u8 0, .int .u8 0, .int .u8 41, .int .u8 1, .int .u8 2] 5))).heap.size by have := hXY.out; have := eb.size; omega)
  clear sb sb' eb HDX
  refine (few_nat A1 L.length c1 1000 1000 (bs L) _ (HS1.out.ext X4.out) (bs_one L) (by omega) (by omega) rfl).mono ?_
  rintro e w5 ⟨v5, rfl, own5, e5⟩
  rw [show min L.length 1000 = L.length by omega, bs_take, List.take_of_length_le (show L.length ≤ 1000 by omega)] at own5
  obtain ⟨A5, c5, rfl, _⟩ := Sees.of_own own5
  obtain ⟨v6, w6, hrun, own6, hg6, hat6⟩ := run_append_sees (P := Try.prog) (w := w5) 0 22 22 5 i0 _ 1 Try.underlying22 hi0 hz0 hz1 hz2 rfl (.slice A5 L.length c5) L.length (bs L) (own_mono own5 (Nat.zero_le _))
    (some ⟨w3.heap.size, 0, none⟩) 6 6 (bs (BadB false)) (HSB.out.ext e5) (bs_one _) (by unfold maxLen; omega) (by omega) (Nat.zero_le _)
  rw [← bs_append] at own6
  have k6 : Kp (fun k => k < ((w3.alloc (.cells #[.int .u8 0, .int .u8 0, .int .u8 0, .int .u8 41, .int .u8 1, .int .u8 2] 5))).heap.size) w5 w6 := (Kp.refl _ w5).grown hg6 fun k hk q => by
    have := (own5.lt k hk).1
    omega
  have e6 : Ext (w3.alloc (.cells #[.int .u8 0, .int .u8 0, .int .u8 0, .int .u8 41, .int .u8 1, .int .u8 2] 5)) w6 := (Ext.kp e5 k6 fun k hk => hk)
  obtain ⟨A6, c6, rfl, see6⟩ := Sees.of_own own6
  have h6blk : ∀ a, A6 = some a → 0 < L.length + 6 → a.block < w6.heap.size ∧ ¬ a.block = xb := fun a ha hn => by
    obtain ⟨g, cap, hv, hg, hlt⟩ := own6.form hn
    have hv0 := hv
    injection hv with q1 q2 q3
    rw [ha] at q1
    injection q1 with q1
    subst q1
    refine ⟨hlt, fun e => ?_⟩
    have hX := hX4.out
    rcases hat6 with h | h
    · have h7 : (Value.slice A5 L.length c5).ownBlock = some g := by rw [← h, hv0]; rfl
      have := (own5.lt g h7).1
      simp at e
      omega
    · rw [hv0] at h
      injection h with h
      have := e5.size
      simp at h e
      omega
  have HF := Lib.hid (feed_any (X := fun k => ¬ k = xb ∧ k < w6.heap.size) A6 (L.length + 6) c6 (L ++ BadB false) d0 w6 ((HD4.out.keep (Kp.of_ext e6)).weak fun k q => q.1) (fun k q => q.2) (d0_ok _ _) (by omega) (by omega) rfl see6 (by omega) (fun a ha hn => ⟨(h6blk a ha hn).2, (h6blk a ha hn).1⟩))
  have X6 := Lib.hid (X4.out.trans e6)
  clear own5 own6 hg6 hat6 k6 see6 h6blk e5 e6
  go_wp2_with (first | (at_builtin; refine wpList_append_run rfl (.tmp 49) (.tmp 50) _ rfl _ _ rfl rfl (.slice A6 (L.length + 6) c6) w6 hrun ?_) | fail)
  refine HF.out.mono ?_
  rintro x w7 ⟨v7, Z, rfl, d7, z1, z2, o7, k7⟩
  rw [HB.out.1] at o7
  obtain ⟨A7, c7, rfl, s7⟩ := o7.toB.sees
  obtain ⟨S, hS⟩ : ∃ S, drun 40 2 d0 (L ++ BadB false) = S := ⟨_, rfl⟩
  have HOK : Hid (DOk 40 2 S) := Lib.hid (by rw [← hS]; exact (d0_ok 40 2).run _)
  rw [hS] at d7 HB
  have X7 := Lib.hid (Ext.kp X6.out k7 fun k hk => ⟨hwx.out k hk, Nat.lt_of_lt_of_le hk X6.out.size⟩)
  have D7 := Lib.hid (show Dfm w7 (fun k => ¬ k = xb ∧ k < w6.heap.size) xb 40 2 S.told from d7.weak z1)
  have Z7 := Lib.hid (show Dfm w7 Z xb 40 2 S.told from d7)
  have S7 := Lib.hid s7
  have HZ2 := Lib.hid z2
  have HZ1 := Lib.hid z1
  have L6 := Lib.hid X6.out.size
  clear d7 z1 z2 o7 k7 s7 hS HF HD4 HSB hX4 hrun
  go_wp2_with fail
  refine (sameB_eq _ _ _ _ _ _ _ S7.out (HSRr.out.ext X7.out)).mono ?_
  rintro e w8 ⟨rfl, e8⟩
  have X8 := Lib.hid (X7.out.trans e8)
  have M8 := Lib.hid e8.size
  have D8 := Lib.hid (Z7.out.keep (Kp.of_ext e8))
  clear e8 S7 Z7 D7
  go_wp2_with fail
  refine (derrno_any _ w8 D8.out).mono ?_
  rintro e w9 ⟨rfl, rfl⟩
  rw [show S.told.E = BadE false from HB.out.2.1, show BadE false = 4 from rfl]
  go_wp2_with fail
  refine (dheld_nat _ 0 w8 D8.out (by show S.R.length + S.H.length = 0; rw [HB.out.2.2.2.1, HB.out.2.2.2.2]; rfl) (by omega)).mono ?_
  rintro e w9 ⟨rfl, q9, rfl⟩
  have e9 : Ext w8 (w8.drewN q9) := (Ext.refl _).drewN _
  have X9 := Lib.hid (X8.out.trans e9)
  have M9 := Lib.hid (Nat.le_trans M8.out e9.size)
  have D9 := Lib.hid (D8.out.keep (Kp.of_ext e9))
  clear e9
  go_wp2_with fail
  refine (dclean_any _ _ D9.out).mono ?_
  rintro e w10 ⟨rfl, rfl⟩
  rw [show clB S.told = false from by unfold clB; rw [show S.told.E = BadE false from HB.out.2.1]; rfl]
  go_wp2_with fail
  refine (rgood_any A2 none n2 c2 0 0 rows2 [] _ (HS2.out.ext (E1.out.trans X9.out)) (SeesI.none _)).mono ?_
  rintro e w11 ⟨v1, v2, rfl, kk, ll, gk1, gk2, gk3, gwn1, gl5, gl20, gwn2, ge0⟩
  obtain ⟨Ag, cg, rfl, seeg⟩ := gwn1.sees
  obtain ⟨Az, cz, rfl, seez⟩ := Sees.of_own gwn2
  obtain ⟨gs, hgs⟩ : ∃ gs, (rowF rows2 40).take kk = gs := ⟨_, rfl⟩
  have hg40 : ∀ r ∈ gs, r.length ≤ 40 := fun r hr => rowF_le rows2 40 r (by rw [← hgs] at hr; exact List.mem_of_mem_take hr)
  have hgl : gs.length ≤ 5 := by rw [← hgs, List.length_take]; omega
  rw [hgs] at seeg ⊢
  rw [iv_intsF] at seez
  obtain ⟨zl, hzl⟩ : ∃ zl : List Int, (ll.map fun k : Nat => (k : Int)) = zl := ⟨_, rfl⟩
  rw [hzl] at seez
  have hz1 : ∀ z ∈ zl, 1 ≤ z ∧ z ≤ 20 := fun z hz => by
    rw [← hzl] at hz
    obtain ⟨x, hx, rfl⟩ := List.mem_map.1 hz
    have := gl20 x hx
    omega
  have hg1 := fun i => szOf_ge (fun z hz => (hz1 z hz).1) i
  have hE0 := allE_ok (szOf zl) hg1 gs 0 (fun r hr => by have := hg40 r hr; omega)
  have hAL : allL (szOf zl) gs = allB (szOf zl) 0 gs := if_pos hE0
  have hlen := allB_len (szOf zl) hg1 gs 0 hg40
  have HMA := Lib.hid (rmall_any Az Ag ll.length cz gs.length cg zl gs w11 ⟨seez, fun z hz => by have := hz1 z hz; omega⟩ seeg (by omega) (fun r hr => by have := hg40 r hr; omega))
  rw [hE0, hAL] at HMA
  obtain ⟨G, hG⟩ : ∃ G, allB (szOf zl) 0 gs = G := ⟨_, rfl⟩
  rw [hG] at HMA hlen
  have X11 := Lib.hid (X9.out.trans ge0)
  have M11 := Lib.hid (Nat.le_trans M9.out ge0.size)
  have D11 := Lib.hid (D9.out.keep (Kp.of_ext ge0))
  have hGl : G.length ≤ 1020 := by omega
  clear gwn1 gwn2 seeg seez hgs hg40 hzl hz1 hg1 hE0 hAL hlen hG gl20 gk3 ge0 hgl
  go_wp2_with fail
  refine HMA.out.mono ?_
  rintro e w12 ⟨v12, rfl, own12, e12⟩
  obtain ⟨A12, c12, rfl, see12⟩ := Sees.of_own own12
  have h12blk : ∀ a, A12 = some a → 0 < G.length → a.block < w12.heap.size ∧ ¬ a.block = xb ∧ Z a.block := fun a ha hn => by
    obtain ⟨g, cap, hv, hg, hlt⟩ := own12.form hn
    injection hv with q1 q2 q3
    rw [ha] at q1
    injection q1 with q1
    subst q1
    have := D11.out.lt
    refine ⟨hlt, fun e => by simp at e; omega, Classical.byContradiction fun hz => ?_⟩
    have h1 := HZ2.out _ hz
    have h2 := M11.out
    simp at h1
    omega
  have X12 := Lib.hid (X11.out.trans e12)
  have HF := Lib.hid (feed_any (X := fun k => ¬ k = xb ∧ Z k ∧ k < w12.heap.size) A12 G.length c12 G S.told w12 ((D11.out.keep (Kp.of_ext e12)).weak fun k q => q.2.1) (fun k q => q.2.2) (told_ok HOK.out) (by omega) (by omega) rfl see12 (by omega) (fun a ha hn => ⟨(h12blk a ha hn).2.1, (h12blk a ha hn).2.2, (h12blk a ha hn).1⟩))
  rw [drun_dead (show 2 ≤ S.told.md by show 2 ≤ S.md; rw [HB.out.2.2.1]; exact Nat.le_refl _)] at HF
  clear own12 see12 h12blk e12
  go_wp2_with fail
  refine HF.out.mono ?_
  rintro x w13 ⟨v13, Z2, rfl, d13, z13, y13, o13, k13⟩
  obtain ⟨A13, c13, vs13, rfl, _⟩ := o13.elem
  rw [show S.told.T.length = 0 from rfl]
  have X13 := Lib.hid (Ext.kp X12.out k13 fun k hk => ⟨hwx.out k hk, HZ1.out k ⟨hwx.out k hk, Nat.lt_of_lt_of_le hk L6.out⟩, Nat.lt_of_lt_of_le hk X12.out.size⟩)
  have D13 := Lib.hid d13
  clear d13 z13 y13 o13 k13
  go_wp2_with fail
  refine (derrno_any _ w13 D13.out).mono ?_
  rintro e w14 ⟨rfl, rfl⟩
  rw [show S.told.told.E = BadE false from HB.out.2.1, show BadE false = 4 from rfl]
  go_wp2_with fail
  refine (dheld_nat _ 0 w13 D13.out (by show S.R.length + S.H.length = 0; rw [HB.out.2.2.2.1, HB.out.2.2.2.2]; rfl) (by omega)).mono ?_
  rintro e w14 ⟨rfl, q14, rfl⟩
  have e14 : Ext w13 (w13.drewN q14) := (Ext.refl _).drewN _
  have X14 := Lib.hid (X13.out.trans e14)
  clear e14
  go_wp2_with fail
  refine (dlives_any _).mono ?_
  rintro e w15 ⟨rfl, e15⟩
  have X15 := Lib.hid (E1.out.trans (X14.out.trans e15))
  clear e15
  go_wp2
  go_ret
  exact ⟨rfl, X15.out⟩
set_option maxRecDepth 20000 in
set_option maxHeartbeats 8000000 in
theorem de_d (A A2 : Option Addr) (n c n2 c2 : Nat) (rows rows2 : List (List Int)) (w : World) (hs0 : SeesRows .u8 w A n c rows) (hs : SeesRows .u8 w A 3 c (rows.take 3)) (hs2 : SeesRows .u8 w A2 n2 c2 rows2) (hn : 3 < n) :
    Calls Try.prog 6 #[.slice A n c, .bool true, .slice A2 n2 c2] w fun e w' => e = .returned (.bool true) ∧ Ext w w' := by
  obtain ⟨i0, hi0, hz0, hz1, hz2⟩ := info_parts infoB
  have hn1 := hs0.2.1
  have hm1 := hs0.2.2.1
  unfold maxLen at hm1
  have HGD := Lib.hid (rgood_any A none 3 c 0 0 (rows.take 3) [] w hs (SeesI.none w))
  have HS2 := Lib.hid hs2
  clear hs0 hs hs2
  go_enter Try.func6, Try.ntmps6
  go_wp2_with fail
  refine HGD.out.mono ?_
  rintro e w0 ⟨v1, v2, rfl, k, lz, hk1, hk2, hk3, own1, hl5, hl20, own2, e0⟩
  obtain ⟨Ar, cr, rfl, seer⟩ := own1.sees
  obtain ⟨rs, hrs⟩ : ∃ rs, (rowF (rows.take 3) 40).take k = rs := ⟨_, rfl⟩
  have hr40 : ∀ r ∈ rs, r.length ≤ 40 := fun r hr => rowF_le (rows.take 3) 40 r (by rw [← hrs] at hr; exact List.mem_of_mem_take hr)
  have hrl : rs.length ≤ 3 := by rw [← hrs, List.length_take]; omega
  rw [hrs] at seer ⊢
  have hg1 : ∀ i, 1 ≤ szOf [] i := fun i => by unfold szOf; simp
  have hE0 := allE_ok (szOf []) hg1 rs 0 (fun r hr => by have := hr40 r hr; omega)
  have hAL : allL (szOf []) rs = allB (szOf []) 0 rs := if_pos hE0
  have HMA := Lib.hid (rmall_any none Ar 0 0 rs.length cr [] rs w0 (SeesI.none w0) seer (by omega) (fun r hr => by have := hr40 r hr; omega))
  rw [hE0, hAL] at HMA
  obtain ⟨en9, hen9⟩ := drun_allB (m := 40) (f := 2) (szOf []) rs 0 false [] (fun r hr => by have := hr40 r hr; omega) hg1 (fun r hr i => ⟨by
    have := hr40 r hr
    rw [show szOf [] i = 4096 from rfl, cnt_small (by decide) (show r.length ≤ (4096 : Int).toNat by omega)]
    omega, mkE_g (by have := hr40 r hr; omega) (hg1 i)⟩)
  have hlen := allB_len (szOf []) hg1 rs 0 hr40
  obtain ⟨L, hL⟩ : ∃ L, allB (szOf []) 0 rs = L := ⟨_, rfl⟩
  rw [hL] at HMA hen9 hlen
  rw [List.nil_append] at hen9
  obtain ⟨b1, b2, b3, b4, b5⟩ := bad_run true en9 rs
  rw [← hen9, ← drun_app] at b1 b2 b3 b4 b5
  have HB := Lib.hid (show (drun 40 2 d0 (L ++ BadB true)).T = rs ∧ (drun 40 2 d0 (L ++ BadB true)).E = BadE true ∧ (drun 40 2 d0 (L ++ BadB true)).md = 2 ∧ (drun 40 2 d0 (L ++ BadB true)).R = [] ∧ (drun 40 2 d0 (L ++ BadB true)).H = [] from ⟨b1, b2, b3, b4, b5⟩)
  have HSR0 := Lib.hid seer
  have E0 := Lib.hid e0
  have hLN : L.length ≤ 612 := by omega
  have HRL := Lib.hid hrl
  clear own1 own2 seer hr40 hg1 hE0 hAL hen9 hlen hL hl20 hk3 hrs HGD e0 hrl b1 b2 b3 b4 b5
  go_wp2_with fail
  refine HMA.out.mono ?_
  rintro e w1 ⟨v, rfl, own3, e1⟩
  obtain ⟨A1, c1, rfl, see1⟩ := Sees.of_own own3
  have HS1 := Lib.hid see1
  have E1 := Lib.hid (E0.out.trans e1)
  have HSRr := Lib.hid (HSR0.out.ext e1)
  clear own3 see1 HMA HSR0
  go_wp2_with fail
  refine (dnew_nat 40 2 40 2 rfl rfl w1 (by omega) (by omega) (by omega)).mono ?_
  rintro e w3 ⟨rfl, hdx, szx, e2⟩
  have X3 := Lib.hid e2
  have HDX := Lib.hid hdx
  obtain ⟨xb, hxb⟩ : ∃ xb, w1.heap.size = xb := ⟨_, rfl⟩
  have hXY := Lib.hid (show w1.heap.size = xb ∧ xb < w3.heap.size by omega)
  have hwx := Lib.hid (show ∀ k, k < w1.heap.size → ¬ k = xb from fun k hk => by omega)
  rw [hxb] at HDX ⊢
  clear hxb szx e2 hdx
  go_wp2_with fail
  have sb := sees_new (w3.alloc (.cells #[.int .u8 0, .int .u8 0, .int .u8 0, .int .u8 41, .int .u8 1, .int .u8 2] 5)) 5 #[.int .u8 0, .int .u8 0, .int .u8 0, .int .u8 0, .int .u8 0, .int .u8 0, .int .u8 0, .int .u8 0, .int .u8 0, .int .u8 0, .int .u8 0, .int .u8 0] (by simp [maxLen])
  have sb' : Sees ((w3.alloc (.cells #[.int .u8 0, .int .u8 0, .int .u8 0, .int .u8 41, .int .u8 1, .int .u8 2] 5)).alloc (.cells #[.int .u8 0, .int .u8 0, .int .u8 0, .int .u8 0, .int .u8 0, .int .u8 0, .int .u8 0, .int .u8 0, .int .u8 0, .int .u8 0, .int .u8 0, .int .u8 0] 5)) (some ⟨w3.heap.size + 1, 0, none⟩) 12 12 (bs (BadB true)) := by simpa [BadB, bs] using sb
  have eb : Ext w3 ((w3.alloc (.cells #[.int .u8 0, .int .u8 0, .int .u8 0, .int .u8 41, .int .u8 1, .int .u8 2] 5)).alloc (.cells #[.int .u8 0, .int .u8 0, .int .u8 0, .int .u8 0, .int .u8 0, .int .u8 0, .int .u8 0, .int .u8 0, .int .u8 0, .int .u8 0, .int .u8 0, .int .u8 0] 5)) := ((Ext.refl w3).alloc (.cells #[.int .u8 0, .int .u8 0, .int .u8 0, .int .u8 41, .int .u8 1, .int .u8 2] 5)).alloc (.cells #[.int .u8 0, .int .u8 0, .int .u8 0, .int .u8 0, .int .u8 0, .int .u8 0, .int .u8 0, .int .u8 0, .int .u8 0, .int .u8 0, .int .u8 0, .int .u8 0] 5)
  have X4 := Lib.hid (X3.out.trans eb)
  have HD4 := Lib.hid (HDX.out.keep (Kp.of_ext eb))
  have HSB := Lib.hid sb'
  have hX4 := Lib.hid (show xb < (((w3.alloc (.cells #[.int .u8 0, .int .u8 0, .int .u8 0, .int .u8 41, .int .u8 1, .int .u8 2] 5)).alloc (.cells #[.int .u8 0, .int .u8 0, .int .u8 0, .int .u8 0, .int .u8 0, .int .u8 0, .int .u8 0, .int .u8 0, .int .u8 0, .int .u8 0, .int .u8 0, .int .u8 0] 5))).heap.size by have := hXY.out; have := eb.size; omega)
  clear sb sb' eb HDX
  refine (few_nat A1 L.length c1 1000 1000 (bs L) _ (HS1.out.ext X4.out) (bs_one L) (by omega) (by omega) rfl).mono ?_
  rintro e w5 ⟨v5, rfl, own5, e5⟩
  rw [show min L.length 1000 = L.length by omega, bs_take, List.take_of_length_le (show L.length ≤ 1000 by omega)] at own5
  obtain ⟨A5, c5, rfl, _⟩ := Sees.of_own own5
  obtain ⟨v6, w6, hrun, own6, hg6, hat6⟩ := run_append_sees (P := Try.prog) (w := w5) 0 22 22 5 i0 _ 1 Try.underlying22 hi0 hz0 hz1 hz2 rfl (.slice A5 L.length c5) L.length (bs L) (own_mono own5 (Nat.zero_le _))
    (some ⟨w3.heap.size + 1, 0, none⟩) 12 12 (bs (BadB true)) (HSB.out.ext e5) (bs_one _) (by unfold maxLen; omega) (by omega) (Nat.zero_le _)
  rw [← bs_append] at own6
  have k6 : Kp (fun k => k < (((w3.alloc (.cells #[.int .u8 0, .int .u8 0, .int .u8 0, .int .u8 41, .int .u8 1, .int .u8 2] 5)).alloc (.cells #[.int .u8 0, .int .u8 0, .int .u8 0, .int .u8 0, .int .u8 0, .int .u8 0, .int .u8 0, .int .u8 0, .int .u8 0, .int .u8 0, .int .u8 0, .int .u8 0] 5))).heap.size) w5 w6 := (Kp.refl _ w5).grown hg6 fun k hk q => by
    have := (own5.lt k hk).1
    omega
  have e6 : Ext ((w3.alloc (.cells #[.int .u8 0, .int .u8 0, .int .u8 0, .int .u8 41, .int .u8 1, .int .u8 2] 5)).alloc (.cells #[.int .u8 0, .int .u8 0, .int .u8 0, .int .u8 0, .int .u8 0, .int .u8 0, .int .u8 0, .int .u8 0, .int .u8 0, .int .u8 0, .int .u8 0, .int .u8 0] 5)) w6 := (Ext.kp e5 k6 fun k hk => hk)
  obtain ⟨A6, c6, rfl, see6⟩ := Sees.of_own own6
  have h6blk : ∀ a, A6 = some a → 0 < L.length + 12 → a.block < w6.heap.size ∧ ¬ a.block = xb := fun a ha hn => by
    obtain ⟨g, cap, hv, hg, hlt⟩ := own6.form hn
    have hv0 := hv
    injection hv with q1 q2 q3
    rw [ha] at q1
    injection q1 with q1
    subst q1
    refine ⟨hlt, fun e => ?_⟩
    have hX := hX4.out
    rcases hat6 with h | h
    · have h7 : (Value.slice A5 L.length c5).ownBlock = some g := by rw [← h, hv0]; rfl
      have := (own5.lt g h7).1
      simp at e
      omega
    · rw [hv0] at h
      injection h with h
      have := e5.size
      simp at h e
      omega
  have HF := Lib.hid (feed_any (X := fun k => ¬ k = xb ∧ k < w6.heap.size) A6 (L.length + 12) c6 (L ++ BadB true) d0 w6 ((HD4.out.keep (Kp.of_ext e6)).weak fun k q => q.1) (fun k q => q.2) (d0_ok _ _) (by omega) (by omega) rfl see6 (by omega) (fun a ha hn => ⟨(h6blk a ha hn).2, (h6blk a ha hn).1⟩))
  have X6 := Lib.hid (X4.out.trans e6)
  clear own5 own6 hg6 hat6 k6 see6 h6blk e5 e6
  go_wp2_with (first | (at_builtin; refine wpList_append_run rfl (.tmp 49) (.tmp 50) _ rfl _ _ rfl rfl (.slice A6 (L.length + 12) c6) w6 hrun ?_) | fail)
  refine HF.out.mono ?_
  rintro x w7 ⟨v7, Z, rfl, d7, z1, z2, o7, k7⟩
  rw [HB.out.1] at o7
  obtain ⟨A7, c7, rfl, s7⟩ := o7.toB.sees
  obtain ⟨S, hS⟩ : ∃ S, drun 40 2 d0 (L ++ BadB true) = S := ⟨_, rfl⟩
  have HOK : Hid (DOk 40 2 S) := Lib.hid (by rw [← hS]; exact (d0_ok 40 2).run _)
  rw [hS] at d7 HB
  have X7 := Lib.hid (Ext.kp X6.out k7 fun k hk => ⟨hwx.out k hk, Nat.lt_of_lt_of_le hk X6.out.size⟩)
  have D7 := Lib.hid (show Dfm w7 (fun k => ¬ k = xb ∧ k < w6.heap.size) xb 40 2 S.told from d7.weak z1)
  have Z7 := Lib.hid (show Dfm w7 Z xb 40 2 S.told from d7)
  have S7 := Lib.hid s7
  have HZ2 := Lib.hid z2
  have HZ1 := Lib.hid z1
  have L6 := Lib.hid X6.out.size
  clear d7 z1 z2 o7 k7 s7 hS HF HD4 HSB hX4 hrun
  go_wp2_with fail
  refine (sameB_eq _ _ _ _ _ _ _ S7.out (HSRr.out.ext X7.out)).mono ?_
  rintro e w8 ⟨rfl, e8⟩
  have X8 := Lib.hid (X7.out.trans e8)
  have M8 := Lib.hid e8.size
  have D8 := Lib.hid (Z7.out.keep (Kp.of_ext e8))
  clear e8 S7 Z7 D7
  go_wp2_with fail
  refine (derrno_any _ w8 D8.out).mono ?_
  rintro e w9 ⟨rfl, rfl⟩
  rw [show S.told.E = BadE true from HB.out.2.1, show BadE true = 5 from rfl]
  go_wp2_with fail
  refine (dheld_nat _ 0 w8 D8.out (by show S.R.length + S.H.length = 0; rw [HB.out.2.2.2.1, HB.out.2.2.2.2]; rfl) (by omega)).mono ?_
  rintro e w9 ⟨rfl, q9, rfl⟩
  have e9 : Ext w8 (w8.drewN q9) := (Ext.refl _).drewN _
  have X9 := Lib.hid (X8.out.trans e9)
  have M9 := Lib.hid (Nat.le_trans M8.out e9.size)
  have D9 := Lib.hid (D8.out.keep (Kp.of_ext e9))
  clear e9
  go_wp2_with fail
  refine (dclean_any _ _ D9.out).mono ?_
  rintro e w10 ⟨rfl, rfl⟩
  rw [show clB S.told = false from by unfold clB; rw [show S.told.E = BadE true from HB.out.2.1]; rfl]
  go_wp2_with fail
  refine (rgood_any A2 none n2 c2 0 0 rows2 [] _ (HS2.out.ext (E1.out.trans X9.out)) (SeesI.none _)).mono ?_
  rintro e w11 ⟨v1, v2, rfl, kk, ll, gk1, gk2, gk3, gwn1, gl5, gl20, gwn2, ge0⟩
  obtain ⟨Ag, cg, rfl, seeg⟩ := gwn1.sees
  obtain ⟨Az, cz, rfl, seez⟩ := Sees.of_own gwn2
  obtain ⟨gs, hgs⟩ : ∃ gs, (rowF rows2 40).take kk = gs := ⟨_, rfl⟩
  have hg40 : ∀ r ∈ gs, r.length ≤ 40 := fun r hr => rowF_le rows2 40 r (by rw [← hgs] at hr; exact List.mem_of_mem_take hr)
  have hgl : gs.length ≤ 5 := by rw [← hgs, List.length_take]; omega
  rw [hgs] at seeg ⊢
  rw [iv_intsF] at seez
  obtain ⟨zl, hzl⟩ : ∃ zl : List Int, (ll.map fun k : Nat => (k : Int)) = zl := ⟨_, rfl⟩
  rw [hzl] at seez
  have hz1 : ∀ z ∈ zl, 1 ≤ z ∧ z ≤ 20 := fun z hz => by
    rw [← hzl] at hz
    obtain ⟨x, hx, rfl⟩ := List.mem_map.1 hz
    have := gl20 x hx
    omega
  have hg1 := fun i => szOf_ge (fun z hz => (hz1 z hz).1) i
  have hE0 := allE_ok (szOf zl) hg1 gs 0 (fun r hr => by have := hg40 r hr; omega)
  have hAL : allL (szOf zl) gs = allB (szOf zl) 0 gs := if_pos hE0
  have hlen := allB_len (szOf zl) hg1 gs 0 hg40
  have HMA := Lib.hid (rmall_any Az Ag ll.length cz gs.length cg zl gs w11 ⟨seez, fun z hz => by have := hz1 z hz; omega⟩ seeg (by omega) (fun r hr => by have := hg40 r hr; omega))
  rw [hE0, hAL] at HMA
  obtain ⟨G, hG⟩ : ∃ G, allB (szOf zl) 0 gs = G := ⟨_, rfl⟩
  rw [hG] at HMA hlen
  have X11 := Lib.hid (X9.out.trans ge0)
  have M11 := Lib.hid (Nat.le_trans M9.out ge0.size)
  have D11 := Lib.hid (D9.out.keep (Kp.of_ext ge0))
  have hGl : G.length ≤ 1020 := by omega
  clear gwn1 gwn2 seeg seez hgs hg40 hzl hz1 hg1 hE0 hAL hlen hG gl20 gk3 ge0 hgl
  go_wp2_with fail
  refine HMA.out.mono ?_
  rintro e w12 ⟨v12, rfl, own12, e12⟩
  obtain ⟨A12, c12, rfl, see12⟩ := Sees.of_own own12
  have h12blk : ∀ a, A12 = some a → 0 < G.length → a.block < w12.heap.size ∧ ¬ a.block = xb ∧ Z a.block := fun a ha hn => by
    obtain ⟨g, cap, hv, hg, hlt⟩ := own12.form hn
    injection hv with q1 q2 q3
    rw [ha] at q1
    injection q1 with q1
    subst q1
    have := D11.out.lt
    refine ⟨hlt, fun e => by simp at e; omega, Classical.byContradiction fun hz => ?_⟩
    have h1 := HZ2.out _ hz
    have h2 := M11.out
    simp at h1
    omega
  have X12 := Lib.hid (X11.out.trans e12)
  have HF := Lib.hid (feed_any (X := fun k => ¬ k = xb ∧ Z k ∧ k < w12.heap.size) A12 G.length c12 G S.told w12 ((D11.out.keep (Kp.of_ext e12)).weak fun k q => q.2.1) (fun k q => q.2.2) (told_ok HOK.out) (by omega) (by omega) rfl see12 (by omega) (fun a ha hn => ⟨(h12blk a ha hn).2.1, (h12blk a ha hn).2.2, (h12blk a ha hn).1⟩))
  rw [drun_dead (show 2 ≤ S.told.md by show 2 ≤ S.md; rw [HB.out.2.2.1]; exact Nat.le_refl _)] at HF
  clear own12 see12 h12blk e12
  go_wp2_with fail
  refine HF.out.mono ?_
  rintro x w13 ⟨v13, Z2, rfl, d13, z13, y13, o13, k13⟩
  obtain ⟨A13, c13, vs13, rfl, _⟩ := o13.elem
  rw [show S.told.T.length = 0 from rfl]
  have X13 := Lib.hid (Ext.kp X12.out k13 fun k hk => ⟨hwx.out k hk, HZ1.out k ⟨hwx.out k hk, Nat.lt_of_lt_of_le hk L6.out⟩, Nat.lt_of_lt_of_le hk X12.out.size⟩)
  have D13 := Lib.hid d13
  clear d13 z13 y13 o13 k13
  go_wp2_with fail
  refine (derrno_any _ w13 D13.out).mono ?_
  rintro e w14 ⟨rfl, rfl⟩
  rw [show S.told.told.E = BadE true from HB.out.2.1, show BadE true = 5 from rfl]
  go_wp2_with fail
  refine (dheld_nat _ 0 w13 D13.out (by show S.R.length + S.H.length = 0; rw [HB.out.2.2.2.1, HB.out.2.2.2.2]; rfl) (by omega)).mono ?_
  rintro e w14 ⟨rfl, q14, rfl⟩
  have e14 : Ext w13 (w13.drewN q14) := (Ext.refl _).drewN _
  have X14 := Lib.hid (X13.out.trans e14)
  clear e14
  go_wp2_with fail
  refine (dlives_any _).mono ?_
  rintro e w15 ⟨rfl, e15⟩
  have X15 := Lib.hid (E1.out.trans (X14.out.trans e15))
  clear e15
  go_wp2
  go_ret
  exact ⟨rfl, X15.out⟩
theorem de_walk (A A2 : Option Addr) (n c n2 c2 : Nat) (b : Bool) (rows rows2 : List (List Int)) (w : World) (hs : SeesRows .u8 w A n c rows) (hs2 : SeesRows .u8 w A2 n2 c2 rows2) :
    Calls Try.prog 6 #[.slice A n c, .bool b, .slice A2 n2 c2] w fun e w' => e = .returned (.bool true) ∧ Ext w w' := by
  by_cases hn : n ≤ 3
  · cases b
    · exact de_a A A2 n c n2 c2 rows rows2 w hs (hs.take n (Nat.le_refl _)) hs2 hn
    · exact de_b A A2 n c n2 c2 rows rows2 w hs (hs.take n (Nat.le_refl _)) hs2 hn
  · cases b
    · exact de_c A A2 n c n2 c2 rows rows2 w hs (hs.take 3 (by omega)) hs2 (by omega)
    · exact de_d A A2 n c n2 c2 rows rows2 w hs (hs.take 3 (by omega)) hs2 (by omega)
end Go.Proofs.Ytjajkagpfbemiaa
