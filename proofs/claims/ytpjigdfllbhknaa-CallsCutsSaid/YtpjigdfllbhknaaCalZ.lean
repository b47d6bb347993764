/-
  Layer 14: what is read of bytes.
-/
import Derived.Test.YtpjigdfllbhknaaCalY
import Derived.Test.YtpjigdfllbhknaaCalU
import Derived.Laws.ResultCell
import Derived.Laws.Tables
namespace Go.Proofs.Ytpjigdfllbhknaa
open Go Go.RowKit
set_option linter.unusedVariables false
set_option linter.unusedSimpArgs false
theorem results_cell_tmp2 {P : Program} {fn : Func} {p u : Tmp} {ty : TypeId} (h : fn.results = #[.cell p ty, .tmp u]) (tmps : Array Value) (w : World) (g : Nat) (t : TypeId) (cs : Array Value) (fr : Nat × Nat) (d : TypeDesc)
    (hp : tmps.getD p undef = .pointer (some ⟨g, 0, none⟩)) (hg : w.heap[g]? = some (.cells cs t fr))
    (hu : P.underlying ty = some d) (hd : (match d with | .struct _ | .array _ _ => true | _ => false) = true) (hi : (P.info? ty).map (·.size) = some cs.size) :
    (results fn tmps).run P w = .ok (.tuple #[.agg cs, tmps.getD u undef]) w := by
  rw [results_cell_tmp h, hp]
  simp [asAddr, run_loadVar_row w g t ty cs fr d hg hu hd hi]
def AR.fr (a : AR) (hb : Nat) : Array Value := #[.int .i64 a.pr, .int .i64 a.off, .int .i64 a.ct, .int .i64 a.sz, .int .i64 a.md, .int .i64 a.h1, .int .i64 a.h2, .int .i64 a.g1, .int .i64 a.g2, .string ⟨a.nm.toArray⟩, .string ⟨a.n2.toArray⟩, .slice a.dA a.dn a.dk, .iface 64 (.pointer (some ⟨hb, 0, none⟩))]
/-- What is read so far: the fields, the data, what the hand keeps, the reader's error, what is left. -/
structure RS where
  (a : AR) (d : List UInt8) (k e : Int) (l : List UInt8)
def AR.wd (a : AR) (A : Option Addr) (n c : Nat) : AR := { a with dA := A, dn := n, dk := c }
def stR (s : RS) : Nat → RS
  | 0 => { s with a := { s.a with h1 := u4N s.l, h2 := u4N (u4L s.l) }, e := u4E (u4E s.e s.l) (u4L s.l), l := u4L (u4L s.l) }
  | 1 => { s with a := { s.a with g1 := u4N s.l, g2 := u4N (u4L s.l) }, e := u4E (u4E s.e s.l) (u4L s.l), l := u4L (u4L s.l) }
  | 2 => { s with a := { s.a with nm := txN 64 s.l }, e := txE s.e 64 s.l, l := txL 64 s.l }
  | 3 => { s with a := { s.a with n2 := txN 64 s.l }, e := txE s.e 64 s.l, l := txL 64 s.l }
  | 4 => { s with a := { s.a with off := ofU (u8N s.l) }, k := plK s.k (u8N s.l), e := u8E s.e s.l, l := u8L s.l }
  | 5 => { s with a := { s.a with ct := u4N s.l }, e := u4E s.e s.l, l := u4L s.l }
  | 6 => { s with a := { s.a with sz := u4N s.l }, e := u4E s.e s.l, l := u4L s.l }
  | 7 => { s with a := { s.a with md := u4N s.l }, e := u4E s.e s.l, l := u4L s.l }
  | _ => { s with d := txN 2048 s.l, e := txE s.e 2048 s.l, l := txL 2048 s.l }
def psR (s : RS) (l : List Nat) : RS := l.foldl stR s
theorem u4L_len (l : List UInt8) : (u4L l).length ≤ l.length := by unfold u4L; split <;> simp
theorem u8L_len (l : List UInt8) : (u8L l).length ≤ l.length := by unfold u8L; split <;> simp
theorem txL_len (m : Int) (l : List UInt8) : (txL m l).length ≤ l.length := by unfold txL; split <;> simp
theorem stR_len (s : RS) (g : Nat) : (stR s g).l.length ≤ s.l.length := by
  have h1 := u4L_len s.l
  have h2 := u4L_len (u4L s.l)
  have h3 := u8L_len s.l
  have h4 := txL_len 64 s.l
  have h5 := txL_len 2048 s.l
  rcases g with _ | _ | _ | _ | _ | _ | _ | _ | g <;> simp only [stR] <;> omega
def RdS (w : World) (fb hb g : Nat) (s : RS) : Prop := s.l.length ≤ 4194304 ∧ ∃ A n c, RdC w fb hb g ((s.a.wd A n c).fr hb) s.k s.e s.l A n c s.d
theorem RdS.ext {w w' : World} {fb hb g : Nat} {s : RS} (h : RdS w fb hb g s) (he : Ext w w') : RdS w' fb hb g s := by
  obtain ⟨h1, A, n, c, h2⟩ := h
  exact ⟨h1, A, n, c, h2.ext he⟩
theorem rds_step (fb hb g : Nat) (s : RS) (x : Nat) (w : World) (hx : x ≤ 8) (h : RdS w fb hb g s) :
    Calls Try.prog (fmF x) #[.pointer (some ⟨fb, 0, none⟩)] w fun e w' => e = .returned (.tuple #[]) ∧ (RdS w' fb hb g (stR s x) ∧ OnP (S3 fb hb g) w w') := by
  have hlen := stR_len s x
  obtain ⟨hl, A, n, c, hr⟩ := h
  have hc : w.cell? ⟨fb, 12, none⟩ = some (.iface 64 (.pointer (some ⟨hb, 0, none⟩))) := (cell_of_row w fb 12 _ _ _ hr.fr).trans rfl
  have hdr := hr.ext (Ext.refl w).drew
  have hcR : ∀ w', (RdS w' fb hb g (stR s x) ∧ OnP (S3 fb hb g) w w') → w'.cell? ⟨fb, 12, none⟩ = some (.iface 64 (.pointer (some ⟨hb, 0, none⟩))) := by
    rintro w' ⟨⟨_, A', n', c', h'⟩, _⟩
    exact (cell_of_row w' fb 12 _ _ _ h'.fr).trans rfl
  have hO : ∀ {w'}, OnP (S3 fb hb g) w.drew w' → OnP (S3 fb hb g) w w' := fun h => (OnP.of_ext (Ext.refl w).drew).trans h
  have x9 : x = 0 ∨ x = 1 ∨ x = 2 ∨ x = 3 ∨ x = 4 ∨ x = 5 ∨ x = 6 ∨ x = 7 ∨ x = 8 := by omega
  rcases x9 with rfl | rfl | rfl | rfl | rfl | rfl | rfl | rfl | rfl
  · exact fmg_0 fb hb 64 91 w _ hc mR_handle cR_handle ((read_handle fb hb g 5 _ _ _ _ _ _ _ _ _ hdr ⟨_, rfl⟩ ⟨_, rfl⟩).mono (by rintro e w' ⟨rfl, h1, h2⟩; exact ⟨rfl, ⟨Nat.le_trans hlen hl, A, n, c, h1⟩, hO h2⟩)) hcR
  · exact fmg_1 fb hb 64 91 w _ hc mR_handle cR_handle ((read_handle fb hb g 7 _ _ _ _ _ _ _ _ _ hdr ⟨_, rfl⟩ ⟨_, rfl⟩).mono (by rintro e w' ⟨rfl, h1, h2⟩; exact ⟨rfl, ⟨Nat.le_trans hlen hl, A, n, c, h1⟩, hO h2⟩)) hcR
  · exact fmg_2 fb hb 64 94 w _ hc mR_text cR_text ((read_text fb hb g 9 _ _ _ _ _ _ _ _ _ hdr ⟨_, rfl⟩ hl).mono (by rintro e w' ⟨rfl, h1, h2⟩; exact ⟨rfl, ⟨Nat.le_trans hlen hl, A, n, c, h1⟩, hO h2⟩)) hcR
  · exact fmg_3 fb hb 64 94 w _ hc mR_text cR_text ((read_text fb hb g 10 _ _ _ _ _ _ _ _ _ hdr ⟨_, rfl⟩ hl).mono (by rintro e w' ⟨rfl, h1, h2⟩; exact ⟨rfl, ⟨Nat.le_trans hlen hl, A, n, c, h1⟩, hO h2⟩)) hcR
  · exact fmg_4 fb hb 64 93 w _ hc mR_place cR_place ((read_place fb hb g 1 _ _ _ _ _ _ _ _ _ hdr ⟨_, rfl⟩).mono (by rintro e w' ⟨rfl, h1, h2⟩; exact ⟨rfl, ⟨Nat.le_trans hlen hl, A, n, c, h1⟩, hO h2⟩)) hcR
  · exact fmg_5 fb hb 64 92 w _ hc mR_number cR_number ((read_number fb hb g 2 _ _ _ _ _ _ _ _ _ hdr ⟨_, rfl⟩).mono (by rintro e w' ⟨rfl, h1, h2⟩; exact ⟨rfl, ⟨Nat.le_trans hlen hl, A, n, c, h1⟩, hO h2⟩)) hcR
  · exact fmg_6 fb hb 64 92 w _ hc mR_number cR_number ((read_number fb hb g 3 _ _ _ _ _ _ _ _ _ hdr ⟨_, rfl⟩).mono (by rintro e w' ⟨rfl, h1, h2⟩; exact ⟨rfl, ⟨Nat.le_trans hlen hl, A, n, c, h1⟩, hO h2⟩)) hcR
  · exact fmg_7 fb hb 64 92 w _ hc mR_number cR_number ((read_number fb hb g 4 _ _ _ _ _ _ _ _ _ hdr ⟨_, rfl⟩).mono (by rintro e w' ⟨rfl, h1, h2⟩; exact ⟨rfl, ⟨Nat.le_trans hlen hl, A, n, c, h1⟩, hO h2⟩)) hcR
  · exact fmg_8 fb hb 64 90 w _ hc mR_data cR_data ((read_data fb hb g 11 _ _ _ _ _ _ _ _ _ hdr ⟨_, rfl⟩ hl).mono (by rintro e w' ⟨rfl, ⟨A2, n2, c2, h1⟩, h2⟩; exact ⟨rfl, ⟨Nat.le_trans hlen hl, A2, n2, c2, h1⟩, hO h2⟩)) hcR
def rdS (p : Int) (b : List UInt8) : RS := psR ⟨AR.zero p, [], 0, 0, b⟩ (fl p)
def rdK (p : Int) (b : List UInt8) : Int := if kn p then kp (rdS p b).k (rend (rdS p b).e (rdS p b).l.length) else 2
def rdA (p : Int) (b : List UInt8) : AR := if rdK p b = 0 then (rdS p b).a else AR.zero 0
def rdD (p : Int) (b : List UInt8) : List UInt8 := if rdK p b = 0 then (rdS p b).d else []
def RdRes (p : Int) (b : List UInt8) (w : World) (e : Ending) (w' : World) : Prop := ∃ A n c, e = .returned (.tuple #[.agg ((rdA p b).wd A n c).cs, .int .i64 (rdK p b)]) ∧ Sees w' A n c (bs (rdD p b)) ∧ Ext w w'
set_option maxRecDepth 20000 in
set_option maxHeartbeats 4000000 in
theorem cread_no (p : Int) (A : Option Addr) (n c : Nat) (b : List UInt8) (w : World) (hk : kn p = false) :
    Calls Try.prog 20 #[.int .i64 p, .slice A n c] w (RdRes p b w) := by
  have hK : rdK p b = 2 := by unfold rdK; rw [hk]; rfl
  have HA : Hid (rdA p b = AR.zero 0 ∧ rdD p b = [] ∧ rdK p b = 2) := Lib.hid ⟨by unfold rdA; rw [hK]; rfl, by unfold rdD; rw [hK]; rfl, hK⟩
  obtain ⟨zb, hzb⟩ : ∃ zb, w.heap.size = zb := ⟨_, rfl⟩
  obtain ⟨w1, hw1⟩ : ∃ w1, w.alloc (.cells #[.int .i64 0, .int .i64 0, .int .i64 0, .int .i64 0, .int .i64 0, .int .i64 0, .int .i64 0, .int .i64 0, .int .i64 0, .string ⟨#[]⟩, .string ⟨#[]⟩, .slice none 0 0] 26) = w1 := ⟨_, rfl⟩
  have e1 : Ext w w1 := by rw [← hw1]; exact (Ext.refl w).alloc _
  have hz : w1.heap[zb]? = some (.cells #[.int .i64 0, .int .i64 0, .int .i64 0, .int .i64 0, .int .i64 0, .int .i64 0, .int .i64 0, .int .i64 0, .int .i64 0, .string ⟨#[]⟩, .string ⟨#[]⟩, .slice none 0 0] 26 (0, 0)) := by rw [← hw1, ← hzb]; exact heap_alloc_new w _
  have E1 := Lib.hid e1
  have HZ1 := Lib.hid hz
  have HKN := Lib.hid (known_any p w1)
  rw [hk] at HKN
  have HI := Lib.hid (arg_info (AR.zero 0))
  have HU := Lib.hid (AR.one (AR.zero 0))
  clear hk hK e1 hz
  go_enter Try.func20, Try.ntmps20
  go_wp2_with fail
  refine HKN.out.mono ?_
  rintro e w2 ⟨rfl, e2⟩
  have HZ2 := Lib.hid (e2.heap HZ1.out)
  have HG := Lib.hid (setRow_heap w2 zb _ (AR.zero 0).cs _ _ HZ2.out)
  have EG := Lib.hid (below_setRow (E1.out.trans e2) (by omega : w.heap.size ≤ zb) (AR.zero 0).cs)
  clear e2
  go_wp2_with (first | (with_reducible refine wpList_store_row rfl 26 (.tmp 4) (.tmp 11) rfl zb _ rfl rfl _ _ HZ2.out HI.out rfl HU.out ?_) | fail)
  refine bodyPost_ret (results_cell_tmp2 rfl _ _ zb _ _ (0, 0) _ rfl HG.out Try.underlying26 rfl HI.out) rfl ?_
  obtain ⟨g1, g2, g3⟩ := HA.out
  exact ⟨none, 0, 0, by rw [g1, g3]; rfl, by rw [g2]; exact Sees.nil _, EG.out⟩
set_option maxRecDepth 20000 in
set_option maxHeartbeats 4000000 in
theorem cread_yes (p : Int) (A : Option Addr) (n c : Nat) (b : List UInt8) (w : World) (hs : Sees w A n c (bs b)) (hn : n ≤ 1000000) (hk : kn p = true) :
    Calls Try.prog 20 #[.int .i64 p, .slice A n c] w (RdRes p b w) := by
  have hbl : b.length = n := by have h9 := hs.len; rwa [bs_length] at h9
  have hK : rdK p b = kp (rdS p b).k (rend (rdS p b).e (rdS p b).l.length) := by unfold rdK; rw [hk]; rfl
  have HK := Lib.hid hK
  obtain ⟨zb, hzb⟩ : ∃ zb, w.heap.size = zb := ⟨_, rfl⟩
  obtain ⟨w1, hw1⟩ : ∃ w1, w.alloc (.cells #[.int .i64 0, .int .i64 0, .int .i64 0, .int .i64 0, .int .i64 0, .int .i64 0, .int .i64 0, .int .i64 0, .int .i64 0, .string ⟨#[]⟩, .string ⟨#[]⟩, .slice none 0 0] 26) = w1 := ⟨_, rfl⟩
  have e1 : Ext w w1 := by rw [← hw1]; exact (Ext.refl w).alloc _
  have hz : w1.heap[zb]? = some (.cells #[.int .i64 0, .int .i64 0, .int .i64 0, .int .i64 0, .int .i64 0, .int .i64 0, .int .i64 0, .int .i64 0, .int .i64 0, .string ⟨#[]⟩, .string ⟨#[]⟩, .slice none 0 0] 26 (0, 0)) := by rw [← hw1, ← hzb]; exact heap_alloc_new w _
  have E1 := Lib.hid e1
  have HZ1 := Lib.hid hz
  have HKN := Lib.hid (known_any p w1)
  rw [hk] at HKN
  have HI := Lib.hid (fun b : AR => arg_info b)
  have HU := Lib.hid (fun b : AR => AR.one b)
  have HSB := Lib.hid (hs.ext e1)
  have HBL := Lib.hid hbl
  have HN := Lib.hid hn
  clear hk hK e1 hz hs hbl hn
  go_enter Try.func20, Try.ntmps20
  go_wp2_with fail
  refine HKN.out.mono ?_
  rintro e w2 ⟨rfl, e2⟩
  have E2 := Lib.hid (E1.out.trans e2)
  have HZ2 := Lib.hid (e2.heap HZ1.out)
  have HSB2 := Lib.hid (HSB.out.ext e2)
  clear e2
  go_wp2_with fail
  refine (read_any A n c b _ HSB2.out (by have := HN.out; omega)).mono ?_
  rintro e w3 ⟨g, v, rfl, hg0, hg1, hg2, e3⟩
  have hrd : Rdr w3 g 0 b := Rdr.of_read hg1 hg2
  have hgl : g < w3.heap.size := (Array.getElem?_eq_some_iff.1 hg1).1
  obtain ⟨hb, hhb⟩ : ∃ hb, w3.heap.size = hb := ⟨_, rfl⟩
  obtain ⟨w4, hw4⟩ : ∃ w4, w3.alloc (.cells #[.pointer (some ⟨g, 0, none⟩), .int .i64 0] 68) = w4 := ⟨_, rfl⟩
  have e4 : Ext w3 w4 := by rw [← hw4]; exact (Ext.refl w3).alloc _
  have h4 : w4.heap[hb]? = some (.cells #[.pointer (some ⟨g, 0, none⟩), .int .i64 0] 68 (0, 0)) := by rw [← hw4, ← hhb]; exact heap_alloc_new w3 _
  obtain ⟨fb, hfb⟩ : ∃ fb, w4.heap.size = fb := ⟨_, rfl⟩
  obtain ⟨w5, hw5⟩ : ∃ w5, w4.alloc (.cells #[.int .i64 p, .int .i64 0, .int .i64 0, .int .i64 0, .int .i64 0, .int .i64 0, .int .i64 0, .int .i64 0, .int .i64 0, .string ⟨#[]⟩, .string ⟨#[]⟩, .slice none 0 0, .iface 64 (.pointer (some ⟨hb, 0, none⟩))] 59) = w5 := ⟨_, rfl⟩
  have e5 : Ext w4 w5 := by rw [← hw5]; exact (Ext.refl w4).alloc _
  have h5 : w5.heap[fb]? = some (.cells (((AR.zero p).wd none 0 0).fr hb) 59 (0, 0)) := by rw [← hw5, ← hfb]; exact heap_alloc_new w4 _
  have hhl : hb < w4.heap.size := (Array.getElem?_eq_some_iff.1 h4).1
  have hfl : fb < w5.heap.size := (Array.getElem?_eq_some_iff.1 h5).1
  have hz2 : zb < w2.heap.size := (Array.getElem?_eq_some_iff.1 HZ2.out).1
  have hst0 : RdS w5 fb hb g ⟨AR.zero p, [], 0, 0, b⟩ := ⟨by have h1 := HBL.out; have h2 := HN.out; show b.length ≤ _; omega, none, 0, 0,
    { fr := h5, nb := fun i x h => by have hm := Array.mem_of_getElem? h; simp [AR.fr] at hm
      hd := e5.heap h4, rd := hrd.ext (e4.trans e5), da := Sees.nil _, n1 := by omega, n2 := by omega, n3 := by omega }⟩
  have HPASS := Lib.hid (pass_gen fb p w5 (S3 fb hb g) (fun k w' => RdS w' fb hb g (psR ⟨AR.zero p, [], 0, 0, b⟩ ((fl p).take k))) ((cell_of_row w5 fb 0 _ _ _ h5).trans rfl) (fun k hk => by
      have := e4.size; have := e5.size
      rcases hk with rfl | rfl | rfl <;> omega)
    (fun w' he => hst0.ext he)
    (fun k x w9 hx hst => by
      have hkl : k < (fl p).length := (List.getElem?_eq_some_iff.1 hx).1
      have hgl : (fl p)[k] = x := (List.getElem?_eq_some_iff.1 hx).2
      have e9 : psR ⟨AR.zero p, [], 0, 0, b⟩ ((fl p).take (k + 1)) = stR (psR ⟨AR.zero p, [], 0, 0, b⟩ ((fl p).take k)) x := by
        unfold psR
        rw [List.take_succ_eq_append_getElem hkl, hgl, List.foldl_append]
        rfl
      rw [e9]
      exact rds_step fb hb g _ x w9 ((fl_le p).2 x (List.mem_of_getElem? hx)) hst))
  have HZ5 := Lib.hid ((e3.trans (e4.trans e5)).heap HZ2.out)
  have E5 := Lib.hid (E2.out.trans (e3.trans (e4.trans e5)))
  have HNE : Hid (¬ zb = fb ∧ ¬ zb = hb ∧ ¬ zb = g ∧ w.heap.size ≤ zb ∧ ∀ i, S3 fb hb g i → w.heap.size ≤ i) := Lib.hid (by
    have h1 := E2.out.size
    have h3 := e3.size
    have h4' := e4.size
    exact ⟨by omega, by omega, by omega, by omega, fun i hi => by rcases hi with rfl | rfl | rfl <;> omega⟩)
  clear e3 e4 e5 h4 h5 hhl hfl hz2 hst0 hg0 hg1 hg2 hrd hgl
  go_wp2_with fail
  refine HPASS.out.mono ?_
  rintro e w6 ⟨rfl, hst, on⟩
  rw [List.take_length] at hst
  change RdS w6 fb hb g (rdS p b) at hst
  obtain ⟨_, A6, n6, c6, hr6⟩ := hst
  have HR6 := Lib.hid hr6
  have HZ6 := Lib.hid (on.heap HZ5.out (fun e => by obtain ⟨g1, g2, g3, _, _⟩ := HNE.out; rcases e with e | e | e <;> contradiction))
  have E6 := Lib.hid (on.ext E5.out HNE.out.2.2.2.2)
  have q6 := cell_of_row w6 hb 0 _ _ _ hr6.hd
  simp at q6
  clear hr6 on
  go_wp2_with fail
  refine (end_any g _ _ w6 HR6.out.rd).mono ?_
  rintro e _ ⟨rfl, rfl⟩
  go_wp2_with fail
  refine (keep_any fb hb g _ _ _ _ _ _ _ _ w6 _ HR6.out).mono ?_
  rintro e w7 ⟨rfl, hr7, on7⟩
  rw [← HK.out] at hr7
  have HR7 := Lib.hid hr7
  have HZ7 := Lib.hid (on7.heap HZ6.out (fun e => by obtain ⟨g1, g2, g3, _, _⟩ := HNE.out; rcases e with e | e | e <;> contradiction))
  have E7 := Lib.hid (on7.ext E6.out HNE.out.2.2.2.2)
  have q7 := cell_of_row w7 hb 1 _ _ _ hr7.hd
  simp at q7
  obtain ⟨K, hK0⟩ : ∃ K, rdK p b = K := ⟨_, rfl⟩
  rw [hK0] at q7
  have HK0 := Lib.hid hK0
  clear hr7 on7 hK0
  by_cases hz : K = 0
  · subst hz
    have HLD : Hid (∀ j v, ((rdS p b).a.wd A6 n6 c6).cs[j]? = some v → (((rdS p b).a.wd A6 n6 c6).fr hb)[0 + j]? = some v) := Lib.hid (fun j v h => by
      have hj : j < 12 := (Array.getElem?_eq_some_iff.1 h).1
      rw [Nat.zero_add]
      have e9 : ((rdS p b).a.wd A6 n6 c6).fr hb = ((rdS p b).a.wd A6 n6 c6).cs.push (.iface 64 (.pointer (some ⟨hb, 0, none⟩))) := rfl
      rw [e9, Array.getElem?_push_lt (show j < ((rdS p b).a.wd A6 n6 c6).cs.size from hj)]
      rw [Array.getElem?_eq_getElem (show j < ((rdS p b).a.wd A6 n6 c6).cs.size from hj)] at h
      exact h)
    have HF7 := Lib.hid HR7.out.fr
    have HG := Lib.hid (setRow_heap w7 zb _ ((rdS p b).a.wd A6 n6 c6).cs _ _ HZ7.out)
    have EG := Lib.hid (below_setRow E7.out HNE.out.2.2.2.1 ((rdS p b).a.wd A6 n6 c6).cs)
    have SG : Hid (Sees (w7.setRow zb ((rdS p b).a.wd A6 n6 c6).cs) A6 n6 c6 (bs (rdS p b).d)) := Lib.hid (sees_offB HR7.out.da HZ7.out (fun i x h => by have hm := Array.mem_of_getElem? h; simp at hm) ⟨rfl, rfl, rfl, by simp [World.setRow], fun i hi h1 h2 => setRow_other _ _ _ _ h1⟩)
    have HIx := Lib.hid (HI.out ((rdS p b).a.wd A6 n6 c6))
    have HUx := Lib.hid (HU.out ((rdS p b).a.wd A6 n6 c6))
    have HA : Hid (rdA p b = (rdS p b).a ∧ rdD p b = (rdS p b).d) := Lib.hid ⟨by unfold rdA; rw [if_pos HK0.out], by unfold rdD; rw [if_pos HK0.out]⟩
    go_wp2_with (first | (with_reducible refine wpList_load_sub rfl 26 (.tmp 43) rfl fb 0 rfl 59 _ _ _ _ HF7.out HLD.out Try.underlying26 rfl HIx.out ?_) | (with_reducible refine wpList_store_row rfl 26 (.tmp 4) (.tmp 44) rfl zb _ rfl rfl _ _ HZ7.out HIx.out rfl HUx.out ?_) | fail)
    refine bodyPost_ret (results_cell_tmp2 rfl _ _ zb _ _ (0, 0) _ rfl HG.out Try.underlying26 rfl HIx.out) rfl ?_
    exact ⟨A6, n6, c6, by rw [HA.out.1, HK0.out]; rfl, by rw [HA.out.2]; exact SG.out, EG.out⟩
  · have HA : Hid (rdA p b = AR.zero 0 ∧ rdD p b = []) := Lib.hid ⟨by unfold rdA; rw [if_neg (by rw [HK0.out]; exact hz)], by unfold rdD; rw [if_neg (by rw [HK0.out]; exact hz)]⟩
    have HG : Hid ((w7.drew.setRow zb (AR.zero 0).cs).heap[zb]? = _) := Lib.hid (setRow_heap w7.drew zb _ (AR.zero 0).cs _ _ HZ7.out)
    have EG : Hid (Ext w (w7.drew.setRow zb (AR.zero 0).cs)) := Lib.hid (below_setRow E7.out.drew HNE.out.2.2.2.1 (AR.zero 0).cs)
    have HS0 : Hid ((fun v : World => v.cell? ⟨hb, 1, none⟩ = some (.int .i64 K)) w7.drew) := Lib.hid q7
    have HIz := Lib.hid (HI.out (AR.zero 0))
    have HUz := Lib.hid (HU.out (AR.zero 0))
    have HZ7d : Hid (w7.drew.heap[zb]? = _) := Lib.hid HZ7.out
    have HC8 : Hid ((w7.drew.setRow zb (AR.zero 0).cs).cell? ⟨hb, 1, none⟩ = some (.int .i64 K)) := Lib.hid ((World.cell?_of_block (setRow_other _ _ _ _ (fun e => HNE.out.2.1 e.symm))).trans HS0.out)
    go_wp2_with fail
    refine wp_region_plS (fun v : World => v.cell? ⟨hb, 1, none⟩ = some (.int .i64 K)) (.free 0 (.free 1 (.free 2 (.free 3 (.free 4 (.one 5 (.free 6 .nil))))))) (by kernel_rfl) (by kernel_rfl) (by kernel_rfl) (by kernel_rfl) ?_
    refine plS_val (v := .agg (AR.zero 0).cs) rfl rfl HS0.out (fun w' hw' => exec_build _ _ rfl _ (by kernel_rfl)) ?_; simp only [Act.put, List.setIfInBounds_toArray, List.set_cons_zero, List.set_cons_succ]
    refine plS_val (v := ?_) rfl rfl HS0.out (fun w' hw' => ?_) ?_; rotate_left; (· skip; go_simp; try with_reducible rfl); simp only [Act.put, List.setIfInBounds_toArray, List.set_cons_zero, List.set_cons_succ]
    refine plS_val (v := ?_) rfl rfl HS0.out (fun w' hw' => ?_) ?_; rotate_left; (· skip; go_simp; try with_reducible rfl); simp only [Act.put, List.setIfInBounds_toArray, List.set_cons_zero, List.set_cons_succ]
    refine plS_val (v := ?_) rfl rfl HS0.out (fun w' hw' => ?_) ?_; rotate_left; (· skip; go_simp; try with_reducible rfl); simp only [Act.put, List.setIfInBounds_toArray, List.set_cons_zero, List.set_cons_succ]
    refine plS_val (v := .int .i64 K) rfl rfl HS0.out (fun w' hw' => by have q : w'.cell? ⟨hb, 1, none⟩ = some (.int .i64 K) := hw'; go_simp; try rfl) ?_; simp only [Act.put, List.setIfInBounds_toArray, List.set_cons_zero, List.set_cons_succ]
    refine plS_void (w' := w7.drew.setRow zb (AR.zero 0).cs) rfl rfl (exec_storeRow 26 (.tmp 4) (.tmp 36) rfl zb _ rfl rfl 26 _ HZ7d.out HIz.out rfl HUz.out) HC8.out ?_
    refine plS_val (v := ?_) rfl rfl HC8.out (fun w' hw' => ?_) ?_; rotate_left; (· skip; go_simp; try with_reducible rfl); simp only [Act.put, List.setIfInBounds_toArray, List.set_cons_zero, List.set_cons_succ]
    refine plS_done ?_
    go_wp2_with fail
    refine bodyPost_ret (results_cell_tmp2 rfl _ _ zb _ _ (0, 0) _ rfl HG.out Try.underlying26 rfl HIz.out) rfl ?_
    exact ⟨none, 0, 0, by rw [HA.out.1, HK0.out]; rfl, by rw [HA.out.2]; exact Sees.nil _, EG.out⟩
theorem cread_any (p : Int) (A : Option Addr) (n c : Nat) (b : List UInt8) (w : World) (hs : Sees w A n c (bs b)) (hn : n ≤ 1000000) :
    Calls Try.prog 20 #[.int .i64 p, .slice A n c] w (RdRes p b w) := by
  rcases Bool.eq_false_or_eq_true (kn p) with h | h
  · exact cread_yes p A n c b w hs hn h
  · exact cread_no p A n c b w h
end Go.Proofs.Ytpjigdfllbhknaa
