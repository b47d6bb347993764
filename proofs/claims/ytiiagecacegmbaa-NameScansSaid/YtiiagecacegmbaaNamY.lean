/-
  Layer 9: a print is scanned, on the document's side.
-/
import Derived.Test.YtiiagecacegmbaaNamX
namespace Go.Proofs.Ytiiagecacegmbaa
open Go Go.RowKit
set_option linter.unusedVariables false
set_option linter.unusedSimpArgs false
theorem byteB_uniq (c d : UInt8) (r : List UInt8) (hc : byteB c <+: r) (hd : byteB d <+: r) : c = d := by
  obtain ⟨x, hx⟩ := hc
  obtain ⟨y, hy⟩ := hd
  have h1 := dec_byte c x
  have h2 := dec_byte d y
  rw [hx] at h1
  rw [hy] at h2
  rw [h1] at h2
  injection h2
/-- Does a text begin with another one? -/
def begB (p r : List UInt8) : Bool := decide (p <+: r)
theorem beg_take (p r : List UInt8) (h : p.length ≤ r.length) : (r.take p.length == p) = begB p r := by
  unfold begB
  by_cases hp : p <+: r
  · obtain ⟨x, rfl⟩ := hp
    simp
  · have : ¬ r.take p.length = p := fun e => hp ⟨r.drop p.length, by
      have := List.take_append_drop p.length r
      rw [e] at this
      exact this⟩
    simp [hp, this]
theorem beg_short (p r : List UInt8) (h : r.length < p.length) : begB p r = false := by
  unfold begB
  rw [decide_eq_false_iff_not]
  intro hp
  have := hp.length_le
  omega
theorem mid_str (pre p r : List UInt8) (k : Nat) (hk : k = pre.length) (n : Nat) (hn : n = p.length) : (ByteArray.mk (pre ++ r).toArray).extract k (k + n) = ⟨(r.take n).toArray⟩ := by
  apply ByteArray.ext
  subst hk hn
  simp
theorem u8_wrap (k : Nat) (h : k < 256) : IntKind.u8.wrap (k : Int) = (k : Int) := by
  show (k : Int) % 256 = k
  omega
theorem flat_ge : ∀ t : List UInt8, t.length ≤ (t.flatMap byteB).length
  | [] => by simp
  | c :: t => by
    have := flat_ge t
    have := byteB_pos c
    rw [List.flatMap_cons, List.length_append, List.length_cons]
    omega
/-- What the inner loop has found: none of the first k begins the rest; or one. -/
def Fnd (s : List UInt8) (t r : List UInt8) (f : Bool) (k : Nat) (out i : Value) : Prop :=
  (f = false ∧ k ≤ 256 ∧ out = .string ⟨t.toArray⟩ ∧ i = .int .i64 ((t.flatMap byteB).length : Int) ∧ ∀ c : UInt8, c.toNat < k → begB (byteB c) r = false) ∨
  (f = true ∧ k ≤ 256 ∧ ∃ (d : UInt8) (r' : List UInt8), r = byteB d ++ r' ∧ out = .string ⟨(t ++ [d]).toArray⟩ ∧ i = .int .i64 (((t ++ [d]).flatMap byteB).length : Int))
set_option maxRecDepth 20000 in
set_option maxHeartbeats 2000000 in
theorem rscan_any (s : List UInt8) (w : World) (hs : s.length ≤ 100000) :
    Calls Try.prog 37 #[.string ⟨s.toArray⟩] w fun e w' => e = .returned (.tuple #[.string ⟨(scanT s).toArray⟩, .int .i64 (scanE s)]) ∧ Ext w w' := by
  have hsz : (ByteArray.mk s.toArray).size = s.length := by simp [ByteArray.size]
  by_cases h1 : s = [45]
  · subst h1
    rw [scan_45.1, scan_45.2]
    go_enter Try.func37, Try.ntmps37
    go_wp2
    go_ret2
    exact ⟨rfl, Ext.refl _⟩
  by_cases h2 : s = [37, 50, 100]
  · subst h2
    rw [scan_2d.1, scan_2d.2]
    go_enter Try.func37, Try.ntmps37
    go_wp2
    go_ret2
    exact ⟨rfl, Ext.refl _⟩
  by_cases h0 : s = []
  · subst h0
    rw [scan_nil.1, scan_nil.2]
    go_enter Try.func37, Try.ntmps37
    go_wp2
    go_ret2
    exact ⟨rfl, Ext.refl _⟩
  have hq1 : (s == [45]) = false := by simpa using h1
  have hq2 : (s == [37, 50, 100]) = false := by simpa using h2
  have hq0 : (s == []) = false := by simpa using h0
  have H0 := Lib.hid h0
  have H1 := Lib.hid h1
  have H2 := Lib.hid h2
  clear h0 h1 h2
  go_enter Try.func37, Try.ntmps37
  go_wp2_with fail
  go_loopw [4, 5] (fun out i wr => ∃ t r : List UInt8, s = t.flatMap byteB ++ r ∧ out = .string ⟨t.toArray⟩ ∧ i = .int .i64 ((t.flatMap byteB).length : Int) ∧ Ext w wr) (fun _ i _ => s.length - (intOf i).toNat)
  case atStart => exact ⟨[], s, rfl, rfl, rfl, Ext.refl _⟩
  case round =>
    obtain ⟨t, r, hst, rfl, rfl, ext⟩ := hrel
    have hlen : s.length = (t.flatMap byteB).length + r.length := by rw [hst, List.length_append]
    have HST := Lib.hid hst
    have HLEN := Lib.hid hlen
    by_cases hr : r = []
    · subst hr
      have hse : (t.flatMap byteB).length = s.length := by simpa using hlen.symm
      have hfin := scan_ok t s (by rw [hst, List.append_nil]) H0.out H1.out
      rw [hse]
      have HF := Lib.hid hfin
      clear hst hlen hfin hse
      go_wp2
      go_ret2
      exact ⟨by rw [HF.out.1, HF.out.2]; rfl, ext⟩
    · have hrl : 0 < r.length := List.length_pos_iff.2 hr
      have hil : (t.flatMap byteB).length < s.length := by omega
      have HR := Lib.hid hr
      generalize hI : (t.flatMap byteB).length = I at *
      have HI := Lib.hid hI
      clear hst hlen hr hI
      go_wp2_with fail
      go_loopw [4, 5, 6, 7] (fun out i f k wr' => ∃ (fb : Bool) (kn : Nat), f = .bool fb ∧ k = .int .i64 (kn : Int) ∧ Fnd s t r fb kn out i ∧ Ext w wr') (fun _ _ _ k _ => 256 - (intOf k).toNat)
      case atStart => exact ⟨false, 0, rfl, rfl, .inl ⟨rfl, by omega, rfl, by rw [HI.out], fun c h => absurd h (by omega)⟩, ext⟩
      case round =>
        obtain ⟨fb, kn, rfl, rfl, hf, ext'⟩ := hrel
        have EX := Lib.hid ext'
        rcases hf with ⟨rfl, hkn, rfl, rfl, hno⟩ | ⟨rfl, hkn, d, r', hrr, rfl, rfl⟩
        · rw [HI.out]
          have HNo := Lib.hid hno
          clear hno
          by_cases hk : kn < 256
          · obtain ⟨d, hd⟩ : ∃ d : UInt8, d = UInt8.ofNat kn := ⟨_, rfl⟩
            have hdn : d.toNat = kn := by rw [hd, UInt8.toNat_ofNat']; omega
            have hwr := u8_wrap kn hk
            have HB := Lib.hid (fun w => rbyte_any d w)
            rw [hdn] at HB
            have hpos := byteB_pos d
            have hsh := beg_short (byteB d) r
            have htk := beg_take (byteB d) r
            have hmid := mid_str (t.flatMap byteB) (byteB d) r I HI.out.symm (byteB d).length rfl
            rw [← HST.out] at hmid
            have HN2 : Hid (begB (byteB d) r = false → ∀ c : UInt8, c.toNat < kn + 1 → begB (byteB c) r = false) := Lib.hid fun hb c hc => by
              by_cases h : c.toNat < kn
              · exact HNo.out c h
              · have : c = d := UInt8.toNat_inj.1 (by omega)
                rw [this]; exact hb
            have HF2 : Hid (begB (byteB d) r = true → ∃ r', r = byteB d ++ r') := Lib.hid fun hb => by
              obtain ⟨x, hx⟩ := of_decide_eq_true hb
              exact ⟨x, hx.symm⟩
            have HFL : Hid (((t ++ [d]).flatMap byteB).length = I + (byteB d).length) := Lib.hid (by rw [List.flatMap_append, List.length_append, HI.out]; simp)
            have hpz : (ByteArray.mk (byteB d).toArray).size = (byteB d).length := by simp [ByteArray.size]
            have HSA := Lib.hid (str_add t [d])
            clear hd
            generalize hpd : byteB d = p at *
            have HPD := Lib.hid hpd
            clear hpd
            generalize begB p r = bb at *
            by_cases hpr : p.length ≤ r.length
            · have hq := htk hpr
              have hL := HLEN.out
              have hi1 : I + p.length ≤ s.length := by omega
              have hge : (p.length : Int) ≤ (s.length : Int) - (I : Int) := by omega
              clear hsh htk hL
              cases bb with
              | true =>
                obtain ⟨r', hr'⟩ := HF2.out rfl
                have HRR := Lib.hid hr'
                clear hr'
                have hqe := hq
                go_wp2_with fail
                refine (HB.out _).mono ?_
                rintro e w4 ⟨rfl, e4⟩
                have s2 := sees_new w4 5 #[.int .u8 (kn : Int)] (by simp [maxLen])
                have s2' : Sees (w4.alloc (.cells #[.int .u8 (kn : Int)] 5)) (some ⟨w4.heap.size, 0, none⟩) 1 1 (bs [d]) := by
                  rw [← hdn] at s2 ⊢
                  exact s2
                have hst := str_of s2'
                have htl : t.length ≤ I := by have := flat_ge t; have := HI.out; omega
                have htz : (ByteArray.mk t.toArray).size = t.length := by simp [ByteArray.size]
                have hdz : (ByteArray.mk [d].toArray).size = 1 := rfl
                have E5 := Lib.hid (((EX.out.trans e4)).alloc (.cells #[.int .u8 (kn : Int)] 5))
                clear s2 s2' e4
                go_wp2
                go_roundw
                case rel => exact ⟨true, kn + 1, rfl, by go_num, .inr ⟨rfl, by omega, d, r', by rw [HPD.out]; exact HRR.out, by rw [← HSA.out], by rw [HFL.out]; go_num⟩, E5.out⟩
                case measure => simp [intOf]; omega
              | false =>
                go_wp2_with fail
                refine (HB.out _).mono ?_
                rintro e w4 ⟨rfl, e4⟩
                have E5 := Lib.hid ((EX.out.trans e4))
                clear e4
                go_wp2
                go_roundw
                case rel => exact ⟨false, kn + 1, rfl, by go_num, .inl ⟨rfl, by omega, rfl, by rw [HI.out], HN2.out (by first | rfl | trivial)⟩, E5.out⟩
                case measure => simp [intOf]; omega
            · have hL := HLEN.out
              have hb := hsh (by omega)
              subst hb
              have hge : ¬ (p.length : Int) ≤ (s.length : Int) - (I : Int) := by omega
              have hge2 : decide ((p.length : Int) ≤ (s.length : Int) - (I : Int)) = false := by simpa using hge
              clear hsh htk hL hmid
              go_wp2_with fail
              refine (HB.out _).mono ?_
              rintro e w4 ⟨rfl, e4⟩
              have E5 := Lib.hid ((EX.out.trans e4))
              clear e4
              go_wp2
              go_roundw
              case rel => exact ⟨false, kn + 1, rfl, by go_num, .inl ⟨rfl, by omega, rfl, by rw [HI.out], HN2.out (by first | rfl | trivial)⟩, E5.out⟩
              case measure => simp [intOf]; omega
          · obtain rfl : kn = 256 := by omega
            have hfin := scan_none t r s HST.out HR.out (fun c hc => by
              have := HNo.out c c.toNat_lt
              unfold begB at this
              exact of_decide_eq_false this hc) H1.out H2.out
            have HF := Lib.hid hfin
            clear hfin
            go_wp2
            go_ret2
            exact ⟨by rw [HF.out.1, HF.out.2]; rfl, EX.out⟩
        · have HRR := Lib.hid hrr
          have hpd := byteB_pos d
          have HFL : Hid (((t ++ [d]).flatMap byteB).length = I + (byteB d).length) := Lib.hid (by rw [List.flatMap_append, List.length_append, HI.out]; simp)
          have HL2 : Hid (I + (byteB d).length + r'.length = s.length) := Lib.hid (by have := HLEN.out; rw [HRR.out, List.length_append] at this; omega)
          have HS2 : Hid (s = (t ++ [d]).flatMap byteB ++ r') := Lib.hid (by rw [HST.out, HRR.out, List.flatMap_append]; simp)
          clear hrr
          generalize hI2 : ((t ++ [d]).flatMap byteB).length = I2 at *
          have HI2 := Lib.hid hI2
          clear hI2
          by_cases hk : kn < 256
          · go_wp2
            go_roundw
            case rel => exact ⟨t ++ [d], r', HS2.out, rfl, by rw [HI2.out], EX.out⟩
            case measure => simp only [intOf]; have h1 := HFL.out; have h2 := HL2.out; simp; omega
          · go_wp2
            go_roundw
            case rel => exact ⟨t ++ [d], r', HS2.out, rfl, by rw [HI2.out], EX.out⟩
            case measure => simp only [intOf]; have h1 := HFL.out; have h2 := HL2.out; simp; omega
end Go.Proofs.Ytiiagecacegmbaa
