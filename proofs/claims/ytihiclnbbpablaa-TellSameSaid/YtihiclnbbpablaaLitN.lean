/-
  Both readers of layer 2: texts, data, the error, the end.
-/
import Derived.Test.YtihiclnbbpablaaLitM
namespace Go.Proofs.Ytihiclnbbpablaa
open Go Go.RowKit
set_option linter.unusedVariables false
set_option linter.unusedSimpArgs false
def txT (l : List UInt8) : List UInt8 := tkB (nvB 2 l) (drB 2 l)
def txE (e : Int) (l : List UInt8) : Int := eeB (eeB e 2 l) (nvB 2 l) (drB 2 l)
def txL (l : List UInt8) : List UInt8 := drB (nvB 2 l) (drB 2 l)
/-- Behind the length of data: too many? -/
def ovL (most : Int) (l : List UInt8) : List UInt8 := if most < (nvB 4 l : Int) then [] else drB 4 l
def ovE (e most : Int) (l : List UInt8) : Int := if most < (nvB 4 l : Int) then ferrL (eeB e 4 l) 4 else eeB e 4 l
def daT (most : Int) (l : List UInt8) : List UInt8 := tkB (nvB 4 l) (ovL most l)
def daE (e most : Int) (l : List UInt8) : Int := eeB (ovE e most l) (nvB 4 l) (ovL most l)
def daL (most : Int) (l : List UInt8) : List UInt8 := drB (nvB 4 l) (ovL most l)
theorem txL_le (l : List UInt8) : (txL l).length ≤ l.length := Nat.le_trans (drB_le _ _) (drB_le _ _)
theorem ovL_le (most : Int) (l : List UInt8) : (ovL most l).length ≤ l.length := by
  unfold ovL
  split
  · simp
  · exact drB_le _ _
theorem daL_le (most : Int) (l : List UInt8) : (daL most l).length ≤ l.length := Nat.le_trans (drB_le _ _) (ovL_le _ _)
theorem daT_le (most : Int) (l : List UInt8) : (daT most l).length ≤ l.length := Nat.le_trans (tkB_le _ _) (ovL_le _ _)
theorem ltextR_any (g : Nat) (e : Int) (l : List UInt8) (w : World) (h : Rdl w g e l) :
    Calls Try.prog 76 #[.pointer (some ⟨g, 0, none⟩)] w fun x w' => x = .returned (.string ⟨(txT l).toArray⟩) ∧ Rdl w' g (txE e l) (txL l) ∧ Onl g w w' := by
  have H1 := Lib.hid (lrd_u16 g e l w h)
  have hb := nvB_lt 2 l
  have hv1 : txT l = tkB (nvB 2 l) (drB 2 l) := rfl
  have hv2 : txE e l = eeB (eeB e 2 l) (nvB 2 l) (drB 2 l) := rfl
  have hv3 : txL l = drB (nvB 2 l) (drB 2 l) := rfl
  rw [hv1, hv2, hv3]
  clear h hv1 hv2 hv3
  generalize nvB 2 l = n at *
  generalize drB 2 l = l1 at *
  generalize eeB e 2 l = e1 at *
  go_enter Try.func76, Try.ntmps76
  go_wp2_with fail
  refine (Calls.mono H1.out ?_)
  rintro x w1 ⟨rfl, hr1, ho1⟩
  have H2 := Lib.hid (ltake_any g n e1 l1 w1 hr1)
  clear hr1 H1
  go_wp2_with fail
  refine (Calls.mono H2.out ?_)
  rintro x w2 ⟨A, m, c, rfl, hs2, hr2, ho2⟩
  have hst := str_of hs2
  clear H2 hs2
  go_wp2
  go_ret
  exact ⟨rfl, hr2, ho1.trans ho2⟩
theorem rtextR_any (g : Nat) (e : Int) (l : List UInt8) (w : World) (h : Rfl w g e l) :
    Calls Try.prog 82 #[.pointer (some ⟨g, 0, none⟩)] w fun x w' => x = .returned (.string ⟨(txT l).toArray⟩) ∧ Rfl w' g (txE e l) (txL l) ∧ Onl g w w' := by
  have H1 := Lib.hid (rnum_any g 2 e l w h (by omega))
  have hb := nvB_lt 2 l
  have hv1 : txT l = tkB (nvB 2 l) (drB 2 l) := rfl
  have hv2 : txE e l = eeB (eeB e 2 l) (nvB 2 l) (drB 2 l) := rfl
  have hv3 : txL l = drB (nvB 2 l) (drB 2 l) := rfl
  rw [hv1, hv2, hv3]
  clear h hv1 hv2 hv3
  generalize nvB 2 l = n at *
  generalize drB 2 l = l1 at *
  generalize eeB e 2 l = e1 at *
  go_enter Try.func82, Try.ntmps82
  go_wp2_with fail
  refine (Calls.mono H1.out ?_)
  rintro x w1 ⟨rfl, hr1, ho1⟩
  have H2 := Lib.hid (rbytes_any g n e1 l1 w1 hr1)
  clear hr1 H1
  go_wp2_with fail
  refine (Calls.mono H2.out ?_)
  rintro x w2 ⟨A, m, c, rfl, hs2, hr2, ho2⟩
  have hst := str_of hs2
  clear H2 hs2
  go_wp2
  go_ret
  exact ⟨rfl, hr2, ho1.trans ho2⟩

set_option maxRecDepth 20000 in
theorem ldataR_any (g : Nat) (e most : Int) (l : List UInt8) (w : World) (h : Rdl w g e l) (hl : l.length ≤ 4194304) :
    Calls Try.prog 79 #[.pointer (some ⟨g, 0, none⟩), .int .i64 most] w fun x w' => ∃ A n c, x = .returned (.slice A n c) ∧ Sees w' A n c (bs (daT most l)) ∧ Rdl w' g (daE e most l) (daL most l) ∧ Onl g w w' := by
  have H1 := Lib.hid (lrd_u32 g e l w h)
  have hb := nvB_lt 4 l
  have hbig : (256 : Nat) ^ 4 = 4294967296 := by decide
  rw [hbig] at hb
  have HV1 := Lib.hid (fun (h : most < (nvB 4 l : Int)) => (⟨if_pos h, if_pos h⟩ : ovL most l = [] ∧ ovE e most l = ferrL (eeB e 4 l) 4))
  have HV2 := Lib.hid (fun (h : ¬ most < (nvB 4 l : Int)) => (⟨if_neg h, if_neg h⟩ : ovL most l = drB 4 l ∧ ovE e most l = eeB e 4 l))
  have hd1 : daT most l = tkB (nvB 4 l) (ovL most l) := rfl
  have hd2 : daE e most l = eeB (ovE e most l) (nvB 4 l) (ovL most l) := rfl
  have hd3 : daL most l = drB (nvB 4 l) (ovL most l) := rfl
  have hdl := ovL_le most l
  rw [hd1, hd2, hd3]
  clear h hd1 hd2 hd3 hbig
  generalize nvB 4 l = n at *
  generalize drB 4 l = l1 at *
  generalize eeB e 4 l = e1 at *
  generalize ovL most l = l2 at *
  generalize ovE e most l = e2 at *
  go_enter Try.func79, Try.ntmps79
  go_wp2_with fail
  refine (Calls.mono H1.out ?_)
  rintro x w1 ⟨rfl, hr1, ho1⟩
  clear H1
  by_cases hov : most < (n : Int)
  · obtain ⟨rfl, rfl⟩ := HV1.out (by omega)
    have H2 := Lib.hid (lfail_any g e1 4 l1 w1 hr1)
    clear hr1 HV1 HV2
    go_wp2_with fail
    refine (Calls.mono H2.out ?_)
    rintro x w2 ⟨rfl, hr2, ho2⟩
    have H3 := Lib.hid (ltake_any g n _ [] w2 hr2)
    clear hr2 H2
    go_wp2_with fail
    refine (Calls.mono H3.out ?_)
    rintro x w3 ⟨A, m, c, rfl, hs3, hr3, ho3⟩
    have hln := hs3.len
    rw [bs_length] at hln
    have hle := tkB_le n []
    have H4 := Lib.hid (clone_any A m c _ w3 hs3 (by have h00 : ([] : List UInt8).length = 0 := rfl; omega))
    clear H3 hs3
    go_wp2_with fail
    refine (Calls.mono H4.out ?_)
    rintro x w4 ⟨v4, rfl, own4, e4⟩
    obtain ⟨A4, c4, rfl, see4⟩ := Sees.of_own own4
    clear H4 own4
    go_wp2
    go_ret
    exact ⟨_, _, _, rfl, see4, hr3.ext e4, ((ho1.trans ho2).trans ho3).trans (Onl.of_ext e4)⟩
  · obtain ⟨rfl, rfl⟩ := HV2.out (by omega)
    have H3 := Lib.hid (ltake_any g n _ _ w1 hr1)
    clear hr1 HV1 HV2
    go_wp2_with fail
    refine (Calls.mono H3.out ?_)
    rintro x w3 ⟨A, m, c, rfl, hs3, hr3, ho3⟩
    have hln := hs3.len
    rw [bs_length] at hln
    have hle := tkB_le n l2
    have H4 := Lib.hid (clone_any A m c _ w3 hs3 (by omega))
    clear H3 hs3
    go_wp2_with fail
    refine (Calls.mono H4.out ?_)
    rintro x w4 ⟨v4, rfl, own4, e4⟩
    obtain ⟨A4, c4, rfl, see4⟩ := Sees.of_own own4
    clear H4 own4
    go_wp2
    go_ret
    exact ⟨_, _, _, rfl, see4, hr3.ext e4, (ho1.trans ho3).trans (Onl.of_ext e4)⟩
set_option maxRecDepth 20000 in
theorem rdataR_any (g : Nat) (e most : Int) (l : List UInt8) (w : World) (h : Rfl w g e l) :
    Calls Try.prog 84 #[.pointer (some ⟨g, 0, none⟩), .int .i64 most] w fun x w' => ∃ A n c, x = .returned (.slice A n c) ∧ Sees w' A n c (bs (daT most l)) ∧ Rfl w' g (daE e most l) (daL most l) ∧ Onl g w w' := by
  have H1 := Lib.hid (rnum_any g 4 e l w h (by omega))
  have hb := nvB_lt 4 l
  have hbig : (256 : Nat) ^ 4 = 4294967296 := by decide
  rw [hbig] at hb
  have HV1 := Lib.hid (fun (h : most < (nvB 4 l : Int)) => (⟨if_pos h, if_pos h⟩ : ovL most l = [] ∧ ovE e most l = ferrL (eeB e 4 l) 4))
  have HV2 := Lib.hid (fun (h : ¬ most < (nvB 4 l : Int)) => (⟨if_neg h, if_neg h⟩ : ovL most l = drB 4 l ∧ ovE e most l = eeB e 4 l))
  have hd1 : daT most l = tkB (nvB 4 l) (ovL most l) := rfl
  have hd2 : daE e most l = eeB (ovE e most l) (nvB 4 l) (ovL most l) := rfl
  have hd3 : daL most l = drB (nvB 4 l) (ovL most l) := rfl
  rw [hd1, hd2, hd3]
  clear h hd1 hd2 hd3 hbig
  generalize nvB 4 l = n at *
  generalize drB 4 l = l1 at *
  generalize eeB e 4 l = e1 at *
  generalize ovL most l = l2 at *
  generalize ovE e most l = e2 at *
  go_enter Try.func84, Try.ntmps84
  go_wp2_with fail
  refine (Calls.mono H1.out ?_)
  rintro x w1 ⟨rfl, hr1, ho1⟩
  clear H1
  obtain ⟨hc, hf⟩ := hr1.err
  by_cases hov : most < (n : Int)
  · obtain ⟨rfl, rfl⟩ := HV1.out (by omega)
    by_cases he : e1 = 0
    · subst he
      have HF := Lib.hid (hr1.fail 4 (by decide))
      clear hr1 HV1 HV2
      have ho2 : Onl g w1 (w1.setCell ⟨g, 2, none⟩ (.int .i64 4)) := Onl.set w1 2 _
      have H3 := Lib.hid (rbytes_any g n _ [] _ HF.out)
      go_wp2_with fail
      refine (Calls.mono H3.out ?_)
      rintro x w3 ⟨A, m, c, rfl, hs3, hr3, ho3⟩
      clear H3 HF
      go_wp2
      go_ret
      have hfe : ferrL 0 4 = 4 := rfl
      exact ⟨_, _, _, rfl, hs3, by rw [hfe]; exact hr3, (ho1.trans ho2).trans ho3⟩
    · obtain rfl := hr1.emp he
      have he' : (e1 == 0) = false := by simpa using he
      have H3 := Lib.hid (rbytes_any g n _ _ _ hr1)
      clear hr1 HV1 HV2
      go_wp2_with fail
      refine (Calls.mono H3.out ?_)
      rintro x w3 ⟨A, m, c, rfl, hs3, hr3, ho3⟩
      clear H3
      go_wp2
      go_ret
      exact ⟨_, _, _, rfl, hs3, by rw [ferrL_ne he]; exact hr3, ho1.trans ho3⟩
  · obtain ⟨rfl, rfl⟩ := HV2.out (by omega)
    have H3 := Lib.hid (rbytes_any g n _ _ _ hr1)
    clear hr1 HV1 HV2
    by_cases he : (e2 == 0) = true
    · have he0 : e2 = 0 := by simpa using he
      subst he0
      clear he
      go_wp2_with fail
      refine (Calls.mono H3.out ?_)
      rintro x w3 ⟨A, m, c, rfl, hs3, hr3, ho3⟩
      clear H3
      go_wp2
      go_ret
      exact ⟨_, _, _, rfl, hs3, hr3, ho1.trans ho3⟩
    · have he' : (e2 == 0) = false := by simpa using he
      clear he
      go_wp2_with fail
      refine (Calls.mono H3.out ?_)
      rintro x w3 ⟨A, m, c, rfl, hs3, hr3, ho3⟩
      clear H3
      go_wp2
      go_ret
      exact ⟨_, _, _, rfl, hs3, hr3, ho1.trans ho3⟩
def rendL (e : Int) (n : Nat) : Int := if n = 0 then e else 2
set_option maxRecDepth 20000 in
theorem lendR_any (g : Nat) (e : Int) (l : List UInt8) (w : World) (h : Rdl w g e l) :
    Calls Try.prog 50 #[.pointer (some ⟨g, 0, none⟩)] w fun x w' => x = .returned (.int .i64 (rendL e l.length)) ∧ w = w' := by
  obtain ⟨A, n, c, hb, hs⟩ := h
  have hn : n = l.length := by rw [← hs.1, bs_length]
  have hm := hs.max
  have hle := hs.le
  unfold maxLen at hm
  have c0 := cell_of_row w g 0 _ _ _ hb
  have c1 := cell_of_row w g 1 _ _ _ hb
  simp at c0 c1
  clear hs hb
  rw [← hn]
  by_cases h0 : n = 0
  · subst h0
    have e1 : rendL e 0 = e := rfl
    rw [e1]
    clear hn e1 hle
    go_enter Try.func50, Try.ntmps50
    go_wp2
    go_ret
    exact ⟨rfl, rfl⟩
  · have e1 : rendL e n = 2 := if_neg h0
    rw [e1]
    have hp : 0 < n := by omega
    clear h0 e1 hn
    go_enter Try.func50, Try.ntmps50
    go_wp2
    go_ret
    exact ⟨rfl, rfl⟩
end Go.Proofs.Ytihiclnbbpablaa
