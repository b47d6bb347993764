/-
  Layer 5: all pieces of a pipe.
-/
import Derived.Test.YtjdcbmelladceaaPipF
namespace Go.Proofs.Ytjdcbmelladceaa
open Go Go.RowKit
set_option linter.unusedVariables false
set_option linter.unusedSimpArgs false
def cellN (w : World) (tb i : Nat) : Nat := match w.cell? ⟨tb, i, none⟩ with
  | some (.int _ x) => x.toNat
  | _ => 0
theorem Pip.cells {w : World} {F : Nat → Prop} {tb cb : Nat} {T : List (List UInt8)} {z : List Int} {at_ : Nat} (h : Pip w F tb cb T z at_) : cellN w tb 2 = T.flatten.length ∧ cellN w tb 4 = at_ := by
  obtain ⟨⟨A, n, c, buf, s, r, As, cs, h1, _⟩, _⟩ := h
  unfold cellN
  rw [cell_of_row w tb 2 _ _ _ h1, cell_of_row w tb 4 _ _ _ h1]
  exact ⟨rfl, rfl⟩
def PDrain (w : World) (F : Nat → Prop) (tb cb : Nat) (T : List (List UInt8)) (z : List Int) (at_ : Nat) (e : Ending) (w' : World) : Prop :=
  ∃ A c rs b, e = .returned (.slice A rs.length c) ∧ OwnX w' F (.slice A rs.length c) rs ∧ Dr z at_ T.flatten rs ∧ Pip w' F tb cb [] z b ∧ Kp (Two tb cb) w w' ∧ (∀ k, (Value.slice A rs.length c).ownBlock = some k → w.heap.size ≤ k) ∧ rs.length ≤ mea z T.flatten.length at_
def DLoop (w : World) (F : Nat → Prop) (tb cb : Nat) (T : List (List UInt8)) (z : List Int) (at_ : Nat) (av : Value) (wr : World) : Prop :=
  ∃ (T' : List (List UInt8)) (b : Nat) (rs : List (List UInt8)), Pip wr F tb cb T' z b ∧ OwnX wr F av rs ∧ (∀ tl, Dr z b T'.flatten tl → Dr z at_ T.flatten (rs ++ tl)) ∧ Kp (Two tb cb) w wr ∧ (∀ k, av.ownBlock = some k → w.heap.size ≤ k) ∧
    rs.length + mea z T'.flatten.length b ≤ mea z T.flatten.length at_ ∧ T'.flatten.length ≤ T.flatten.length
set_option maxRecDepth 20000 in
set_option maxHeartbeats 1000000 in
theorem pdrain_any (F : Nat → Prop) (tb cb : Nat) (T : List (List UInt8)) (z : List Int) (at_ : Nat) (w : World) (h : Pip w F tb cb T z at_) (hF : ∀ j, F j → j < w.heap.size) (hg : Goes z) (hl : T.flatten.length ≤ 100000) (hm : mea z T.flatten.length at_ ≤ 90000) :
    Calls Try.prog 21 #[.pointer (some ⟨tb, 0, none⟩)] w (PDrain w F tb cb T z at_) := by
  have HP := Lib.hid h
  have HG := Lib.hid hg
  have HL := Lib.hid hl
  have HM := Lib.hid hm
  clear h hg hl hm
  go_enter Try.func21, Try.ntmps21
  go_wp2_with fail
  go_loopw [3] (fun av wr => DLoop w F tb cb T z at_ av wr) (fun _ wr => mea z (cellN wr tb 2) (cellN wr tb 4))
  case atStart => exact ⟨T, at_, [], HP.out, OwnX.nil _ _, (fun tl ht => ht), Kp.refl _ _, (fun k hk => by cases hk), by simp, Nat.le_refl _⟩
  case round =>
    obtain ⟨T', b, rs, hp, hox, hdr, hkp, hob, hle, hle2⟩ := hrel
    obtain ⟨A, c, _, hv, _⟩ := hox.elem
    subst hv
    have HP1 := Lib.hid hp
    have HO1 := Lib.hid hox
    have HD1 := Lib.hid hdr
    have HK1 := Lib.hid hkp
    have HB1 := Lib.hid hob
    have HLE := Lib.hid hle
    have HLE2 := Lib.hid hle2
    clear hp hox hdr hkp hob hle hle2
    by_cases hT : T' = []
    · subst hT
      go_wp2_with fail
      refine (pnext_none F tb cb z b wr HP1.out).mono ?_
      rintro e w1 ⟨rfl, rfl⟩
      go_wp2
      go_ret
      exact ⟨A, c, rs, b, rfl, HO1.out, by have := HD1.out [] rfl; rwa [List.append_nil] at this, HP1.out, HK1.out, HB1.out, by have := HLE.out; omega⟩
    · have hpos : 0 < T'.flatten.length := by
        rcases Nat.eq_zero_or_pos T'.flatten.length with e | e
        · exact absurd (flat_nil HP1.out.2.1 e) hT
        · exact e
      have HPOS := Lib.hid hpos
      have HTN := Lib.hid hT
      clear hpos hT
      obtain ⟨k, hk⟩ : ∃ k, k = min (szF z b) T'.flatten.length := ⟨_, rfl⟩
      have HK := Lib.hid hk
      clear hk
      have hsz1 := HK1.out.size
      go_wp2_with fail
      refine (pnext_some F tb cb T' z b k wr HP1.out (fun j q => by have := hF j q; omega) HPOS.out (by have := HLE2.out; have := HL.out; omega) HK.out).mono ?_
      rintro e w1 ⟨Ap, cp, rfl, hown, hp1, hk1⟩
      have hFn : ∀ k, ¬ F k → Two tb cb k := fun k q => ⟨fun e => q (e ▸ HP.out.1.inF.1), fun e => q (e ▸ HP.out.1.inF.2)⟩
      have hox1 := HO1.out.kept (hk1.mono hFn)
      obtain ⟨A9, c9, hAA, hs1⟩ := Sees.of_own hown
      injection hAA with q1 _ q2
      subst q1 q2
      have hwr := HO1.out.lt
      obtain ⟨v2, w2, hrun, hox2, hg2, hat2⟩ := ownX_push hox1 (fun j q => by have := hF j q; have := hk1.size; omega) (by have := HLE.out; have := HM.out; omega) hs1
        (fun a ha hn e => by
          have h1 := (hown.lt a.block (by rw [ha]; rfl)).1
          have h2 := hwr a.block e
          omega)
        (fun a ha hn q => by
          have h1 := (hown.lt a.block (by rw [ha]; rfl)).1
          have h2 := hF _ q
          omega)
      obtain ⟨A2, c2, _, hv2, _⟩ := hox2.elem
      subst hv2
      have hle2' : (rs ++ [T'.flatten.take k]).length = rs.length + 1 := by simp
      have hkk : Kp (Two tb cb) w w2 := (((HK1.out.trans hk1).alloc _).grown_new hg2 fun k hk => HB1.out k hk)
      have hpp : Pip w2 F tb cb (cutT k T') z ((b + 1) % z.length) := hp1.keep (((Kp.refl F w1).alloc _).grown hg2 fun k hk q => by
        have := HB1.out k hk
        have := hF k q
        omega)
      have HFIN : Hid (DLoop w F tb cb T z at_ (.slice A2 (rs ++ [T'.flatten.take k]).length c2) w2 ∧ mea z (cellN w2 tb 2) (cellN w2 tb 4) < mea z (cellN wr tb 2) (cellN wr tb 4)) := Lib.hid (by
        have hz2 := HG.out.1
        have hba := HP1.out.2.2.2.1
        have hmd := mea_down HG.out T'.flatten.length b k hba HK.out HPOS.out
        have hfl : (cutT k T').flatten.length = T'.flatten.length - k := by rw [cutT_flat, List.length_drop]
        refine ⟨⟨cutT k T', _, rs ++ [T'.flatten.take k], hpp, hox2, fun tl ht => ?_, hkk, fun j hj => ?_, ?_, ?_⟩, ?_⟩
        · rw [List.append_assoc]
          refine HD1.out _ ⟨fun e => by have := HPOS.out; rw [e] at this; simp at this, ?_, ?_⟩
          · rw [HK.out]
            by_cases hc : szF z b ≤ T'.flatten.length
            · rw [Nat.min_eq_left hc]
            · rw [Nat.min_eq_right (by omega), List.take_of_length_le (Nat.le_refl _), List.take_of_length_le (by omega)]
          · rw [cutT_flat, HK.out] at ht
            by_cases hc : szF z b ≤ T'.flatten.length
            · rw [Nat.min_eq_left hc] at ht
              exact ht
            · rw [Nat.min_eq_right (by omega), List.drop_of_length_le (Nat.le_refl _)] at ht
              rw [List.drop_of_length_le (by omega)]
              exact ht
        · rcases hat2 with e | e
          · rw [e] at hj
            exact HB1.out j hj
          · rw [e] at hj
            injection hj with hj
            have := hk1.size
            omega
        · rw [hle2', hfl]
          have := HLE.out
          omega
        · rw [hfl]
          have := HLE2.out
          omega
        · rw [hpp.cells.1, hpp.cells.2, HP1.out.cells.1, HP1.out.cells.2, hfl]
          exact hmd)
      clear hox2 hg2 hat2 hkk hpp hox1 hown hp1 hk1 hFn hs1 hwr
      rw [hle2'] at hrun HFIN
      clear hle2'
      go_wp2_with (first | (at_builtin; refine wpList_append_run rfl (.tmp 14) (.tmp 16) _ rfl _ _ rfl rfl _ w2 hrun ?_) | fail)
      go_roundw
      case rel => exact HFIN.out.1
      case measure => exact HFIN.out.2
end Go.Proofs.Ytjdcbmelladceaa
