/-
  Layer 14: what is read of what was laid, and of a beginning of it.
-/
import Derived.Test.YtpjigdfllbhknaaCam
import Derived.Test.YtpjigdfllbhknaaCan
import Derived.Test.YtpjigdfllbhknaaXdrE
namespace Go.Proofs.Ytpjigdfllbhknaa
open Go Go.RowKit
set_option linter.unusedVariables false
set_option linter.unusedSimpArgs false
theorem u4_enc (x : Int) (R : List UInt8) (h : W32 x) : u4N (be4 x ++ R) = x ∧ u4L (be4 x ++ R) = R ∧ ∀ e, u4E e (be4 x ++ R) = e := by
  have hl : 4 ≤ (be4 x ++ R).length := by rw [List.length_append, be4_length]; omega
  refine ⟨?_, ?_, fun e => ?_⟩
  · unfold u4N; rw [if_pos hl]; exact num4_be4 x R h.1 (by have := h.2; omega)
  · unfold u4L; rw [if_pos hl]; rfl
  · unfold u4E; rw [if_pos hl]
theorem u8_enc (x : Int) (R : List UInt8) (h0 : 0 ≤ x) (h1 : x ≤ 4611686018427387904) : u8N (be8 x ++ R) = x ∧ u8L (be8 x ++ R) = R ∧ ∀ e, u8E e (be8 x ++ R) = e := by
  have hl : 8 ≤ (be8 x ++ R).length := by rw [List.length_append, be8_length]; omega
  refine ⟨?_, ?_, fun e => ?_⟩
  · unfold u8N; rw [if_pos hl]; exact num8_be8 x R h0 (by omega)
  · unfold u8L; rw [if_pos hl]; rfl
  · unfold u8E; rw [if_pos hl]
theorem tx_enc (m : Int) (s R : List UInt8) (hs : s.length ≤ 100000) (hm : (s.length : Int) ≤ m) : txN m (txt s ++ R) = s ∧ txL m (txt s ++ R) = R ∧ ∀ e, txE e m (txt s ++ R) = e := by
  obtain ⟨h1, h2, h3, h4, h5, h6⟩ := txt_read s R (by omega)
  have hM : txM (txt s ++ R) = s.length := by unfold txM; rw [h2]; simp
  have hc : txC m (txt s ++ R) = 0 := by
    unfold txC
    rw [hM, if_neg (by omega), if_neg (by omega), if_neg (by omega), if_pos (List.all_eq_true.2 fun k hk => by rw [h4 k (List.mem_range.1 hk)]; rfl)]
  refine ⟨?_, ?_, fun e => ?_⟩
  · unfold txN; rw [if_pos hc, hM]; exact h5
  · unfold txL; rw [if_pos hc, hM]; exact h6
  · unfold txE; rw [if_pos hc]
/-- A field of a is set. -/
def setA (a : AR) (x : AR) : Nat → AR
  | 0 => { x with h1 := a.h1, h2 := a.h2 }
  | 1 => { x with g1 := a.g1, g2 := a.g2 }
  | 2 => { x with nm := a.nm }
  | 3 => { x with n2 := a.n2 }
  | 4 => { x with off := a.off }
  | 5 => { x with ct := a.ct }
  | 6 => { x with sz := a.sz }
  | 7 => { x with md := a.md }
  | _ => x
def setD (d y : List UInt8) : Nat → List UInt8
  | 8 => d
  | _ => y
theorem st_ok (a : AR) (d : List UInt8) (ha : a.ok) (hd : d.length ≤ 2048) (s : RS) (g : Nat) (R : List UInt8) (hg : g ≤ 8) (he : s.e = 0) (hk : s.k = 0) (hl : s.l = fieldB a d (ltr g) ++ R) : stR s g = ⟨setA a s.a g, setD d s.d g, 0, 0, R⟩ := by
  obtain ⟨sa, sd, sk, se, sl⟩ := s
  simp only at he hk hl
  subst he hk hl
  have g9 : g = 0 ∨ g = 1 ∨ g = 2 ∨ g = 3 ∨ g = 4 ∨ g = 5 ∨ g = 6 ∨ g = 7 ∨ g = 8 := by omega
  rcases g9 with rfl | rfl | rfl | rfl | rfl | rfl | rfl | rfl | rfl
  · obtain ⟨p1, p2, p3⟩ := u4_enc a.h1 (be4 a.h2 ++ R) ha.h1
    obtain ⟨q1, q2, q3⟩ := u4_enc a.h2 R ha.h2
    have hf : fieldB a d (ltr 0) ++ R = be4 a.h1 ++ (be4 a.h2 ++ R) := by rw [← List.append_assoc]; rfl
    simp only [hf, stR, p1, p2, p3, q1, q2, q3]; rfl
  · obtain ⟨p1, p2, p3⟩ := u4_enc a.g1 (be4 a.g2 ++ R) ha.g1
    obtain ⟨q1, q2, q3⟩ := u4_enc a.g2 R ha.g2
    have hf : fieldB a d (ltr 1) ++ R = be4 a.g1 ++ (be4 a.g2 ++ R) := by rw [← List.append_assoc]; rfl
    simp only [hf, stR, p1, p2, p3, q1, q2, q3]; rfl
  · obtain ⟨p1, p2, p3⟩ := tx_enc 64 a.nm R (by have := ha.nm; omega) (by have := ha.nm; omega)
    have hf : fieldB a d (ltr 2) ++ R = txt a.nm ++ R := rfl
    simp only [hf, stR, p1, p2, p3]; rfl
  · obtain ⟨p1, p2, p3⟩ := tx_enc 64 a.n2 R (by have := ha.n2; omega) (by have := ha.n2; omega)
    have hf : fieldB a d (ltr 3) ++ R = txt a.n2 ++ R := rfl
    simp only [hf, stR, p1, p2, p3]; rfl
  · obtain ⟨p1, p2, p3⟩ := u8_enc a.off R ha.off.1 ha.off.2
    have hf : fieldB a d (ltr 4) ++ R = be8 a.off ++ R := rfl
    have h1 := ha.off.1
    have h2 := ha.off.2
    have p4 : plK 0 a.off = 0 := by unfold plK; rw [if_neg (by omega)]
    have p5 : ofU a.off = a.off := by unfold ofU wrap64; omega
    simp only [hf, stR, p1, p2, p3, p4, p5]; rfl
  · obtain ⟨p1, p2, p3⟩ := u4_enc a.ct R ha.ct
    have hf : fieldB a d (ltr 5) ++ R = be4 a.ct ++ R := rfl
    simp only [hf, stR, p1, p2, p3]; rfl
  · obtain ⟨p1, p2, p3⟩ := u4_enc a.sz R ha.sz
    have hf : fieldB a d (ltr 6) ++ R = be4 a.sz ++ R := rfl
    simp only [hf, stR, p1, p2, p3]; rfl
  · obtain ⟨p1, p2, p3⟩ := u4_enc a.md R ha.md
    have hf : fieldB a d (ltr 7) ++ R = be4 a.md ++ R := rfl
    simp only [hf, stR, p1, p2, p3]; rfl
  · obtain ⟨p1, p2, p3⟩ := tx_enc 2048 d R (by omega) (by omega)
    have hf : fieldB a d (ltr 8) ++ R = txt d ++ R := rfl
    simp only [hf, stR, p1, p2, p3]; rfl
theorem bytesB_cons (a : AR) (d : List UInt8) (g : Nat) (l : List Nat) : bytesB a d ((g :: l).map ltr) = fieldB a d (ltr g) ++ bytesB a d (l.map ltr) := by simp [bytesB]
theorem ps_ok (a : AR) (d : List UInt8) (ha : a.ok) (hd : d.length ≤ 2048) : ∀ (l : List Nat) (s : RS) (R : List UInt8), (∀ g ∈ l, g ≤ 8) → s.e = 0 → s.k = 0 → s.l = bytesB a d (l.map ltr) ++ R →
    psR s l = ⟨l.foldl (setA a) s.a, l.foldl (setD d) s.d, 0, 0, R⟩
  | [], s, R, _, he, hk, hl => by
    obtain ⟨sa, sd, sk, se, sl⟩ := s
    simp only at he hk hl
    subst he hk hl
    rfl
  | g :: l, s, R, h8, he, hk, hl => by
    rw [bytesB_cons, List.append_assoc] at hl
    have h1 := st_ok a d ha hd s g _ (h8 g (by simp)) he hk hl
    have h2 := ps_ok a d ha hd l (stR s g) R (fun x hx => h8 x (by simp [hx])) (by rw [h1]) (by rw [h1]) (by rw [h1])
    rw [h1] at h2
    show psR (stR s g) l = _
    rw [h1]
    exact h2
/-- A beginning of a field is too short. -/
theorem u4_cut (x : Int) (m : Nat) (hm : m < 4) : u4L ((be4 x).take m) = [] ∧ ∀ e, u4E e ((be4 x).take m) = ferr e 3 := by
  have hl : ¬ 4 ≤ ((be4 x).take m).length := by rw [List.length_take, be4_length]; omega
  exact ⟨by unfold u4L; rw [if_neg hl], fun e => by unfold u4E; rw [if_neg hl]⟩
theorem tx_cut (mo : Int) (s : List UInt8) (m : Nat) (hs : s.length ≤ 100000) (hmo : (s.length : Int) ≤ mo) (hm : m < (txt s).length) : txL mo ((txt s).take m) = [] ∧ ∀ e, txE e mo ((txt s).take m) = ferr e 3 := by
  have hln : (txt s).length = 4 + s.length + pad s.length := by unfold txt; simp only [List.length_append, be4_length, zeros_length]
  have hc : txC mo ((txt s).take m) = 3 := by
    unfold txC
    by_cases h4 : m < 4
    · rw [if_pos (by rw [List.length_take]; omega)]
    · obtain ⟨h1, h2, h3⟩ := cut_text s m (by omega) (by omega) (by omega)
      have hM : txM ((txt s).take m) = s.length := by unfold txM; rw [h2]; simp
      rw [hM, if_neg (by omega), if_neg (by omega), if_pos h3]
  exact ⟨by unfold txL; rw [hc]; rfl, fun e => by unfold txE; rw [hc]; rfl⟩
theorem st_cut (a : AR) (d : List UInt8) (ha : a.ok) (hd : d.length ≤ 2048) (s : RS) (g m : Nat) (hg : g ≤ 8) (he : s.e = 0) (hk : s.k = 0) (hl : s.l = (fieldB a d (ltr g)).take m) (hm : m < (fieldB a d (ltr g)).length) : (stR s g).e = 3 ∧ (stR s g).l = [] ∧ (stR s g).k = 0 := by
  obtain ⟨sa, sd, sk, se, sl⟩ := s
  simp only at he hk hl
  subst he hk hl
  have f0 : ferr 0 3 = 3 := rfl
  have f3 : ferr 3 3 = 3 := rfl
  have n1 : u4L [] = [] := rfl
  have n2 : ∀ e, u4E e [] = ferr e 3 := fun e => rfl
  have hand : ∀ x y : Int, W32 x → ∀ m, m < 8 → u4E (u4E 0 ((be4 x ++ be4 y).take m)) (u4L ((be4 x ++ be4 y).take m)) = 3 ∧ u4L (u4L ((be4 x ++ be4 y).take m)) = [] := by
    intro x y hx m hm
    by_cases h4 : m < 4
    · have e1 : (be4 x ++ be4 y).take m = (be4 x).take m := List.take_append_of_le_length (by rw [be4_length]; omega)
      obtain ⟨c1, c2⟩ := u4_cut x m h4
      rw [e1, c1, c2, f0, n1, n2, f3]
      exact ⟨rfl, rfl⟩
    · have e1 : (be4 x ++ be4 y).take m = be4 x ++ (be4 y).take (m - 4) := by rw [List.take_append, be4_length, List.take_of_length_le (by rw [be4_length]; omega)]
      obtain ⟨p1, p2, p3⟩ := u4_enc x ((be4 y).take (m - 4)) hx
      obtain ⟨c1, c2⟩ := u4_cut y (m - 4) (by omega)
      rw [e1, p2, p3, c1, c2, f0]
      exact ⟨rfl, rfl⟩
  have g9 : g = 0 ∨ g = 1 ∨ g = 2 ∨ g = 3 ∨ g = 4 ∨ g = 5 ∨ g = 6 ∨ g = 7 ∨ g = 8 := by omega
  rcases g9 with rfl | rfl | rfl | rfl | rfl | rfl | rfl | rfl | rfl
  · obtain ⟨c1, c2⟩ := hand a.h1 a.h2 ha.h1 m hm
    exact ⟨c1, c2, rfl⟩
  · obtain ⟨c1, c2⟩ := hand a.g1 a.g2 ha.g1 m hm
    exact ⟨c1, c2, rfl⟩
  · obtain ⟨c1, c2⟩ := tx_cut 64 a.nm m (by have := ha.nm; omega) (by have := ha.nm; omega) hm
    exact ⟨c2 0, c1, rfl⟩
  · obtain ⟨c1, c2⟩ := tx_cut 64 a.n2 m (by have := ha.n2; omega) (by have := ha.n2; omega) hm
    exact ⟨c2 0, c1, rfl⟩
  · have hl : ¬ 8 ≤ ((be8 a.off).take m).length := by
      have hm2 : m < (be8 a.off).length := hm
      rw [be8_length] at hm2
      rw [List.length_take, be8_length]; omega
    have e1 : u8E 0 ((be8 a.off).take m) = 3 := by unfold u8E; rw [if_neg hl]; rfl
    have e2 : u8L ((be8 a.off).take m) = [] := by unfold u8L; rw [if_neg hl]
    have e3 : u8N ((be8 a.off).take m) = 0 := by unfold u8N; rw [if_neg hl]
    exact ⟨e1, e2, by show plK 0 (u8N ((be8 a.off).take m)) = 0; rw [e3]; rfl⟩
  · obtain ⟨c1, c2⟩ := u4_cut a.ct m hm
    exact ⟨c2 0, c1, rfl⟩
  · obtain ⟨c1, c2⟩ := u4_cut a.sz m hm
    exact ⟨c2 0, c1, rfl⟩
  · obtain ⟨c1, c2⟩ := u4_cut a.md m hm
    exact ⟨c2 0, c1, rfl⟩
  · obtain ⟨c1, c2⟩ := tx_cut 2048 d m (by omega) (by omega) hm
    exact ⟨c2 0, c1, rfl⟩
theorem ps_cut (a : AR) (d : List UInt8) (ha : a.ok) (hd : d.length ≤ 2048) : ∀ (l : List Nat) (s : RS) (m : Nat), (∀ g ∈ l, g ≤ 8) → s.e = 0 → s.k = 0 → s.l = (bytesB a d (l.map ltr)).take m → m < (bytesB a d (l.map ltr)).length →
    (psR s l).e = 3 ∧ (psR s l).l = [] ∧ (psR s l).k = 0
  | [], s, m, _, _, _, _, hm => absurd hm (by simp [bytesB])
  | g :: l, s, m, h8, he, hk, hl, hm => by
    rw [bytesB_cons] at hl hm
    by_cases hc : m < (fieldB a d (ltr g)).length
    · rw [List.take_append_of_le_length (by omega)] at hl
      obtain ⟨h1, h2, h3⟩ := st_cut a d ha hd s g m (h8 g (by simp)) he hk hl hc
      obtain ⟨k1, k2, k3⟩ := psR_e l (stR s g) (by rw [h1]; omega) h2 h3
      exact ⟨k1.trans h1, k2, k3⟩
    · rw [List.take_append, List.take_of_length_le (by omega)] at hl
      have h1 := st_ok a d ha hd s g _ (h8 g (by simp)) he hk hl
      exact ps_cut a d ha hd l (stR s g) (m - (fieldB a d (ltr g)).length) (fun x hx => h8 x (by simp [hx])) (by rw [h1]) (by rw [h1]) (by rw [h1]) (by rw [List.length_append] at hm; omega)
theorem rd_cut (a : AR) (d : List UInt8) (ha : a.ok) (hd : d.length ≤ 2048) (p : Int) (m : Nat) (hm : m < (bytesB a d (fld p)).length) : rdK p ((bytesB a d (fld p)).take m) = 3 := by
  rw [fld_fl] at hm ⊢
  have hkn : kn p = true := kn_fl p (fun e => by rw [e] at hm; simp [bytesB] at hm)
  obtain ⟨h1, h2, h3⟩ := ps_cut a d ha hd (fl p) ⟨AR.zero p, [], 0, 0, (bytesB a d ((fl p).map ltr)).take m⟩ m (fl_le p).2 rfl rfl rfl hm
  unfold rdK
  rw [if_pos hkn]
  show kp (psR _ _).k (rend (psR _ _).e (psR _ _).l.length) = 3
  rw [h1, h2, h3]
  rfl
theorem rd_ok (a : AR) (d : List UInt8) (ha : a.ok) (hd : d.length ≤ 2048) (p : Int) (hp : ¬ fld p = []) : rdK p (bytesB a d (fld p)) = 0 ∧ rdA p (bytesB a d (fld p)) = (fl p).foldl (setA a) (AR.zero p) ∧ rdD p (bytesB a d (fld p)) = (fl p).foldl (setD d) [] := by
  have h0 : ¬ fl p = [] := fun e => hp (by rw [fld_fl, e]; rfl)
  rw [fld_fl]
  have h1 : rdS p (bytesB a d ((fl p).map ltr)) = ⟨(fl p).foldl (setA a) (AR.zero p), (fl p).foldl (setD d) [], 0, 0, []⟩ := ps_ok a d ha hd (fl p) ⟨AR.zero p, [], 0, 0, bytesB a d ((fl p).map ltr)⟩ [] (fl_le p).2 rfl rfl (by simp)
  have hK : rdK p (bytesB a d ((fl p).map ltr)) = 0 := by unfold rdK; rw [if_pos (kn_fl p h0), h1]; rfl
  exact ⟨hK, by unfold rdA; rw [if_pos hK, h1], by unfold rdD; rw [if_pos hK, h1]⟩
theorem gd_fields (a : AR) (A : Option Addr) (n c : Nat) (l : List UInt8) : ((fl (gk a.pr)).foldl (setA (gdA a A n c)) (AR.zero (gk a.pr))).wd none 0 0 = (gdA a A n c).wd none 0 0 ∧ (fl (gk a.pr)).foldl (setD (gdL a l)) [] = gdL a l := by
  unfold gdL gdA
  have h9 : ∀ k : Int, k = gk a.pr → ((fl k).foldl (setA (ownA (mkA k a A n c))) (AR.zero k)).wd none 0 0 = (ownA (mkA k a A n c)).wd none 0 0 ∧ (fl k).foldl (setD (ownL k (l.take 30))) [] = ownL k (l.take 30) := by
    intro k hk
    have hc := gk_cases a.pr
    rw [← hk] at hc
    rcases hc with h | h | h | h | h | h | h | h | h | h | h <;> subst h <;> exact ⟨rfl, rfl⟩
  exact h9 _ rfl
theorem gd_may (a : AR) (A : Option Addr) (n c : Nat) (l : List UInt8) (hn : n ≤ 30) : mayR (gdA a A n c) (gdL a l) = true := by
  have ho := gdA_ok (a := a) (A := A) (c := c) hn
  have hw : ∀ x, W32 x → bi x 4294967295 = true := fun x h => by simp [bi, h.1, h.2]
  have h1 : wdA (gdA a A n c) = true := by simp [wdA, hw _ ho.h1, hw _ ho.h2, hw _ ho.g1, hw _ ho.g2, hw _ ho.sz, hw _ ho.ct, hw _ ho.md]
  have hf : ¬ fld (gk a.pr) = [] := by
    rcases gk_cases a.pr with h | h | h | h | h | h | h | h | h | h | h <;> rw [h] <;> simp [fld]
  have h2 : bdA (gdA a A n c) = true := by
    have q1 := ho.off
    have q2 := ho.nm
    have q3 := ho.n2
    have q4 := ho.dn
    unfold bdA
    rw [gdA_pr, decide_eq_true (show ¬ fld (gk a.pr) = [] from hf), decide_eq_true (show ¬ (gdA a A n c).off < 0 by omega), decide_eq_true (show ¬ (4611686018427387904 : Int) < (gdA a A n c).off by omega), decide_eq_true (show ¬ (64 : Int) < ((gdA a A n c).nm.length : Int) by omega), decide_eq_true (show ¬ (64 : Int) < ((gdA a A n c).n2.length : Int) by omega), decide_eq_true (show ¬ (2048 : Int) < ((gdA a A n c).dn : Int) by omega)]
    rfl
  have h3 : cEq (ownA (gdA a A n c)) (gdA a A n c) (ownL (gdA a A n c).pr (gdL a l)) (gdL a l) = true := by
    have e1 : ownL (gdA a A n c).pr (gdL a l) = gdL a l := by
      rw [gdA_pr]
      unfold gdL ownL
      split <;> rfl
    rw [e1]
    refine cEq_self _ _ _ ?_
    unfold gdA
    generalize mkA (gk a.pr) a A n c = x
    simp only [ownA, AR.wd]
    congr 1 <;> split <;> rfl
  unfold mayR
  rw [h1, h2, h3]
  rfl
theorem gd_mod (a : AR) (A : Option Addr) (n c : Nat) (l : List UInt8) : (bytesB (gdA a A n c) (gdL a l) (fld (gk a.pr))).length % 4 = 0 := by
  have t1 := txt_modR (gdA a A n c).nm
  have t2 := txt_modR (gdA a A n c).n2
  have t3 := txt_modR (gdL a l)
  generalize gdA a A n c = G at *
  generalize gdL a l = L at *
  rcases gk_cases a.pr with h | h | h | h | h | h | h | h | h | h | h <;> rw [h] <;> simp [fld, bytesB, fieldB, be4_length, be8_length] <;> omega
end Go.Proofs.Ytpjigdfllbhknaa
