/-
  Layer 4: the document's example; how great the next piece is.
-/
import Derived.Test.YtjajkagpfbemiaaDmG
import Derived.Test.YtjajkagpfbemiaaSam
import Derived.Test.YtjajkagpfbemiaaMarkD
namespace Go.Proofs.Ytjajkagpfbemiaa
open Go Go.RowKit
set_option linter.unusedVariables false
set_option linter.unusedSimpArgs false
theorem dnew_nat (a b : Int) (m f : Nat) (ha : a = (m : Int)) (hb : b = (f : Int)) (w : World) (h1 : m ≤ 4096) (h2 : 1 ≤ f) (h3 : f ≤ 64) :
    Calls Try.prog 12 #[.int .i64 a, .int .i64 b] w fun e w' => e = .returned (.tuple #[.pointer (some ⟨w.heap.size, 0, none⟩), .int .i64 0]) ∧ Dfm w' (fun k => ¬ k = w.heap.size) w.heap.size m f d0 ∧ w.heap.size < w'.heap.size ∧ Ext w w' := by
  subst ha hb
  exact dnew_ok m f w h1 h2 h3
theorem ex_T : (drun 10 3 d0 [0, 0, 0, 1, 97, 128, 0, 0, 1, 98]).T = [[97, 98]] ∧ clB (drun 10 3 d0 [0, 0, 0, 1, 97, 128, 0, 0, 1, 98]) = true := by decide +kernel
theorem told_cl (s : DS) : clB s.told = clB s := rfl
set_option maxRecDepth 20000 in
set_option maxHeartbeats 2000000 in
theorem dlives_any (w : World) : Calls Try.prog 20 #[] w fun e w' => e = .returned (.bool true) ∧ Ext w w' := by
  have kc := fun (w : World) (C : Array Value) (n c : Nat) => Lib.run_convert_bytes_const (P := Try.prog) w 22 5 C n c Try.underlying22 Try.underlying5
  have HN := Lib.hid (dnew_nat 10 3 10 3 rfl rfl w (by omega) (by omega) (by omega))
  go_enter Try.func20, Try.ntmps20
  go_wp2_with fail
  refine HN.out.mono ?_
  rintro e w1 ⟨rfl, hd, hsz, e1⟩
  have hss := sees_mark w1 5 #[.int .u8 0, .int .u8 0, .int .u8 0, .int .u8 1, .int .u8 97, .int .u8 128, .int .u8 0, .int .u8 0, .int .u8 1, .int .u8 98] (10, 11) (by simp [maxLen])
  have hd2 := hd.keep (Kp.of_ext ((Ext.refl w1).alloc (.cells #[.int .u8 0, .int .u8 0, .int .u8 0, .int .u8 1, .int .u8 97, .int .u8 128, .int .u8 0, .int .u8 0, .int .u8 1, .int .u8 98] 5 (10, 11))))
  have HF := Lib.hid (feed_any (X := fun k => ¬ k = w.heap.size ∧ k < (w1.alloc (.cells #[.int .u8 0, .int .u8 0, .int .u8 0, .int .u8 1, .int .u8 97, .int .u8 128, .int .u8 0, .int .u8 0, .int .u8 1, .int .u8 98] 5 (10, 11))).heap.size) (some ⟨w1.heap.size, 0, none⟩) 10 10 [0, 0, 0, 1, 97, 128, 0, 0, 1, 98] d0 _ (hd2.weak fun k q => q.1) (fun k q => q.2) (d0_ok _ _) (by omega) (by omega) rfl hss (by omega) (fun a ha _ => by
    injection ha with ha
    subst ha
    simp
    omega))
  have E1 := Lib.hid (e1.alloc (.cells #[.int .u8 0, .int .u8 0, .int .u8 0, .int .u8 1, .int .u8 97, .int .u8 128, .int .u8 0, .int .u8 0, .int .u8 1, .int .u8 98] 5 (10, 11)))
  have HSZ := Lib.hid hsz
  clear hd hsz e1 hss hd2
  go_wp2_with fail
  refine HF.out.mono ?_
  rintro x w3 ⟨v, Z, rfl, d3, z1, z2, o3, k3⟩
  rw [ex_T.1] at o3
  obtain ⟨A3, c3, rfl, s3⟩ := o3.toB.sees
  have D3 := Lib.hid d3
  have S3 := Lib.hid s3
  have E3 := Lib.hid (show Ext w w3 from by
    have a := E1.out
    exact ⟨k3.os.trans a.os, k3.tape.trans a.tape, k3.output.trans a.output, Nat.le_trans a.size k3.size, fun k hk => (k3.block k ⟨by omega, Nat.lt_of_lt_of_le hk a.size⟩ (Nat.lt_of_lt_of_le hk a.size)).trans (a.block k hk)⟩)
  clear d3 z1 z2 o3 s3 k3
  go_wp2_with fail
  have e5 : Ext w3 _ := ((Ext.refl w3).alloc (.cells #[.int .u8 97, .int .u8 98] 5 (2, 3))).alloc (.cells #[.slice (some ⟨w3.heap.size, 0, none⟩) 2 2] 22)
  have t1 := sees_mark w3 5 #[.int .u8 97, .int .u8 98] (2, 3) (by simp [maxLen])
  have t2 := sees_new (w3.alloc (.cells #[.int .u8 97, .int .u8 98] 5 (2, 3))) 22 #[.slice (some ⟨w3.heap.size, 0, none⟩) 2 2] (by simp [maxLen])
  have t3 : SeesB _ (some ⟨w3.heap.size + 1, 0, none⟩) 1 1 [[97, 98]] := ⟨_, by simpa using t2, rfl, fun j r hr => by
    match j, hr with
    | 0, hr =>
      simp at hr
      subst hr
      exact ⟨_, _, _, rfl, t1.ext ((Ext.refl _).alloc _)⟩
    | j + 1, hr => simp at hr⟩
  have T3 := Lib.hid t3
  have E5 := Lib.hid (E3.out.trans e5)
  have D5 := Lib.hid (D3.out.keep (Kp.of_ext e5))
  have S5 := Lib.hid (S3.out.ext e5)
  clear e5 t1 t2 t3
  refine (sameB_eq _ _ _ _ _ _ _ S5.out T3.out).mono ?_
  rintro e w6 ⟨rfl, e6⟩
  have E6 := Lib.hid (E5.out.trans e6)
  have D6 := Lib.hid (D5.out.keep (Kp.of_ext e6))
  clear e6
  go_wp2_with fail
  refine (dclean_any _ w6 D6.out).mono ?_
  rintro e w7 ⟨rfl, rfl⟩
  rw [told_cl, ex_T.2]
  go_wp2
  go_ret
  exact ⟨rfl, E6.out⟩
end Go.Proofs.Ytjajkagpfbemiaa
