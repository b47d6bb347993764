/-
  The statement BlobFits: its walk.
-/
import Derived.Test.YtlbokdoipajodaaBlobC
namespace Go.Proofs.Ytlbokdoipajodaa
open Go Go.RowKit
set_option linter.unusedVariables false
set_option linter.unusedSimpArgs false

theorem fits_walk (s o n r : Int) (w : World) (hs0 : -9223372036854775808 ≤ s) (hs1 : s ≤ 9223372036854775807) (ho0 : -9223372036854775808 ≤ o) (ho1 : o ≤ 9223372036854775807)
    (hn0 : -9223372036854775808 ≤ n) (hn1 : n ≤ 9223372036854775807) (hr0 : -9223372036854775808 ≤ r) (hr1 : r ≤ 9223372036854775807) :
    Calls Try.prog 12 #[.int .i64 s, .int .i64 o, .int .i64 n, .int .i64 r] w fun e w' => e = .returned (.bool true) ∧ Ext w w' := by
  have b1 := aroundZ_bound s 2049 (by omega)
  have b2 := aroundZ_bound s 60 (by omega)
  have b3 := fromZ_bound o ho0 ho1
  have b4 := fromZ_bound n hn0 hn1
  have b5 := fromZ_bound r hr0 hr1
  have b6 := aroundZ_bound o 101 (by omega)
  have b7 := aroundZ_bound n 101 (by omega)
  have b8 := aroundZ_bound r 101 (by omega)
  go_enter Try.func12, Try.ntmps12
  go_wp2_with fail
  refine (around_any s 2049 _ hs0 hs1 (by omega) (by omega)).mono ?_
  rintro e w' ⟨rfl, rfl⟩
  go_wp2_with fail
  refine (around_any s 60 _ hs0 hs1 (by omega) (by omega)).mono ?_
  rintro e w' ⟨rfl, rfl⟩
  go_wp2_with fail
  refine (from_any o _ ho0 ho1).mono ?_
  rintro e w' ⟨rfl, rfl⟩
  go_wp2_with fail
  refine (from_any n _ hn0 hn1).mono ?_
  rintro e w' ⟨rfl, rfl⟩
  go_wp2_with fail
  refine (from_any r _ hr0 hr1).mono ?_
  rintro e w' ⟨rfl, rfl⟩
  go_wp2_with fail
  refine (fits_any _ _ _ _ _ b1.1 (by omega) b3.1 b3.2 b4.1 b4.2 b5.1 b5.2).mono ?_
  rintro e w' ⟨rfl, rfl⟩
  go_wp2_with fail
  refine (from_any o _ ho0 ho1).mono ?_
  rintro e w' ⟨rfl, rfl⟩
  go_wp2_with fail
  refine (from_any n _ hn0 hn1).mono ?_
  rintro e w' ⟨rfl, rfl⟩
  go_wp2_with fail
  refine (from_any r _ hr0 hr1).mono ?_
  rintro e w' ⟨rfl, rfl⟩
  go_wp2_with fail
  refine (refFits_any _ _ _ _ _ b1.1 (by omega) b3.1 b3.2 b4.1 b4.2 b5.1 b5.2).mono ?_
  rintro e w' ⟨rfl, rfl⟩
  go_wp2_with fail
  refine (around_any o 101 _ ho0 ho1 (by omega) (by omega)).mono ?_
  rintro e w' ⟨rfl, rfl⟩
  go_wp2_with fail
  refine (around_any n 101 _ hn0 hn1 (by omega) (by omega)).mono ?_
  rintro e w' ⟨rfl, rfl⟩
  go_wp2_with fail
  refine (around_any r 101 _ hr0 hr1 (by omega) (by omega)).mono ?_
  rintro e w' ⟨rfl, rfl⟩
  go_wp2_with fail
  refine (fits_any _ _ _ _ _ b2.1 (by omega) b6.1 (by omega) b7.1 (by omega) b8.1 (by omega)).mono ?_
  rintro e w' ⟨rfl, rfl⟩
  go_wp2_with fail
  refine (refFits_any _ _ _ _ _ b2.1 (by omega) b6.1 (by omega) b7.1 (by omega) b8.1 (by omega)).mono ?_
  rintro e w' ⟨rfl, rfl⟩
  go_wp2_with fail
  refine (blobLives_any _).mono ?_
  rintro e w' ⟨rfl, hE⟩
  go_wp2
  go_ret
  exact ⟨rfl, hE⟩
end Go.Proofs.Ytlbokdoipajodaa
