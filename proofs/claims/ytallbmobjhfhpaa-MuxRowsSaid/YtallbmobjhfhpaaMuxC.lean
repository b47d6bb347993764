/-
  Layer 7: a call by its number; the document's example.
-/
import Derived.Test.YtallbmobjhfhpaaMuxB
namespace Go.Proofs.Ytallbmobjhfhpaa
open Go Go.RowKit
set_option linter.unusedVariables false
set_option linter.unusedSimpArgs false
def MAtI (w : World) (tb mb most : Nat) (L : List (Int × Value)) (p : Int) (v : Value) (xid nx : Int) (e : Ending) (w' : World) : Prop :=
  e = .returned (.tuple #[.int .u32 xid, .int .i64 0]) ∧ MuxI w' tb mb most nx (putL L xid (.agg #[.int .u32 p, v])) ∧ Onm tb mb w w'
theorem mcallI_at (tb mb most : Nat) (next : Int) (L : List (Int × Value)) (p : Int) (hp0 : 0 ≤ p) (hp1 : p < 4294967296) (k : Int) (J : Nat) (xid nx : Int) (hJ : FreeAt L next J) (hJ2 : J ≤ 1000000) (hx : nxt next J = xid) (hn : nxt next (J + 1) = nx) (w : World) (h : MuxI w tb mb most next L) (hf : L.length < most) :
    Calls Try.prog 18 #[.pointer (some ⟨tb, 0, none⟩), .int .u32 p, .int .i64 k] w (MAtI w tb mb most L p (.int .i64 k) xid nx) := by
  subst hx hn
  exact mcallI_ok tb mb most next L p hp0 hp1 k J hJ hJ2 w h hf
def MAtS (w : World) (tb mb most : Nat) (L : List (Int × Value)) (p : Int) (v : Value) (xid nx : Int) (e : Ending) (w' : World) : Prop :=
  e = .returned (.tuple #[.int .u32 xid, .int .i64 0]) ∧ MuxS w' tb mb most nx (putL L xid (.agg #[.int .u32 p, v])) ∧ Onm tb mb w w'
theorem mcallS_at (tb mb most : Nat) (next : Int) (L : List (Int × Value)) (p : Int) (hp0 : 0 ≤ p) (hp1 : p < 4294967296) (k : ByteArray) (J : Nat) (xid nx : Int) (hJ : FreeAt L next J) (hJ2 : J ≤ 1000000) (hx : nxt next J = xid) (hn : nxt next (J + 1) = nx) (w : World) (h : MuxS w tb mb most next L) (hf : L.length < most) :
    Calls Try.prog 27 #[.pointer (some ⟨tb, 0, none⟩), .int .u32 p, .string k] w (MAtS w tb mb most L p (.string k) xid nx) := by
  subst hx hn
  exact mcallS_ok tb mb most next L p hp0 hp1 k J hJ hJ2 w h hf
theorem free_nil (x : Int) : FreeAt [] x 0 := ⟨fun i h => absurd h (by omega), rfl⟩
theorem free_zero {L : List (Int × Value)} {x : Int} (h0 : 0 ≤ x) (h1 : x < 4294967296) (h : hasL L x = false) : FreeAt L x 0 := ⟨fun i h => absurd h (by omega), by rw [nxt_zero h0 h1]; exact h⟩
set_option maxRecDepth 20000 in
set_option maxHeartbeats 2000000 in
theorem mlives_any (w : World) : Calls Try.prog 25 #[] w fun e w' => e = .returned (.bool true) ∧ Ext w w' := by
  go_enter Try.func25, Try.ntmps25
  go_wp2_with fail
  refine (mnewI_ok 4294967295 2 2 rfl w (by omega) (by omega) (by omega) (by omega)).mono ?_
  rintro e w1 ⟨tb, mb, rfl, hm, ht, hb, e1⟩
  have HM := Lib.hid hm
  have E1 := Lib.hid e1
  clear hm e1
  go_wp2_with fail
  refine (mcallI_at tb mb 2 4294967295 [] 3 (by omega) (by omega) 7 0 4294967295 0 (free_nil _) (by omega) (by decide) (by decide) w1 HM.out (by simp)).mono ?_
  rintro e w2 ⟨rfl, hm2, o2⟩
  have HM2 := Lib.hid hm2
  have E2 := Lib.hid (o2.ext E1.out ht hb)
  clear hm2 o2
  go_wp2_with fail
  refine (mcallI_at tb mb 2 0 _ 3 (by omega) (by omega) 8 0 0 1 (free_zero (by omega) (by omega) (by rfl)) (by omega) (by decide) (by decide) w2 HM2.out (by decide)).mono ?_
  rintro e w3 ⟨rfl, hm3, o3⟩
  have HM3 := Lib.hid hm3
  have E3 := Lib.hid (o3.ext E2.out ht hb)
  clear hm3 o3
  go_wp2_with fail
  refine (mmatchI_ok tb mb 2 1 _ 0 3 (.int .i64 8) (by rfl) (by omega) (by omega) w3 HM3.out).mono ?_
  rintro e w4 ⟨rfl, hm4, o4⟩
  have E4 := Lib.hid (o4.ext E3.out ht hb)
  clear hm4 o4
  go_wp2
  go_ret
  exact ⟨rfl, E4.out⟩
end Go.Proofs.Ytallbmobjhfhpaa
