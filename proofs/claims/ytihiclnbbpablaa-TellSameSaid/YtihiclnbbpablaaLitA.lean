/-
  Layer 2: numbers, the lowest part first: what is laid behind what is there; plain contracts.
-/
import Derived.Test.YtihiclnbbpablaaCom
namespace Go.Proofs.Ytihiclnbbpablaa
open Go Go.RowKit
set_option linter.unusedVariables false
set_option linter.unusedSimpArgs false

/-- The lowest k bytes of a number, the lowest first. -/
def le : Nat → Nat → List UInt8
  | 0, _ => []
  | k + 1, x => UInt8.ofNat (x % 256) :: le k (x / 256)
theorem le_length : ∀ k x, (le k x).length = k
  | 0, _ => rfl
  | k + 1, x => by simp [le, le_length k]
theorem le_push : ∀ k x, le (k + 1) x = le k x ++ [UInt8.ofNat (x / 256 ^ k % 256)]
  | 0, x => by simp [le]
  | k + 1, x => by
    have h := le_push k (x / 256)
    rw [le, h, le, List.cons_append, Nat.div_div_eq_div_mul, Nat.pow_succ']

theorem le_cell (x k : Nat) : (#[Value.int .u8 ((x : Int) / 2 ^ (8 * k) % 256)] : Array Value).toList = bs [UInt8.ofNat (x / 256 ^ k % 256)] := by
  have e : (2 : Int) ^ (8 * k) = ((256 ^ k : Nat) : Int) := by
    rw [Int.pow_mul]
    simp
  have h : (x : Int) / 2 ^ (8 * k) % 256 = ((x / 256 ^ k % 256 : Nat) : Int) := by
    rw [e]
    simp
  rw [h]
  simp [bs]
set_option maxRecDepth 20000 in
set_option maxHeartbeats 1000000 in
theorem lay_u32 (A : Option Addr) (n c : Nat) (x : Nat) (l : List UInt8) (w : World) (hs : Sees w A n c (bs l)) (hn : n ≤ 1000000) (hx : x < 4294967296) :
    Calls Try.prog 86 #[.slice A n c, .int .u32 (x : Int), .int .i64 4] w fun e w' => ∃ v, e = .returned v ∧ w'.ownsRow w.heap.size 5 1 v (n + 4) (bs (l ++ le 4 x)) ∧ Ext w w' := by
  obtain ⟨i0, hi, hz0, hz1, hz2⟩ := info_parts infoB
  have hc := hs.le
  have hm := hs.max
  unfold maxLen at hm
  have hsf : Sees w A n n (bs l) := ⟨hs.1, Nat.le_refl _, by unfold maxLen; omega, fun h => by have := hs.2.2.2.1 h; omega, hs.2.2.2.2⟩
  have HS := Lib.hid hsf
  clear hs hsf
  go_enter Try.func86, Try.ntmps86
  go_wp2_with fail
  go_loopw [0, 15] (fun v i wr => ∃ k : Nat, k ≤ 4 ∧ i = .int .i64 k ∧ ((k = 0 ∧ v = .slice A n n) ∨ (0 < k ∧ wr.ownsRow w.heap.size 5 1 v (n + k) (bs (l ++ le k x)))) ∧ Ext w wr) (fun _ i _ => 4 - (intOf i).toNat)
  case atStart => exact ⟨0, by omega, rfl, .inl ⟨rfl, rfl⟩, Ext.refl _⟩
  case round =>
    obtain ⟨k, hk, rfl, hP, ext⟩ := hrel
    by_cases hlt : k < 4
    · rcases hP with ⟨rfl, rfl⟩ | ⟨hk0, own⟩
      · have hs1 := sees_new wr 5 #[.int .u8 ((x : Int) % 256)] (by simp [maxLen])
        have eA : Ext wr (wr.alloc (.cells #[.int .u8 ((x : Int) % 256)] 5)) := (Ext.refl _).alloc _
        have hcell : (#[Value.int .u8 ((x : Int) % 256)] : Array Value).toList = bs (le 1 x) := by
          simp [bs, le] <;> omega
        rw [hcell] at hs1
        obtain ⟨v3, w3, hrun3, own3, hg3⟩ := run_append_full (P := Try.prog) (w := wr.alloc (.cells #[.int .u8 ((x : Int) % 256)] 5)) 25 25 5 i0 _ 1 Try.underlying25 hi hz0 hz1 hz2 rfl A n n (bs l) (HS.out.ext (ext.trans eA)) _ 1 1 _ hs1 (bs_one _) (by omega) (by unfold maxLen; omega) (by omega)
        have ext3 : Ext w w3 := (ext.trans eA).grown hg3 (by simp)
        have own4 : w3.ownsRow w.heap.size 5 1 v3 (n + 1) (bs (l ++ le 1 x)) := by
          rw [bs_append]
          exact own_mono own3 (ext.trans eA).size
        have HOwn := Lib.hid own4
        clear own3 own4 hg3 ext eA hs1 hcell
        go_wp2_with (first | (at_builtin; refine wpList_append_run rfl (.tmp 18) (.tmp 25) _ rfl _ _ rfl rfl v3 w3 hrun3 ?_) | fail)
        go_roundw
        case rel => exact ⟨1, by omega, by go_num, .inr ⟨by omega, HOwn.out⟩, ext3⟩
        case measure => simp [intOf]
      · have hs1 := sees_new wr 5 #[.int .u8 ((x : Int) / 2 ^ (8 * k) % 256)] (by simp [maxLen])
        have eA : Ext wr (wr.alloc (.cells #[.int .u8 ((x : Int) / 2 ^ (8 * k) % 256)] 5)) := (Ext.refl _).alloc _
        have ownA := own.alloc (.cells #[.int .u8 ((x : Int) / 2 ^ (8 * k) % 256)] 5)
        have hcell : (#[Value.int .u8 ((x : Int) / 2 ^ (8 * k) % 256)] : Array Value).toList = bs [UInt8.ofNat (x / 256 ^ k % 256)] := le_cell x k
        rw [hcell] at hs1
        obtain ⟨v3, w3, hrun3, own3, hg3, _⟩ := run_append_sees (P := Try.prog) (w := wr.alloc (.cells #[.int .u8 ((x : Int) / 2 ^ (8 * k) % 256)] 5)) w.heap.size 25 25 5 i0 _ 1 Try.underlying25 hi hz0 hz1 hz2 rfl _ _ _ ownA _ 1 1 _ hs1 (bs_one _) (by unfold maxLen; omega) (by omega) (by have := ext.size; have := eA.size; omega)
        have ext3 : Ext w w3 := (ext.trans eA).grown hg3 fun k hk => (ownA.lt k hk).1
        have own4 : w3.ownsRow w.heap.size 5 1 v3 (n + (k + 1)) (bs (l ++ le (k + 1) x)) := by
          rw [le_push, ← List.append_assoc, bs_append]
          exact own3
        have HOwn := Lib.hid own4
        have hk1 : k + 1 ≤ 4 := by omega
        clear own own3 own4 ownA hg3 ext eA hs1 hcell
        go_wp2_with (first | (at_builtin; refine wpList_append_run rfl (.tmp 18) (.tmp 25) _ rfl _ _ rfl rfl v3 w3 hrun3 ?_) | fail)
        go_roundw
        case rel => exact ⟨k + 1, by omega, by go_num, .inr ⟨by omega, HOwn.out⟩, ext3⟩
        case measure => simp [intOf]; omega
    · obtain rfl : k = 4 := by omega
      rcases hP with ⟨h, _⟩ | ⟨_, own⟩
      · omega
      · go_wp2
        go_ret
        exact ⟨_, rfl, own, ext⟩
set_option maxRecDepth 20000 in
set_option maxHeartbeats 1000000 in
theorem lay_u16 (A : Option Addr) (n c : Nat) (x : Nat) (l : List UInt8) (w : World) (hs : Sees w A n c (bs l)) (hn : n ≤ 1000000) (hx : x < 65536) :
    Calls Try.prog 88 #[.slice A n c, .int .u16 (x : Int), .int .i64 2] w fun e w' => ∃ v, e = .returned v ∧ w'.ownsRow w.heap.size 5 1 v (n + 2) (bs (l ++ le 2 x)) ∧ Ext w w' := by
  obtain ⟨i0, hi, hz0, hz1, hz2⟩ := info_parts infoB
  have hc := hs.le
  have hm := hs.max
  unfold maxLen at hm
  have hsf : Sees w A n n (bs l) := ⟨hs.1, Nat.le_refl _, by unfold maxLen; omega, fun h => by have := hs.2.2.2.1 h; omega, hs.2.2.2.2⟩
  have HS := Lib.hid hsf
  clear hs hsf
  go_enter Try.func88, Try.ntmps88
  go_wp2_with fail
  go_loopw [0, 15] (fun v i wr => ∃ k : Nat, k ≤ 2 ∧ i = .int .i64 k ∧ ((k = 0 ∧ v = .slice A n n) ∨ (0 < k ∧ wr.ownsRow w.heap.size 5 1 v (n + k) (bs (l ++ le k x)))) ∧ Ext w wr) (fun _ i _ => 2 - (intOf i).toNat)
  case atStart => exact ⟨0, by omega, rfl, .inl ⟨rfl, rfl⟩, Ext.refl _⟩
  case round =>
    obtain ⟨k, hk, rfl, hP, ext⟩ := hrel
    by_cases hlt : k < 2
    · rcases hP with ⟨rfl, rfl⟩ | ⟨hk0, own⟩
      · have hs1 := sees_new wr 5 #[.int .u8 ((x : Int) % 256)] (by simp [maxLen])
        have eA : Ext wr (wr.alloc (.cells #[.int .u8 ((x : Int) % 256)] 5)) := (Ext.refl _).alloc _
        have hcell : (#[Value.int .u8 ((x : Int) % 256)] : Array Value).toList = bs (le 1 x) := by
          simp [bs, le] <;> omega
        rw [hcell] at hs1
        obtain ⟨v3, w3, hrun3, own3, hg3⟩ := run_append_full (P := Try.prog) (w := wr.alloc (.cells #[.int .u8 ((x : Int) % 256)] 5)) 25 25 5 i0 _ 1 Try.underlying25 hi hz0 hz1 hz2 rfl A n n (bs l) (HS.out.ext (ext.trans eA)) _ 1 1 _ hs1 (bs_one _) (by omega) (by unfold maxLen; omega) (by omega)
        have ext3 : Ext w w3 := (ext.trans eA).grown hg3 (by simp)
        have own4 : w3.ownsRow w.heap.size 5 1 v3 (n + 1) (bs (l ++ le 1 x)) := by
          rw [bs_append]
          exact own_mono own3 (ext.trans eA).size
        have HOwn := Lib.hid own4
        clear own3 own4 hg3 ext eA hs1 hcell
        go_wp2_with (first | (at_builtin; refine wpList_append_run rfl (.tmp 18) (.tmp 25) _ rfl _ _ rfl rfl v3 w3 hrun3 ?_) | fail)
        go_roundw
        case rel => exact ⟨1, by omega, by go_num, .inr ⟨by omega, HOwn.out⟩, ext3⟩
        case measure => simp [intOf]
      · have hs1 := sees_new wr 5 #[.int .u8 ((x : Int) / 2 ^ (8 * k) % 256)] (by simp [maxLen])
        have eA : Ext wr (wr.alloc (.cells #[.int .u8 ((x : Int) / 2 ^ (8 * k) % 256)] 5)) := (Ext.refl _).alloc _
        have ownA := own.alloc (.cells #[.int .u8 ((x : Int) / 2 ^ (8 * k) % 256)] 5)
        have hcell : (#[Value.int .u8 ((x : Int) / 2 ^ (8 * k) % 256)] : Array Value).toList = bs [UInt8.ofNat (x / 256 ^ k % 256)] := le_cell x k
        rw [hcell] at hs1
        obtain ⟨v3, w3, hrun3, own3, hg3, _⟩ := run_append_sees (P := Try.prog) (w := wr.alloc (.cells #[.int .u8 ((x : Int) / 2 ^ (8 * k) % 256)] 5)) w.heap.size 25 25 5 i0 _ 1 Try.underlying25 hi hz0 hz1 hz2 rfl _ _ _ ownA _ 1 1 _ hs1 (bs_one _) (by unfold maxLen; omega) (by omega) (by have := ext.size; have := eA.size; omega)
        have ext3 : Ext w w3 := (ext.trans eA).grown hg3 fun k hk => (ownA.lt k hk).1
        have own4 : w3.ownsRow w.heap.size 5 1 v3 (n + (k + 1)) (bs (l ++ le (k + 1) x)) := by
          rw [le_push, ← List.append_assoc, bs_append]
          exact own3
        have HOwn := Lib.hid own4
        have hk1 : k + 1 ≤ 2 := by omega
        clear own own3 own4 ownA hg3 ext eA hs1 hcell
        go_wp2_with (first | (at_builtin; refine wpList_append_run rfl (.tmp 18) (.tmp 25) _ rfl _ _ rfl rfl v3 w3 hrun3 ?_) | fail)
        go_roundw
        case rel => exact ⟨k + 1, by omega, by go_num, .inr ⟨by omega, HOwn.out⟩, ext3⟩
        case measure => simp [intOf]; omega
    · obtain rfl : k = 2 := by omega
      rcases hP with ⟨h, _⟩ | ⟨_, own⟩
      · omega
      · go_wp2
        go_ret
        exact ⟨_, rfl, own, ext⟩
set_option maxRecDepth 20000 in
set_option maxHeartbeats 1000000 in
theorem lay_u64 (A : Option Addr) (n c : Nat) (x : Nat) (l : List UInt8) (w : World) (hs : Sees w A n c (bs l)) (hn : n ≤ 1000000) (hx : x < 18446744073709551616) :
    Calls Try.prog 96 #[.slice A n c, .int .u64 (x : Int), .int .i64 8] w fun e w' => ∃ v, e = .returned v ∧ w'.ownsRow w.heap.size 5 1 v (n + 8) (bs (l ++ le 8 x)) ∧ Ext w w' := by
  obtain ⟨i0, hi, hz0, hz1, hz2⟩ := info_parts infoB
  have hc := hs.le
  have hm := hs.max
  unfold maxLen at hm
  have hsf : Sees w A n n (bs l) := ⟨hs.1, Nat.le_refl _, by unfold maxLen; omega, fun h => by have := hs.2.2.2.1 h; omega, hs.2.2.2.2⟩
  have HS := Lib.hid hsf
  clear hs hsf
  go_enter Try.func96, Try.ntmps96
  go_wp2_with fail
  go_loopw [0, 15] (fun v i wr => ∃ k : Nat, k ≤ 8 ∧ i = .int .i64 k ∧ ((k = 0 ∧ v = .slice A n n) ∨ (0 < k ∧ wr.ownsRow w.heap.size 5 1 v (n + k) (bs (l ++ le k x)))) ∧ Ext w wr) (fun _ i _ => 8 - (intOf i).toNat)
  case atStart => exact ⟨0, by omega, rfl, .inl ⟨rfl, rfl⟩, Ext.refl _⟩
  case round =>
    obtain ⟨k, hk, rfl, hP, ext⟩ := hrel
    by_cases hlt : k < 8
    · rcases hP with ⟨rfl, rfl⟩ | ⟨hk0, own⟩
      · have hs1 := sees_new wr 5 #[.int .u8 ((x : Int) % 256)] (by simp [maxLen])
        have eA : Ext wr (wr.alloc (.cells #[.int .u8 ((x : Int) % 256)] 5)) := (Ext.refl _).alloc _
        have hcell : (#[Value.int .u8 ((x : Int) % 256)] : Array Value).toList = bs (le 1 x) := by
          simp [bs, le] <;> omega
        rw [hcell] at hs1
        obtain ⟨v3, w3, hrun3, own3, hg3⟩ := run_append_full (P := Try.prog) (w := wr.alloc (.cells #[.int .u8 ((x : Int) % 256)] 5)) 25 25 5 i0 _ 1 Try.underlying25 hi hz0 hz1 hz2 rfl A n n (bs l) (HS.out.ext (ext.trans eA)) _ 1 1 _ hs1 (bs_one _) (by omega) (by unfold maxLen; omega) (by omega)
        have ext3 : Ext w w3 := (ext.trans eA).grown hg3 (by simp)
        have own4 : w3.ownsRow w.heap.size 5 1 v3 (n + 1) (bs (l ++ le 1 x)) := by
          rw [bs_append]
          exact own_mono own3 (ext.trans eA).size
        have HOwn := Lib.hid own4
        clear own3 own4 hg3 ext eA hs1 hcell
        go_wp2_with (first | (at_builtin; refine wpList_append_run rfl (.tmp 18) (.tmp 24) _ rfl _ _ rfl rfl v3 w3 hrun3 ?_) | fail)
        go_roundw
        case rel => exact ⟨1, by omega, by go_num, .inr ⟨by omega, HOwn.out⟩, ext3⟩
        case measure => simp [intOf]
      · have hs1 := sees_new wr 5 #[.int .u8 ((x : Int) / 2 ^ (8 * k) % 256)] (by simp [maxLen])
        have eA : Ext wr (wr.alloc (.cells #[.int .u8 ((x : Int) / 2 ^ (8 * k) % 256)] 5)) := (Ext.refl _).alloc _
        have ownA := own.alloc (.cells #[.int .u8 ((x : Int) / 2 ^ (8 * k) % 256)] 5)
        have hcell : (#[Value.int .u8 ((x : Int) / 2 ^ (8 * k) % 256)] : Array Value).toList = bs [UInt8.ofNat (x / 256 ^ k % 256)] := le_cell x k
        rw [hcell] at hs1
        obtain ⟨v3, w3, hrun3, own3, hg3, _⟩ := run_append_sees (P := Try.prog) (w := wr.alloc (.cells #[.int .u8 ((x : Int) / 2 ^ (8 * k) % 256)] 5)) w.heap.size 25 25 5 i0 _ 1 Try.underlying25 hi hz0 hz1 hz2 rfl _ _ _ ownA _ 1 1 _ hs1 (bs_one _) (by unfold maxLen; omega) (by omega) (by have := ext.size; have := eA.size; omega)
        have ext3 : Ext w w3 := (ext.trans eA).grown hg3 fun k hk => (ownA.lt k hk).1
        have own4 : w3.ownsRow w.heap.size 5 1 v3 (n + (k + 1)) (bs (l ++ le (k + 1) x)) := by
          rw [le_push, ← List.append_assoc, bs_append]
          exact own3
        have HOwn := Lib.hid own4
        have hk1 : k + 1 ≤ 8 := by omega
        clear own own3 own4 ownA hg3 ext eA hs1 hcell
        go_wp2_with (first | (at_builtin; refine wpList_append_run rfl (.tmp 18) (.tmp 24) _ rfl _ _ rfl rfl v3 w3 hrun3 ?_) | fail)
        go_roundw
        case rel => exact ⟨k + 1, by omega, by go_num, .inr ⟨by omega, HOwn.out⟩, ext3⟩
        case measure => simp [intOf]; omega
    · obtain rfl : k = 8 := by omega
      rcases hP with ⟨h, _⟩ | ⟨_, own⟩
      · omega
      · go_wp2
        go_ret
        exact ⟨_, rfl, own, ext⟩
set_option maxRecDepth 20000 in
set_option maxHeartbeats 1000000 in
theorem lay_u8 (A : Option Addr) (n c : Nat) (x : Nat) (l : List UInt8) (w : World) (hs : Sees w A n c (bs l)) (hn : n ≤ 1000000) (hx : x < 256) :
    Calls Try.prog 89 #[.slice A n c, .int .u8 (x : Int), .int .i64 1] w fun e w' => ∃ v, e = .returned v ∧ w'.ownsRow w.heap.size 5 1 v (n + 1) (bs (l ++ le 1 x)) ∧ Ext w w' := by
  obtain ⟨i0, hi, hz0, hz1, hz2⟩ := info_parts infoB
  have hc := hs.le
  have hm := hs.max
  unfold maxLen at hm
  have hsf : Sees w A n n (bs l) := ⟨hs.1, Nat.le_refl _, by unfold maxLen; omega, fun h => by have := hs.2.2.2.1 h; omega, hs.2.2.2.2⟩
  have HS := Lib.hid hsf
  clear hs hsf
  go_enter Try.func89, Try.ntmps89
  go_wp2_with fail
  go_loopw [0, 15] (fun v i wr => ∃ k : Nat, k ≤ 1 ∧ i = .int .i64 k ∧ ((k = 0 ∧ v = .slice A n n) ∨ (0 < k ∧ wr.ownsRow w.heap.size 5 1 v (n + k) (bs (l ++ le k x)))) ∧ Ext w wr) (fun _ i _ => 1 - (intOf i).toNat)
  case atStart => exact ⟨0, by omega, rfl, .inl ⟨rfl, rfl⟩, Ext.refl _⟩
  case round =>
    obtain ⟨k, hk, rfl, hP, ext⟩ := hrel
    by_cases hlt : k < 1
    · rcases hP with ⟨rfl, rfl⟩ | ⟨hk0, own⟩
      · have hs1 := sees_new wr 5 #[.int .u8 (x : Int)] (by simp [maxLen])
        have eA : Ext wr (wr.alloc (.cells #[.int .u8 (x : Int)] 5)) := (Ext.refl _).alloc _
        have hcell : (#[Value.int .u8 (x : Int)] : Array Value).toList = bs (le 1 x) := by
          simp [bs, le] <;> omega
        rw [hcell] at hs1
        obtain ⟨v3, w3, hrun3, own3, hg3⟩ := run_append_full (P := Try.prog) (w := wr.alloc (.cells #[.int .u8 (x : Int)] 5)) 25 25 5 i0 _ 1 Try.underlying25 hi hz0 hz1 hz2 rfl A n n (bs l) (HS.out.ext (ext.trans eA)) _ 1 1 _ hs1 (bs_one _) (by omega) (by unfold maxLen; omega) (by omega)
        have ext3 : Ext w w3 := (ext.trans eA).grown hg3 (by simp)
        have own4 : w3.ownsRow w.heap.size 5 1 v3 (n + 1) (bs (l ++ le 1 x)) := by
          rw [bs_append]
          exact own_mono own3 (ext.trans eA).size
        have HOwn := Lib.hid own4
        clear own3 own4 hg3 ext eA hs1 hcell
        go_wp2_with (first | (at_builtin; refine wpList_append_run rfl (.tmp 18) (.tmp 25) _ rfl _ _ rfl rfl v3 w3 hrun3 ?_) | fail)
        go_roundw
        case rel => exact ⟨1, by omega, by go_num, .inr ⟨by omega, HOwn.out⟩, ext3⟩
        case measure => simp [intOf]
      · omega
    · obtain rfl : k = 1 := by omega
      rcases hP with ⟨h, _⟩ | ⟨_, own⟩
      · omega
      · go_wp2
        go_ret
        exact ⟨_, rfl, own, ext⟩

end Go.Proofs.Ytihiclnbbpablaa
