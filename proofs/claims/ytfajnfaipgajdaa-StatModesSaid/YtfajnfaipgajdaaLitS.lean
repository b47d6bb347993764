/-
  Layer 2: numbers, the lowest part first: what is laid behind what is there; plain contracts.
-/
import Derived.Test.YtfajnfaipgajdaaCom0
import Derived.Lib.AppendStr
namespace Go.Proofs.Ytfajnfaipgajdaa
open Go Go.RowKit
set_option linter.unusedVariables false
set_option linter.unusedSimpArgs false

/-- The lowest k bytes of a number, the lowest first. -/
def le : Nat → Nat → List UInt8
  | 0, _ => []
  | k + 1, x => UInt8.ofNat (x % 256) :: le k (x / 256)
theorem le_length : ∀ k x, (le k x).length = k
  | 0, _ => rfl
  | k + 1, x => by simp [le, le_length k]
theorem le_push : ∀ k x, le (k + 1) x = le k x ++ [UInt8.ofNat (x / 256 ^ k % 256)]
  | 0, x => by simp [le]
  | k + 1, x => by
    have h := le_push k (x / 256)
    rw [le, h, le, List.cons_append, Nat.div_div_eq_div_mul, Nat.pow_succ']

theorem le_cell (x k : Nat) : (#[Value.int .u8 ((x : Int) / 2 ^ (8 * k) % 256)] : Array Value).toList = bs [UInt8.ofNat (x / 256 ^ k % 256)] := by
  have e : (2 : Int) ^ (8 * k) = ((256 ^ k : Nat) : Int) := by
    rw [Int.pow_mul]
    simp
  have h : (x : Int) / 2 ^ (8 * k) % 256 = ((x / 256 ^ k % 256 : Nat) : Int) := by
    rw [e]
    simp
  rw [h]
  simp [bs]
set_option maxRecDepth 20000 in
set_option maxHeartbeats 1000000 in
theorem lay_u32 (A : Option Addr) (n c : Nat) (x : Nat) (l : List UInt8) (w : World) (hs : Sees w A n c (bs l)) (hn : n ≤ 1000000) (hx : x < 4294967296) :
    Calls Try.prog 61 #[.slice A n c, .int .u32 (x : Int), .int .i64 4] w fun e w' => ∃ v, e = .returned v ∧ w'.ownsRow w.heap.size 5 1 v (n + 4) (bs (l ++ le 4 x)) ∧ Ext w w' := by
  obtain ⟨i0, hi, hz0, hz1, hz2⟩ := info_parts infoB
  have hc := hs.le
  have hm := hs.max
  unfold maxLen at hm
  have hsf : Sees w A n n (bs l) := ⟨hs.1, Nat.le_refl _, by unfold maxLen; omega, fun h => by have := hs.2.2.2.1 h; omega, hs.2.2.2.2⟩
  have HS := Lib.hid hsf
  clear hs hsf
  go_enter Try.func61, Try.ntmps61
  go_wp2_with fail
  go_loopw [0, 15] (fun v i wr => ∃ k : Nat, k ≤ 4 ∧ i = .int .i64 k ∧ ((k = 0 ∧ v = .slice A n n) ∨ (0 < k ∧ wr.ownsRow w.heap.size 5 1 v (n + k) (bs (l ++ le k x)))) ∧ Ext w wr) (fun _ i _ => 4 - (intOf i).toNat)
  case atStart => exact ⟨0, by omega, rfl, .inl ⟨rfl, rfl⟩, Ext.refl _⟩
  case round =>
    obtain ⟨k, hk, rfl, hP, ext⟩ := hrel
    by_cases hlt : k < 4
    · rcases hP with ⟨rfl, rfl⟩ | ⟨hk0, own⟩
      · have hs1 := sees_new wr 5 #[.int .u8 ((x : Int) % 256)] (by simp [maxLen])
        have eA : Ext wr (wr.alloc (.cells #[.int .u8 ((x : Int) % 256)] 5)) := (Ext.refl _).alloc _
        have hcell : (#[Value.int .u8 ((x : Int) % 256)] : Array Value).toList = bs (le 1 x) := by
          simp [bs, le] <;> omega
        rw [hcell] at hs1
        obtain ⟨v3, w3, hrun3, own3, hg3⟩ := run_append_full (P := Try.prog) (w := wr.alloc (.cells #[.int .u8 ((x : Int) % 256)] 5)) 37 37 5 i0 _ 1 Try.underlying37 hi hz0 hz1 hz2 rfl A n n (bs l) (HS.out.ext (ext.trans eA)) _ 1 1 _ hs1 (bs_one _) (by omega) (by unfold maxLen; omega) (by omega)
        have ext3 : Ext w w3 := (ext.trans eA).grown hg3 (by simp)
        have own4 : w3.ownsRow w.heap.size 5 1 v3 (n + 1) (bs (l ++ le 1 x)) := by
          rw [bs_append]
          exact own_mono own3 (ext.trans eA).size
        have HOwn := Lib.hid own4
        clear own3 own4 hg3 ext eA hs1 hcell
        go_wp2_with (first | (at_builtin; refine wpList_append_run rfl (.tmp 18) (.tmp 25) _ rfl _ _ rfl rfl v3 w3 hrun3 ?_) | fail)
        go_roundw
        case rel => exact ⟨1, by omega, by go_num, .inr ⟨by omega, HOwn.out⟩, ext3⟩
        case measure => simp [intOf]
      · have hs1 := sees_new wr 5 #[.int .u8 ((x : Int) / 2 ^ (8 * k) % 256)] (by simp [maxLen])
        have eA : Ext wr (wr.alloc (.cells #[.int .u8 ((x : Int) / 2 ^ (8 * k) % 256)] 5)) := (Ext.refl _).alloc _
        have ownA := own.alloc (.cells #[.int .u8 ((x : Int) / 2 ^ (8 * k) % 256)] 5)
        have hcell : (#[Value.int .u8 ((x : Int) / 2 ^ (8 * k) % 256)] : Array Value).toList = bs [UInt8.ofNat (x / 256 ^ k % 256)] := le_cell x k
        rw [hcell] at hs1
        obtain ⟨v3, w3, hrun3, own3, hg3, _⟩ := run_append_sees (P := Try.prog) (w := wr.alloc (.cells #[.int .u8 ((x : Int) / 2 ^ (8 * k) % 256)] 5)) w.heap.size 37 37 5 i0 _ 1 Try.underlying37 hi hz0 hz1 hz2 rfl _ _ _ ownA _ 1 1 _ hs1 (bs_one _) (by unfold maxLen; omega) (by omega) (by have := ext.size; have := eA.size; omega)
        have ext3 : Ext w w3 := (ext.trans eA).grown hg3 fun k hk => (ownA.lt k hk).1
        have own4 : w3.ownsRow w.heap.size 5 1 v3 (n + (k + 1)) (bs (l ++ le (k + 1) x)) := by
          rw [le_push, ← List.append_assoc, bs_append]
          exact own3
        have HOwn := Lib.hid own4
        have hk1 : k + 1 ≤ 4 := by omega
        clear own own3 own4 ownA hg3 ext eA hs1 hcell
        go_wp2_with (first | (at_builtin; refine wpList_append_run rfl (.tmp 18) (.tmp 25) _ rfl _ _ rfl rfl v3 w3 hrun3 ?_) | fail)
        go_roundw
        case rel => exact ⟨k + 1, by omega, by go_num, .inr ⟨by omega, HOwn.out⟩, ext3⟩
        case measure => simp [intOf]; omega
    · obtain rfl : k = 4 := by omega
      rcases hP with ⟨h, _⟩ | ⟨_, own⟩
      · omega
      · go_wp2
        go_ret
        exact ⟨_, rfl, own, ext⟩
set_option maxRecDepth 20000 in
set_option maxHeartbeats 1000000 in
theorem lay_u16 (A : Option Addr) (n c : Nat) (x : Nat) (l : List UInt8) (w : World) (hs : Sees w A n c (bs l)) (hn : n ≤ 1000000) (hx : x < 65536) :
    Calls Try.prog 64 #[.slice A n c, .int .u16 (x : Int), .int .i64 2] w fun e w' => ∃ v, e = .returned v ∧ w'.ownsRow w.heap.size 5 1 v (n + 2) (bs (l ++ le 2 x)) ∧ Ext w w' := by
  obtain ⟨i0, hi, hz0, hz1, hz2⟩ := info_parts infoB
  have hc := hs.le
  have hm := hs.max
  unfold maxLen at hm
  have hsf : Sees w A n n (bs l) := ⟨hs.1, Nat.le_refl _, by unfold maxLen; omega, fun h => by have := hs.2.2.2.1 h; omega, hs.2.2.2.2⟩
  have HS := Lib.hid hsf
  clear hs hsf
  go_enter Try.func64, Try.ntmps64
  go_wp2_with fail
  go_loopw [0, 15] (fun v i wr => ∃ k : Nat, k ≤ 2 ∧ i = .int .i64 k ∧ ((k = 0 ∧ v = .slice A n n) ∨ (0 < k ∧ wr.ownsRow w.heap.size 5 1 v (n + k) (bs (l ++ le k x)))) ∧ Ext w wr) (fun _ i _ => 2 - (intOf i).toNat)
  case atStart => exact ⟨0, by omega, rfl, .inl ⟨rfl, rfl⟩, Ext.refl _⟩
  case round =>
    obtain ⟨k, hk, rfl, hP, ext⟩ := hrel
    by_cases hlt : k < 2
    · rcases hP with ⟨rfl, rfl⟩ | ⟨hk0, own⟩
      · have hs1 := sees_new wr 5 #[.int .u8 ((x : Int) % 256)] (by simp [maxLen])
        have eA : Ext wr (wr.alloc (.cells #[.int .u8 ((x : Int) % 256)] 5)) := (Ext.refl _).alloc _
        have hcell : (#[Value.int .u8 ((x : Int) % 256)] : Array Value).toList = bs (le 1 x) := by
          simp [bs, le] <;> omega
        rw [hcell] at hs1
        obtain ⟨v3, w3, hrun3, own3, hg3⟩ := run_append_full (P := Try.prog) (w := wr.alloc (.cells #[.int .u8 ((x : Int) % 256)] 5)) 37 37 5 i0 _ 1 Try.underlying37 hi hz0 hz1 hz2 rfl A n n (bs l) (HS.out.ext (ext.trans eA)) _ 1 1 _ hs1 (bs_one _) (by omega) (by unfold maxLen; omega) (by omega)
        have ext3 : Ext w w3 := (ext.trans eA).grown hg3 (by simp)
        have own4 : w3.ownsRow w.heap.size 5 1 v3 (n + 1) (bs (l ++ le 1 x)) := by
          rw [bs_append]
          exact own_mono own3 (ext.trans eA).size
        have HOwn := Lib.hid own4
        clear own3 own4 hg3 ext eA hs1 hcell
        go_wp2_with (first | (at_builtin; refine wpList_append_run rfl (.tmp 18) (.tmp 25) _ rfl _ _ rfl rfl v3 w3 hrun3 ?_) | fail)
        go_roundw
        case rel => exact ⟨1, by omega, by go_num, .inr ⟨by omega, HOwn.out⟩, ext3⟩
        case measure => simp [intOf]
      · have hs1 := sees_new wr 5 #[.int .u8 ((x : Int) / 2 ^ (8 * k) % 256)] (by simp [maxLen])
        have eA : Ext wr (wr.alloc (.cells #[.int .u8 ((x : Int) / 2 ^ (8 * k) % 256)] 5)) := (Ext.refl _).alloc _
        have ownA := own.alloc (.cells #[.int .u8 ((x : Int) / 2 ^ (8 * k) % 256)] 5)
        have hcell : (#[Value.int .u8 ((x : Int) / 2 ^ (8 * k) % 256)] : Array Value).toList = bs [UInt8.ofNat (x / 256 ^ k % 256)] := le_cell x k
        rw [hcell] at hs1
        obtain ⟨v3, w3, hrun3, own3, hg3, _⟩ := run_append_sees (P := Try.prog) (w := wr.alloc (.cells #[.int .u8 ((x : Int) / 2 ^ (8 * k) % 256)] 5)) w.heap.size 37 37 5 i0 _ 1 Try.underlying37 hi hz0 hz1 hz2 rfl _ _ _ ownA _ 1 1 _ hs1 (bs_one _) (by unfold maxLen; omega) (by omega) (by have := ext.size; have := eA.size; omega)
        have ext3 : Ext w w3 := (ext.trans eA).grown hg3 fun k hk => (ownA.lt k hk).1
        have own4 : w3.ownsRow w.heap.size 5 1 v3 (n + (k + 1)) (bs (l ++ le (k + 1) x)) := by
          rw [le_push, ← List.append_assoc, bs_append]
          exact own3
        have HOwn := Lib.hid own4
        have hk1 : k + 1 ≤ 2 := by omega
        clear own own3 own4 ownA hg3 ext eA hs1 hcell
        go_wp2_with (first | (at_builtin; refine wpList_append_run rfl (.tmp 18) (.tmp 25) _ rfl _ _ rfl rfl v3 w3 hrun3 ?_) | fail)
        go_roundw
        case rel => exact ⟨k + 1, by omega, by go_num, .inr ⟨by omega, HOwn.out⟩, ext3⟩
        case measure => simp [intOf]; omega
    · obtain rfl : k = 2 := by omega
      rcases hP with ⟨h, _⟩ | ⟨_, own⟩
      · omega
      · go_wp2
        go_ret
        exact ⟨_, rfl, own, ext⟩
/-- []byte(s) of a string. -/
theorem bytes_of (t : List UInt8) (w : World) (ht : t.length ≤ 1000000) : ∃ c w', (convert 9 37 (.string ⟨t.toArray⟩)).run Try.prog w = .ok (.slice (some ⟨w.heap.size, 0, none⟩) t.length c) w' ∧ Sees w' (some ⟨w.heap.size, 0, none⟩) t.length c (bs t) ∧ Ext w w' := by
  have h := run_bytes_of_string (P := Try.prog) w 9 37 5 ⟨t.toArray⟩ Try.underlying9 Try.underlying37 Try.underlying5
  have hsz : (ByteArray.mk t.toArray).size = t.length := by simp [ByteArray.size]
  rw [hsz] at h
  refine ⟨_, _, h, ⟨bs_length t, ?_, ?_, nofun, fun _ => ⟨_, _, rfl, fun j u hu => ?_⟩⟩, ((Ext.refl w).drew).alloc _⟩
  · exact grownCap_ge w _ _ _
  · exact grownCap_le_maxLen w _ _ _ (by unfold maxLen; omega)
  · obtain ⟨hj, rfl⟩ := bs_get t j u hu
    rw [Nat.zero_add, cell_of_row _ w.heap.size j _ _ _ (heap_alloc_new w.drew _), bytesRow_at _ _ _ (by simpa using hj)]
    simp
theorem strCells_bs (t : List UInt8) : Go.Lib.strCells ⟨t.toArray⟩ = bs t := by simp [Go.Lib.strCells, bs]
/-- A builtin append of a string at the operation, by its run. -/
theorem wpList_append_str {P : Program} {w : World} {ops : Array Oper} {rest : List Oper} {o : Oper} {a : Act} {Q : Exit → Act → World → Prop} (hgd : o.guard = none) (s x : Operand) (t t2 : TypeId)
    (ho : o.op = .call { callee := .builtin .append, args := #[s, x], argTypes := #[t, t2] }) (v u : Value) (hs : a.eval s = v) (hx : a.eval x = u) (v' : Value) (w' : World)
    (hrun : (Builtin.append_ #[t, t2] o.type #[v, u]).run P w = .ok v' w') (h : wpList P ops Q rest (a.put o.dst v') w') : wpList P ops Q (o :: rest) a w := by
  refine wpList_plain hgd fun K hK => ?_
  unfold Oper.wp execOp
  simp only [ho, resolve, invoke, builtin, Sem.run_bind, Sem.run_pure, Result.andThen_ok, List.map_toArray, List.map_cons, List.map_nil, hs, hx, hrun]
  exact hK _ _ h

theorem lu_u16 (A : Option Addr) (n c : Nat) (x : Nat) (l : List UInt8) (w : World) (hs : Sees w A n c (bs l)) (hn : n ≤ 1000000) (hx : x < 65536) :
    Calls Try.prog 62 #[.slice A n c, .int .u16 (x : Int)] w fun e w' => ∃ v, e = .returned v ∧ w'.ownsRow w.heap.size 5 1 v (n + 2) (bs (l ++ le 2 x)) ∧ Ext w w' := by
  have hm := hs.max
  have hc := hs.le
  unfold maxLen at hm
  have HL := Lib.hid (lay_u16 A n c x l w hs hn hx)
  clear hs
  go_enter Try.func62, Try.ntmps62
  go_wp2_with fail
  refine (Calls.mono HL.out ?_)
  rintro e w1 ⟨v1, rfl, own1, e1⟩
  go_wp2
  go_ret
  exact ⟨_, rfl, own1, e1⟩
theorem lu_u32 (A : Option Addr) (n c : Nat) (x : Nat) (l : List UInt8) (w : World) (hs : Sees w A n c (bs l)) (hn : n ≤ 1000000) (hx : x < 4294967296) :
    Calls Try.prog 43 #[.slice A n c, .int .u32 (x : Int)] w fun e w' => ∃ v, e = .returned v ∧ w'.ownsRow w.heap.size 5 1 v (n + 4) (bs (l ++ le 4 x)) ∧ Ext w w' := by
  have hm := hs.max
  have hc := hs.le
  unfold maxLen at hm
  have HL := Lib.hid (lay_u32 A n c x l w hs hn hx)
  clear hs
  go_enter Try.func43, Try.ntmps43
  go_wp2_with fail
  refine (Calls.mono HL.out ?_)
  rintro e w1 ⟨v1, rfl, own1, e1⟩
  go_wp2
  go_ret
  exact ⟨_, rfl, own1, e1⟩

theorem ltext_any (A : Option Addr) (n c : Nat) (l t : List UInt8) (w : World) (hs : Sees w A n c (bs l)) (hn : n ≤ 900000) (ht : t.length ≤ 60000) :
    Calls Try.prog 44 #[.slice A n c, .string ⟨t.toArray⟩] w fun e w' => ∃ v, e = .returned v ∧ w'.ownsRow w.heap.size 5 1 v (n + 2 + t.length) (bs (l ++ le 2 t.length ++ t)) ∧ Ext w w' := by
  obtain ⟨i0, hi, hz0, hz1, hz2⟩ := info_parts infoB
  have hm := hs.max
  have hc := hs.le
  unfold maxLen at hm
  have HL := Lib.hid (lu_u16 A n c t.length l w hs (by omega) (by omega))
  have hsz : (ByteArray.mk t.toArray).size = t.length := by simp [ByteArray.size]
  have HSZ := Lib.hid hsz
  clear hs
  go_enter Try.func44, Try.ntmps44
  go_wp2_with fail
  refine (Calls.mono HL.out ?_)
  rintro e w1 ⟨v1, rfl, own1, e1⟩
  obtain ⟨v3, w3, hrun3, own3, hg3, _⟩ := Go.Lib.run_append_own_string (P := Try.prog) (w := w1) w.heap.size 37 9 37 5 i0 Try.underlying37 Try.underlying9 hi hz0 hz1 hz2 _ _ _ own1 ⟨t.toArray⟩ (by rw [HSZ.out]; unfold maxLen; omega) (by rw [HSZ.out]; omega) e1.size
  have ext3 : Ext w w3 := e1.grown hg3 fun k hk => (own1.lt k hk).1
  rw [HSZ.out, strCells_bs, ← bs_append] at own3
  clear own1 hg3 e1 HL
  go_wp2_with (first | (at_builtin; refine wpList_append_str rfl (.tmp 9) (.tmp 10) _ _ rfl _ _ rfl rfl v3 w3 hrun3 ?_) | fail)
  go_ret
  exact ⟨_, rfl, own3, ext3⟩
end Go.Proofs.Ytfajnfaipgajdaa
