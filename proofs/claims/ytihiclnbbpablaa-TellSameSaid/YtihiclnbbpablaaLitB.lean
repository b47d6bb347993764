/-
  Layer 2: numbers, texts, data and messages: what is laid, on both sides; plain contracts; the example is met.
-/
import Derived.Test.YtihiclnbbpablaaLitA
import Derived.Lib.AppendStr
namespace Go.Proofs.Ytihiclnbbpablaa
open Go Go.RowKit
set_option linter.unusedVariables false
set_option linter.unusedSimpArgs false

/-- []byte(s) of a string. -/
theorem bytes_of (t : List UInt8) (w : World) (ht : t.length ≤ 1000000) : ∃ c w', (convert 9 25 (.string ⟨t.toArray⟩)).run Try.prog w = .ok (.slice (some ⟨w.heap.size, 0, none⟩) t.length c) w' ∧ Sees w' (some ⟨w.heap.size, 0, none⟩) t.length c (bs t) ∧ Ext w w' := by
  have h := run_bytes_of_string (P := Try.prog) w 9 25 5 ⟨t.toArray⟩ Try.underlying9 Try.underlying25 Try.underlying5
  have hsz : (ByteArray.mk t.toArray).size = t.length := by simp [ByteArray.size]
  rw [hsz] at h
  refine ⟨_, _, h, ⟨bs_length t, ?_, ?_, nofun, fun _ => ⟨_, _, rfl, fun j u hu => ?_⟩⟩, ((Ext.refl w).drew).alloc _⟩
  · exact grownCap_ge w _ _ _
  · exact grownCap_le_maxLen w _ _ _ (by unfold maxLen; omega)
  · obtain ⟨hj, rfl⟩ := bs_get t j u hu
    rw [Nat.zero_add, cell_of_row _ w.heap.size j _ _ _ (heap_alloc_new w.drew _), bytesRow_at _ _ _ (by simpa using hj)]
    simp
theorem strCells_bs (t : List UInt8) : Go.Lib.strCells ⟨t.toArray⟩ = bs t := by simp [Go.Lib.strCells, bs]
/-- A builtin append of a string at the operation, by its run. -/
theorem wpList_append_str {P : Program} {w : World} {ops : Array Oper} {rest : List Oper} {o : Oper} {a : Act} {Q : Exit → Act → World → Prop} (hgd : o.guard = none) (s x : Operand) (t t2 : TypeId)
    (ho : o.op = .call { callee := .builtin .append, args := #[s, x], argTypes := #[t, t2] }) (v u : Value) (hs : a.eval s = v) (hx : a.eval x = u) (v' : Value) (w' : World)
    (hrun : (Builtin.append_ #[t, t2] o.type #[v, u]).run P w = .ok v' w') (h : wpList P ops Q rest (a.put o.dst v') w') : wpList P ops Q (o :: rest) a w := by
  refine wpList_plain hgd fun K hK => ?_
  unfold Oper.wp execOp
  simp only [ho, resolve, invoke, builtin, Sem.run_bind, Sem.run_pure, Result.andThen_ok, List.map_toArray, List.map_cons, List.map_nil, hs, hx, hrun]
  exact hK _ _ h

theorem lu_u8 (A : Option Addr) (n c : Nat) (x : Nat) (l : List UInt8) (w : World) (hs : Sees w A n c (bs l)) (hn : n ≤ 1000000) (hx : x < 256) :
    Calls Try.prog 63 #[.slice A n c, .int .u8 (x : Int)] w fun e w' => ∃ v, e = .returned v ∧ w'.ownsRow w.heap.size 5 1 v (n + 1) (bs (l ++ le 1 x)) ∧ Ext w w' := by
  have hm := hs.max
  have hc := hs.le
  unfold maxLen at hm
  have HL := Lib.hid (lay_u8 A n c x l w hs hn hx)
  clear hs
  go_enter Try.func63, Try.ntmps63
  go_wp2_with fail
  refine (Calls.mono HL.out ?_)
  rintro e w1 ⟨v1, rfl, own1, e1⟩
  go_wp2
  go_ret
  exact ⟨_, rfl, own1, e1⟩
theorem lu_u16 (A : Option Addr) (n c : Nat) (x : Nat) (l : List UInt8) (w : World) (hs : Sees w A n c (bs l)) (hn : n ≤ 1000000) (hx : x < 65536) :
    Calls Try.prog 59 #[.slice A n c, .int .u16 (x : Int)] w fun e w' => ∃ v, e = .returned v ∧ w'.ownsRow w.heap.size 5 1 v (n + 2) (bs (l ++ le 2 x)) ∧ Ext w w' := by
  have hm := hs.max
  have hc := hs.le
  unfold maxLen at hm
  have HL := Lib.hid (lay_u16 A n c x l w hs hn hx)
  clear hs
  go_enter Try.func59, Try.ntmps59
  go_wp2_with fail
  refine (Calls.mono HL.out ?_)
  rintro e w1 ⟨v1, rfl, own1, e1⟩
  go_wp2
  go_ret
  exact ⟨_, rfl, own1, e1⟩
theorem lu_u32 (A : Option Addr) (n c : Nat) (x : Nat) (l : List UInt8) (w : World) (hs : Sees w A n c (bs l)) (hn : n ≤ 1000000) (hx : x < 4294967296) :
    Calls Try.prog 56 #[.slice A n c, .int .u32 (x : Int)] w fun e w' => ∃ v, e = .returned v ∧ w'.ownsRow w.heap.size 5 1 v (n + 4) (bs (l ++ le 4 x)) ∧ Ext w w' := by
  have hm := hs.max
  have hc := hs.le
  unfold maxLen at hm
  have HL := Lib.hid (lay_u32 A n c x l w hs hn hx)
  clear hs
  go_enter Try.func56, Try.ntmps56
  go_wp2_with fail
  refine (Calls.mono HL.out ?_)
  rintro e w1 ⟨v1, rfl, own1, e1⟩
  go_wp2
  go_ret
  exact ⟨_, rfl, own1, e1⟩
theorem lu_u64 (A : Option Addr) (n c : Nat) (x : Nat) (l : List UInt8) (w : World) (hs : Sees w A n c (bs l)) (hn : n ≤ 1000000) (hx : x < 18446744073709551616) :
    Calls Try.prog 87 #[.slice A n c, .int .u64 (x : Int)] w fun e w' => ∃ v, e = .returned v ∧ w'.ownsRow w.heap.size 5 1 v (n + 8) (bs (l ++ le 8 x)) ∧ Ext w w' := by
  have hm := hs.max
  have hc := hs.le
  unfold maxLen at hm
  have HL := Lib.hid (lay_u64 A n c x l w hs hn hx)
  clear hs
  go_enter Try.func87, Try.ntmps87
  go_wp2_with fail
  refine (Calls.mono HL.out ?_)
  rintro e w1 ⟨v1, rfl, own1, e1⟩
  go_wp2
  go_ret
  exact ⟨_, rfl, own1, e1⟩

set_option maxHeartbeats 1000000 in
theorem rnumber_any (x sz : Nat) (w : World) (hx : x < 18446744073709551616) (hsz : sz ≤ 8) :
    Calls Try.prog 71 #[.int .u64 (x : Int), .int .i64 (sz : Int)] w fun e w' => ∃ v, e = .returned v ∧ w'.ownsRow w.heap.size 5 1 v sz (bs (le sz x)) ∧ Ext w w' := by
  obtain ⟨i0, hi, hz0, hz1, hz2⟩ := info_parts infoB
  go_enter Try.func71, Try.ntmps71
  go_wp2_with fail
  go_loopw [0, 5, 6] (fun y v i wr => ∃ k : Nat, k ≤ sz ∧ y = .int .u64 ((x / 256 ^ k : Nat) : Int) ∧ i = .int .i64 k ∧ wr.ownsRow w.heap.size 5 1 v k (bs (le k x)) ∧ Ext w wr) (fun _ _ i _ => sz - (intOf i).toNat)
  case atStart => exact ⟨0, by omega, by simp, rfl, World.ownsRow_nil _ _ _ _, Ext.refl _⟩
  case round =>
    obtain ⟨k, hk, rfl, rfl, own, ext⟩ := hrel
    have hy : x / 256 ^ k < 18446744073709551616 := Nat.lt_of_le_of_lt (Nat.div_le_self _ _) hx
    by_cases hlt : k < sz
    · have hnx : x / 256 ^ (k + 1) = x / 256 ^ k / 256 := by rw [Nat.pow_succ, Nat.div_div_eq_div_mul]
      have hps := le_push k x
      have HNX := Lib.hid hnx
      clear hnx
      have hs1 := sees_new wr 5 #[.int .u8 (((x / 256 ^ k : Nat) : Int) % 256)] (by simp [maxLen])
      have eA : Ext wr (wr.alloc (.cells #[.int .u8 (((x / 256 ^ k : Nat) : Int) % 256)] 5)) := (Ext.refl _).alloc _
      have ownA := own.alloc (.cells #[.int .u8 (((x / 256 ^ k : Nat) : Int) % 256)] 5)
      have hcell : (#[Value.int .u8 (((x / 256 ^ k : Nat) : Int) % 256)] : Array Value).toList = bs [UInt8.ofNat (x / 256 ^ k % 256)] := by
        simp [bs]
      rw [hcell] at hs1
      obtain ⟨v3, w3, hrun3, own3, hg3, _⟩ := run_append_sees (P := Try.prog) (w := wr.alloc (.cells #[.int .u8 (((x / 256 ^ k : Nat) : Int) % 256)] 5)) w.heap.size 25 25 5 i0 _ 1 Try.underlying25 hi hz0 hz1 hz2 rfl _ _ _ ownA _ 1 1 _ hs1 (bs_one _) (by unfold maxLen; omega) (by omega) (by have := ext.size; have := eA.size; omega)
      have ext3 : Ext w w3 := (ext.trans eA).grown hg3 fun k hk => (ownA.lt k hk).1
      have own4 : w3.ownsRow w.heap.size 5 1 v3 (k + 1) (bs (le (k + 1) x)) := by
        rw [hps, bs_append]
        exact own3
      have HOwn := Lib.hid own4
      clear own own3 own4 ownA hg3 ext eA hs1 hcell hps
      generalize x / 256 ^ k = y at *
      go_wp2_with (first | (at_builtin; refine wpList_append_run rfl (.tmp 12) (.tmp 16) _ rfl _ _ rfl rfl v3 w3 hrun3 ?_) | fail)
      go_roundw
      case rel => exact ⟨k + 1, by omega, by rw [HNX.out]; simp, by go_num, HOwn.out, ext3⟩
      case measure => simp [intOf]; omega
    · obtain rfl : k = sz := by omega
      generalize x / 256 ^ k = y at *
      go_wp2
      go_ret
      exact ⟨_, rfl, own, ext⟩

theorem ltext_any (A : Option Addr) (n c : Nat) (l t : List UInt8) (w : World) (hs : Sees w A n c (bs l)) (hn : n ≤ 900000) (ht : t.length ≤ 60000) :
    Calls Try.prog 57 #[.slice A n c, .string ⟨t.toArray⟩] w fun e w' => ∃ v, e = .returned v ∧ w'.ownsRow w.heap.size 5 1 v (n + 2 + t.length) (bs (l ++ le 2 t.length ++ t)) ∧ Ext w w' := by
  obtain ⟨i0, hi, hz0, hz1, hz2⟩ := info_parts infoB
  have hm := hs.max
  have hc := hs.le
  unfold maxLen at hm
  have HL := Lib.hid (lu_u16 A n c t.length l w hs (by omega) (by omega))
  have hsz : (ByteArray.mk t.toArray).size = t.length := by simp [ByteArray.size]
  have HSZ := Lib.hid hsz
  clear hs
  go_enter Try.func57, Try.ntmps57
  go_wp2_with fail
  refine (Calls.mono HL.out ?_)
  rintro e w1 ⟨v1, rfl, own1, e1⟩
  obtain ⟨v3, w3, hrun3, own3, hg3, _⟩ := Go.Lib.run_append_own_string (P := Try.prog) (w := w1) w.heap.size 25 9 25 5 i0 Try.underlying25 Try.underlying9 hi hz0 hz1 hz2 _ _ _ own1 ⟨t.toArray⟩ (by rw [HSZ.out]; unfold maxLen; omega) (by rw [HSZ.out]; omega) e1.size
  have ext3 : Ext w w3 := e1.grown hg3 fun k hk => (own1.lt k hk).1
  rw [HSZ.out, strCells_bs, ← bs_append] at own3
  clear own1 hg3 e1 HL
  go_wp2_with (first | (at_builtin; refine wpList_append_str rfl (.tmp 9) (.tmp 10) _ _ rfl _ _ rfl rfl v3 w3 hrun3 ?_) | fail)
  go_ret
  exact ⟨_, rfl, own3, ext3⟩
theorem ldata_any (A : Option Addr) (n c : Nat) (A2 : Option Addr) (n2 c2 : Nat) (l t : List UInt8) (w : World) (hs : Sees w A n c (bs l)) (hs2 : Sees w A2 n2 c2 (bs t)) (hn : n ≤ 900000) (ht : n2 ≤ 60000) :
    Calls Try.prog 61 #[.slice A n c, .slice A2 n2 c2] w fun e w' => ∃ v, e = .returned v ∧ w'.ownsRow w.heap.size 5 1 v (n + 4 + n2) (bs (l ++ le 4 n2 ++ t)) ∧ Ext w w' := by
  obtain ⟨i0, hi, hz0, hz1, hz2⟩ := info_parts infoB
  have hm := hs.max
  have hc := hs.le
  have hm2 := hs2.max
  have hc2 := hs2.le
  unfold maxLen at hm hm2
  have HL := Lib.hid (lu_u32 A n c n2 l w hs (by omega) (by omega))
  go_enter Try.func61, Try.ntmps61
  go_wp2_with fail
  refine (Calls.mono HL.out ?_)
  rintro e w1 ⟨v1, rfl, own1, e1⟩
  obtain ⟨v3, w3, hrun3, own3, hg3, _⟩ := run_append_sees (P := Try.prog) (w := w1) w.heap.size 25 25 5 i0 _ 1 Try.underlying25 hi hz0 hz1 hz2 rfl _ _ _ own1 _ _ _ _ (hs2.ext e1) (bs_one _) (by unfold maxLen; omega) (by omega) e1.size
  have ext3 : Ext w w3 := e1.grown hg3 fun k hk => (own1.lt k hk).1
  rw [← bs_append] at own3
  clear own1 hg3 e1 HL hs hs2
  go_wp2_with (first | (at_builtin; refine wpList_append_run rfl (.tmp 9) (.tmp 10) _ rfl _ _ rfl rfl v3 w3 hrun3 ?_) | fail)
  go_ret
  exact ⟨_, rfl, own3, ext3⟩
theorem rtext_any (t : List UInt8) (w : World) (ht : t.length ≤ 60000) :
    Calls Try.prog 68 #[.string ⟨t.toArray⟩] w fun e w' => ∃ v, e = .returned v ∧ w'.ownsRow w.heap.size 5 1 v (2 + t.length) (bs (le 2 t.length ++ t)) ∧ Ext w w' := by
  obtain ⟨i0, hi, hz0, hz1, hz2⟩ := info_parts infoB
  have HL := Lib.hid (rnumber_any t.length 2 w (by omega) (by omega))
  have hsz : (ByteArray.mk t.toArray).size = t.length := by simp [ByteArray.size]
  have HSZ := Lib.hid hsz
  go_enter Try.func68, Try.ntmps68
  go_wp2_with fail
  refine (Calls.mono HL.out ?_)
  rintro e w1 ⟨v1, rfl, own1, e1⟩
  obtain ⟨c2, w2, hconv, see2, e2⟩ := bytes_of t w1 (by omega)
  have own2 := own_ext own1 e2
  obtain ⟨v3, w3, hrun3, own3, hg3, _⟩ := run_append_sees (P := Try.prog) (w := w2) w.heap.size 25 25 5 i0 _ 1 Try.underlying25 hi hz0 hz1 hz2 rfl _ _ _ own2 _ _ _ _ see2 (bs_one _) (by unfold maxLen; omega) (by omega) (by have := e1.size; have := e2.size; omega)
  have ext3 : Ext w w3 := (e1.trans e2).grown hg3 fun k hk => (own2.lt k hk).1
  rw [← bs_append] at own3
  clear own1 own2 hg3 e1 e2 HL see2
  go_wp2_with (first | (at_builtin; refine wpList_append_run rfl (.tmp 6) (.tmp 8) _ rfl _ _ rfl rfl v3 w3 hrun3 ?_) | fail)
  go_ret
  exact ⟨_, rfl, own3, ext3⟩
theorem rdata_any (A2 : Option Addr) (n2 c2 : Nat) (t : List UInt8) (w : World) (hs2 : Sees w A2 n2 c2 (bs t)) (ht : n2 ≤ 60000) :
    Calls Try.prog 70 #[.slice A2 n2 c2] w fun e w' => ∃ v, e = .returned v ∧ w'.ownsRow w.heap.size 5 1 v (4 + n2) (bs (le 4 n2 ++ t)) ∧ Ext w w' := by
  obtain ⟨i0, hi, hz0, hz1, hz2⟩ := info_parts infoB
  have hm2 := hs2.max
  have hc2 := hs2.le
  unfold maxLen at hm2
  have HL := Lib.hid (rnumber_any n2 4 w (by omega) (by omega))
  go_enter Try.func70, Try.ntmps70
  go_wp2_with fail
  refine (Calls.mono HL.out ?_)
  rintro e w1 ⟨v1, rfl, own1, e1⟩
  obtain ⟨v3, w3, hrun3, own3, hg3, _⟩ := run_append_sees (P := Try.prog) (w := w1) w.heap.size 25 25 5 i0 _ 1 Try.underlying25 hi hz0 hz1 hz2 rfl _ _ _ own1 _ _ _ _ (hs2.ext e1) (bs_one _) (by unfold maxLen; omega) (by omega) e1.size
  have ext3 : Ext w w3 := e1.grown hg3 fun k hk => (own1.lt k hk).1
  rw [← bs_append] at own3
  clear own1 hg3 e1 HL hs2
  go_wp2_with (first | (at_builtin; refine wpList_append_run rfl (.tmp 6) (.tmp 7) _ rfl _ _ rfl rfl v3 w3 hrun3 ?_) | fail)
  go_ret
  exact ⟨_, rfl, own3, ext3⟩
/-- A message's bytes. -/
def lpk (kind tag : Nat) (t : List UInt8) : List UInt8 := le 4 (7 + t.length) ++ le 1 kind ++ le 2 tag ++ t
theorem lpack_any (kind tag : Nat) (A2 : Option Addr) (n2 c2 : Nat) (t : List UInt8) (w : World) (hs2 : Sees w A2 n2 c2 (bs t)) (hk : kind < 256) (htg : tag < 65536) (ht : n2 ≤ 60000) :
    Calls Try.prog 38 #[.int .u8 (kind : Int), .int .u16 (tag : Int), .slice A2 n2 c2] w fun e w' => ∃ v, e = .returned v ∧ w'.ownsRow w.heap.size 5 1 v (lpk kind tag t).length (bs (lpk kind tag t)) ∧ Ext w w' := by
  obtain ⟨i0, hi, hz0, hz1, hz2⟩ := info_parts infoB
  have hm2 := hs2.max
  have hc2 := hs2.le
  have hln := hs2.len
  rw [bs_length] at hln
  unfold maxLen at hm2
  have hl : (lpk kind tag t).length = 0 + 4 + 1 + 2 + n2 := by
    unfold lpk
    simp only [List.length_append, le_length, hln] <;> omega
  have hlp : lpk kind tag t = [] ++ le 4 (7 + n2) ++ le 1 kind ++ le 2 tag ++ t := by
    unfold lpk
    rw [hln]
    rfl
  have HLn := Lib.hid hl
  have HLp := Lib.hid hlp
  clear hl hlp hln
  have HL := Lib.hid (lu_u32 none 0 0 (7 + n2) [] w (Sees.nil w) (by omega) (by omega))
  go_enter Try.func38, Try.ntmps38
  go_wp2_with fail
  refine (Calls.mono HL.out ?_)
  rintro e w1 ⟨v1, rfl, own1, e1⟩
  obtain ⟨A1, c1, rfl, see1⟩ := Sees.of_own own1
  have HL2 := Lib.hid (lu_u8 _ _ _ kind _ w1 see1 (by omega) hk)
  clear own1 see1 HL
  go_wp2_with fail
  refine (Calls.mono HL2.out ?_)
  rintro e w2 ⟨v2, rfl, own2, e2⟩
  obtain ⟨A2', c2', rfl, see2⟩ := Sees.of_own own2
  have HL3 := Lib.hid (lu_u16 _ _ _ tag _ w2 see2 (by omega) htg)
  clear own2 see2 HL2
  go_wp2_with fail
  refine (Calls.mono HL3.out ?_)
  rintro e w4 ⟨v4, rfl, own4, e4⟩
  have ext4 := (e1.trans e2).trans e4
  have own5 := own_mono own4 (show w.heap.size ≤ w2.heap.size from (e1.trans e2).size)
  obtain ⟨v3, w3, hrun3, own3, hg3, _⟩ := run_append_sees (P := Try.prog) (w := w4) w.heap.size 25 25 5 i0 _ 1 Try.underlying25 hi hz0 hz1 hz2 rfl _ _ _ own5 _ _ _ _ (hs2.ext ext4) (bs_one _) (by unfold maxLen; omega) (by omega) ext4.size
  have ext3 : Ext w w3 := ext4.grown hg3 fun k hk => (own5.lt k hk).1
  rw [← bs_append, ← HLp.out, ← HLn.out] at own3
  clear own4 own5 hg3 e1 e2 e4 ext4 HL3 hs2
  go_wp2_with (first | (at_builtin; refine wpList_append_run rfl (.tmp 17) (.tmp 18) _ rfl _ _ rfl rfl v3 w3 hrun3 ?_) | fail)
  go_ret
  exact ⟨_, rfl, own3, ext3⟩
set_option maxRecDepth 20000 in
set_option maxHeartbeats 1000000 in
theorem rpack_any (kind tag : Nat) (A2 : Option Addr) (n2 c2 : Nat) (t : List UInt8) (w : World) (hs2 : Sees w A2 n2 c2 (bs t)) (hk : kind < 256) (htg : tag < 65536) (ht : n2 ≤ 60000) :
    Calls Try.prog 43 #[.int .i64 (kind : Int), .int .i64 (tag : Int), .slice A2 n2 c2] w fun e w' => ∃ v, e = .returned v ∧ w'.ownsRow w.heap.size 5 1 v (lpk kind tag t).length (bs (lpk kind tag t)) ∧ Ext w w' := by
  obtain ⟨i0, hi, hz0, hz1, hz2⟩ := info_parts infoB
  have hm2 := hs2.max
  have hc2 := hs2.le
  have hln := hs2.len
  rw [bs_length] at hln
  unfold maxLen at hm2
  have hl : (lpk kind tag t).length = 4 + 1 + 2 + n2 := by
    unfold lpk
    simp only [List.length_append, le_length, hln] <;> omega
  have hlp : lpk kind tag t = le 4 (7 + n2) ++ le 1 kind ++ le 2 tag ++ t := by
    unfold lpk
    rw [hln]
  have HLn := Lib.hid hl
  have HLp := Lib.hid hlp
  clear hl hlp hln
  have HL := Lib.hid (rnumber_any (7 + n2) 4 w (by omega) (by omega))
  go_enter Try.func43, Try.ntmps43
  go_wp2_with fail
  refine (Calls.mono HL.out ?_)
  rintro e w1 ⟨v1, rfl, own1, e1⟩
  have hs1 := sees_new w1 5 #[.int .u8 (kind : Int)] (by simp [maxLen])
  have eA : Ext w1 (w1.alloc (.cells #[.int .u8 (kind : Int)] 5)) := (Ext.refl _).alloc _
  have ownA := own1.alloc (.cells #[.int .u8 (kind : Int)] 5)
  have hcell : (#[Value.int .u8 (kind : Int)] : Array Value).toList = bs (le 1 kind) := by
    simp [bs, le] <;> omega
  rw [hcell] at hs1
  obtain ⟨v5, w5, hrun5, own5, hg5, _⟩ := run_append_sees (P := Try.prog) (w := w1.alloc (.cells #[.int .u8 (kind : Int)] 5)) w.heap.size 25 25 5 i0 _ 1 Try.underlying25 hi hz0 hz1 hz2 rfl _ _ _ ownA _ 1 1 _ hs1 (bs_one _) (by unfold maxLen; omega) (by omega) (by have := e1.size; have := eA.size; omega)
  have ext5 : Ext w w5 := (e1.trans eA).grown hg5 fun k hk => (ownA.lt k hk).1
  rw [← bs_append] at own5
  have HL2 := Lib.hid (rnumber_any tag 2 w5 (by omega) (by omega))
  clear own1 ownA hs1 hcell eA e1 hg5
  go_wp2_with (first | (at_builtin; refine wpList_append_run rfl (.tmp 13) (.tmp 16) _ rfl _ _ rfl rfl v5 w5 hrun5 ?_) | fail)
  refine (Calls.mono HL2.out ?_)
  rintro e w6 ⟨v6, rfl, own6, e6⟩
  obtain ⟨A6, c6, rfl, see6⟩ := Sees.of_own own6
  have own5b := own_ext own5 e6
  have ext6 := ext5.trans e6
  obtain ⟨v7, w7, hrun7, own7, hg7, _⟩ := run_append_sees (P := Try.prog) (w := w6) w.heap.size 25 25 5 i0 _ 1 Try.underlying25 hi hz0 hz1 hz2 rfl _ _ _ own5b _ _ _ _ see6 (bs_one _) (by unfold maxLen; omega) (by omega) ext6.size
  have ext7 : Ext w w7 := ext6.grown hg7 fun k hk => (own5b.lt k hk).1
  rw [← bs_append] at own7
  obtain ⟨v8, w8, hrun8, own8, hg8, _⟩ := run_append_sees (P := Try.prog) (w := w7) w.heap.size 25 25 5 i0 _ 1 Try.underlying25 hi hz0 hz1 hz2 rfl _ _ _ own7 _ _ _ _ (hs2.ext ext7) (bs_one _) (by unfold maxLen; omega) (by omega) ext7.size
  have ext8 : Ext w w8 := ext7.grown hg8 fun k hk => (own7.lt k hk).1
  rw [← bs_append, ← HLp.out, ← HLn.out] at own8
  clear own5 own6 own5b own7 see6 hg7 hg8 e6 ext5 ext6 ext7 HL2 hs2
  go_wp2_with (first | (at_builtin; refine wpList_append_run rfl (.tmp 18) (.tmp 21) _ rfl _ _ rfl rfl v7 w7 hrun7 ?_) | (at_builtin; refine wpList_append_run rfl (.tmp 23) (.tmp 24) _ rfl _ _ rfl rfl v8 w8 hrun8 ?_) | fail)
  go_ret
  exact ⟨_, rfl, own8, ext8⟩
end Go.Proofs.Ytihiclnbbpablaa
