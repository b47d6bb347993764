/-
  Layer 2: what the reader reads, call by call; plain contracts.
-/
import Derived.Test.YtihiclnbbpablaaLitJ
namespace Go.Proofs.Ytihiclnbbpablaa
open Go Go.RowKit
set_option linter.unusedVariables false
set_option linter.unusedSimpArgs false

theorem Rdl.lt {w : World} {g : Nat} {e : Int} {l : List UInt8} (h : Rdl w g e l) : g < w.heap.size := by
  obtain ⟨A, n, c, hb, _⟩ := h
  exact (Array.getElem?_eq_some_iff.1 hb).1
theorem Sees.onlL {w w' : World} {g : Nat} {e : Int} {l m : List UInt8} {A : Option Addr} {n c : Nat} (hs : Sees w A n c (bs m)) (hg : Rdl w g e l) (ho : Onl g w w') : Sees w' A n c (bs m) := by
  obtain ⟨A', n', c', hb, _⟩ := hg
  exact hs.apartL hb ho
theorem Ext.onlL {a b c : World} {g : Nat} (h : Ext a b) (k : Onl g b c) (hg : a.heap.size ≤ g) : Ext a c :=
  Below.trans h (k.below h.size hg)
theorem lr_u8 (g : Nat) (e : Int) (x : Nat) (rest : List UInt8) (w : World) (hx : x < 256) (h : Rdl w g e (le 1 x ++ rest)) :
    Calls Try.prog 46 #[.pointer (some ⟨g, 0, none⟩)] w fun r w' => r = .returned (.int .u8 (x : Int)) ∧ Rdl w' g e rest ∧ Onl g w w' := by
  have hl := le_length 1 x
  have HT := Lib.hid (ltake_ok g e 1 _ w h (by rw [List.length_append, hl]; omega))
  have htk : (le 1 x ++ rest).take 1 = le 1 x := List.take_left' hl
  have hdr : (le 1 x ++ rest).drop 1 = rest := List.drop_left' hl
  have hv : leV (le 1 x) = x := by
    rw [leV_le]
    exact Nat.mod_eq_of_lt hx
  have HK := Lib.hid htk
  have HD := Lib.hid hdr
  have HV := Lib.hid hv
  have hnext : Calls Try.prog 74 #[.pointer (some ⟨g, 0, none⟩), .int .i64 1] w fun r w' => r = .returned (.int .u8 (x : Int)) ∧ Rdl w' g e rest ∧ Onl g w w' := by
    clear h hl htk hdr hv
    go_enter Try.func74, Try.ntmps74
    go_wp2_with fail
    refine (Calls.mono HT.out ?_)
    rintro r w1 ⟨A, c, rfl, hs, hr, ho⟩
    rw [HK.out] at hs
    rw [HD.out] at hr
    have HJ := Lib.hid (join_u8 A _ c _ w1 hs (by omega))
    clear hs HT
    go_wp2_with fail
    refine (Calls.mono HJ.out ?_)
    rintro r w2 ⟨rfl, e2⟩
    rw [HV.out]
    go_wp2
    go_ret
    exact ⟨rfl, hr.ext e2, ho.trans (Onl.of_ext e2)⟩
  have HN := Lib.hid hnext
  clear h hl htk hdr hv hnext HT
  go_enter Try.func46, Try.ntmps46
  go_wp2_with fail
  refine (Calls.mono HN.out ?_)
  rintro r w2 ⟨rfl, hr, ho⟩
  go_wp2
  go_ret
  exact ⟨rfl, hr, ho⟩
theorem lr_u16 (g : Nat) (e : Int) (x : Nat) (rest : List UInt8) (w : World) (hx : x < 65536) (h : Rdl w g e (le 2 x ++ rest)) :
    Calls Try.prog 47 #[.pointer (some ⟨g, 0, none⟩)] w fun r w' => r = .returned (.int .u16 (x : Int)) ∧ Rdl w' g e rest ∧ Onl g w w' := by
  have hl := le_length 2 x
  have HT := Lib.hid (ltake_ok g e 2 _ w h (by rw [List.length_append, hl]; omega))
  have htk : (le 2 x ++ rest).take 2 = le 2 x := List.take_left' hl
  have hdr : (le 2 x ++ rest).drop 2 = rest := List.drop_left' hl
  have hv : leV (le 2 x) = x := by
    rw [leV_le]
    exact Nat.mod_eq_of_lt hx
  have HK := Lib.hid htk
  have HD := Lib.hid hdr
  have HV := Lib.hid hv
  have hnext : Calls Try.prog 75 #[.pointer (some ⟨g, 0, none⟩), .int .i64 2] w fun r w' => r = .returned (.int .u16 (x : Int)) ∧ Rdl w' g e rest ∧ Onl g w w' := by
    clear h hl htk hdr hv
    go_enter Try.func75, Try.ntmps75
    go_wp2_with fail
    refine (Calls.mono HT.out ?_)
    rintro r w1 ⟨A, c, rfl, hs, hr, ho⟩
    rw [HK.out] at hs
    rw [HD.out] at hr
    have HJ := Lib.hid (join_u16 A _ c _ w1 hs (by omega))
    clear hs HT
    go_wp2_with fail
    refine (Calls.mono HJ.out ?_)
    rintro r w2 ⟨rfl, e2⟩
    rw [HV.out]
    go_wp2
    go_ret
    exact ⟨rfl, hr.ext e2, ho.trans (Onl.of_ext e2)⟩
  have HN := Lib.hid hnext
  clear h hl htk hdr hv hnext HT
  go_enter Try.func47, Try.ntmps47
  go_wp2_with fail
  refine (Calls.mono HN.out ?_)
  rintro r w2 ⟨rfl, hr, ho⟩
  go_wp2
  go_ret
  exact ⟨rfl, hr, ho⟩
theorem lr_u32 (g : Nat) (e : Int) (x : Nat) (rest : List UInt8) (w : World) (hx : x < 4294967296) (h : Rdl w g e (le 4 x ++ rest)) :
    Calls Try.prog 45 #[.pointer (some ⟨g, 0, none⟩)] w fun r w' => r = .returned (.int .u32 (x : Int)) ∧ Rdl w' g e rest ∧ Onl g w w' := by
  have hl := le_length 4 x
  have HT := Lib.hid (ltake_ok g e 4 _ w h (by rw [List.length_append, hl]; omega))
  have htk : (le 4 x ++ rest).take 4 = le 4 x := List.take_left' hl
  have hdr : (le 4 x ++ rest).drop 4 = rest := List.drop_left' hl
  have hv : leV (le 4 x) = x := by
    rw [leV_le]
    exact Nat.mod_eq_of_lt hx
  have HK := Lib.hid htk
  have HD := Lib.hid hdr
  have HV := Lib.hid hv
  have hnext : Calls Try.prog 73 #[.pointer (some ⟨g, 0, none⟩), .int .i64 4] w fun r w' => r = .returned (.int .u32 (x : Int)) ∧ Rdl w' g e rest ∧ Onl g w w' := by
    clear h hl htk hdr hv
    go_enter Try.func73, Try.ntmps73
    go_wp2_with fail
    refine (Calls.mono HT.out ?_)
    rintro r w1 ⟨A, c, rfl, hs, hr, ho⟩
    rw [HK.out] at hs
    rw [HD.out] at hr
    have HJ := Lib.hid (join_u32 A _ c _ w1 hs (by omega))
    clear hs HT
    go_wp2_with fail
    refine (Calls.mono HJ.out ?_)
    rintro r w2 ⟨rfl, e2⟩
    rw [HV.out]
    go_wp2
    go_ret
    exact ⟨rfl, hr.ext e2, ho.trans (Onl.of_ext e2)⟩
  have HN := Lib.hid hnext
  clear h hl htk hdr hv hnext HT
  go_enter Try.func45, Try.ntmps45
  go_wp2_with fail
  refine (Calls.mono HN.out ?_)
  rintro r w2 ⟨rfl, hr, ho⟩
  go_wp2
  go_ret
  exact ⟨rfl, hr, ho⟩
theorem lr_u64 (g : Nat) (e : Int) (x : Nat) (rest : List UInt8) (w : World) (hx : x < 18446744073709551616) (h : Rdl w g e (le 8 x ++ rest)) :
    Calls Try.prog 94 #[.pointer (some ⟨g, 0, none⟩)] w fun r w' => r = .returned (.int .u64 (x : Int)) ∧ Rdl w' g e rest ∧ Onl g w w' := by
  have hl := le_length 8 x
  have HT := Lib.hid (ltake_ok g e 8 _ w h (by rw [List.length_append, hl]; omega))
  have htk : (le 8 x ++ rest).take 8 = le 8 x := List.take_left' hl
  have hdr : (le 8 x ++ rest).drop 8 = rest := List.drop_left' hl
  have hv : leV (le 8 x) = x := by
    rw [leV_le]
    exact Nat.mod_eq_of_lt hx
  have HK := Lib.hid htk
  have HD := Lib.hid hdr
  have HV := Lib.hid hv
  have hnext : Calls Try.prog 97 #[.pointer (some ⟨g, 0, none⟩), .int .i64 8] w fun r w' => r = .returned (.int .u64 (x : Int)) ∧ Rdl w' g e rest ∧ Onl g w w' := by
    clear h hl htk hdr hv
    go_enter Try.func97, Try.ntmps97
    go_wp2_with fail
    refine (Calls.mono HT.out ?_)
    rintro r w1 ⟨A, c, rfl, hs, hr, ho⟩
    rw [HK.out] at hs
    rw [HD.out] at hr
    have HJ := Lib.hid (join_u64 A _ c _ w1 hs (by omega))
    clear hs HT
    go_wp2_with fail
    refine (Calls.mono HJ.out ?_)
    rintro r w2 ⟨rfl, e2⟩
    rw [HV.out]
    go_wp2
    go_ret
    exact ⟨rfl, hr.ext e2, ho.trans (Onl.of_ext e2)⟩
  have HN := Lib.hid hnext
  clear h hl htk hdr hv hnext HT
  go_enter Try.func94, Try.ntmps94
  go_wp2_with fail
  refine (Calls.mono HN.out ?_)
  rintro r w2 ⟨rfl, hr, ho⟩
  go_wp2
  go_ret
  exact ⟨rfl, hr, ho⟩

theorem clone_any (A : Option Addr) (n c : Nat) (l : List UInt8) (w : World) (hs : Sees w A n c (bs l)) (hn : n ≤ 4194304) :
    Calls Try.prog 72 #[.slice A n c] w fun x w' => ∃ v, x = .returned v ∧ w'.ownsRow w.heap.size 5 1 v n (bs l) ∧ Ext w w' := by
  obtain ⟨i0, hi, hz0, hz1, hz2⟩ := info_parts infoB
  obtain ⟨v', w', hrun, hown, hg, hat⟩ := run_append_sees (P := Try.prog) w.heap.size 25 25 5 i0 _ 1 Try.underlying25 hi hz0 hz1 hz2 rfl (.slice none 0 0) 0 [] (World.ownsRow_nil _ _ _ _)
      A n c _ hs (bs_one _) (by unfold maxLen; omega) (by omega) (Nat.le_refl _)
  rw [Nat.zero_add, List.nil_append] at hown
  have hx : Ext w w' := (Ext.refl _).grown hg (by simp [Value.ownBlock])
  clear hg hat hs
  go_enter Try.func72, Try.ntmps72
  go_wp2_with (first | (at_builtin; refine wpList_append_run rfl (.const (.slice none 0 0)) (.tmp 3) _ rfl _ _ rfl rfl _ w' hrun ?_) | fail)
  go_ret
  exact ⟨_, rfl, hown, hx⟩
theorem lread_any (A : Option Addr) (n c : Nat) (l : List UInt8) (w : World) (hs : Sees w A n c (bs l)) (hn : n ≤ 4194304) :
    Calls Try.prog 44 #[.slice A n c] w fun x w' => ∃ g, x = .returned (.pointer (some ⟨g, 0, none⟩)) ∧ w.heap.size ≤ g ∧ Rdl w' g 0 l ∧ Ext w w' := by
  have HC := Lib.hid (clone_any A n c l w hs hn)
  clear hs
  go_enter Try.func44, Try.ntmps44
  go_wp2_with fail
  refine (Calls.mono HC.out ?_)
  rintro x w1 ⟨v1, rfl, own1, e1⟩
  obtain ⟨A1, c1, rfl, see1⟩ := Sees.of_own own1
  clear own1 HC
  go_wp2
  go_ret
  exact ⟨w1.heap.size, rfl, e1.size, ⟨A1, n, c1, heap_alloc_new w1 _, see1.ext ((Ext.refl _).alloc _)⟩, e1.alloc _⟩
theorem lend_any (g : Nat) (e : Int) (w : World) (h : Rdl w g e []) :
    Calls Try.prog 50 #[.pointer (some ⟨g, 0, none⟩)] w fun x w' => x = .returned (.int .i64 e) ∧ w = w' := by
  obtain ⟨A, n, c, hb, hs⟩ := h
  obtain rfl : n = 0 := by rw [← hs.1]; rfl
  have c0 := cell_of_row w g 0 _ _ _ hb
  have c1 := cell_of_row w g 1 _ _ _ hb
  simp at c0 c1
  clear hs hb
  go_enter Try.func50, Try.ntmps50
  go_wp2
  go_ret
  exact ⟨rfl, rfl⟩
theorem ltextR_ok (g : Nat) (e : Int) (t rest : List UInt8) (w : World) (h : Rdl w g e (le 2 t.length ++ t ++ rest)) (ht : t.length ≤ 60000) :
    Calls Try.prog 76 #[.pointer (some ⟨g, 0, none⟩)] w fun x w' => x = .returned (.string ⟨t.toArray⟩) ∧ Rdl w' g e rest ∧ Onl g w w' := by
  have hl2 := le_length 2 t.length
  have H1 := Lib.hid (lr_u16 g e t.length (t ++ rest) w (by omega) (by rw [← List.append_assoc]; exact h))
  clear h hl2
  go_enter Try.func76, Try.ntmps76
  go_wp2_with fail
  refine (Calls.mono H1.out ?_)
  rintro x w1 ⟨rfl, hr1, ho1⟩
  have H2 := Lib.hid (ltake_ok g e t.length (t ++ rest) w1 hr1 (by rw [List.length_append]; omega))
  clear hr1 H1
  go_wp2_with fail
  refine (Calls.mono H2.out ?_)
  rintro x w2 ⟨A, c, rfl, hs2, hr2, ho2⟩
  rw [List.take_left] at hs2
  rw [List.drop_left] at hr2
  have hst := str_of hs2
  clear H2 hs2
  go_wp2
  go_ret
  exact ⟨rfl, hr2, ho1.trans ho2⟩
theorem ldataR_ok (g : Nat) (e most : Int) (t rest : List UInt8) (w : World) (h : Rdl w g e (le 4 t.length ++ t ++ rest)) (ht : t.length ≤ 60000) (hm : (t.length : Int) ≤ most) :
    Calls Try.prog 79 #[.pointer (some ⟨g, 0, none⟩), .int .i64 most] w fun x w' => ∃ v, x = .returned v ∧ w'.ownsRow w.heap.size 5 1 v t.length (bs t) ∧ Rdl w' g e rest ∧ Onl g w w' := by
  have H1 := Lib.hid (lr_u32 g e t.length (t ++ rest) w (by omega) (by rw [← List.append_assoc]; exact h))
  clear h
  go_enter Try.func79, Try.ntmps79
  go_wp2_with fail
  refine (Calls.mono H1.out ?_)
  rintro x w1 ⟨rfl, hr1, ho1⟩
  have hsz1 := ho1.size
  have H2 := Lib.hid (ltake_ok g e t.length (t ++ rest) w1 hr1 (by rw [List.length_append]; omega))
  clear hr1 H1
  go_wp2_with fail
  refine (Calls.mono H2.out ?_)
  rintro x w2 ⟨A, c, rfl, hs2, hr2, ho2⟩
  rw [List.take_left] at hs2
  rw [List.drop_left] at hr2
  have hsz2 := ho2.size
  have H3 := Lib.hid (clone_any A _ c t w2 hs2 (by omega))
  clear H2 hs2
  go_wp2_with fail
  refine (Calls.mono H3.out ?_)
  rintro x w3 ⟨v3, rfl, own3, e3⟩
  go_wp2
  go_ret
  exact ⟨_, rfl, own_mono own3 (by omega), hr2.ext e3, (ho1.trans ho2).trans (Onl.of_ext e3)⟩
end Go.Proofs.Ytihiclnbbpablaa
