/-
  Layer 5: a pipe's two functions that ask a channel: what they return and leave.
-/
import Derived.Test.YtjdcbmelladceaaCom00
import Derived.Conc.LoneCalls
import Derived.Conc.LoneSelect
import Derived.Conc.LoneSelectN
import Derived.Laws.EntriesVeiled
namespace Go.Proofs.Ytjdcbmelladceaa
open Go Go.RowKit Go.Conc
set_option linter.unusedVariables false
set_option linter.unusedSimpArgs false
theorem exec_appP {P : Program} {w : World} {o : Oper} {a : Act} (s x : Operand) (t : TypeId)
    (ho : o.op = .call { callee := .builtin .append, args := #[s, x], argTypes := #[t, t] }) (v u : Value) (hs : a.eval s = v) (hx : a.eval x = u) (v' : Value) (w' : World)
    (hrun : (Builtin.append_ #[t, t] o.type #[v, u]).run P w = .ok v' w') : (execOp a.eval o).run P w = .ok (.value v') w' := by
  unfold execOp
  simp only [ho, resolve, invoke, builtin, Sem.run_bind, Sem.run_pure, Result.andThen_ok, List.map_toArray, List.map_cons, List.map_nil, hs, hx, hrun]
set_option maxRecDepth 100000 in
theorem shift_none (tb cb cap s r : Nat) (w : World) (h1 : w.cell? ⟨tb, 1, none⟩ = some (.chan (some cb))) (hf : w.frozen? ⟨tb, 0, none⟩ = false) (v0 : Value) (h0 : w.cell? ⟨tb, 0, none⟩ = some v0) (hc : w.heap[cb]? = some (.chan cap #[] false s r false)) :
    Calls Try.prog 25 #[.pointer (some ⟨tb, 0, none⟩)] w fun e w' => e = .returned (.tuple #[]) ∧ w' = w.setCell ⟨tb, 0, none⟩ (.slice none 0 0) := by
  refine calls_of_loneTo fun cs => ?_
  have e : Frame.enter Try.prog 25 #[.pointer (some ⟨tb, 0, none⟩)] .normal = (base 25).at ⟨#[.pointer (some ⟨tb, 0, none⟩), undef, undef, undef, undef, undef, undef, undef, undef, undef, undef, undef, undef, undef, undef, undef, undef, undef], []⟩ [.code (Try.f25.body.getD .skip)] := by
    simp [Frame.enter, Frame.at, Try.func25, base, Try.f25]
  rw [e]
  refine LoneTo.goes (n := 40) ?_
  simp only [Try.f25, Option.getD_some]
  s_c stepG_seq
  s_reg
  s_op
  s_op
  s_op
  s_op
  s_c stepG_region_end
  s_c stepG_seq
  s_reg
  s_stop
  refine LoneTo.step (step_lone_select_default (c := cb) (z := .slice none 0 0) (cap := cap) (s := s) (r := r) (tm := false) (stepG_comm (cases := #[rcase cb (.slice none 0 0)]) (blocking := false) (shape := .select) (w' := w) rfl rfl (by decide) (by simp [go_sem, execOp, rcase, Act.eval])) hc) ?_
  rw [Frame.finish_at]
  walk_nrm
  refine LoneTo.goes (n := 40) ?_
  s_op
  s_op
  s_c stepG_region_end
  s_c stepG_block
  s_cond false
  s_reg
  s_op
  s_op
  s_op
  s_op
  s_c stepG_region_end
  s_c stepG_inBlock
  s_c stepG_end
  s_stop
  exact LoneTo.done ⟨.returned (.tuple #[]), _, rfl, ⟨rfl, rfl⟩, rfl, rfl, rfl, rfl, _, Try.func25, by simp [results, Try.f25, Frame.at]⟩
set_option maxRecDepth 100000 in
theorem shift_some (tb cb cap s r : Nat) (buf : Array Value) (xA : Option Addr) (xn xc : Nat) (w : World) (h1 : w.cell? ⟨tb, 1, none⟩ = some (.chan (some cb))) (hf : w.frozen? ⟨tb, 0, none⟩ = false) (v0 : Value) (h0 : w.cell? ⟨tb, 0, none⟩ = some v0) (hc : w.heap[cb]? = some (.chan cap buf false s r false)) (hx : buf[0]? = some (.slice xA xn xc)) (hne : ¬ tb = cb) :
    Calls Try.prog 25 #[.pointer (some ⟨tb, 0, none⟩)] w fun e w' => e = .returned (.tuple #[]) ∧ w' = (w.setChan cb cap (buf.extract 1 buf.size) false s (r + 1) false).setCell ⟨tb, 0, none⟩ (.slice xA xn xc) := by
  have hs : 0 < buf.size := (Array.getElem?_eq_some_iff.1 hx).1
  have hg : buf.getD 0 undef = .slice xA xn xc := by simp [Array.getD, hs, (Array.getElem?_eq_some_iff.1 hx).2]
  have k0 : (w.setChan cb cap (buf.extract 1 buf.size) false s (r + 1) false).cell? ⟨tb, 0, none⟩ = some v0 := (World.cell?_of_block (by simp only [World.setChan]; rw [Array.getElem?_setIfInBounds_ne (by omega)])).trans h0
  have kf : (w.setChan cb cap (buf.extract 1 buf.size) false s (r + 1) false).frozen? ⟨tb, 0, none⟩ = false := by
    unfold World.frozen? at hf ⊢
    simp only [World.setChan]
    rw [Array.getElem?_setIfInBounds_ne (by simp; omega)]
    exact hf
  refine calls_of_loneTo fun cs => ?_
  have e : Frame.enter Try.prog 25 #[.pointer (some ⟨tb, 0, none⟩)] .normal = (base 25).at ⟨#[.pointer (some ⟨tb, 0, none⟩), undef, undef, undef, undef, undef, undef, undef, undef, undef, undef, undef, undef, undef, undef, undef, undef, undef], []⟩ [.code (Try.f25.body.getD .skip)] := by
    simp [Frame.enter, Frame.at, Try.func25, base, Try.f25]
  rw [e]
  refine LoneTo.goes (n := 40) ?_
  simp only [Try.f25, Option.getD_some]
  s_c stepG_seq
  s_reg
  s_op
  s_op
  s_op
  s_op
  s_c stepG_region_end
  s_c stepG_seq
  s_reg
  s_stop
  refine LoneTo.step (step_lone_select_recv_buf (c := cb) (z := .slice none 0 0) (cap := cap) (s := s) (r := r) (tm := false) (stepG_comm (cases := #[rcase cb (.slice none 0 0)]) (blocking := false) (shape := .select) (w' := w) rfl rfl (by decide) (by simp [go_sem, execOp, rcase, Act.eval])) hc hs) ?_
  rw [Frame.finish_at, hg]
  obtain ⟨w1, hw1⟩ : ∃ w1, w.setChan cb cap (buf.extract 1 buf.size) false s (r + 1) false = w1 := ⟨_, rfl⟩
  rw [hw1] at k0 kf ⊢
  clear hw1 hg hs hx hc h1 h0 hf
  walk_nrm
  refine LoneTo.goes (n := 40) ?_
  s_op
  s_op
  s_c stepG_region_end
  s_c stepG_block
  s_cond true
  s_c stepG_seq
  s_reg
  s_op
  s_op
  s_c stepG_region_end
  s_reg
  s_op
  s_op
  s_op
  s_op
  s_op
  s_c stepG_region_end
  s_c stepG_inBlock
  s_c stepG_end
  s_stop
  exact LoneTo.done ⟨.returned (.tuple #[]), _, rfl, ⟨rfl, rfl⟩, rfl, rfl, rfl, rfl, _, Try.func25, by simp [results, Try.f25, Frame.at]⟩
set_option maxRecDepth 100000 in
theorem send_nil (p : Value) (c : Nat) (A : Option Addr) (w : World) :
    Calls Try.prog 16 #[p, .slice A 0 c] w fun e w' => e = .returned (.int .i64 0) ∧ w' = w := by
  refine calls_of_loneTo fun cs => ?_
  have e : Frame.enter Try.prog 16 #[p, .slice A 0 c] .normal = (base 16).at ⟨#[p, .slice A 0 c, undef, undef, undef, undef, undef, undef, undef, undef, undef, undef, undef, undef, undef, undef, undef, undef, undef, undef, undef, undef, undef, undef, undef, undef, undef, undef, undef, undef, undef, undef, undef, undef, undef, undef, undef, undef], []⟩ [.code (Try.f16.body.getD .skip)] := by
    simp [Frame.enter, Frame.at, Try.func16, base, Try.f16]
  rw [e]
  refine LoneTo.goes (n := 80) ?_
  simp only [Try.f16, Option.getD_some]
  s_c stepG_seq
  s_reg
  s_op
  s_c stepG_region_end
  s_c stepG_seq
  s_c stepG_seq
  s_reg
  s_op
  s_op
  s_op
  s_c stepG_region_end
  s_cond true
  s_c stepG_seq
  s_reg
  s_op
  s_c stepG_region_end
  s_c stepG_ret'
  s_stop
  exact LoneTo.done ⟨.returned (.int .i64 0), _, rfl, ⟨rfl, rfl⟩, rfl, rfl, rfl, rfl, _, Try.func16, by simp [results, Try.f16, Frame.at]⟩
set_option maxRecDepth 100000 in
theorem send_first (tb c0 n c : Nat) (A A0 : Option Addr) (left : Int) (w : World) (vA : Option Addr) (vc : Nat) (w1 : World) (hrun : (Builtin.append_ #[33, 33] 33 #[.slice none 0 0, .slice A n c]).run Try.prog w = .ok (.slice vA n vc) w1) (hn : 0 < n) (h0 : w1.cell? ⟨tb, 0, none⟩ = some (.slice A0 0 c0)) (hf0 : w1.frozen? ⟨tb, 0, none⟩ = false)
    (h2 : w1.cell? ⟨tb, 2, none⟩ = some (.int .i64 left)) (hf2 : w1.frozen? ⟨tb, 2, none⟩ = false) (hl0 : 0 ≤ left) (hl1 : left ≤ 1000000) (hn1 : n ≤ 1000000) :
    Calls Try.prog 16 #[.pointer (some ⟨tb, 0, none⟩), .slice A n c] w fun e w' => e = .returned (.int .i64 0) ∧ w' = (w1.setCell ⟨tb, 0, none⟩ (.slice vA n vc)).setCell ⟨tb, 2, none⟩ (.int .i64 (left + n)) := by
  have hn2 : ((n : Int) == 0) = false := by simpa using (show ¬ n = 0 by omega)
  have hn3 : (n == 0) = false := by simpa using (show ¬ n = 0 by omega)
  have hw : IntKind.i64.wrap (left + (n : Int)) = left + (n : Int) := by rw [IntKind.wrap_i64]; omega
  refine calls_of_loneTo fun cs => ?_
  have e : Frame.enter Try.prog 16 #[.pointer (some ⟨tb, 0, none⟩), .slice A n c] .normal = (base 16).at ⟨#[.pointer (some ⟨tb, 0, none⟩), .slice A n c, undef, undef, undef, undef, undef, undef, undef, undef, undef, undef, undef, undef, undef, undef, undef, undef, undef, undef, undef, undef, undef, undef, undef, undef, undef, undef, undef, undef, undef, undef, undef, undef, undef, undef, undef, undef], []⟩ [.code (Try.f16.body.getD .skip)] := by
    simp [Frame.enter, Frame.at, Try.func16, base, Try.f16]
  rw [e]
  refine LoneTo.goes (n := 80) ?_
  simp only [Try.f16, Option.getD_some]
  s_c stepG_seq
  s_reg
  s_op
  s_c stepG_region_end
  s_c stepG_seq
  s_c stepG_seq
  s_reg
  s_op
  s_op
  s_op
  s_c stepG_region_end
  s_cond false
  s_c stepG_skip
  s_c stepG_seq
  s_reg
  s_op
  s_in
  refine goes_oper_k rfl rfl (by decide) (fun K hK => ?_)
  rw [exec_appP (.const (.slice none 0 0)) (.tmp 9) 33 rfl (.slice none 0 0) (.slice A n c) rfl rfl (.slice vA n vc) w1 hrun]
  simp only [uponK_value]
  refine hK _ _ ⟨trivial, ?_⟩
  clear hK K
  simp only [Act.put, List.setIfInBounds_toArray, List.set_cons_zero, List.set_cons_succ]
  s_op
  s_c stepG_region_end
  s_c stepG_seq
  s_c stepG_seq
  s_reg
  s_op
  s_op
  s_op
  s_op
  s_op
  s_op
  s_c stepG_region_end
  s_cond true
  s_reg
  s_op
  s_op
  s_op
  s_op
  s_op
  s_c stepG_region_end
  s_c stepG_seq
  s_reg
  s_op
  s_op
  s_op
  s_op
  s_op
  s_op
  s_op
  s_op
  s_op
  s_op
  s_c stepG_region_end
  s_c stepG_seq
  s_reg
  s_op
  s_c stepG_region_end
  s_c stepG_ret'
  s_stop
  exact LoneTo.done ⟨.returned (.int .i64 0), _, rfl, ⟨rfl, rfl⟩, rfl, rfl, rfl, rfl, _, Try.func16, by simp [results, Try.f16, Frame.at]⟩
set_option maxRecDepth 100000 in
theorem send_more (tb cb c0 n n0 c cap s r : Nat) (buf : Array Value) (A A0 : Option Addr) (left : Int) (w : World) (vA : Option Addr) (vc : Nat) (w1 : World) (hrun : (Builtin.append_ #[33, 33] 33 #[.slice none 0 0, .slice A n c]).run Try.prog w = .ok (.slice vA n vc) w1) (hn : 0 < n) (hn0 : 0 < n0) (h0 : w1.cell? ⟨tb, 0, none⟩ = some (.slice A0 n0 c0)) (h1 : w1.cell? ⟨tb, 1, none⟩ = some (.chan (some cb)))
    (h2 : w1.cell? ⟨tb, 2, none⟩ = some (.int .i64 left)) (hf2 : w1.frozen? ⟨tb, 2, none⟩ = false) (hl0 : 0 ≤ left) (hl1 : left ≤ 1000000) (hn1 : n ≤ 1000000) (hc : w1.heap[cb]? = some (.chan cap buf false s r false)) (hroom : buf.size < cap) (hne : ¬ tb = cb) :
    Calls Try.prog 16 #[.pointer (some ⟨tb, 0, none⟩), .slice A n c] w fun e w' => e = .returned (.int .i64 0) ∧ w' = (w1.setChan cb cap (buf.push (.slice vA n vc)) false (s + 1) r false).setCell ⟨tb, 2, none⟩ (.int .i64 (left + n)) := by
  have hn2 : ((n : Int) == 0) = false := by simpa using (show ¬ n = 0 by omega)
  have hn3 : (n == 0) = false := by simpa using (show ¬ n = 0 by omega)
  have hw : IntKind.i64.wrap (left + (n : Int)) = left + (n : Int) := by rw [IntKind.wrap_i64]; omega
  have hm2 : ((n0 : Int) == 0) = false := by simpa using (show ¬ n0 = 0 by omega)
  have hm3 : (n0 == 0) = false := by simpa using (show ¬ n0 = 0 by omega)
  have k2 : (w1.setChan cb cap (buf.push (.slice vA n vc)) false (s + 1) r false).cell? ⟨tb, 2, none⟩ = some (.int .i64 left) := (World.cell?_of_block (by simp only [World.setChan]; rw [Array.getElem?_setIfInBounds_ne (by omega)])).trans h2
  have kf : (w1.setChan cb cap (buf.push (.slice vA n vc)) false (s + 1) r false).frozen? ⟨tb, 2, none⟩ = false := by
    unfold World.frozen? at hf2 ⊢
    simp only [World.setChan]
    rw [Array.getElem?_setIfInBounds_ne (by simp; omega)]
    exact hf2
  refine calls_of_loneTo fun cs => ?_
  have e : Frame.enter Try.prog 16 #[.pointer (some ⟨tb, 0, none⟩), .slice A n c] .normal = (base 16).at ⟨#[.pointer (some ⟨tb, 0, none⟩), .slice A n c, undef, undef, undef, undef, undef, undef, undef, undef, undef, undef, undef, undef, undef, undef, undef, undef, undef, undef, undef, undef, undef, undef, undef, undef, undef, undef, undef, undef, undef, undef, undef, undef, undef, undef, undef, undef], []⟩ [.code (Try.f16.body.getD .skip)] := by
    simp [Frame.enter, Frame.at, Try.func16, base, Try.f16]
  rw [e]
  refine LoneTo.goes (n := 80) ?_
  simp only [Try.f16, Option.getD_some]
  s_c stepG_seq
  s_reg
  s_op
  s_c stepG_region_end
  s_c stepG_seq
  s_c stepG_seq
  s_reg
  s_op
  s_op
  s_op
  s_c stepG_region_end
  s_cond false
  s_c stepG_skip
  s_c stepG_seq
  s_reg
  s_op
  s_in
  refine goes_oper_k rfl rfl (by decide) (fun K hK => ?_)
  rw [exec_appP (.const (.slice none 0 0)) (.tmp 9) 33 rfl (.slice none 0 0) (.slice A n c) rfl rfl (.slice vA n vc) w1 hrun]
  simp only [uponK_value]
  refine hK _ _ ⟨trivial, ?_⟩
  clear hK K
  simp only [Act.put, List.setIfInBounds_toArray, List.set_cons_zero, List.set_cons_succ]
  s_op
  s_c stepG_region_end
  s_c stepG_seq
  s_c stepG_seq
  s_reg
  s_op
  s_op
  s_op
  s_op
  s_op
  s_op
  s_c stepG_region_end
  s_cond false
  s_c stepG_seq
  s_c stepG_seq
  s_reg
  s_op
  s_op
  s_op
  s_op
  s_c stepG_region_end
  s_reg
  s_op
  s_c stepG_region_end
  s_c stepG_seq
  s_reg
  s_stop
  refine LoneTo.step (step_lone_select_send_room (c := cb) (v := .slice vA n vc) (z' := .slice none 0 0) (cap := cap) (s := s) (r := r) (tm := false) (stepG_comm (cases := #[scase cb (.slice vA n vc) (.slice none 0 0)]) (blocking := false) (shape := .select) (w' := w1) rfl rfl (by decide) (by simp [go_sem, execOp, scase, Act.eval])) hc hroom) ?_
  rw [Frame.finish_at]
  obtain ⟨w2, hw2⟩ : ∃ w2, w1.setChan cb cap (buf.push (.slice vA n vc)) false (s + 1) r false = w2 := ⟨_, rfl⟩
  rw [hw2] at k2 kf ⊢
  clear hw2 hc h1 h0 h2 hf2
  walk_nrm
  refine LoneTo.goes (n := 80) ?_
  s_op
  s_op
  s_c stepG_region_end
  s_c stepG_block
  s_cond true
  s_c stepG_skip
  s_c stepG_inBlock
  s_c stepG_seq
  s_reg
  s_op
  s_op
  s_op
  s_op
  s_op
  s_op
  s_op
  s_op
  s_op
  s_op
  s_c stepG_region_end
  s_c stepG_seq
  s_reg
  s_op
  s_c stepG_region_end
  s_c stepG_ret'
  s_stop
  exact LoneTo.done ⟨.returned (.int .i64 0), _, rfl, ⟨rfl, rfl⟩, rfl, rfl, rfl, rfl, _, Try.func16, by simp [results, Try.f16, Frame.at]⟩
set_option maxRecDepth 100000 in
theorem send_full (tb cb c0 n n0 c cap s r : Nat) (buf : Array Value) (A A0 : Option Addr) (left : Int) (w : World) (vA : Option Addr) (vc : Nat) (w1 : World) (hrun : (Builtin.append_ #[33, 33] 33 #[.slice none 0 0, .slice A n c]).run Try.prog w = .ok (.slice vA n vc) w1) (hn : 0 < n) (hn0 : 0 < n0) (h0 : w1.cell? ⟨tb, 0, none⟩ = some (.slice A0 n0 c0)) (h1 : w1.cell? ⟨tb, 1, none⟩ = some (.chan (some cb)))
    (h2 : w1.cell? ⟨tb, 2, none⟩ = some (.int .i64 left)) (hf2 : w1.frozen? ⟨tb, 2, none⟩ = false) (hl0 : 0 ≤ left) (hl1 : left ≤ 1000000) (hn1 : n ≤ 1000000) (hc : w1.heap[cb]? = some (.chan cap buf false s r false)) (hroom : cap ≤ buf.size) :
    Calls Try.prog 16 #[.pointer (some ⟨tb, 0, none⟩), .slice A n c] w fun e w' => e = .returned (.int .i64 5) ∧ w' = w1 := by
  have hn2 : ((n : Int) == 0) = false := by simpa using (show ¬ n = 0 by omega)
  have hn3 : (n == 0) = false := by simpa using (show ¬ n = 0 by omega)
  have hw : IntKind.i64.wrap (left + (n : Int)) = left + (n : Int) := by rw [IntKind.wrap_i64]; omega
  have hm2 : ((n0 : Int) == 0) = false := by simpa using (show ¬ n0 = 0 by omega)
  have hm3 : (n0 == 0) = false := by simpa using (show ¬ n0 = 0 by omega)
  refine calls_of_loneTo fun cs => ?_
  have e : Frame.enter Try.prog 16 #[.pointer (some ⟨tb, 0, none⟩), .slice A n c] .normal = (base 16).at ⟨#[.pointer (some ⟨tb, 0, none⟩), .slice A n c, undef, undef, undef, undef, undef, undef, undef, undef, undef, undef, undef, undef, undef, undef, undef, undef, undef, undef, undef, undef, undef, undef, undef, undef, undef, undef, undef, undef, undef, undef, undef, undef, undef, undef, undef, undef], []⟩ [.code (Try.f16.body.getD .skip)] := by
    simp [Frame.enter, Frame.at, Try.func16, base, Try.f16]
  rw [e]
  refine LoneTo.goes (n := 80) ?_
  simp only [Try.f16, Option.getD_some]
  s_c stepG_seq
  s_reg
  s_op
  s_c stepG_region_end
  s_c stepG_seq
  s_c stepG_seq
  s_reg
  s_op
  s_op
  s_op
  s_c stepG_region_end
  s_cond false
  s_c stepG_skip
  s_c stepG_seq
  s_reg
  s_op
  s_in
  refine goes_oper_k rfl rfl (by decide) (fun K hK => ?_)
  rw [exec_appP (.const (.slice none 0 0)) (.tmp 9) 33 rfl (.slice none 0 0) (.slice A n c) rfl rfl (.slice vA n vc) w1 hrun]
  simp only [uponK_value]
  refine hK _ _ ⟨trivial, ?_⟩
  clear hK K
  simp only [Act.put, List.setIfInBounds_toArray, List.set_cons_zero, List.set_cons_succ]
  s_op
  s_c stepG_region_end
  s_c stepG_seq
  s_c stepG_seq
  s_reg
  s_op
  s_op
  s_op
  s_op
  s_op
  s_op
  s_c stepG_region_end
  s_cond false
  s_c stepG_seq
  s_c stepG_seq
  s_reg
  s_op
  s_op
  s_op
  s_op
  s_c stepG_region_end
  s_reg
  s_op
  s_c stepG_region_end
  s_c stepG_seq
  s_reg
  s_stop
  refine LoneTo.step (step_lone_select_send_full (c := cb) (v := .slice vA n vc) (z' := .slice none 0 0) (cap := cap) (s := s) (r := r) (tm := false) (stepG_comm (cases := #[scase cb (.slice vA n vc) (.slice none 0 0)]) (blocking := false) (shape := .select) (w' := w1) rfl rfl (by decide) (by simp [go_sem, execOp, scase, Act.eval])) hc hroom) ?_
  rw [Frame.finish_at]
  walk_nrm
  refine LoneTo.goes (n := 80) ?_
  s_op
  s_op
  s_c stepG_region_end
  s_c stepG_block
  s_cond false
  s_c stepG_seq
  s_reg
  s_op
  s_c stepG_region_end
  s_c stepG_ret'
  s_stop
  exact LoneTo.done ⟨.returned (.int .i64 5), _, rfl, ⟨rfl, rfl⟩, rfl, rfl, rfl, rfl, _, Try.func16, by simp [results, Try.f16, Frame.at]⟩
end Go.Proofs.Ytjdcbmelladceaa
