/-
  The errors of a client and a lane, by the program and by the document; whether a gate is shut.
-/
import Derived.Test.YtncljickkoihhaaWLane
import Derived.Conc.LoneCalls
import Derived.KernelRfl
import Derived.Laws.Rows
namespace Go.Proofs.Ytncljickkoihhaa
open Go.RowKit Go.Conc

set_option maxRecDepth 100000 in
theorem isShut_open (gb cb : Nat) (x y z : Value) (w : World) (hg : w.heap[gb]? = some (.cells #[x, y, z, .chan (some cb)] 59 (0, 0)))
    (hc : w.heap[cb]? = some (.chan 0 #[] false 0 0 false)) :
    Calls Try.prog 18 #[.pointer (some ⟨gb, 0, none⟩)] w fun e w' => e = .returned (.bool false) ∧ w = w' := by
  have c3 : w.cell? ⟨gb, 3, none⟩ = some (.chan (some cb)) := cellAt (i := 3) hg rfl
  refine calls_of_loneTo fun cs => ?_
  have e : Frame.enter Try.prog 18 #[.pointer (some ⟨gb, 0, none⟩)] .normal = (base 18).at ⟨#[.pointer (some ⟨gb, 0, none⟩), undef, undef, undef, undef, undef, undef, undef, undef, undef], []⟩ [.code (Try.f18.body.getD .skip)] := by
    simp [Frame.enter, Frame.at, Try.func18, base, Try.f18]
  rw [e]
  refine LoneTo.goes (n := 40) ?_
  simp only [Try.f18, Option.getD_some]
  s_c stepG_seq
  s_reg
  s_op
  s_c stepG_region_end
  s_c stepG_seq
  s_reg
  s_op
  s_op
  s_op
  s_op
  s_c stepG_region_end
  s_c stepG_seq
  s_reg
  s_stop
  refine LoneTo.step (step_lone_select_default (c := cb) (z := .agg #[]) (cap := 0) (s := 0) (r := 0) (tm := false) (stepG_comm (cases := #[rcase cb (.agg #[])]) (blocking := false) (shape := .select) (w' := w) rfl rfl (by decide) (by simp [go_sem, execOp, rcase, Act.eval])) hc) ?_
  rw [Frame.finish_at]
  walk_nrm
  refine LoneTo.goes (n := 20) ?_
  s_op
  s_op
  s_c stepG_region_end
  s_c stepG_block
  s_cond false
  s_c stepG_seq
  s_reg
  s_op
  s_c stepG_region_end
  s_c stepG_ret'
  s_stop
  exact LoneTo.done ⟨.returned (.bool false), _, rfl, ⟨rfl, rfl⟩, rfl, rfl, rfl, rfl, _, Try.func18, by simp [results, Try.f18, Frame.at]⟩

/-- The errors of a client and a lane, in their order. -/
def refuse (cl client lane : Int) : Int := if client < 0 ∨ cl ≤ client then 3 else if lane = 0 ∨ lane = 1 then 0 else 4

set_option maxHeartbeats 400000 in
theorem check_nil (client lane : Int) (w : World) :
    Calls Try.prog 17 #[.pointer none, .int .i64 client, .int .i64 lane] w fun e w' => e = .returned (.int .i64 1) ∧ w = w' := by
  go_enter Try.func17, Try.ntmps17
  go_wp2
  go_ret
  exact ⟨rfl, rfl⟩

set_option maxHeartbeats 400000 in
theorem check_any (gb : Nat) (cl client lane : Int) (cs : Array Value) (w : World) (hg : w.heap[gb]? = some (.cells cs 59 (0, 0))) (h0 : cs[0]? = some (.int .i64 cl)) :
    Calls Try.prog 17 #[.pointer (some ⟨gb, 0, none⟩), .int .i64 client, .int .i64 lane] w fun e w' => e = .returned (.int .i64 (refuse cl client lane)) ∧ w = w' := by
  have c0 : w.cell? ⟨gb, 0, none⟩ = some (.int .i64 cl) := cellAt (i := 0) hg h0
  clear hg h0
  by_cases h1 : client < 0
  · go_enter Try.func17, Try.ntmps17
    go_wp2
    go_ret
    exact ⟨by simp [refuse, h1], rfl⟩
  by_cases h2 : cl ≤ client
  · go_enter Try.func17, Try.ntmps17
    go_wp2
    go_ret
    exact ⟨by simp [refuse, h2], rfl⟩
  by_cases h3 : lane < 0
  · go_enter Try.func17, Try.ntmps17
    go_wp2
    go_ret
    exact ⟨by rw [refuse, if_neg (by omega), if_neg (by omega)]; rfl, rfl⟩
  by_cases h4 : 2 ≤ lane
  · go_enter Try.func17, Try.ntmps17
    go_wp2
    go_ret
    exact ⟨by rw [refuse, if_neg (by omega), if_neg (by omega)]; rfl, rfl⟩
  · go_enter Try.func17, Try.ntmps17
    go_wp2
    go_ret
    exact ⟨by rw [refuse, if_neg (by omega), if_pos (by omega)]; rfl, rfl⟩

set_option maxHeartbeats 400000 in
theorem refuses_nil (client lane : Int) (w : World) :
    Calls Try.prog 42 #[.pointer none, .int .i64 client, .int .i64 lane] w fun e w' => e = .returned (.int .i64 1) ∧ w = w' := by
  go_enter Try.func42, Try.ntmps42
  go_wp2
  go_ret
  exact ⟨rfl, rfl⟩

set_option maxHeartbeats 400000 in
theorem refuses_any (gb : Nat) (cl client lane : Int) (cs : Array Value) (w : World) (hg : w.heap[gb]? = some (.cells cs 105 (0, 0))) (h0 : cs[0]? = some (.int .i64 cl)) :
    Calls Try.prog 42 #[.pointer (some ⟨gb, 0, none⟩), .int .i64 client, .int .i64 lane] w fun e w' => e = .returned (.int .i64 (refuse cl client lane)) ∧ w = w' := by
  have c0 : w.cell? ⟨gb, 0, none⟩ = some (.int .i64 cl) := cellAt (i := 0) hg h0
  clear hg h0
  by_cases h1 : client < 0
  · go_enter Try.func42, Try.ntmps42
    go_wp2
    go_ret
    exact ⟨by simp [refuse, h1], rfl⟩
  by_cases h2 : cl ≤ client
  · go_enter Try.func42, Try.ntmps42
    go_wp2
    go_ret
    exact ⟨by simp [refuse, h2], rfl⟩
  by_cases h3 : lane = 0
  · have hl : (lane != 0) = false := by simp [h3]
    have HL : Hid (lane = 0) := h3
    clear h3
    go_enter Try.func42, Try.ntmps42
    go_wp2
    go_ret
    exact ⟨by have := HL.out; rw [refuse, if_neg (by omega), if_pos (by omega)]; rfl, rfl⟩
  by_cases h4 : lane = 1
  · have hl : (lane != 0) = true := by simp [h4]
    have hl1 : (lane != 1) = false := by simp [h4]
    have HL : Hid (lane = 1) := h4
    clear h3 h4
    go_enter Try.func42, Try.ntmps42
    go_wp2
    go_ret
    exact ⟨by have := HL.out; rw [refuse, if_neg (by omega), if_pos (by omega)]; rfl, rfl⟩
  · have hl : (lane != 0) = true := by simp [h3]
    have hl1 : (lane != 1) = true := by simp [h4]
    have HL : Hid (¬ (lane = 0 ∨ lane = 1)) := by show ¬ _; omega
    clear h3 h4
    go_enter Try.func42, Try.ntmps42
    go_wp2
    go_ret
    exact ⟨by rw [refuse, if_neg (by omega), if_neg HL.out]; rfl, rfl⟩

end Go.Proofs.Ytncljickkoihhaa
