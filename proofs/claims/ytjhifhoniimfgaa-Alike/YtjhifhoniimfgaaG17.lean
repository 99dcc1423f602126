import Derived.Test.YtjhifhoniimfgaaG16
import Derived.Test.YtjhifhoniimfgaaG02
import Derived.Deep.RegionHeld3
import Derived.Test.YtjhifhoniimfgaaG15
/-
  What a frame says is done, by the program.
-/
namespace Go.Proofs.Ytjhifhoniimfgaa
open Go.RowKit

theorem ta_new (a sd num p q l : Int) (W : World) : (Instr.typeAssert (.iface 160 (.agg #[.int .i64 a, .int .i64 sd, .int .i64 num, .int .i64 p, .int .i64 q, .int .i64 l])) 144 160 true).run Try.prog W =
    .ok (.tuple #[.agg #[.int .i64 a, .int .i64 sd, .int .i64 num, .int .i64 p, .int .i64 q, .int .i64 l], .bool true]) W := by kernel_rfl

/-- The other types: not this one. -/
theorem ta_no_new (v : Value) (W : World) : (Instr.typeAssert (.iface 163 v) 144 160 true).run Try.prog W = .ok (.tuple #[.agg #[.int .i64 0, .int .i64 0, .int .i64 0, .int .i64 0, .int .i64 0, .int .i64 0], .bool false]) W ∧
    (Instr.typeAssert (.iface 166 v) 144 160 true).run Try.prog W = .ok (.tuple #[.agg #[.int .i64 0, .int .i64 0, .int .i64 0, .int .i64 0, .int .i64 0, .int .i64 0], .bool false]) W ∧
    (Instr.typeAssert (.iface 167 v) 144 160 true).run Try.prog W = .ok (.tuple #[.agg #[.int .i64 0, .int .i64 0, .int .i64 0, .int .i64 0, .int .i64 0, .int .i64 0], .bool false]) W ∧
    (Instr.typeAssert (.iface 153 v) 144 160 true).run Try.prog W = .ok (.tuple #[.agg #[.int .i64 0, .int .i64 0, .int .i64 0, .int .i64 0, .int .i64 0, .int .i64 0], .bool false]) W :=
  ⟨by kernel_rfl, by kernel_rfl, by kernel_rfl, by kernel_rfl⟩

theorem ta_cancel (a n : Int) (W : World) : (Instr.typeAssert (.iface 163 (.agg #[.int .i64 a, .int .i64 n])) 144 163 true).run Try.prog W = .ok (.tuple #[.agg #[.int .i64 a, .int .i64 n], .bool true]) W := by kernel_rfl

theorem ta_no_cancel (v : Value) (W : World) : (Instr.typeAssert (.iface 166 v) 144 163 true).run Try.prog W = .ok (.tuple #[.agg #[.int .i64 0, .int .i64 0], .bool false]) W ∧
    (Instr.typeAssert (.iface 167 v) 144 163 true).run Try.prog W = .ok (.tuple #[.agg #[.int .i64 0, .int .i64 0], .bool false]) W ∧
    (Instr.typeAssert (.iface 153 v) 144 163 true).run Try.prog W = .ok (.tuple #[.agg #[.int .i64 0, .int .i64 0], .bool false]) W :=
  ⟨by kernel_rfl, by kernel_rfl, by kernel_rfl⟩

theorem ta_kill (a : Int) (W : World) : (Instr.typeAssert (.iface 166 (.agg #[.int .i64 a])) 144 166 true).run Try.prog W = .ok (.tuple #[.agg #[.int .i64 a], .bool true]) W := by kernel_rfl

theorem ta_no_kill (v : Value) (W : World) : (Instr.typeAssert (.iface 167 v) 144 166 true).run Try.prog W = .ok (.tuple #[.agg #[.int .i64 0], .bool false]) W ∧
    (Instr.typeAssert (.iface 153 v) 144 166 true).run Try.prog W = .ok (.tuple #[.agg #[.int .i64 0], .bool false]) W :=
  ⟨by kernel_rfl, by kernel_rfl⟩

theorem ta_unkill (a : Int) (W : World) : (Instr.typeAssert (.iface 167 (.agg #[.int .i64 a])) 144 167 true).run Try.prog W = .ok (.tuple #[.agg #[.int .i64 a], .bool true]) W := by kernel_rfl

theorem ta_no_unkill (v : Value) (W : World) : (Instr.typeAssert (.iface 153 v) 144 167 true).run Try.prog W = .ok (.tuple #[.agg #[.int .i64 0], .bool false]) W := by kernel_rfl

theorem ta_wrong (a : Int) (W : World) : (Instr.typeAssert (.iface 153 (.agg #[.int .i64 a])) 144 153 true).run Try.prog W = .ok (.tuple #[.agg #[.int .i64 a], .bool true]) W := by kernel_rfl

/-- A New, as it lies in memory. -/
def newO (a sd num p q l : Int) : Obj := .cells #[.int .i64 a, .int .i64 sd, .int .i64 num, .int .i64 p, .int .i64 q, .int .i64 l] 160

set_option maxRecDepth 100000 in
set_option maxHeartbeats 1000000 in
theorem do_shut (gb wb : Nat) (a sd num p q l : Int) (w : World) (h6 : w.cell? ⟨gb, 6, none⟩ = some (.pointer (some ⟨wb, 0, none⟩)))
    (hs : Calls Try.prog 35 #[.pointer (some ⟨wb, 0, none⟩)] (w.alloc (newO a sd num p q l)) fun e w' => e = .returned (.bool true) ∧ w.alloc (newO a sd num p q l) = w') :
    Calls Try.prog 70 #[.pointer (some ⟨gb, 0, none⟩), (Said.new a sd num p q l).val] w fun e w' => e = .returned (.int .i64 9) ∧ Below w.heap.size w w' := by
  unfold Said.val
  unfold newO at hs
  have hta := ta_new a sd num p q l
  have hlt := World.block_lt_of_cell? w _ h6
  go_enter Try.func70, Try.ntmps70
  go_wp2_with fail
  refine hs.mono ?_
  rintro e w' ⟨rfl, rfl⟩
  go_wp2_with fail
  go_ret
  exact ⟨rfl, (Below.refl _ _).alloc (Nat.le_refl _) _⟩

/-- What the walk of a New reads: the gate's cells, the account's pointer, the New itself. -/
def DoS (gb ar ac na ab : Nat) (time : Int) (a : Nat) (sd num p q l : Int) (nb : Nat) (W : World) : Prop :=
  W.cell? ⟨gb, 1, none⟩ = some (.slice (some ⟨ar, 0, none⟩) na ac) ∧ W.cell? ⟨gb, 5, none⟩ = some (.int .i64 time) ∧ W.cell? ⟨ar, a, none⟩ = some (.pointer (some ⟨ab, 0, none⟩)) ∧
  W.cell? ⟨nb, 0, none⟩ = some (.int .i64 a) ∧ W.cell? ⟨nb, 1, none⟩ = some (.int .i64 sd) ∧ W.cell? ⟨nb, 2, none⟩ = some (.int .i64 num) ∧ W.cell? ⟨nb, 3, none⟩ = some (.int .i64 p) ∧ W.cell? ⟨nb, 4, none⟩ = some (.int .i64 q) ∧ W.cell? ⟨nb, 5, none⟩ = some (.int .i64 l)

set_option maxRecDepth 100000 in
set_option maxHeartbeats 2000000 in
theorem do_new (gb wb ar ac na ab : Nat) (time : Int) (a : Nat) (sd num p q l : Int) (w : World) (h6 : w.cell? ⟨gb, 6, none⟩ = some (.pointer (some ⟨wb, 0, none⟩))) (ha : a < na)
    (hS : ∀ n, DoS gb ar ac na ab time a sd num p q l w.heap.size ((w.alloc (newO a sd num p q l)).drewN n)) (code : Int) (Z : World → Prop)
    (hs : Calls Try.prog 35 #[.pointer (some ⟨wb, 0, none⟩)] (w.alloc (newO a sd num p q l)) fun e w' => e = .returned (.bool false) ∧ w.alloc (newO a sd num p q l) = w')
    (ho : ∀ n, Calls Try.prog 75 #[.pointer (some ⟨ab, 0, none⟩), .agg #[.int .i64 a, .int .i64 sd, .int .i64 num, .int .i64 p, .int .i64 q, .int .i64 l], .int .i64 time] ((w.alloc (newO a sd num p q l)).drewN n) fun e w' => e = .returned (.int .i64 code) ∧ Z w')
    (hZ : ∀ W, Z W → DoS gb ar ac na ab time a sd num p q l w.heap.size W) :
    Calls Try.prog 70 #[.pointer (some ⟨gb, 0, none⟩), (Said.new a sd num p q l).val] w fun e w' => e = .returned (.int .i64 code) ∧ Z w' := by
  unfold Said.val
  unfold newO at hs ho hS
  have hta := ta_new a sd num p q l
  have ha2 : (a : Int) < (na : Int) := by omega
  have hlt := World.block_lt_of_cell? w _ h6
  have HS : Hid (∀ n, DoS gb ar ac na ab time a sd num p q l w.heap.size ((w.alloc (.cells #[.int .i64 a, .int .i64 sd, .int .i64 num, .int .i64 p, .int .i64 q, .int .i64 l] 160)).drewN n)) := hS
  have HZ : Hid (∀ W, Z W → DoS gb ar ac na ab time a sd num p q l w.heap.size W) := hZ
  clear hS hZ
  go_enter Try.func70, Try.ntmps70
  go_wp2_with fail
  refine hs.mono ?_
  rintro e w' ⟨rfl, rfl⟩
  go_wp2_with fail
  refine wp_region_noPanic ?_
  refine wp_region_held_drew (S := DoS gb ar ac na ab time a sd num p q l w.heap.size) (by kernel_rfl) (HS.out 1) (fun _ => ?_)
  refine wpAnyH_take (i := 0) (v := ?_) rfl (by kernel_rfl) (by kernel_rfl) (by kernel_rfl) (fun _ _ _ h => h) (Or.inl ⟨by rfl, ?_⟩) (HS.out _) ?_
  rotate_left
  (intro w hSw; obtain ⟨s0, s1, s2, s3, s4, s5, s6, s7, s8⟩ := hSw; go_simp)
  try with_reducible rfl
  simp only [Act.put]
  refine wpAnyH_take (i := 1) (v := ?_) rfl (by kernel_rfl) (by kernel_rfl) (by kernel_rfl) (fun _ _ _ h => h) (Or.inl ⟨by rfl, ?_⟩) (HS.out _) ?_
  rotate_left
  (intro w hSw; obtain ⟨s0, s1, s2, s3, s4, s5, s6, s7, s8⟩ := hSw; go_simp)
  try with_reducible rfl
  simp only [Act.put]
  refine wpAnyH_take (i := 2) (v := ?_) rfl (by kernel_rfl) (by kernel_rfl) (by kernel_rfl) (fun _ _ _ h => h) (Or.inl ⟨by rfl, ?_⟩) (HS.out _) ?_
  rotate_left
  (intro w hSw; obtain ⟨s0, s1, s2, s3, s4, s5, s6, s7, s8⟩ := hSw; go_simp)
  try with_reducible rfl
  simp only [Act.put]
  refine wpAnyH_take (i := 3) (v := ?_) rfl (by kernel_rfl) (by kernel_rfl) (by kernel_rfl) (fun _ _ _ h => h) (Or.inl ⟨by rfl, ?_⟩) (HS.out _) ?_
  rotate_left
  (intro w hSw; obtain ⟨s0, s1, s2, s3, s4, s5, s6, s7, s8⟩ := hSw; go_simp)
  try with_reducible rfl
  simp only [Act.put]
  refine wpAnyH_take (i := 4) (v := ?_) rfl (by kernel_rfl) (by kernel_rfl) (by kernel_rfl) (fun _ _ _ h => h) (Or.inl ⟨by rfl, ?_⟩) (HS.out _) ?_
  rotate_left
  (intro w hSw; obtain ⟨s0, s1, s2, s3, s4, s5, s6, s7, s8⟩ := hSw; go_simp)
  try with_reducible rfl
  simp only [Act.put]
  refine wpAnyH_take (i := 5) (v := ?_) rfl (by kernel_rfl) (by kernel_rfl) (by kernel_rfl) (fun _ _ _ h => h) (Or.inl ⟨by rfl, ?_⟩) (HS.out _) ?_
  rotate_left
  (intro w hSw; obtain ⟨s0, s1, s2, s3, s4, s5, s6, s7, s8⟩ := hSw; go_simp)
  try with_reducible rfl
  simp only [Act.put]
  refine wpAnyH_take (i := 6) (v := ?_) rfl (by kernel_rfl) (by kernel_rfl) (by kernel_rfl) (fun _ _ _ h => h) (Or.inl ⟨by rfl, ?_⟩) (HS.out _) ?_
  rotate_left
  (intro w hSw; obtain ⟨s0, s1, s2, s3, s4, s5, s6, s7, s8⟩ := hSw; go_simp)
  try with_reducible rfl
  simp only [Act.put]
  refine wpAnyH_take (i := 7) (v := ?_) rfl (by kernel_rfl) (by kernel_rfl) (by kernel_rfl) (fun _ _ _ h => h) (Or.inl ⟨by rfl, ?_⟩) (HS.out _) ?_
  rotate_left
  (intro w hSw; obtain ⟨s0, s1, s2, s3, s4, s5, s6, s7, s8⟩ := hSw; go_simp)
  try with_reducible rfl
  simp only [Act.put]
  refine wpAnyH_take (i := 8) (v := ?_) rfl (by kernel_rfl) (by kernel_rfl) (by kernel_rfl) (fun _ _ _ h => h) (Or.inl ⟨by rfl, ?_⟩) (HS.out _) ?_
  rotate_left
  (intro w hSw; obtain ⟨s0, s1, s2, s3, s4, s5, s6, s7, s8⟩ := hSw; go_simp)
  try with_reducible rfl
  simp only [Act.put]
  refine wpAnyH_take (i := 9) (v := ?_) rfl (by kernel_rfl) (by kernel_rfl) (by kernel_rfl) (fun _ _ _ h => h) (Or.inl ⟨by rfl, ?_⟩) (HS.out _) ?_
  rotate_left
  (intro w hSw; obtain ⟨s0, s1, s2, s3, s4, s5, s6, s7, s8⟩ := hSw; go_simp)
  try with_reducible rfl
  simp only [Act.put]
  refine wpAnyH_take (i := 10) (v := ?_) rfl (by kernel_rfl) (by kernel_rfl) (by kernel_rfl) (fun _ _ _ h => h) (Or.inl ⟨by rfl, ?_⟩) (HS.out _) ?_
  rotate_left
  (intro w hSw; obtain ⟨s0, s1, s2, s3, s4, s5, s6, s7, s8⟩ := hSw; go_simp)
  try with_reducible rfl
  simp only [Act.put]
  refine wpAnyH_take (i := 11) (v := ?_) rfl (by kernel_rfl) (by kernel_rfl) (by kernel_rfl) (fun _ _ _ h => h) (Or.inl ⟨by rfl, ?_⟩) (HS.out _) ?_
  rotate_left
  (intro w hSw; obtain ⟨s0, s1, s2, s3, s4, s5, s6, s7, s8⟩ := hSw; go_simp)
  try with_reducible rfl
  simp only [Act.put]
  refine wpAnyH_take (i := 12) (v := ?_) rfl (by kernel_rfl) (by kernel_rfl) (by kernel_rfl) (fun _ _ _ h => h) (Or.inl ⟨by rfl, ?_⟩) (HS.out _) ?_
  rotate_left
  (intro w hSw; obtain ⟨s0, s1, s2, s3, s4, s5, s6, s7, s8⟩ := hSw; go_simp)
  try with_reducible rfl
  simp only [Act.put]
  refine wpAnyH_ready (rs := [13]) (by kernel_rfl) (by simp) ?_
  refine AllReadyH.cons rfl (fun K hK => ?_) AllReadyH.nil
  go_simp
  refine (ho 1).mono ?_
  rintro e w1 ⟨rfl, hz⟩
  go_wp2_with fail
  refine hK.out _ _ (HZ.out w1 hz) (fun _ => ?_)
  clear hK K
  refine wpAnyH_ready (rs := [14]) (by kernel_rfl) (by simp) ?_
  refine AllReadyH.cons rfl (fun K hK => ?_) AllReadyH.nil
  go_simp
  refine hK.out _ _ (HZ.out w1 hz) (fun _ => ?_)
  clear hK K
  refine wpAnyH_done (by kernel_rfl) (NoPanic.normal ?_) _
  go_wp2_with fail
  go_ret
  exact ⟨rfl, hz⟩

set_option maxRecDepth 100000 in
set_option maxHeartbeats 1000000 in
theorem do_wrong (gb : Nat) (c : Int) (w : World) :
    Calls Try.prog 70 #[.pointer (some ⟨gb, 0, none⟩), (Said.wrong c).val] w fun e w' => e = .returned (.int .i64 c) ∧ Below w.heap.size w w' := by
  unfold Said.val
  have t1 := fun W => (ta_no_new (.agg #[.int .i64 c]) W).2.2.2
  have t2 := fun W => (ta_no_cancel (.agg #[.int .i64 c]) W).2.2
  have t3 := fun W => (ta_no_kill (.agg #[.int .i64 c]) W).2
  have t4 := fun W => ta_no_unkill (.agg #[.int .i64 c]) W
  have t5 := ta_wrong c
  go_enter Try.func70, Try.ntmps70
  go_wp2_with fail
  go_ret
  exact ⟨rfl, (Below.refl _ _).alloc (Nat.le_refl _) _⟩

set_option maxRecDepth 100000 in
set_option maxHeartbeats 1000000 in
theorem do_cancel (gb ar ac na ab : Nat) (a : Nat) (num : Int) (w : World) (h1 : w.cell? ⟨gb, 1, none⟩ = some (.slice (some ⟨ar, 0, none⟩) na ac)) (ha : a < na) (hi : w.cell? ⟨ar, a, none⟩ = some (.pointer (some ⟨ab, 0, none⟩))) (code : Int) (Z : World → Prop)
    (ho : ∀ n, Calls Try.prog 76 #[.pointer (some ⟨ab, 0, none⟩), .int .i64 num] ((w.alloc (.cells #[.int .i64 a, .int .i64 num] 163)).drewN n) fun e w' => e = .returned (.int .i64 code) ∧ Z w') :
    Calls Try.prog 70 #[.pointer (some ⟨gb, 0, none⟩), (Said.cancel a num).val] w fun e w' => e = .returned (.int .i64 code) ∧ Z w' := by
  unfold Said.val
  have t1 := fun W => (ta_no_new (.agg #[.int .i64 a, .int .i64 num]) W).1
  have t2 := ta_cancel a num
  have ha2 : (a : Int) < (na : Int) := by omega
  have hlt := World.block_lt_of_cell? w _ h1
  have hlt2 := World.block_lt_of_cell? w _ hi
  go_enter Try.func70, Try.ntmps70
  go_wp2_with fail
  go_region_with (go_at_call 76; refine (ho _).mono ?_; rintro e w1 ⟨rfl, hz⟩)
  all_goals
    go_wp2_with fail
    go_ret
    exact ⟨rfl, hz⟩

set_option maxRecDepth 100000 in
set_option maxHeartbeats 1000000 in
theorem do_kill (gb ar ac na ab : Nat) (a : Nat) (w : World) (h1 : w.cell? ⟨gb, 1, none⟩ = some (.slice (some ⟨ar, 0, none⟩) na ac)) (ha : a < na) (hi : w.cell? ⟨ar, a, none⟩ = some (.pointer (some ⟨ab, 0, none⟩))) (Z : World → Prop)
    (ho : ∀ n, Calls Try.prog 77 #[.pointer (some ⟨ab, 0, none⟩)] ((w.alloc (.cells #[.int .i64 a] 166)).drewN n) fun e w' => e = .returned (.tuple #[]) ∧ Z w') :
    Calls Try.prog 70 #[.pointer (some ⟨gb, 0, none⟩), (Said.kill a).val] w fun e w' => e = .returned (.int .i64 0) ∧ Z w' := by
  unfold Said.val
  have t1 := fun W => (ta_no_new (.agg #[.int .i64 a]) W).2.1
  have t2 := fun W => (ta_no_cancel (.agg #[.int .i64 a]) W).1
  have t3 := ta_kill a
  have ha2 : (a : Int) < (na : Int) := by omega
  have hlt := World.block_lt_of_cell? w _ h1
  have hlt2 := World.block_lt_of_cell? w _ hi
  go_enter Try.func70, Try.ntmps70
  go_wp2_with fail
  go_region_with (go_at_call 77; refine (ho _).mono ?_; rintro e w1 ⟨rfl, hz⟩)
  all_goals
    go_wp2_with fail
    go_ret
    exact ⟨rfl, hz⟩

set_option maxRecDepth 100000 in
set_option maxHeartbeats 1000000 in
theorem do_unkill (gb ar ac na ab : Nat) (a : Nat) (w : World) (h1 : w.cell? ⟨gb, 1, none⟩ = some (.slice (some ⟨ar, 0, none⟩) na ac)) (ha : a < na) (hi : w.cell? ⟨ar, a, none⟩ = some (.pointer (some ⟨ab, 0, none⟩))) (Z : World → Prop)
    (ho : ∀ n, Calls Try.prog 78 #[.pointer (some ⟨ab, 0, none⟩)] ((w.alloc (.cells #[.int .i64 a] 167)).drewN n) fun e w' => e = .returned (.tuple #[]) ∧ Z w') :
    Calls Try.prog 70 #[.pointer (some ⟨gb, 0, none⟩), (Said.unkill a).val] w fun e w' => e = .returned (.int .i64 0) ∧ Z w' := by
  unfold Said.val
  have t1 := fun W => (ta_no_new (.agg #[.int .i64 a]) W).2.2.1
  have t2 := fun W => (ta_no_cancel (.agg #[.int .i64 a]) W).2.1
  have t3 := fun W => (ta_no_kill (.agg #[.int .i64 a]) W).1
  have t4 := ta_unkill a
  have ha2 : (a : Int) < (na : Int) := by omega
  have hlt := World.block_lt_of_cell? w _ h1
  have hlt2 := World.block_lt_of_cell? w _ hi
  go_enter Try.func70, Try.ntmps70
  go_wp2_with fail
  go_region_with (go_at_call 78; refine (ho _).mono ?_; rintro e w1 ⟨rfl, hz⟩)
  all_goals
    go_wp2_with fail
    go_ret
    exact ⟨rfl, hz⟩

end Go.Proofs.Ytjhifhoniimfgaa

/-
  The program's gate in memory.
-/
namespace Go.Proofs.Ytjhifhoniimfgaa
open Go.RowKit

/-- The blocks of a gate: its own; the rows of inboxes and accounts; those of each client, account, lane; of the answer with which the core waits; of the watch and its channel. -/
structure GB where
  gb : Nat
  ir : Nat
  ic : Nat
  ar : Nat
  ac : Nat
  ib : Nat → Nat
  ab : Nat → Nat
  lb : Nat → Nat
  hb : Nat
  wb : Nat
  cb : Nat

def heldV (B : GB) (s : St) : Value :=
  match s.held with
  | none => .pointer none
  | some _ => .pointer (some ⟨B.hb, 0, none⟩)

/-- The cells of the gate's own block. -/
def gCells (B : GB) (cl na : Nat) (hv : Value) (time : Int) : Array Value :=
  #[.slice (some ⟨B.ir, 0, none⟩) cl B.ic, .slice (some ⟨B.ar, 0, none⟩) na B.ac, .pointer (some ⟨B.lb 0, 0, none⟩), .pointer (some ⟨B.lb 1, 0, none⟩), hv, .int .i64 time, .pointer (some ⟨B.wb, 0, none⟩)]

structure PG (own : Nat → Nat) (T : Nat) (w : World) (B : GB) (s : St) (N : Nat) : Prop where
  gate : w.heap[B.gb]? = some (.cells (gCells B s.cl s.na (heldV B s) s.time) 80 (0, 0))
  irow : ∃ cs, w.heap[B.ir]? = some (.cells cs 91 (0, 0)) ∧ ∀ i : Nat, i < s.cl → cs[i]? = some (.pointer (some ⟨B.ib i, 0, none⟩))
  arow : ∃ cs, w.heap[B.ar]? = some (.cells cs 97 (0, 0)) ∧ ∀ i : Nat, i < s.na → cs[i]? = some (.pointer (some ⟨B.ab i, 0, none⟩))
  late : ∀ c a, s.held = some (c, a) → w.heap[B.hb]? = some (.cells #[.int .i64 c, .int .i64 a.1, .int .i64 a.2] 138 (0, 0)) ∧ own B.hb = T
  watch : ∃ mi ti st, WatchAt w B.wb B.cb s.ch mi ti st s.shut ∧ (s.shut = false → mi = s.misses ∧ ti = s.ticked ∧ st = s.stepped)
  og : own B.gb = T
  oi : own B.ir = T
  oa : own B.ar = T
  ow : own B.wb = T
  oc : own B.cb = T
  lane : ∀ i, i < 2 → LaneR own (T + 1 + i) w (B.lb i) (s.n i) (s.m i) (s.t i) (s.f i)
  box : ∀ c, c < s.cl → InboxR own (T + 10 + c) w (B.ib c) s.an N (s.ring c) (s.acks c)
  acc : ∀ a, a < s.na → AccR own (T + 20 + a) w (B.ab a) (s.lim a) (s.stop a) (s.book a) s.time N

/-- The blocks that are not of the gate with the tags from T on. -/
def Out (own : Nat → Nat) (T : Nat) : Nat → Prop := fun b => own b < T ∨ T + 100 ≤ own b

theorem PG.more {own : Nat → Nat} {T : Nat} {w : World} {B : GB} {s : St} {N M : Nat} (h : PG own T w B s N) (hM : N ≤ M) : PG own T w B s M :=
  { h with box := fun c hc => (h.box c hc).more hM, acc := fun a ha => (h.acc a ha).more hM }

/-- All that is tagged by T itself stays: the gate's own block, rows, watch. -/
structure Core0 (own : Nat → Nat) (T : Nat) (w : World) (B : GB) (s : St) : Prop where
  gate : w.heap[B.gb]? = some (.cells (gCells B s.cl s.na (heldV B s) s.time) 80 (0, 0))
  irow : ∃ cs, w.heap[B.ir]? = some (.cells cs 91 (0, 0)) ∧ ∀ i : Nat, i < s.cl → cs[i]? = some (.pointer (some ⟨B.ib i, 0, none⟩))
  arow : ∃ cs, w.heap[B.ar]? = some (.cells cs 97 (0, 0)) ∧ ∀ i : Nat, i < s.na → cs[i]? = some (.pointer (some ⟨B.ab i, 0, none⟩))
  late : ∀ c a, s.held = some (c, a) → w.heap[B.hb]? = some (.cells #[.int .i64 c, .int .i64 a.1, .int .i64 a.2] 138 (0, 0)) ∧ own B.hb = T
  watch : ∃ mi ti st, WatchAt w B.wb B.cb s.ch mi ti st s.shut ∧ (s.shut = false → mi = s.misses ∧ ti = s.ticked ∧ st = s.stepped)
  og : own B.gb = T
  oi : own B.ir = T
  oa : own B.ar = T
  ow : own B.wb = T
  oc : own B.cb = T

theorem PG.core0 {own : Nat → Nat} {T : Nat} {w : World} {B : GB} {s : St} {N : Nat} (h : PG own T w B s N) : Core0 own T w B s :=
  ⟨h.gate, h.irow, h.arow, h.late, h.watch, h.og, h.oi, h.oa, h.ow, h.oc⟩

theorem Core0.keep {own own' : Nat → Nat} {T : Nat} {S : Nat → Prop} {w w' : World} {B : GB} {s : St} (h : Core0 own T w B s) (hk : Keep S w w') (hs : ∀ b, b < w.heap.size → own b = T → S b) (ho : Same own own' w) : Core0 own' T w' B s := by
  obtain ⟨ci, hi1, hi2⟩ := h.irow
  obtain ⟨ca, ha1, ha2⟩ := h.arow
  obtain ⟨mi, ti, st, hw1, hw2⟩ := h.watch
  have lg := block_lt h.gate
  have li := block_lt hi1
  have la := block_lt ha1
  have lw := block_lt hw1.watch
  have lc := block_lt hw1.chan
  refine ⟨hk.get h.gate (hs _ lg h.og), ⟨ci, hk.get hi1 (hs _ li h.oi), hi2⟩, ⟨ca, hk.get ha1 (hs _ la h.oa), ha2⟩, fun c a e => ?_, ⟨mi, ti, st, hw1.keep hk (hs _ lw h.ow) (hs _ lc h.oc), hw2⟩, ?_, ?_, ?_, ?_, ?_⟩
  · obtain ⟨q1, q2⟩ := h.late c a e
    exact ⟨hk.get q1 (hs _ (block_lt q1) q2), by rw [ho _ (block_lt q1)]; exact q2⟩
  · rw [ho _ lg]; exact h.og
  · rw [ho _ li]; exact h.oi
  · rw [ho _ la]; exact h.oa
  · rw [ho _ lw]; exact h.ow
  · rw [ho _ lc]; exact h.oc

theorem Core0.pg {own : Nat → Nat} {T : Nat} {w : World} {B : GB} {s : St} {N : Nat} (h : Core0 own T w B s) (h1 : ∀ i, i < 2 → LaneR own (T + 1 + i) w (B.lb i) (s.n i) (s.m i) (s.t i) (s.f i))
    (h2 : ∀ c, c < s.cl → InboxR own (T + 10 + c) w (B.ib c) s.an N (s.ring c) (s.acks c)) (h3 : ∀ a, a < s.na → AccR own (T + 20 + a) w (B.ab a) (s.lim a) (s.stop a) (s.book a) s.time N) : PG own T w B s N :=
  ⟨h.gate, h.irow, h.arow, h.late, h.watch, h.og, h.oi, h.oa, h.ow, h.oc, h1, h2, h3⟩

theorem PG.keep {own own' : Nat → Nat} {T : Nat} {S : Nat → Prop} {w w' : World} {B : GB} {s : St} {N : Nat} (h : PG own T w B s N) (hcl : s.cl ≤ 8) (hna : s.na ≤ 4) (hk : Keep S w w') (hs : ∀ b, b < w.heap.size → T ≤ own b → own b < T + 100 → S b) (ho : Same own own' w) : PG own' T w' B s N :=
  (h.core0.keep hk (fun b hb e => hs b hb (by omega) (by omega)) ho).pg
    (fun i hi => (h.lane i hi).keep hk (fun b hb e => hs b hb (by omega) (by omega)) ho)
    (fun c hc => (h.box c hc).keep hk (fun b hb e => hs b hb (by omega) (by omega)) ho)
    (fun a ha => (h.acc a ha).keep hk (fun b hb e => hs b hb (by omega) (by omega)) ho)

/-- A lane has turned. -/
theorem PG.relane {own : Nat → Nat} {T : Nat} {w w' : World} {B : GB} {s : St} {N : Nat} (h : PG own T w B s N) (i : Nat) (hi : i < 2) (m t : Nat) (f : Nat → Pl)
    (hl : LaneR (ext own w.heap.size (T + 1 + i)) (T + 1 + i) w' (B.lb i) (s.n i) m t f) (hk : Keep (fun b => own b ≠ T + 1 + i) w w') :
    PG (ext own w.heap.size (T + 1 + i)) T w' B { s with m := upN s.m i m, t := upN s.t i t, f := upN s.f i f } N := by
  have ho := Same.ext own w (T + 1 + i)
  have h0 : Core0 (ext own w.heap.size (T + 1 + i)) T w' B s := h.core0.keep hk (fun b hb e => by omega) ho
  refine Core0.pg ⟨h0.gate, h0.irow, h0.arow, h0.late, h0.watch, h0.og, h0.oi, h0.oa, h0.ow, h0.oc⟩ (fun j hj => ?_) (fun c hc => (h.box c hc).keep hk (fun b hb e => by omega) ho) (fun a ha => (h.acc a ha).keep hk (fun b hb e => by omega) ho)
  show LaneR _ _ _ _ (s.n j) (upN s.m i m j) (upN s.t i t j) (upN s.f i f j)
  by_cases e : j = i
  · subst e; rw [upN_same, upN_same, upN_same]; exact hl
  · rw [upN_ne _ _ _ _ e, upN_ne _ _ _ _ e, upN_ne _ _ _ _ e]
    exact (h.lane j hj).keep hk (fun b hb e => by omega) ho

/-- An inbox has turned. -/
theorem PG.rebox {own : Nat → Nat} {T : Nat} {w w' : World} {B : GB} {s : St} {N : Nat} (h : PG own T w B s N) (hcl : s.cl ≤ 8) (c : Nat) (hc : c < s.cl) (ring acks : List Ans)
    (hl : InboxR (ext own w.heap.size (T + 10 + c)) (T + 10 + c) w' (B.ib c) s.an N ring acks) (hk : Keep (fun b => own b ≠ T + 10 + c) w w') :
    PG (ext own w.heap.size (T + 10 + c)) T w' B { s with ring := upN s.ring c ring, acks := upN s.acks c acks } N := by
  have ho := Same.ext own w (T + 10 + c)
  have h0 : Core0 (ext own w.heap.size (T + 10 + c)) T w' B s := h.core0.keep hk (fun b hb e => by omega) ho
  refine Core0.pg ⟨h0.gate, h0.irow, h0.arow, h0.late, h0.watch, h0.og, h0.oi, h0.oa, h0.ow, h0.oc⟩ (fun j hj => (h.lane j hj).keep hk (fun b hb e => by omega) ho) (fun j hj => ?_) (fun a ha => (h.acc a ha).keep hk (fun b hb e => by omega) ho)
  show InboxR _ _ _ _ s.an N (upN s.ring c ring j) (upN s.acks c acks j)
  by_cases e : j = c
  · subst e; rw [upN_same, upN_same]; exact hl
  · rw [upN_ne _ _ _ _ e, upN_ne _ _ _ _ e]
    have hj : j < s.cl := hj
    exact (h.box j hj).keep hk (fun b hb e => by omega) ho

/-- An account has turned. -/
theorem PG.reacc {own : Nat → Nat} {T : Nat} {w w' : World} {B : GB} {s : St} {N : Nat} (h : PG own T w B s N) (hcl : s.cl ≤ 8) (a : Nat) (ha : a < s.na) (st : Bool) (es : List Ent)
    (hl : AccR (ext own w.heap.size (T + 20 + a)) (T + 20 + a) w' (B.ab a) (s.lim a) st es s.time N) (hk : Keep (fun b => own b ≠ T + 20 + a) w w') :
    PG (ext own w.heap.size (T + 20 + a)) T w' B { s with stop := upN s.stop a st, book := upN s.book a es } N := by
  have ho := Same.ext own w (T + 20 + a)
  have h0 : Core0 (ext own w.heap.size (T + 20 + a)) T w' B s := h.core0.keep hk (fun b hb e => by omega) ho
  refine Core0.pg ⟨h0.gate, h0.irow, h0.arow, h0.late, h0.watch, h0.og, h0.oi, h0.oa, h0.ow, h0.oc⟩ (fun j hj => (h.lane j hj).keep hk (fun b hb e => by omega) ho) (fun c hc => (h.box c hc).keep hk (fun b hb e => by have hc : c < s.cl := hc; omega) ho) (fun j hj => ?_)
  show AccR _ _ _ _ (s.lim j) (upN s.stop a st j) (upN s.book a es j) s.time N
  by_cases e : j = a
  · subst e; rw [upN_same, upN_same]; exact hl
  · rw [upN_ne _ _ _ _ e, upN_ne _ _ _ _ e]
    have hj : j < s.na := hj
    exact (h.acc j hj).keep hk (fun b hb e => by omega) ho

theorem GB.ne_gw {own : Nat → Nat} {T : Nat} {w : World} {B : GB} {s : St} (h : Core0 own T w B s) : B.gb ≠ B.wb ∧ B.gb ≠ B.cb ∧ B.gb ≠ B.ir ∧ B.gb ≠ B.ar ∧ (∀ c a, s.held = some (c, a) → B.gb ≠ B.hb) ∧ B.wb ≠ B.ir ∧ B.wb ≠ B.ar ∧ B.cb ≠ B.ir ∧ B.cb ≠ B.ar ∧ (∀ c a, s.held = some (c, a) → B.wb ≠ B.hb ∧ B.cb ≠ B.hb) := by
  obtain ⟨ci, hi1, hi2⟩ := h.irow
  obtain ⟨ca, ha1, ha2⟩ := h.arow
  obtain ⟨mi, ti, st, hw1, hw2⟩ := h.watch
  have hch : ∀ b cs U f, w.heap[b]? = some (.cells cs U f) → B.cb ≠ b := fun b cs U f hb e => by
    have := hw1.chan; rw [e, hb] at this; cases this
  exact ⟨block_ne h.gate hw1.watch (by decide), Ne.symm (hch _ _ _ _ h.gate), block_ne h.gate hi1 (by decide), block_ne h.gate ha1 (by decide), fun c a e => block_ne h.gate (h.late c a e).1 (by decide), block_ne hw1.watch hi1 (by decide), block_ne hw1.watch ha1 (by decide), hch _ _ _ _ hi1, hch _ _ _ _ ha1, fun c a e => ⟨block_ne hw1.watch (h.late c a e).1 (by decide), hch _ _ _ _ (h.late c a e).1⟩⟩

/-- The watch has turned. -/
theorem PG.rewatch {own : Nat → Nat} {T : Nat} {w w' : World} {B : GB} {s : St} {N : Nat} (h : PG own T w B s N) (hk : Keep (fun b => b ≠ B.wb ∧ b ≠ B.cb) w w') (ti st : Bool) (mi : Nat) (sh : Bool)
    (hw : ∃ mi' ti' st', WatchAt w' B.wb B.cb s.ch mi' ti' st' sh ∧ (sh = false → mi' = mi ∧ ti' = ti ∧ st' = st)) : PG (ext own w.heap.size T) T w' B { s with ticked := ti, stepped := st, misses := mi, shut := sh } N := by
  have ho := Same.ext own w T
  have h0 := h.core0
  have lg := block_lt h0.gate
  obtain ⟨n1, n2, n3, n4, n5, n6, n7, n8, n9, n10⟩ := GB.ne_gw h0
  obtain ⟨ci, hi1, hi2⟩ := h0.irow
  obtain ⟨ca, ha1, ha2⟩ := h0.arow
  obtain ⟨mi', ti', st', hw1, hw2⟩ := h0.watch
  have hp : ∀ b, own b ≠ T → b ≠ B.wb ∧ b ≠ B.cb := fun b hb => ⟨fun e => hb (e ▸ h0.ow), fun e => hb (e ▸ h0.oc)⟩
  refine Core0.pg ⟨hk.get h0.gate ⟨n1, n2⟩, ⟨ci, hk.get hi1 ⟨Ne.symm n6, Ne.symm n8⟩, hi2⟩, ⟨ca, hk.get ha1 ⟨Ne.symm n7, Ne.symm n9⟩, ha2⟩, fun c a e => ?_, hw, ?_, ?_, ?_, ?_, ?_⟩
    (fun i hi => (h.lane i hi).keep hk (fun b hb e => hp b (by omega)) ho) (fun c hc => (h.box c hc).keep hk (fun b hb e => hp b (by omega)) ho) (fun a ha => (h.acc a ha).keep hk (fun b hb e => hp b (by omega)) ho)
  · obtain ⟨q1, q2⟩ := h0.late c a e
    exact ⟨hk.get q1 ⟨Ne.symm (n10 c a e).1, Ne.symm (n10 c a e).2⟩, by rw [ext_lt (block_lt q1)]; exact q2⟩
  · rw [ext_lt lg]; exact h0.og
  · rw [ext_lt (block_lt hi1)]; exact h0.oi
  · rw [ext_lt (block_lt ha1)]; exact h0.oa
  · rw [ext_lt (block_lt hw1.watch)]; exact h0.ow
  · rw [ext_lt (block_lt hw1.chan)]; exact h0.oc

theorem Keep.out {own : Nat → Nat} {T p : Nat} {w w' : World} (h : Keep (fun b => own b ≠ p) w w') (h1 : T ≤ p) (h2 : p < T + 100) : Keep (Out own T) w w' :=
  h.mono (fun b _ hb e => by rcases hb with hb | hb <;> omega)

/-- The blocks are the same, but for the answer with which the core waits. -/
def GB.Like (B B' : GB) : Prop := ∃ hb, B' = { B with hb := hb }

theorem GB.Like.refl (B : GB) : B.Like B := ⟨B.hb, rfl⟩
theorem GB.Like.trans {B C D : GB} (h : B.Like C) (k : C.Like D) : B.Like D := by
  obtain ⟨h1, rfl⟩ := h
  obtain ⟨h2, rfl⟩ := k
  exact ⟨h2, rfl⟩
theorem GB.Like.gb {B C : GB} (h : B.Like C) : C.gb = B.gb := by obtain ⟨h1, rfl⟩ := h; rfl

/-- What a call leaves: the gate in its next state; nothing else turned. -/
def GoesP (own : Nat → Nat) (T : Nat) (w : World) (B : GB) (s' : St) (N : Nat) (w' : World) : Prop :=
  ∃ own' B', PG own' T w' B' s' N ∧ B.Like B' ∧ Same own own' w ∧ Keep (Out own T) w w'

theorem GoesP.more {own : Nat → Nat} {T : Nat} {w : World} {B : GB} {s' : St} {N M : Nat} {w' : World} (h : GoesP own T w B s' N w') (hM : N ≤ M) : GoesP own T w B s' M w' := by
  obtain ⟨own', B', h1, h2, h3, h4⟩ := h
  exact ⟨own', B', h1.more hM, h2, h3, h4⟩

/-- One step behind another. -/
theorem GoesP.trans {own own1 : Nat → Nat} {T : Nat} {w w1 w2 : World} {B B1 : GB} {s2 : St} {N : Nat} (hk : Keep (Out own T) w w1) (ho : Same own own1 w) (hb : B.Like B1) (h : GoesP own1 T w1 B1 s2 N w2) : GoesP own T w B s2 N w2 := by
  obtain ⟨own', B', h1, h2, h3, h4⟩ := h
  refine ⟨own', B', h1, hb.trans h2, ho.trans h3 hk.size, hk.trans' h4 (fun b hb hO => ?_)⟩
  unfold Out at hO ⊢
  rw [ho b hb]
  exact hO

theorem GoesP.same {own : Nat → Nat} {T : Nat} {w w' : World} {B : GB} {s : St} {N : Nat} (h : PG own T w B s N) (hcl : s.cl ≤ 8) (hna : s.na ≤ 4) (hk : Keep (fun _ => True) w w') : GoesP own T w B s N w' :=
  ⟨own, B, h.keep hcl hna hk (fun _ _ _ _ => trivial) (Same.refl _ _), .refl _, Same.refl _ _, hk.mono (fun _ _ _ => trivial)⟩

end Go.Proofs.Ytjhifhoniimfgaa

