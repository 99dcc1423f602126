import Derived.Test.YtjhifhoniimfgaaGreatG15
import Derived.Test.YtjhifhoniimfgaaGreatG02
import Derived.Deep.RegionHeld3
import Derived.Test.YtjhifhoniimfgaaGreatG08
import Derived.Test.YtjhifhoniimfgaaGreatG14
import Derived.Test.YtjhifhoniimfgaaGreatG12
/-
  What a frame says is done, by the program.
-/
namespace Go.Proofs.YtjhifhoniimfgaaGreat
open Go.RowKit

theorem ta_new (a sd num p q l : Int) (W : World) : (Instr.typeAssert (.iface 182 (.agg #[.int .i64 a, .int .i64 sd, .int .i64 num, .int .i64 p, .int .i64 q, .int .i64 l])) 163 182 true).run Tryz.prog W =
    .ok (.tuple #[.agg #[.int .i64 a, .int .i64 sd, .int .i64 num, .int .i64 p, .int .i64 q, .int .i64 l], .bool true]) W := by kernel_rfl

/-- The other types: not this one. -/
theorem ta_no_new (v : Value) (W : World) : (Instr.typeAssert (.iface 185 v) 163 182 true).run Tryz.prog W = .ok (.tuple #[.agg #[.int .i64 0, .int .i64 0, .int .i64 0, .int .i64 0, .int .i64 0, .int .i64 0], .bool false]) W ∧
    (Instr.typeAssert (.iface 188 v) 163 182 true).run Tryz.prog W = .ok (.tuple #[.agg #[.int .i64 0, .int .i64 0, .int .i64 0, .int .i64 0, .int .i64 0, .int .i64 0], .bool false]) W ∧
    (Instr.typeAssert (.iface 189 v) 163 182 true).run Tryz.prog W = .ok (.tuple #[.agg #[.int .i64 0, .int .i64 0, .int .i64 0, .int .i64 0, .int .i64 0, .int .i64 0], .bool false]) W ∧
    (Instr.typeAssert (.iface 175 v) 163 182 true).run Tryz.prog W = .ok (.tuple #[.agg #[.int .i64 0, .int .i64 0, .int .i64 0, .int .i64 0, .int .i64 0, .int .i64 0], .bool false]) W :=
  ⟨by kernel_rfl, by kernel_rfl, by kernel_rfl, by kernel_rfl⟩

theorem ta_cancel (a n : Int) (W : World) : (Instr.typeAssert (.iface 185 (.agg #[.int .i64 a, .int .i64 n])) 163 185 true).run Tryz.prog W = .ok (.tuple #[.agg #[.int .i64 a, .int .i64 n], .bool true]) W := by kernel_rfl

theorem ta_no_cancel (v : Value) (W : World) : (Instr.typeAssert (.iface 188 v) 163 185 true).run Tryz.prog W = .ok (.tuple #[.agg #[.int .i64 0, .int .i64 0], .bool false]) W ∧
    (Instr.typeAssert (.iface 189 v) 163 185 true).run Tryz.prog W = .ok (.tuple #[.agg #[.int .i64 0, .int .i64 0], .bool false]) W ∧
    (Instr.typeAssert (.iface 175 v) 163 185 true).run Tryz.prog W = .ok (.tuple #[.agg #[.int .i64 0, .int .i64 0], .bool false]) W :=
  ⟨by kernel_rfl, by kernel_rfl, by kernel_rfl⟩

theorem ta_kill (a : Int) (W : World) : (Instr.typeAssert (.iface 188 (.agg #[.int .i64 a])) 163 188 true).run Tryz.prog W = .ok (.tuple #[.agg #[.int .i64 a], .bool true]) W := by kernel_rfl

theorem ta_no_kill (v : Value) (W : World) : (Instr.typeAssert (.iface 189 v) 163 188 true).run Tryz.prog W = .ok (.tuple #[.agg #[.int .i64 0], .bool false]) W ∧
    (Instr.typeAssert (.iface 175 v) 163 188 true).run Tryz.prog W = .ok (.tuple #[.agg #[.int .i64 0], .bool false]) W :=
  ⟨by kernel_rfl, by kernel_rfl⟩

theorem ta_unkill (a : Int) (W : World) : (Instr.typeAssert (.iface 189 (.agg #[.int .i64 a])) 163 189 true).run Tryz.prog W = .ok (.tuple #[.agg #[.int .i64 a], .bool true]) W := by kernel_rfl

theorem ta_no_unkill (v : Value) (W : World) : (Instr.typeAssert (.iface 175 v) 163 189 true).run Tryz.prog W = .ok (.tuple #[.agg #[.int .i64 0], .bool false]) W := by kernel_rfl

theorem ta_wrong (a : Int) (W : World) : (Instr.typeAssert (.iface 175 (.agg #[.int .i64 a])) 163 175 true).run Tryz.prog W = .ok (.tuple #[.agg #[.int .i64 a], .bool true]) W := by kernel_rfl

/-- A New, as it lies in memory. -/
def newO (a sd num p q l : Int) : Obj := .cells #[.int .i64 a, .int .i64 sd, .int .i64 num, .int .i64 p, .int .i64 q, .int .i64 l] 182

set_option maxRecDepth 100000 in
set_option maxHeartbeats 1000000 in
theorem do_shut (gb wb : Nat) (a sd num p q l : Int) (w : World) (h6 : w.cell? ⟨gb, 6, none⟩ = some (.pointer (some ⟨wb, 0, none⟩)))
    (hs : Calls Tryz.prog 39 #[.pointer (some ⟨wb, 0, none⟩)] (w.alloc (newO a sd num p q l)) fun e w' => e = .returned (.bool true) ∧ w.alloc (newO a sd num p q l) = w') :
    Calls Tryz.prog 74 #[.pointer (some ⟨gb, 0, none⟩), (Said.new a sd num p q l).val] w fun e w' => e = .returned (.int .i64 9) ∧ Below w.heap.size w w' := by
  unfold Said.val
  unfold newO at hs
  have hta := ta_new a sd num p q l
  have hlt := World.block_lt_of_cell? w _ h6
  go_enter Tryz.func74, Tryz.ntmps74
  go_wp2_with fail
  refine hs.mono ?_
  rintro e w' ⟨rfl, rfl⟩
  go_wp2_with fail
  go_ret
  exact ⟨rfl, (Below.refl _ _).alloc (Nat.le_refl _) _⟩

/-- What the walk of a New reads: the gate's cells, the account's pointer, the New itself. -/
def DoS (gb ar ac na ab : Nat) (time : Int) (a : Nat) (sd num p q l : Int) (nb : Nat) (W : World) : Prop :=
  W.cell? ⟨gb, 1, none⟩ = some (.slice (some ⟨ar, 0, none⟩) na ac) ∧ W.cell? ⟨gb, 5, none⟩ = some (.int .i64 time) ∧ W.cell? ⟨ar, a, none⟩ = some (.pointer (some ⟨ab, 0, none⟩)) ∧
  W.cell? ⟨nb, 0, none⟩ = some (.int .i64 a) ∧ W.cell? ⟨nb, 1, none⟩ = some (.int .i64 sd) ∧ W.cell? ⟨nb, 2, none⟩ = some (.int .i64 num) ∧ W.cell? ⟨nb, 3, none⟩ = some (.int .i64 p) ∧ W.cell? ⟨nb, 4, none⟩ = some (.int .i64 q) ∧ W.cell? ⟨nb, 5, none⟩ = some (.int .i64 l)

set_option maxRecDepth 100000 in
set_option maxHeartbeats 2000000 in
theorem do_new (gb wb ar ac na ab : Nat) (time : Int) (a : Nat) (sd num p q l : Int) (w : World) (h6 : w.cell? ⟨gb, 6, none⟩ = some (.pointer (some ⟨wb, 0, none⟩))) (ha : a < na)
    (hS : ∀ n, DoS gb ar ac na ab time a sd num p q l w.heap.size ((w.alloc (newO a sd num p q l)).drewN n)) (code : Int) (Z : World → Prop)
    (hs : Calls Tryz.prog 39 #[.pointer (some ⟨wb, 0, none⟩)] (w.alloc (newO a sd num p q l)) fun e w' => e = .returned (.bool false) ∧ w.alloc (newO a sd num p q l) = w')
    (ho : ∀ n, Calls Tryz.prog 82 #[.pointer (some ⟨ab, 0, none⟩), .agg #[.int .i64 a, .int .i64 sd, .int .i64 num, .int .i64 p, .int .i64 q, .int .i64 l], .int .i64 time] ((w.alloc (newO a sd num p q l)).drewN n) fun e w' => e = .returned (.int .i64 code) ∧ Z w')
    (hZ : ∀ W, Z W → DoS gb ar ac na ab time a sd num p q l w.heap.size W) :
    Calls Tryz.prog 74 #[.pointer (some ⟨gb, 0, none⟩), (Said.new a sd num p q l).val] w fun e w' => e = .returned (.int .i64 code) ∧ Z w' := by
  unfold Said.val
  unfold newO at hs ho hS
  have hta := ta_new a sd num p q l
  have ha2 : (a : Int) < (na : Int) := by omega
  have hlt := World.block_lt_of_cell? w _ h6
  have HS : Hid (∀ n, DoS gb ar ac na ab time a sd num p q l w.heap.size ((w.alloc (.cells #[.int .i64 a, .int .i64 sd, .int .i64 num, .int .i64 p, .int .i64 q, .int .i64 l] 182)).drewN n)) := hS
  have HZ : Hid (∀ W, Z W → DoS gb ar ac na ab time a sd num p q l w.heap.size W) := hZ
  clear hS hZ
  go_enter Tryz.func74, Tryz.ntmps74
  go_wp2_with fail
  refine hs.mono ?_
  rintro e w' ⟨rfl, rfl⟩
  go_wp2_with fail
  refine wp_region_noPanic ?_
  refine wp_region_held_drew (S := DoS gb ar ac na ab time a sd num p q l w.heap.size) (by kernel_rfl) (HS.out 1) (fun _ => ?_)
  refine wpAnyH_take (i := 0) (v := ?_) rfl (by kernel_rfl) (by kernel_rfl) (by kernel_rfl) (fun _ _ _ h => h) (Or.inl ⟨by rfl, ?_⟩) (HS.out _) ?_
  rotate_left
  (intro w hSw; obtain ⟨s0, s1, s2, s3, s4, s5, s6, s7, s8⟩ := hSw; go_simp)
  try with_reducible rfl
  simp only [Act.put]
  refine wpAnyH_take (i := 1) (v := ?_) rfl (by kernel_rfl) (by kernel_rfl) (by kernel_rfl) (fun _ _ _ h => h) (Or.inl ⟨by rfl, ?_⟩) (HS.out _) ?_
  rotate_left
  (intro w hSw; obtain ⟨s0, s1, s2, s3, s4, s5, s6, s7, s8⟩ := hSw; go_simp)
  try with_reducible rfl
  simp only [Act.put]
  refine wpAnyH_take (i := 2) (v := ?_) rfl (by kernel_rfl) (by kernel_rfl) (by kernel_rfl) (fun _ _ _ h => h) (Or.inl ⟨by rfl, ?_⟩) (HS.out _) ?_
  rotate_left
  (intro w hSw; obtain ⟨s0, s1, s2, s3, s4, s5, s6, s7, s8⟩ := hSw; go_simp)
  try with_reducible rfl
  simp only [Act.put]
  refine wpAnyH_take (i := 3) (v := ?_) rfl (by kernel_rfl) (by kernel_rfl) (by kernel_rfl) (fun _ _ _ h => h) (Or.inl ⟨by rfl, ?_⟩) (HS.out _) ?_
  rotate_left
  (intro w hSw; obtain ⟨s0, s1, s2, s3, s4, s5, s6, s7, s8⟩ := hSw; go_simp)
  try with_reducible rfl
  simp only [Act.put]
  refine wpAnyH_take (i := 4) (v := ?_) rfl (by kernel_rfl) (by kernel_rfl) (by kernel_rfl) (fun _ _ _ h => h) (Or.inl ⟨by rfl, ?_⟩) (HS.out _) ?_
  rotate_left
  (intro w hSw; obtain ⟨s0, s1, s2, s3, s4, s5, s6, s7, s8⟩ := hSw; go_simp)
  try with_reducible rfl
  simp only [Act.put]
  refine wpAnyH_take (i := 5) (v := ?_) rfl (by kernel_rfl) (by kernel_rfl) (by kernel_rfl) (fun _ _ _ h => h) (Or.inl ⟨by rfl, ?_⟩) (HS.out _) ?_
  rotate_left
  (intro w hSw; obtain ⟨s0, s1, s2, s3, s4, s5, s6, s7, s8⟩ := hSw; go_simp)
  try with_reducible rfl
  simp only [Act.put]
  refine wpAnyH_take (i := 6) (v := ?_) rfl (by kernel_rfl) (by kernel_rfl) (by kernel_rfl) (fun _ _ _ h => h) (Or.inl ⟨by rfl, ?_⟩) (HS.out _) ?_
  rotate_left
  (intro w hSw; obtain ⟨s0, s1, s2, s3, s4, s5, s6, s7, s8⟩ := hSw; go_simp)
  try with_reducible rfl
  simp only [Act.put]
  refine wpAnyH_take (i := 7) (v := ?_) rfl (by kernel_rfl) (by kernel_rfl) (by kernel_rfl) (fun _ _ _ h => h) (Or.inl ⟨by rfl, ?_⟩) (HS.out _) ?_
  rotate_left
  (intro w hSw; obtain ⟨s0, s1, s2, s3, s4, s5, s6, s7, s8⟩ := hSw; go_simp)
  try with_reducible rfl
  simp only [Act.put]
  refine wpAnyH_take (i := 8) (v := ?_) rfl (by kernel_rfl) (by kernel_rfl) (by kernel_rfl) (fun _ _ _ h => h) (Or.inl ⟨by rfl, ?_⟩) (HS.out _) ?_
  rotate_left
  (intro w hSw; obtain ⟨s0, s1, s2, s3, s4, s5, s6, s7, s8⟩ := hSw; go_simp)
  try with_reducible rfl
  simp only [Act.put]
  refine wpAnyH_take (i := 9) (v := ?_) rfl (by kernel_rfl) (by kernel_rfl) (by kernel_rfl) (fun _ _ _ h => h) (Or.inl ⟨by rfl, ?_⟩) (HS.out _) ?_
  rotate_left
  (intro w hSw; obtain ⟨s0, s1, s2, s3, s4, s5, s6, s7, s8⟩ := hSw; go_simp)
  try with_reducible rfl
  simp only [Act.put]
  refine wpAnyH_take (i := 10) (v := ?_) rfl (by kernel_rfl) (by kernel_rfl) (by kernel_rfl) (fun _ _ _ h => h) (Or.inl ⟨by rfl, ?_⟩) (HS.out _) ?_
  rotate_left
  (intro w hSw; obtain ⟨s0, s1, s2, s3, s4, s5, s6, s7, s8⟩ := hSw; go_simp)
  try with_reducible rfl
  simp only [Act.put]
  refine wpAnyH_take (i := 11) (v := ?_) rfl (by kernel_rfl) (by kernel_rfl) (by kernel_rfl) (fun _ _ _ h => h) (Or.inl ⟨by rfl, ?_⟩) (HS.out _) ?_
  rotate_left
  (intro w hSw; obtain ⟨s0, s1, s2, s3, s4, s5, s6, s7, s8⟩ := hSw; go_simp)
  try with_reducible rfl
  simp only [Act.put]
  refine wpAnyH_take (i := 12) (v := ?_) rfl (by kernel_rfl) (by kernel_rfl) (by kernel_rfl) (fun _ _ _ h => h) (Or.inl ⟨by rfl, ?_⟩) (HS.out _) ?_
  rotate_left
  (intro w hSw; obtain ⟨s0, s1, s2, s3, s4, s5, s6, s7, s8⟩ := hSw; go_simp)
  try with_reducible rfl
  simp only [Act.put]
  refine wpAnyH_ready (rs := [13]) (by kernel_rfl) (by simp) ?_
  refine AllReadyH.cons rfl (fun K hK => ?_) AllReadyH.nil
  go_simp
  refine (ho 1).mono ?_
  rintro e w1 ⟨rfl, hz⟩
  go_wp2_with fail
  refine hK.out _ _ (HZ.out w1 hz) (fun _ => ?_)
  clear hK K
  refine wpAnyH_ready (rs := [14]) (by kernel_rfl) (by simp) ?_
  refine AllReadyH.cons rfl (fun K hK => ?_) AllReadyH.nil
  go_simp
  refine hK.out _ _ (HZ.out w1 hz) (fun _ => ?_)
  clear hK K
  refine wpAnyH_done (by kernel_rfl) (NoPanic.normal ?_) _
  go_wp2_with fail
  go_ret
  exact ⟨rfl, hz⟩

set_option maxRecDepth 100000 in
set_option maxHeartbeats 1000000 in
theorem do_wrong (gb : Nat) (c : Int) (w : World) :
    Calls Tryz.prog 74 #[.pointer (some ⟨gb, 0, none⟩), (Said.wrong c).val] w fun e w' => e = .returned (.int .i64 c) ∧ Below w.heap.size w w' := by
  unfold Said.val
  have t1 := fun W => (ta_no_new (.agg #[.int .i64 c]) W).2.2.2
  have t2 := fun W => (ta_no_cancel (.agg #[.int .i64 c]) W).2.2
  have t3 := fun W => (ta_no_kill (.agg #[.int .i64 c]) W).2
  have t4 := fun W => ta_no_unkill (.agg #[.int .i64 c]) W
  have t5 := ta_wrong c
  go_enter Tryz.func74, Tryz.ntmps74
  go_wp2_with fail
  go_ret
  exact ⟨rfl, (Below.refl _ _).alloc (Nat.le_refl _) _⟩

set_option maxRecDepth 100000 in
set_option maxHeartbeats 1000000 in
theorem do_cancel (gb ar ac na ab : Nat) (a : Nat) (num : Int) (w : World) (h1 : w.cell? ⟨gb, 1, none⟩ = some (.slice (some ⟨ar, 0, none⟩) na ac)) (ha : a < na) (hi : w.cell? ⟨ar, a, none⟩ = some (.pointer (some ⟨ab, 0, none⟩))) (code : Int) (Z : World → Prop)
    (ho : ∀ n, Calls Tryz.prog 83 #[.pointer (some ⟨ab, 0, none⟩), .int .i64 num] ((w.alloc (.cells #[.int .i64 a, .int .i64 num] 185)).drewN n) fun e w' => e = .returned (.int .i64 code) ∧ Z w') :
    Calls Tryz.prog 74 #[.pointer (some ⟨gb, 0, none⟩), (Said.cancel a num).val] w fun e w' => e = .returned (.int .i64 code) ∧ Z w' := by
  unfold Said.val
  have t1 := fun W => (ta_no_new (.agg #[.int .i64 a, .int .i64 num]) W).1
  have t2 := ta_cancel a num
  have ha2 : (a : Int) < (na : Int) := by omega
  have hlt := World.block_lt_of_cell? w _ h1
  have hlt2 := World.block_lt_of_cell? w _ hi
  go_enter Tryz.func74, Tryz.ntmps74
  go_wp2_with fail
  go_region_with (go_at_call 83; refine (ho _).mono ?_; rintro e w1 ⟨rfl, hz⟩)
  all_goals
    go_wp2_with fail
    go_ret
    exact ⟨rfl, hz⟩

set_option maxRecDepth 100000 in
set_option maxHeartbeats 1000000 in
theorem do_kill (gb ar ac na ab : Nat) (a : Nat) (w : World) (h1 : w.cell? ⟨gb, 1, none⟩ = some (.slice (some ⟨ar, 0, none⟩) na ac)) (ha : a < na) (hi : w.cell? ⟨ar, a, none⟩ = some (.pointer (some ⟨ab, 0, none⟩))) (Z : World → Prop)
    (ho : ∀ n, Calls Tryz.prog 84 #[.pointer (some ⟨ab, 0, none⟩)] ((w.alloc (.cells #[.int .i64 a] 188)).drewN n) fun e w' => e = .returned (.tuple #[]) ∧ Z w') :
    Calls Tryz.prog 74 #[.pointer (some ⟨gb, 0, none⟩), (Said.kill a).val] w fun e w' => e = .returned (.int .i64 0) ∧ Z w' := by
  unfold Said.val
  have t1 := fun W => (ta_no_new (.agg #[.int .i64 a]) W).2.1
  have t2 := fun W => (ta_no_cancel (.agg #[.int .i64 a]) W).1
  have t3 := ta_kill a
  have ha2 : (a : Int) < (na : Int) := by omega
  have hlt := World.block_lt_of_cell? w _ h1
  have hlt2 := World.block_lt_of_cell? w _ hi
  go_enter Tryz.func74, Tryz.ntmps74
  go_wp2_with fail
  go_region_with (go_at_call 84; refine (ho _).mono ?_; rintro e w1 ⟨rfl, hz⟩)
  all_goals
    go_wp2_with fail
    go_ret
    exact ⟨rfl, hz⟩

set_option maxRecDepth 100000 in
set_option maxHeartbeats 1000000 in
theorem do_unkill (gb ar ac na ab : Nat) (a : Nat) (w : World) (h1 : w.cell? ⟨gb, 1, none⟩ = some (.slice (some ⟨ar, 0, none⟩) na ac)) (ha : a < na) (hi : w.cell? ⟨ar, a, none⟩ = some (.pointer (some ⟨ab, 0, none⟩))) (Z : World → Prop)
    (ho : ∀ n, Calls Tryz.prog 85 #[.pointer (some ⟨ab, 0, none⟩)] ((w.alloc (.cells #[.int .i64 a] 189)).drewN n) fun e w' => e = .returned (.tuple #[]) ∧ Z w') :
    Calls Tryz.prog 74 #[.pointer (some ⟨gb, 0, none⟩), (Said.unkill a).val] w fun e w' => e = .returned (.int .i64 0) ∧ Z w' := by
  unfold Said.val
  have t1 := fun W => (ta_no_new (.agg #[.int .i64 a]) W).2.2.1
  have t2 := fun W => (ta_no_cancel (.agg #[.int .i64 a]) W).2.1
  have t3 := fun W => (ta_no_kill (.agg #[.int .i64 a]) W).1
  have t4 := ta_unkill a
  have ha2 : (a : Int) < (na : Int) := by omega
  have hlt := World.block_lt_of_cell? w _ h1
  have hlt2 := World.block_lt_of_cell? w _ hi
  go_enter Tryz.func74, Tryz.ntmps74
  go_wp2_with fail
  go_region_with (go_at_call 85; refine (ho _).mono ?_; rintro e w1 ⟨rfl, hz⟩)
  all_goals
    go_wp2_with fail
    go_ret
    exact ⟨rfl, hz⟩

end Go.Proofs.YtjhifhoniimfgaaGreat

/-
  An account: made, stopped, let go on.
-/
namespace Go.Proofs.YtjhifhoniimfgaaGreat
open Go.RowKit

set_option maxHeartbeats 400000 in
theorem stop_any (w : World) (ab : Nat) (b : Bool) (h : w.cell? ⟨ab, 6, none⟩ = some (.bool b)) (hz : w.frozen? ⟨ab, 6, none⟩ = false) :
    Calls Tryz.prog 84 #[.pointer (some ⟨ab, 0, none⟩)] w fun e w' => e = .returned (.tuple #[]) ∧ w.setCell ⟨ab, 6, none⟩ (.bool true) = w' := by
  go_enter Tryz.func84, Tryz.ntmps84
  go_wp2
  go_end0
  exact ⟨rfl, rfl⟩

set_option maxHeartbeats 400000 in
theorem goOn_any (w : World) (ab : Nat) (b : Bool) (h : w.cell? ⟨ab, 6, none⟩ = some (.bool b)) (hz : w.frozen? ⟨ab, 6, none⟩ = false) :
    Calls Tryz.prog 85 #[.pointer (some ⟨ab, 0, none⟩)] w fun e w' => e = .returned (.tuple #[]) ∧ w.setCell ⟨ab, 6, none⟩ (.bool false) = w' := by
  go_enter Tryz.func85, Tryz.ntmps85
  go_wp2
  go_end0
  exact ⟨rfl, rfl⟩

/-- A new account in memory. -/
theorem acc_made (w : World) (lim : Nat → Int) (dat : Nat → Odr) (O : Obj) :
    AccP (((w.alloc O).alloc (.map #[] 0)).alloc (.cells #[.int .i64 (lim 0), .int .i64 (lim 1), .int .i64 (lim 2), .int .i64 (lim 3), .int .i64 (lim 4), .int .i64 (lim 5), .bool false, .slice none 0 0, .map (some (w.heap.size + 1)), .int .i64 0, .int .i64 0, .int .i64 0, .slice none 0 0] 140))
      (w.heap.size + 1 + 1) lim false (.slice none 0 0) (w.heap.size + 1) [] dat (.slice none 0 0) [] := by
  have ha := heap_alloc_new ((w.alloc O).alloc (.map #[] 0)) (.cells #[.int .i64 (lim 0), .int .i64 (lim 1), .int .i64 (lim 2), .int .i64 (lim 3), .int .i64 (lim 4), .int .i64 (lim 5), .bool false, .slice none 0 0, .map (some (w.heap.size + 1)), .int .i64 0, .int .i64 0, .int .i64 0, .slice none 0 0] 140)
  rw [World.size_alloc, World.size_alloc] at ha
  have hm := heap_alloc_new (w.alloc O) (.map #[] 0)
  rw [World.size_alloc] at hm
  refine ⟨⟨⟨_, ha, rfl, rfl, rfl, rfl, rfl, rfl⟩, ⟨.inl ⟨rfl, rfl⟩, fun i b h => by simp at h, List.nodup_nil, fun b h => by simp at h⟩, fun k _ h => by simp at h, ⟨[], ⟨#[], 0, ?_, rfl⟩, by simp, by simp, fun p h => by simp at h⟩, by simp [Value.ownBlock], by simp [Value.ownBlock], by simp, by simp, by omega⟩,
    ⟨_, ha, rfl, fun i hi => ?_, rfl, rfl⟩, .inl ⟨rfl, rfl⟩, by simp [Value.ownBlock], by simp [Value.ownBlock], fun b h => by simp at h, fun b h => by simp [Value.ownBlock] at h⟩
  · rw [Below.heap_alloc _ _ _ (by rw [World.size_alloc, World.size_alloc]; omega)]; exact hm
  · rcases (show i = 0 ∨ i = 1 ∨ i = 2 ∨ i = 3 ∨ i = 4 ∨ i = 5 by omega) with rfl | rfl | rfl | rfl | rfl | rfl <;> rfl

set_option maxHeartbeats 1000000 in
theorem accNew_any (w : World) (lim : Nat → Int) (dat : Nat → Odr) :
    Calls Tryz.prog 36 #[.agg #[.int .i64 (lim 0), .int .i64 (lim 1), .int .i64 (lim 2), .int .i64 (lim 3), .int .i64 (lim 4), .int .i64 (lim 5)]] w fun r w' => ∃ ab mb, r = .returned (.pointer (some ⟨ab, 0, none⟩)) ∧
      AccP w' ab lim false (.slice none 0 0) mb [] dat (.slice none 0 0) [] ∧ Below w.heap.size w w' ∧ w.heap.size ≤ ab ∧ w.heap.size ≤ mb ∧ ab < w'.heap.size ∧ mb < w'.heap.size := by
  have hmm := @run_makeMap Tryz.prog
  have HF : Hid (∀ O, AccP (((w.alloc O).alloc (.map #[] 0)).alloc (.cells #[.int .i64 (lim 0), .int .i64 (lim 1), .int .i64 (lim 2), .int .i64 (lim 3), .int .i64 (lim 4), .int .i64 (lim 5), .bool false, .slice none 0 0, .map (some (w.heap.size + 1)), .int .i64 0, .int .i64 0, .int .i64 0, .slice none 0 0] 140))
      (w.heap.size + 1 + 1) lim false (.slice none 0 0) (w.heap.size + 1) [] dat (.slice none 0 0) []) := acc_made w lim dat
  go_enter Tryz.func36, Tryz.ntmps36
  go_wp2
  go_ret
  refine ⟨_, _, rfl, HF.out _, ?_, by omega, by omega, by simp, by simp⟩
  exact (((Below.refl _ w).alloc (Nat.le_refl _) _).alloc (by simp) _).alloc (by simp; omega) _

end Go.Proofs.YtjhifhoniimfgaaGreat

/-
  Whose a block is; lanes, inboxes and accounts of the program, with the blocks that are theirs.
-/
namespace Go.Proofs.YtjhifhoniimfgaaGreat
open Go.RowKit

/-- What is new from block n on is of the tag g. -/
def ext (own : Nat → Nat) (n g : Nat) : Nat → Nat := fun b => if b < n then own b else g

theorem ext_lt {own : Nat → Nat} {n g b : Nat} (h : b < n) : ext own n g b = own b := if_pos h
theorem ext_ge {own : Nat → Nat} {n g b : Nat} (h : n ≤ b) : ext own n g b = g := if_neg (by omega)

/-- Of the blocks of w own' tells what own tells. -/
def Same (own own' : Nat → Nat) (w : World) : Prop := ∀ b, b < w.heap.size → own' b = own b

theorem Same.refl (own : Nat → Nat) (w : World) : Same own own w := fun _ _ => rfl
theorem Same.ext (own : Nat → Nat) (w : World) (g : Nat) : Same own (ext own w.heap.size g) w := fun _ h => ext_lt h
theorem Same.trans {own own' own'' : Nat → Nat} {w w' : World} (h : Same own own' w) (k : Same own' own'' w') (hs : w.heap.size ≤ w'.heap.size) : Same own own'' w := fun b hb => (k b (Nat.lt_of_lt_of_le hb hs)).trans (h b hb)

/-- Two blocks with cells of unlike types are two. -/
theorem block_ne {w : World} {a b : Nat} {cs cs' : Array Value} {T T' : TypeId} {f f' : Nat × Nat} (ha : w.heap[a]? = some (.cells cs T f)) (hb : w.heap[b]? = some (.cells cs' T' f')) (hT : T ≠ T') : a ≠ b := by
  intro e
  subst e
  rw [ha] at hb
  injection hb with hb
  injection hb with _ h2
  exact hT h2

def LaneR (own : Nat → Nat) (τ : Nat) (w : World) (lb n m t : Nat) (f : Nat → Pl) : Prop := ∃ sb, PLane w lb sb n m t f ∧ own lb = τ ∧ own sb = τ

theorem PLane.lt {w : World} {lb sb n m t : Nat} {f : Nat → Pl} (h : PLane w lb sb n m t f) : lb < w.heap.size ∧ sb < w.heap.size := by
  obtain ⟨cs, b, _⟩ := h.slots
  exact ⟨block_lt h.lane, block_lt b⟩

theorem LaneR.keep {own own' : Nat → Nat} {τ : Nat} {S : Nat → Prop} {w w' : World} {lb n m t : Nat} {f : Nat → Pl} (h : LaneR own τ w lb n m t f) (hk : Keep S w w') (hs : ∀ b, b < w.heap.size → own b = τ → S b) (ho : Same own own' w) : LaneR own' τ w' lb n m t f := by
  obtain ⟨sb, p, o1, o2⟩ := h
  exact ⟨sb, p.keep hk (hs _ p.lt.1 o1) (hs _ p.lt.2 o2), by rw [ho _ p.lt.1]; exact o1, by rw [ho _ p.lt.2]; exact o2⟩

theorem LaneR.new {own : Nat → Nat} {τ : Nat} {w w' : World} {lb sb n m t m' t' : Nat} {f f' : Nat → Pl} (h : PLane w lb sb n m t f) (o1 : own lb = τ) (o2 : own sb = τ) (h' : PLane w' lb sb n m' t' f') (hk : Keep (fun b => b ≠ lb ∧ b ≠ sb) w w') :
    LaneR (ext own w.heap.size τ) τ w' lb n m' t' f' ∧ Keep (fun b => own b ≠ τ) w w' :=
  ⟨⟨sb, h', by rw [ext_lt h.lt.1]; exact o1, by rw [ext_lt h.lt.2]; exact o2⟩, hk.mono (fun b _ hb => ⟨fun e => hb (e ▸ o1), fun e => hb (e ▸ o2)⟩)⟩

def ansFlat : List Ans → List Value
  | [] => []
  | a :: r => .int .i64 a.1 :: .int .i64 a.2 :: ansFlat r

theorem ansFlat_append : ∀ l r, ansFlat (l ++ r) = ansFlat l ++ ansFlat r
  | [], r => rfl
  | a :: l, r => by simp [ansFlat, ansFlat_append l r]

theorem ansFlat_len : ∀ l, (ansFlat l).length = l.length * 2
  | [] => rfl
  | a :: l => by simp [ansFlat, ansFlat_len l]; omega

/-- A list of answers in a row of its own. -/
def AckAt (w : World) (v : Value) (l : List Ans) : Prop := w.ownsRow 0 58 2 v l.length (ansFlat l)

theorem AckAt.lt {w : World} {v : Value} {l : List Ans} (h : AckAt w v l) (b : Nat) (hb : v.ownBlock = some b) : b < w.heap.size := by
  rcases h.2 with ⟨rfl, _⟩ | ⟨g, cap, cur, rfl, _, h1, _⟩
  · simp [Value.ownBlock] at hb
  · simp [Value.ownBlock] at hb; subst hb; exact block_lt h1

theorem AckAt.keep {S : Nat → Prop} {w w' : World} {v : Value} {l : List Ans} (h : AckAt w v l) (hk : Keep S w w') (hs : ∀ b, v.ownBlock = some b → S b) : AckAt w' v l := by
  refine ⟨h.1, ?_⟩
  rcases h.2 with h0 | ⟨g, cap, cur, rfl, h0, h1, h2⟩
  · exact .inl h0
  · exact .inr ⟨g, cap, cur, rfl, h0, hk.get h1 (hs g rfl), h2⟩

theorem AckAt.nil (w : World) : AckAt w (.slice none 0 0) [] := World.ownsRow_nil _ _ _ _

theorem PAns.lt {w : World} {lb sb n t : Nat} {l : List Ans} (h : PAns w lb sb n t l) : lb < w.heap.size ∧ sb < w.heap.size := by
  obtain ⟨cs, b, _⟩ := h.slots
  exact ⟨block_lt h.ring, block_lt b⟩

/-- A client's inbox: its ring of answers, its acks. -/
structure InboxP (own : Nat → Nat) (τ : Nat) (w : World) (ib lb sb tt : Nat) (v : Value) (an N : Nat) (ring acks : List Ans) : Prop where
  box : w.heap[ib]? = some (.cells #[.pointer (some ⟨lb, 0, none⟩), v] 87 (0, 0))
  ans : PAns w lb sb an tt ring
  ack : AckAt w v acks
  o1 : own ib = τ
  o2 : own lb = τ
  o3 : own sb = τ
  o4 : ∀ b, v.ownBlock = some b → own b = τ ∧ b ≠ sb
  le : tt + ring.length ≤ N

def InboxR (own : Nat → Nat) (τ : Nat) (w : World) (ib an N : Nat) (ring acks : List Ans) : Prop := ∃ lb sb tt v, InboxP own τ w ib lb sb tt v an N ring acks

theorem InboxR.more {own : Nat → Nat} {τ : Nat} {w : World} {ib an N M : Nat} {ring acks : List Ans} (h : InboxR own τ w ib an N ring acks) (hM : N ≤ M) : InboxR own τ w ib an M ring acks := by
  obtain ⟨lb, sb, tt, v, p⟩ := h
  exact ⟨lb, sb, tt, v, { p with le := Nat.le_trans p.le hM }⟩

theorem InboxR.keep {own own' : Nat → Nat} {τ : Nat} {S : Nat → Prop} {w w' : World} {ib an N : Nat} {ring acks : List Ans} (h : InboxR own τ w ib an N ring acks) (hk : Keep S w w') (hs : ∀ b, b < w.heap.size → own b = τ → S b) (ho : Same own own' w) : InboxR own' τ w' ib an N ring acks := by
  obtain ⟨lb, sb, tt, v, p⟩ := h
  have l1 := block_lt p.box
  have l2 := p.ans.lt
  refine ⟨lb, sb, tt, v, ⟨hk.get p.box (hs _ l1 p.o1), p.ans.keep hk (hs _ l2.1 p.o2) (hs _ l2.2 p.o3), p.ack.keep hk (fun b hb => hs _ (p.ack.lt b hb) (p.o4 b hb).1), ?_, ?_, ?_, fun b hb => ?_, p.le⟩⟩
  · rw [ho _ l1]; exact p.o1
  · rw [ho _ l2.1]; exact p.o2
  · rw [ho _ l2.2]; exact p.o3
  · rw [ho _ (p.ack.lt b hb)]; exact p.o4 b hb

/-- An account: its limits, whether it is stopped, all orders that were let through. -/
structure AccQ (own : Nat → Nat) (τ : Nat) (w : World) (ab : Nat) (v : Value) (mb : Nat) (l : List Nat) (dat : Nat → Odr) (cv : Value) (c : List Cnt) (lim : Nat → Int) (st : Bool) (es : List Ent) (time N : Nat) : Prop where
  acc : AccP w ab lim st v mb l dat cv c
  o1 : own ab = τ
  o2 : own mb = τ
  o3 : ∀ b, v.ownBlock = some b → own b = τ
  o4 : ∀ b, b ∈ l → own b = τ
  o5 : ∀ b, cv.ownBlock = some b → own b = τ
  rel : OpenRel dat l (es.filter (isOpen time))
  cnt : CntRel c es (time - lim 5)
  clen : c.length ≤ N
  cpos : ∀ x, x ∈ c → 0 ≤ x.2 ∧ x.2 ≤ N

def AccR (own : Nat → Nat) (τ : Nat) (w : World) (ab : Nat) (lim : Nat → Int) (st : Bool) (es : List Ent) (time N : Nat) : Prop := ∃ v mb l dat cv c, AccQ own τ w ab v mb l dat cv c lim st es time N

theorem AccP.lts {w : World} {ab : Nat} {lim : Nat → Int} {st : Bool} {v : Value} {mb : Nat} {l : List Nat} {dat : Nat → Odr} {cv : Value} {c : List Cnt} (h : AccP w ab lim st v mb l dat cv c) :
    ab < w.heap.size ∧ mb < w.heap.size ∧ (∀ b, v.ownBlock = some b → b < w.heap.size) ∧ (∀ b, b ∈ l → b < w.heap.size) ∧ (∀ b, cv.ownBlock = some b → b < w.heap.size) := by
  obtain ⟨cs, a, _⟩ := h.cells
  exact ⟨block_lt a, h.ords.ltm.2, h.ords.heap.lt, h.ords.heap.ltl, h.cnt.lt⟩

theorem AccR.more {own : Nat → Nat} {τ : Nat} {w : World} {ab : Nat} {lim : Nat → Int} {st : Bool} {es : List Ent} {time N M : Nat} (h : AccR own τ w ab lim st es time N) (hM : N ≤ M) : AccR own τ w ab lim st es time M := by
  obtain ⟨v, mb, l, dat, cv, c, q⟩ := h
  exact ⟨v, mb, l, dat, cv, c, { q with clen := Nat.le_trans q.clen hM, cpos := fun x hx => ⟨(q.cpos x hx).1, by have := (q.cpos x hx).2; omega⟩ }⟩

theorem AccR.keep {own own' : Nat → Nat} {τ : Nat} {S : Nat → Prop} {w w' : World} {ab : Nat} {lim : Nat → Int} {st : Bool} {es : List Ent} {time N : Nat} (h : AccR own τ w ab lim st es time N) (hk : Keep S w w') (hs : ∀ b, b < w.heap.size → own b = τ → S b) (ho : Same own own' w) : AccR own' τ w' ab lim st es time N := by
  obtain ⟨v, mb, l, dat, cv, c, q⟩ := h
  obtain ⟨l1, l2, l3, l4, l5⟩ := q.acc.lts
  refine ⟨v, mb, l, dat, cv, c, { q with acc := q.acc.keep hk (hs _ l1 q.o1) (hs _ l2 q.o2) (fun b hb => hs _ (l3 b hb) (q.o3 b hb)) (fun b hb => hs _ (l4 b hb) (q.o4 b hb)) (fun b hb => hs _ (l5 b hb) (q.o5 b hb)), o1 := ?_, o2 := ?_, o3 := fun b hb => ?_, o4 := fun b hb => ?_, o5 := fun b hb => ?_ }⟩
  · rw [ho _ l1]; exact q.o1
  · rw [ho _ l2]; exact q.o2
  · rw [ho _ (l3 b hb)]; exact q.o3 b hb
  · rw [ho _ (l4 b hb)]; exact q.o4 b hb
  · rw [ho _ (l5 b hb)]; exact q.o5 b hb

theorem good_of {dat : Nat → Odr} {l : List Nat} {os : List Ent} {time : Nat} (h : OpenRel dat l os) (he : ∀ x, x ∈ os → EntOk x time) (ho : OpenOk os) : GoodL dat l := by
  refine ⟨fun b hb => ?_, by rw [h.qty]; exact ho.q 0, by rw [h.qty]; exact ho.q 1, by rw [h.worth]; exact ho.w⟩
  have h1 : dat b ∈ os.map ordOf := h.mem_iff.1 (List.mem_map_of_mem hb)
  obtain ⟨x, hx, e⟩ := List.mem_map.1 h1
  have := he x hx
  rw [← e]
  exact ⟨this.side, this.pos.2, this.pos.1⟩

theorem rel_len {dat : Nat → Odr} {l : List Nat} {os : List Ent} (h : OpenRel dat l os) : l.length = os.length := by
  have := h.length_eq
  simpa using this

end Go.Proofs.YtjhifhoniimfgaaGreat

