import Derived.Test.YtjhifhoniimfgaaG19
import Derived.Maps.AppendAt
/-
  The core does a frame of the common lane, or frees the answer with which it waits: the walks.
-/
namespace Go.Proofs.Ytjhifhoniimfgaa
open Go.RowKit

/-- What the walk of serve reads: the gate's inboxes, the client that was taken, its inbox, the answer. -/
def SrvS (gb ir ic cl ib lb tb ob : Nat) (c : Nat) (place code : Int) (W : World) : Prop :=
  W.cell? ⟨gb, 0, none⟩ = some (.slice (some ⟨ir, 0, none⟩) cl ic) ∧ W.cell? ⟨tb, 1, none⟩ = some (.int .i64 c) ∧ W.cell? ⟨ir, c, none⟩ = some (.pointer (some ⟨ib, 0, none⟩)) ∧ W.cell? ⟨ib, 0, none⟩ = some (.pointer (some ⟨lb, 0, none⟩)) ∧
  W.cell? ⟨ob, 0, none⟩ = some (.int .i64 place) ∧ W.cell? ⟨ob, 1, none⟩ = some (.int .i64 code)

/-- What serve leaves: the answer is laid, or it waits. -/
def SrvEnd (gb c : Nat) (place code : Int) (b : Bool) (Z : World → Prop) (Y : World → World → Prop) (w' : World) : Prop :=
  ∃ w1 w2, Z w1 ∧ Y w1 w2 ∧ ((b = true ∧ w' = w2) ∨ (b = false ∧ w' = (w2.setCell ⟨gb, 4, none⟩ (.pointer (some ⟨w2.heap.size, 0, none⟩))).alloc (.cells #[.int .i64 c, .int .i64 place, .int .i64 code] 138)))

def FreEnd (gb : Nat) (b : Bool) (Y : World → Prop) (w' : World) : Prop :=
  ∃ w2, Y w2 ∧ ((b = false ∧ w' = w2) ∨ (b = true ∧ w' = w2.setCell ⟨gb, 4, none⟩ (.pointer none)))

set_option maxRecDepth 100000 in
set_option maxHeartbeats 2000000 in
theorem serve_walk (gb ir ic cl ib lb : Nat) (c : Nat) (place code : Int) (fr : ByteArray) (u : Option Addr) (w : World) (h0 : w.cell? ⟨gb, 0, none⟩ = some (.slice (some ⟨ir, 0, none⟩) cl ic)) (hc : c < cl) (b : Bool) (Z : World → Prop) (Y : World → World → Prop)
    (ha : Calls Try.prog 63 #[.pointer (some ⟨gb, 0, none⟩), .int .i64 0, .agg #[.int .i64 place, .int .i64 c, .string fr]] (w.alloc (takO place c fr)) fun e w' => e = .returned (.agg #[.int .i64 place, .int .i64 code]) ∧ Z w')
    (hS : ∀ w1 n, Z w1 → SrvS gb ir ic cl ib lb w.heap.size w1.heap.size c place code ((w1.alloc (.cells #[.int .i64 place, .int .i64 code] 66)).drewN n))
    (hl : ∀ w1 n, Z w1 → Calls Try.prog 64 #[.pointer (some ⟨lb, 0, none⟩), .agg #[.int .i64 place, .int .i64 code]] ((w1.alloc (.cells #[.int .i64 place, .int .i64 code] 66)).drewN n) fun e w' => e = .returned (.bool b) ∧ Y w1 w')
    (hY : ∀ w1 w2, Z w1 → Y w1 w2 → SrvS gb ir ic cl ib lb w.heap.size w1.heap.size c place code w2 ∧ w2.cell? ⟨gb, 4, none⟩ = some (.pointer u) ∧ w2.frozen? ⟨gb, 4, none⟩ = false) :
    Calls Try.prog 52 #[.pointer (some ⟨gb, 0, none⟩), .agg #[.int .i64 place, .int .i64 c, .string fr]] w fun e w' => e = .returned (.int .i64 (if b then 2 else 3)) ∧
      SrvEnd gb c place code b Z Y w' := by
  have hlt := World.block_lt_of_cell? w _ h0
  have hc2 : (c : Int) < (cl : Int) := by omega
  unfold takO at ha
  have HS : Hid (∀ w1 n, Z w1 → SrvS gb ir ic cl ib lb w.heap.size w1.heap.size c place code ((w1.alloc (.cells #[.int .i64 place, .int .i64 code] 66)).drewN n)) := hS
  have HY : Hid (∀ w1 w2, Z w1 → Y w1 w2 → SrvS gb ir ic cl ib lb w.heap.size w1.heap.size c place code w2 ∧ w2.cell? ⟨gb, 4, none⟩ = some (.pointer u) ∧ w2.frozen? ⟨gb, 4, none⟩ = false) := hY
  clear hS hY
  go_enter Try.func52, Try.ntmps52
  go_wp2_with fail
  refine ha.mono ?_
  rintro e w1 ⟨rfl, hz⟩
  go_wp2_with fail
  refine wp_region_noPanic ?_
  refine wp_region_held_drew (S := SrvS gb ir ic cl ib lb w.heap.size w1.heap.size c place code) (by kernel_rfl) (HS.out w1 1 hz) (fun _ => ?_)
  refine wpAnyH_take (i := 0) (v := ?_) rfl (by kernel_rfl) (by kernel_rfl) (by kernel_rfl) (fun _ _ _ h => h) (Or.inl ⟨by rfl, ?_⟩) (HS.out w1 1 hz) ?_
  rotate_left
  (intro w hSw; obtain ⟨s0, s1, s2, s3, s4, s5⟩ := hSw; go_simp)
  try with_reducible rfl
  simp only [Act.put]
  refine wpAnyH_take (i := 1) (v := ?_) rfl (by kernel_rfl) (by kernel_rfl) (by kernel_rfl) (fun _ _ _ h => h) (Or.inl ⟨by rfl, ?_⟩) (HS.out w1 1 hz) ?_
  rotate_left
  (intro w hSw; obtain ⟨s0, s1, s2, s3, s4, s5⟩ := hSw; go_simp)
  try with_reducible rfl
  simp only [Act.put]
  refine wpAnyH_take (i := 2) (v := ?_) rfl (by kernel_rfl) (by kernel_rfl) (by kernel_rfl) (fun _ _ _ h => h) (Or.inl ⟨by rfl, ?_⟩) (HS.out w1 1 hz) ?_
  rotate_left
  (intro w hSw; obtain ⟨s0, s1, s2, s3, s4, s5⟩ := hSw; go_simp)
  try with_reducible rfl
  simp only [Act.put]
  refine wpAnyH_take (i := 3) (v := ?_) rfl (by kernel_rfl) (by kernel_rfl) (by kernel_rfl) (fun _ _ _ h => h) (Or.inl ⟨by rfl, ?_⟩) (HS.out w1 1 hz) ?_
  rotate_left
  (intro w hSw; obtain ⟨s0, s1, s2, s3, s4, s5⟩ := hSw; go_simp)
  try with_reducible rfl
  simp only [Act.put]
  refine wpAnyH_take (i := 4) (v := ?_) rfl (by kernel_rfl) (by kernel_rfl) (by kernel_rfl) (fun _ _ _ h => h) (Or.inl ⟨by rfl, ?_⟩) (HS.out w1 1 hz) ?_
  rotate_left
  (intro w hSw; obtain ⟨s0, s1, s2, s3, s4, s5⟩ := hSw; go_simp)
  try with_reducible rfl
  simp only [Act.put]
  refine wpAnyH_take (i := 5) (v := ?_) rfl (by kernel_rfl) (by kernel_rfl) (by kernel_rfl) (fun _ _ _ h => h) (Or.inl ⟨by rfl, ?_⟩) (HS.out w1 1 hz) ?_
  rotate_left
  (intro w hSw; obtain ⟨s0, s1, s2, s3, s4, s5⟩ := hSw; go_simp)
  try with_reducible rfl
  simp only [Act.put]
  refine wpAnyH_take (i := 6) (v := ?_) rfl (by kernel_rfl) (by kernel_rfl) (by kernel_rfl) (fun _ _ _ h => h) (Or.inl ⟨by rfl, ?_⟩) (HS.out w1 1 hz) ?_
  rotate_left
  (intro w hSw; obtain ⟨s0, s1, s2, s3, s4, s5⟩ := hSw; go_simp)
  try with_reducible rfl
  simp only [Act.put]
  refine wpAnyH_take (i := 7) (v := ?_) rfl (by kernel_rfl) (by kernel_rfl) (by kernel_rfl) (fun _ _ _ h => h) (Or.inl ⟨by rfl, ?_⟩) (HS.out w1 1 hz) ?_
  rotate_left
  (intro w hSw; obtain ⟨s0, s1, s2, s3, s4, s5⟩ := hSw; go_simp)
  try with_reducible rfl
  simp only [Act.put]
  refine wpAnyH_take (i := 8) (v := ?_) rfl (by kernel_rfl) (by kernel_rfl) (by kernel_rfl) (fun _ _ _ h => h) (Or.inl ⟨by rfl, ?_⟩) (HS.out w1 1 hz) ?_
  rotate_left
  (intro w hSw; obtain ⟨s0, s1, s2, s3, s4, s5⟩ := hSw; go_simp)
  try with_reducible rfl
  simp only [Act.put]
  refine wpAnyH_take (i := 9) (v := ?_) rfl (by kernel_rfl) (by kernel_rfl) (by kernel_rfl) (fun _ _ _ h => h) (Or.inl ⟨by rfl, ?_⟩) (HS.out w1 1 hz) ?_
  rotate_left
  (intro w hSw; obtain ⟨s0, s1, s2, s3, s4, s5⟩ := hSw; go_simp)
  try with_reducible rfl
  simp only [Act.put]
  refine wpAnyH_take (i := 10) (v := ?_) rfl (by kernel_rfl) (by kernel_rfl) (by kernel_rfl) (fun _ _ _ h => h) (Or.inl ⟨by rfl, ?_⟩) (HS.out w1 1 hz) ?_
  rotate_left
  (intro w hSw; obtain ⟨s0, s1, s2, s3, s4, s5⟩ := hSw; go_simp)
  try with_reducible rfl
  simp only [Act.put]
  refine wpAnyH_take (i := 11) (v := ?_) rfl (by kernel_rfl) (by kernel_rfl) (by kernel_rfl) (fun _ _ _ h => h) (Or.inl ⟨by rfl, ?_⟩) (HS.out w1 1 hz) ?_
  rotate_left
  (intro w hSw; obtain ⟨s0, s1, s2, s3, s4, s5⟩ := hSw; go_simp)
  try with_reducible rfl
  simp only [Act.put]
  refine wpAnyH_ready (rs := [12]) (by kernel_rfl) (by simp) ?_
  refine AllReadyH.cons rfl (fun K hK => ?_) AllReadyH.nil
  go_simp
  refine (hl w1 1 hz).mono ?_
  rintro e w2 ⟨rfl, hy⟩
  obtain ⟨yS, y4, yf⟩ := HY.out w1 w2 hz hy
  have YS : Hid (SrvS gb ir ic cl ib lb w.heap.size w1.heap.size c place code w2) := yS
  clear yS
  go_wp2_with fail
  refine hK.out _ _ YS.out (fun _ => ?_)
  clear hK K
  refine wpAnyH_take (i := 13) (v := ?_) rfl (by kernel_rfl) (by kernel_rfl) (by kernel_rfl) (fun _ _ _ h => h) (Or.inl ⟨by rfl, ?_⟩) YS.out ?_
  rotate_left
  (intro w hSw; obtain ⟨s0, s1, s2, s3, s4, s5⟩ := hSw; go_simp)
  try with_reducible rfl
  simp only [Act.put]
  refine wpAnyH_done (by kernel_rfl) (NoPanic.normal ?_) _
  cases b
  · obtain ⟨t0, t1, t2, t3, t4, t5⟩ := YS.out
    have hltg := World.block_lt_of_cell? w2 _ y4
    have hneg : gb ≠ w2.heap.size := Nat.ne_of_lt hltg
    go_wp2_with fail
    go_ret
    exact ⟨rfl, w1, w2, hz, hy, .inr ⟨rfl, rfl⟩⟩
  · go_wp2_with fail
    go_ret
    exact ⟨rfl, w1, _, hz, hy, .inl ⟨rfl, rfl⟩⟩

/-- What the walk of free reads. -/
def FreS (gb ir ic cl ib lb hb : Nat) (c : Nat) (place code : Int) (W : World) : Prop :=
  W.cell? ⟨gb, 0, none⟩ = some (.slice (some ⟨ir, 0, none⟩) cl ic) ∧ W.cell? ⟨gb, 4, none⟩ = some (.pointer (some ⟨hb, 0, none⟩)) ∧ W.cell? ⟨hb, 0, none⟩ = some (.int .i64 c) ∧ W.cell? ⟨hb, 1, none⟩ = some (.int .i64 place) ∧ W.cell? ⟨hb, 2, none⟩ = some (.int .i64 code) ∧
  W.cell? ⟨ir, c, none⟩ = some (.pointer (some ⟨ib, 0, none⟩)) ∧ W.cell? ⟨ib, 0, none⟩ = some (.pointer (some ⟨lb, 0, none⟩))

set_option maxRecDepth 100000 in
set_option maxHeartbeats 2000000 in
theorem free_walk (gb ir ic cl ib lb hb : Nat) (c : Nat) (place code : Int) (w : World) (hc : c < cl) (b : Bool) (Y : World → Prop)
    (hS : ∀ n, FreS gb ir ic cl ib lb hb c place code (w.drewN n))
    (hl : ∀ n, Calls Try.prog 64 #[.pointer (some ⟨lb, 0, none⟩), .agg #[.int .i64 place, .int .i64 code]] (w.drewN n) fun e w' => e = .returned (.bool b) ∧ Y w')
    (hY : ∀ w2, Y w2 → FreS gb ir ic cl ib lb hb c place code w2 ∧ w2.frozen? ⟨gb, 4, none⟩ = false) :
    Calls Try.prog 51 #[.pointer (some ⟨gb, 0, none⟩)] w fun e w' => e = .returned (.int .i64 (if b then 4 else 3)) ∧
      FreEnd gb b Y w' := by
  have hc2 : (c : Int) < (cl : Int) := by omega
  have HS : Hid (∀ n, FreS gb ir ic cl ib lb hb c place code (w.drewN n)) := hS
  have HY : Hid (∀ w2, Y w2 → FreS gb ir ic cl ib lb hb c place code w2 ∧ w2.frozen? ⟨gb, 4, none⟩ = false) := hY
  clear hS hY
  go_enter Try.func51, Try.ntmps51
  go_wp2_with fail
  refine wp_region_noPanic ?_
  refine wp_region_held_drew (S := FreS gb ir ic cl ib lb hb c place code) (by kernel_rfl) (HS.out 1) (fun _ => ?_)
  refine wpAnyH_take (i := 0) (v := ?_) rfl (by kernel_rfl) (by kernel_rfl) (by kernel_rfl) (fun _ _ _ h => h) (Or.inl ⟨by rfl, ?_⟩) (HS.out 1) ?_
  rotate_left
  (intro w hSw; obtain ⟨s0, s1, s2, s3, s4, s5, s6⟩ := hSw; go_simp)
  try with_reducible rfl
  simp only [Act.put]
  refine wpAnyH_take (i := 1) (v := ?_) rfl (by kernel_rfl) (by kernel_rfl) (by kernel_rfl) (fun _ _ _ h => h) (Or.inl ⟨by rfl, ?_⟩) (HS.out 1) ?_
  rotate_left
  (intro w hSw; obtain ⟨s0, s1, s2, s3, s4, s5, s6⟩ := hSw; go_simp)
  try with_reducible rfl
  simp only [Act.put]
  refine wpAnyH_take (i := 2) (v := ?_) rfl (by kernel_rfl) (by kernel_rfl) (by kernel_rfl) (fun _ _ _ h => h) (Or.inl ⟨by rfl, ?_⟩) (HS.out 1) ?_
  rotate_left
  (intro w hSw; obtain ⟨s0, s1, s2, s3, s4, s5, s6⟩ := hSw; go_simp)
  try with_reducible rfl
  simp only [Act.put]
  refine wpAnyH_take (i := 3) (v := ?_) rfl (by kernel_rfl) (by kernel_rfl) (by kernel_rfl) (fun _ _ _ h => h) (Or.inl ⟨by rfl, ?_⟩) (HS.out 1) ?_
  rotate_left
  (intro w hSw; obtain ⟨s0, s1, s2, s3, s4, s5, s6⟩ := hSw; go_simp)
  try with_reducible rfl
  simp only [Act.put]
  refine wpAnyH_take (i := 4) (v := ?_) rfl (by kernel_rfl) (by kernel_rfl) (by kernel_rfl) (fun _ _ _ h => h) (Or.inl ⟨by rfl, ?_⟩) (HS.out 1) ?_
  rotate_left
  (intro w hSw; obtain ⟨s0, s1, s2, s3, s4, s5, s6⟩ := hSw; go_simp)
  try with_reducible rfl
  simp only [Act.put]
  refine wpAnyH_take (i := 5) (v := ?_) rfl (by kernel_rfl) (by kernel_rfl) (by kernel_rfl) (fun _ _ _ h => h) (Or.inl ⟨by rfl, ?_⟩) (HS.out 1) ?_
  rotate_left
  (intro w hSw; obtain ⟨s0, s1, s2, s3, s4, s5, s6⟩ := hSw; go_simp)
  try with_reducible rfl
  simp only [Act.put]
  refine wpAnyH_take (i := 6) (v := ?_) rfl (by kernel_rfl) (by kernel_rfl) (by kernel_rfl) (fun _ _ _ h => h) (Or.inl ⟨by rfl, ?_⟩) (HS.out 1) ?_
  rotate_left
  (intro w hSw; obtain ⟨s0, s1, s2, s3, s4, s5, s6⟩ := hSw; go_simp)
  try with_reducible rfl
  simp only [Act.put]
  refine wpAnyH_take (i := 7) (v := ?_) rfl (by kernel_rfl) (by kernel_rfl) (by kernel_rfl) (fun _ _ _ h => h) (Or.inl ⟨by rfl, ?_⟩) (HS.out 1) ?_
  rotate_left
  (intro w hSw; obtain ⟨s0, s1, s2, s3, s4, s5, s6⟩ := hSw; go_simp)
  try with_reducible rfl
  simp only [Act.put]
  refine wpAnyH_take (i := 8) (v := ?_) rfl (by kernel_rfl) (by kernel_rfl) (by kernel_rfl) (fun _ _ _ h => h) (Or.inl ⟨by rfl, ?_⟩) (HS.out 1) ?_
  rotate_left
  (intro w hSw; obtain ⟨s0, s1, s2, s3, s4, s5, s6⟩ := hSw; go_simp)
  try with_reducible rfl
  simp only [Act.put]
  refine wpAnyH_take (i := 9) (v := ?_) rfl (by kernel_rfl) (by kernel_rfl) (by kernel_rfl) (fun _ _ _ h => h) (Or.inl ⟨by rfl, ?_⟩) (HS.out 1) ?_
  rotate_left
  (intro w hSw; obtain ⟨s0, s1, s2, s3, s4, s5, s6⟩ := hSw; go_simp)
  try with_reducible rfl
  simp only [Act.put]
  refine wpAnyH_take (i := 10) (v := ?_) rfl (by kernel_rfl) (by kernel_rfl) (by kernel_rfl) (fun _ _ _ h => h) (Or.inl ⟨by rfl, ?_⟩) (HS.out 1) ?_
  rotate_left
  (intro w hSw; obtain ⟨s0, s1, s2, s3, s4, s5, s6⟩ := hSw; go_simp)
  try with_reducible rfl
  simp only [Act.put]
  refine wpAnyH_take (i := 11) (v := ?_) rfl (by kernel_rfl) (by kernel_rfl) (by kernel_rfl) (fun _ _ _ h => h) (Or.inl ⟨by rfl, ?_⟩) (HS.out 1) ?_
  rotate_left
  (intro w hSw; obtain ⟨s0, s1, s2, s3, s4, s5, s6⟩ := hSw; go_simp)
  try with_reducible rfl
  simp only [Act.put]
  refine wpAnyH_take (i := 12) (v := ?_) rfl (by kernel_rfl) (by kernel_rfl) (by kernel_rfl) (fun _ _ _ h => h) (Or.inl ⟨by rfl, ?_⟩) (HS.out 1) ?_
  rotate_left
  (intro w hSw; obtain ⟨s0, s1, s2, s3, s4, s5, s6⟩ := hSw; go_simp)
  try with_reducible rfl
  simp only [Act.put]
  refine wpAnyH_take (i := 13) (v := ?_) rfl (by kernel_rfl) (by kernel_rfl) (by kernel_rfl) (fun _ _ _ h => h) (Or.inl ⟨by rfl, ?_⟩) (HS.out 1) ?_
  rotate_left
  (intro w hSw; obtain ⟨s0, s1, s2, s3, s4, s5, s6⟩ := hSw; go_simp)
  try with_reducible rfl
  simp only [Act.put]
  refine wpAnyH_take (i := 14) (v := ?_) rfl (by kernel_rfl) (by kernel_rfl) (by kernel_rfl) (fun _ _ _ h => h) (Or.inl ⟨by rfl, ?_⟩) (HS.out 1) ?_
  rotate_left
  (intro w hSw; obtain ⟨s0, s1, s2, s3, s4, s5, s6⟩ := hSw; go_simp)
  try with_reducible rfl
  simp only [Act.put]
  refine wpAnyH_take (i := 15) (v := ?_) rfl (by kernel_rfl) (by kernel_rfl) (by kernel_rfl) (fun _ _ _ h => h) (Or.inl ⟨by rfl, ?_⟩) (HS.out 1) ?_
  rotate_left
  (intro w hSw; obtain ⟨s0, s1, s2, s3, s4, s5, s6⟩ := hSw; go_simp)
  try with_reducible rfl
  simp only [Act.put]
  refine wpAnyH_take (i := 16) (v := ?_) rfl (by kernel_rfl) (by kernel_rfl) (by kernel_rfl) (fun _ _ _ h => h) (Or.inl ⟨by rfl, ?_⟩) (HS.out 1) ?_
  rotate_left
  (intro w hSw; obtain ⟨s0, s1, s2, s3, s4, s5, s6⟩ := hSw; go_simp)
  try with_reducible rfl
  simp only [Act.put]
  refine wpAnyH_take (i := 17) (v := ?_) rfl (by kernel_rfl) (by kernel_rfl) (by kernel_rfl) (fun _ _ _ h => h) (Or.inl ⟨by rfl, ?_⟩) (HS.out 1) ?_
  rotate_left
  (intro w hSw; obtain ⟨s0, s1, s2, s3, s4, s5, s6⟩ := hSw; go_simp)
  try with_reducible rfl
  simp only [Act.put]
  refine wpAnyH_take (i := 18) (v := ?_) rfl (by kernel_rfl) (by kernel_rfl) (by kernel_rfl) (fun _ _ _ h => h) (Or.inl ⟨by rfl, ?_⟩) (HS.out 1) ?_
  rotate_left
  (intro w hSw; obtain ⟨s0, s1, s2, s3, s4, s5, s6⟩ := hSw; go_simp)
  try with_reducible rfl
  simp only [Act.put]
  refine wpAnyH_take (i := 19) (v := ?_) rfl (by kernel_rfl) (by kernel_rfl) (by kernel_rfl) (fun _ _ _ h => h) (Or.inl ⟨by rfl, ?_⟩) (HS.out 1) ?_
  rotate_left
  (intro w hSw; obtain ⟨s0, s1, s2, s3, s4, s5, s6⟩ := hSw; go_simp)
  try with_reducible rfl
  simp only [Act.put]
  refine wpAnyH_take (i := 20) (v := ?_) rfl (by kernel_rfl) (by kernel_rfl) (by kernel_rfl) (fun _ _ _ h => h) (Or.inl ⟨by rfl, ?_⟩) (HS.out 1) ?_
  rotate_left
  (intro w hSw; obtain ⟨s0, s1, s2, s3, s4, s5, s6⟩ := hSw; go_simp)
  try with_reducible rfl
  simp only [Act.put]
  refine wpAnyH_take (i := 21) (v := ?_) rfl (by kernel_rfl) (by kernel_rfl) (by kernel_rfl) (fun _ _ _ h => h) (Or.inl ⟨by rfl, ?_⟩) (HS.out 1) ?_
  rotate_left
  (intro w hSw; obtain ⟨s0, s1, s2, s3, s4, s5, s6⟩ := hSw; go_simp)
  try with_reducible rfl
  simp only [Act.put]
  refine wpAnyH_take (i := 22) (v := ?_) rfl (by kernel_rfl) (by kernel_rfl) (by kernel_rfl) (fun _ _ _ h => h) (Or.inl ⟨by rfl, ?_⟩) (HS.out 1) ?_
  rotate_left
  (intro w hSw; obtain ⟨s0, s1, s2, s3, s4, s5, s6⟩ := hSw; go_simp)
  try with_reducible rfl
  simp only [Act.put]
  refine wpAnyH_ready (rs := [23]) (by kernel_rfl) (by simp) ?_
  refine AllReadyH.cons rfl (fun K hK => ?_) AllReadyH.nil
  go_simp
  refine (hl 1).mono ?_
  rintro e w2 ⟨rfl, hy⟩
  have yS := (HY.out w2 hy).1
  have yf := (HY.out w2 hy).2
  have y4 := yS.2.1
  have YS : Hid (FreS gb ir ic cl ib lb hb c place code w2) := yS
  clear yS
  go_wp2_with fail
  refine hK.out _ _ YS.out (fun _ => ?_)
  clear hK K
  refine wpAnyH_take (i := 24) (v := ?_) rfl (by kernel_rfl) (by kernel_rfl) (by kernel_rfl) (fun _ _ _ h => h) (Or.inl ⟨by rfl, ?_⟩) YS.out ?_
  rotate_left
  (intro w hSw; obtain ⟨s0, s1, s2, s3, s4, s5, s6⟩ := hSw; go_simp)
  try with_reducible rfl
  simp only [Act.put]
  refine wpAnyH_done (by kernel_rfl) (NoPanic.normal ?_) _
  cases b
  · go_wp2_with fail
    go_ret
    exact ⟨rfl, _, hy, .inl ⟨rfl, rfl⟩⟩
  · go_wp2_with fail
    go_ret
    exact ⟨rfl, w2, hy, .inr ⟨rfl, rfl⟩⟩

end Go.Proofs.Ytjhifhoniimfgaa

/-
  The core does a frame of the urgent lane: the walk.
-/
namespace Go.Proofs.Ytjhifhoniimfgaa
open Go.RowKit

/-- What was taken, in memory. -/
def TakS (tb : Nat) (place c : Int) (fr : ByteArray) (W : World) : Prop :=
  W.cell? ⟨tb, 0, none⟩ = some (.int .i64 place) ∧ W.cell? ⟨tb, 1, none⟩ = some (.int .i64 c) ∧ W.cell? ⟨tb, 2, none⟩ = some (.string fr)

theorem TakS.keep {S : Nat → Prop} {tb : Nat} {place c : Int} {fr : ByteArray} {W W' : World} (h : TakS tb place c fr W) (hk : Keep S W W') (hs : S tb) : TakS tb place c fr W' := by
  obtain ⟨h1, h2, h3⟩ := h
  have l := World.block_lt_of_cell? W _ h1
  refine ⟨?_, ?_, ?_⟩
  · rw [World.cell?_of_block (w := W) (hk.block tb l hs)]; exact h1
  · rw [World.cell?_of_block (w := W) (hk.block tb l hs)]; exact h2
  · rw [World.cell?_of_block (w := W) (hk.block tb l hs)]; exact h3

theorem info_ans : ∃ i, Try.prog.info? 66 = some i ∧ i.bytes = 16 ∧ i.size = 2 ∧ i.zero = some (.agg #[.int .i64 0, .int .i64 0]) := by
  have e : (Try.prog.info? 66).map (fun i => (i.bytes, i.size, i.zero)) = some (16, 2, some (.agg #[.int .i64 0, .int .i64 0])) := by kernel_rfl
  obtain ⟨i, hi, he⟩ := Option.map_eq_some_iff.1 e
  simp only [Prod.mk.injEq] at he
  exact ⟨i, hi, he.1, he.2.1, he.2.2⟩

/-- One answer more at the end of a list in a row of its own. -/
def Appd (w w' : World) (v : Value) (l : List Ans) (a : Ans) (g cap : Nat) : Prop :=
  AckAt w' (.slice (some ⟨g, 0, none⟩) (l.length + 1) cap) (l ++ [a]) ∧ Keep (fun b => v.ownBlock ≠ some b) w w' ∧ (v.ownBlock = some g ∨ w.heap.size ≤ g)

theorem ack_append {w : World} {v : Value} {l : List Ans} (h : AckAt w v l) (hl : l.length < 8796093022208) (p q : Int) :
    ∃ g cap w', (∀ ty, (Builtin.append_ #[94, 94] ty #[v, .slice (some ⟨w.heap.size, 0, none⟩) 1 1]).run Try.prog (w.alloc (.cells #[.int .i64 p, .int .i64 q] 66)) = .ok (.slice (some ⟨g, 0, none⟩) (l.length + 1) cap) w') ∧
      Appd w w' v l (p, q) g cap := by
  obtain ⟨it, t1, t2, t3, t4⟩ := info_ans
  have hlt : ∀ b, v.ownBlock = some b → b < w.heap.size := fun b hb => h.lt b hb
  have h2 : (w.alloc (.cells #[.int .i64 p, .int .i64 q] 66)).ownsRow 0 66 2 v l.length (ansFlat l) := World.ownsRow.alloc h _
  have key := fun ty => run_append_own_at (P := Try.prog) (w.alloc (.cells #[.int .i64 p, .int .i64 q] 66)) 0 94 ty 66 it (.agg #[.int .i64 0, .int .i64 0]) 2 16 Try.underlying94 t1 t4 t3 t2 rfl (by decide) v l.length (ansFlat l) h2
    ⟨w.heap.size, 0, none⟩ 1 1 [.int .i64 p, .int .i64 q] rfl (cell_two_new w _ _ _) (fun u hu => by simp at hu; rcases hu with rfl | rfl <;> rfl) (by unfold maxLen; omega) (by omega) (Nat.zero_le _)
  obtain ⟨v', w', hrun, hown, hg, _, hb⟩ := key 0
  have hrun2 : ∀ ty, (Builtin.append_ #[94, 94] ty #[v, .slice (some ⟨w.heap.size, 0, none⟩) 1 1]).run Try.prog (w.alloc (.cells #[.int .i64 p, .int .i64 q] 66)) = .ok v' w' := fun ty => hrun
  have hv : ∃ g cap, v' = .slice (some ⟨g, 0, none⟩) (l.length + 1) cap := by
    rcases hown.2 with ⟨_, hx⟩ | ⟨g, cap, cur, hx, _⟩
    · omega
    · exact ⟨g, cap, hx⟩
  obtain ⟨g, cap, rfl⟩ := hv
  have e1 : ansFlat (l ++ [(p, q)]) = ansFlat l ++ [.int .i64 p, .int .i64 q] := by rw [ansFlat_append]; rfl
  have e2 : (l ++ [(p, q)]).length = l.length + 1 := by simp
  refine ⟨g, cap, w', hrun2, ?_, ?_⟩
  · unfold AckAt
    rw [e1, e2]
    exact hown
  refine ⟨⟨hg.os, hg.tape, hg.output, Nat.le_trans (by simp) hg.size, fun b hb1 hb2 => ?_⟩, ?_⟩
  · rw [hg.block b (by simp; omega) (fun e => hb2 e.symm)]
    exact Below.heap_alloc _ _ _ hb1
  · rcases hb with e | e
    · exact .inl e.symm
    · right
      simp [Value.ownBlock] at e
      omega

/-- An append in a region, by its run. -/
theorem append_op {P : Program} {ops : Array Oper} {o : Oper} {a : Act} {w : World} {K : Act → World → Prop} {Q : Exit → Act → World → Prop} {E : Prop} (hg : o.guard = none) (s x : Operand) (t : TypeId)
    (hop : o.op = Op.call { callee := Callee.builtin Builtin.append, args := #[s, x], argTypes := #[t, t] }) (v u v' : Value) (w' : World) (hs : a.eval s = v) (hx : a.eval x = u)
    (hrun : ∀ ty, (Builtin.append_ #[t, t] ty #[v, u]).run P w = .ok v' w') (hK : K (a.put o.dst v') w') : if Region.wanted o (yielded ops a.tmps) = true then Oper.wp P o a w K Q else E := by
  rw [if_pos (by simp [Region.wanted, hg])]
  have hr := hrun o.type
  unfold Oper.wp
  simp [execOp, hop, resolve, invoke, builtin, hs, hx, hr, Result.andThen, Oper.upon]
  exact hK

set_option maxRecDepth 100000 in
set_option maxHeartbeats 2000000 in
theorem rush_walk (gb ir ic cl ib cap : Nat) (va : Option Addr) (l : List Ans) (c : Nat) (place code : Int) (fr : ByteArray) (w : World) (h0 : w.cell? ⟨gb, 0, none⟩ = some (.slice (some ⟨ir, 0, none⟩) cl ic)) (hc : c < cl) (hi : w.cell? ⟨ir, c, none⟩ = some (.pointer (some ⟨ib, 0, none⟩)))
    (h1 : w.cell? ⟨ib, 1, none⟩ = some (.slice va l.length cap)) (hlen : l.length < 8796093022208) (Z : World → Prop)
    (ha : ∀ n, Calls Try.prog 63 #[.pointer (some ⟨gb, 0, none⟩), .int .i64 1, .agg #[.int .i64 place, .int .i64 c, .string fr]] ((w.alloc (takO place c fr)).drewN n) fun e w' => e = .returned (.agg #[.int .i64 place, .int .i64 code]) ∧ Z w')
    (hZ : ∀ W, Z W → TakS w.heap.size place c fr W ∧ W.cell? ⟨ib, 1, none⟩ = some (.slice va l.length cap) ∧ W.frozen? ⟨ib, 1, none⟩ = false ∧ AckAt W (.slice va l.length cap) l)
    (hN : ∀ b, (Value.slice va l.length cap).ownBlock = some b → b ≠ w.heap.size ∧ b ≠ ib) :
    Calls Try.prog 50 #[.pointer (some ⟨gb, 0, none⟩), .agg #[.int .i64 place, .int .i64 c, .string fr]] w fun e w' => e = .returned (.int .i64 1) ∧
      ∃ w1 w3 g3 cap3, Z w1 ∧ Appd w1 w3 (.slice va l.length cap) l (place, code) g3 cap3 ∧ w3.setCell ⟨ib, 1, none⟩ (.slice (some ⟨g3, 0, none⟩) (l.length + 1) cap3) = w' := by
  have hlt := World.block_lt_of_cell? w _ h0
  have hlt2 := World.block_lt_of_cell? w _ hi
  have hlt3 := World.block_lt_of_cell? w _ h1
  have hne : ib ≠ w.heap.size := Nat.ne_of_lt hlt3
  have hc2 : (c : Int) < (cl : Int) := by omega
  unfold takO at ha
  have HS : Hid (∀ n, TakS w.heap.size place c fr ((w.alloc (.cells #[.int .i64 place, .int .i64 c, .string fr] 101)).drewN n)) := fun n => by
    have hb : ((w.alloc (.cells #[.int .i64 place, .int .i64 c, .string fr] 101)).drewN n).heap[w.heap.size]? = some (.cells #[.int .i64 place, .int .i64 c, .string fr] 101 (0, 0)) := heap_alloc_new w _
    exact ⟨cellAt (i := 0) hb rfl, cellAt (i := 1) hb rfl, cellAt (i := 2) hb rfl⟩
  have HZ : Hid (∀ W, Z W → TakS w.heap.size place c fr W ∧ W.cell? ⟨ib, 1, none⟩ = some (.slice va l.length cap) ∧ W.frozen? ⟨ib, 1, none⟩ = false ∧ AckAt W (.slice va l.length cap) l) := hZ
  have HN : Hid (∀ W, Z W → ∀ b, (Value.slice va l.length cap).ownBlock = some b → b ≠ w.heap.size ∧ b ≠ ib) := fun _ _ => hN
  clear hZ hN
  go_enter Try.func50, Try.ntmps50
  go_wp2_with fail
  go_quiet (fail)
  go_wp2_with fail
  refine wp_region_noPanic ?_
  refine wp_region_held_drew (S := TakS w.heap.size place c fr) (by kernel_rfl) (HS.out (nq + 1)) (fun _ => ?_)
  refine wpAnyH_take (i := 0) (v := ?_) rfl (by kernel_rfl) (by kernel_rfl) (by kernel_rfl) (fun _ _ _ h => h) (Or.inl ⟨by rfl, ?_⟩) (HS.out (nq + 1)) ?_
  rotate_left
  (intro w hSw; obtain ⟨s0, s1, s2⟩ := hSw; go_simp)
  try with_reducible rfl
  simp only [Act.put]
  refine wpAnyH_take (i := 1) (v := ?_) rfl (by kernel_rfl) (by kernel_rfl) (by kernel_rfl) (fun _ _ _ h => h) (Or.inl ⟨by rfl, ?_⟩) (HS.out (nq + 1)) ?_
  rotate_left
  (intro w hSw; obtain ⟨s0, s1, s2⟩ := hSw; go_simp)
  try with_reducible rfl
  simp only [Act.put]
  refine wpAnyH_take (i := 2) (v := ?_) rfl (by kernel_rfl) (by kernel_rfl) (by kernel_rfl) (fun _ _ _ h => h) (Or.inl ⟨by rfl, ?_⟩) (HS.out (nq + 1)) ?_
  rotate_left
  (intro w hSw; obtain ⟨s0, s1, s2⟩ := hSw; go_simp)
  try with_reducible rfl
  simp only [Act.put]
  refine wpAnyH_take (i := 3) (v := ?_) rfl (by kernel_rfl) (by kernel_rfl) (by kernel_rfl) (fun _ _ _ h => h) (Or.inl ⟨by rfl, ?_⟩) (HS.out (nq + 1)) ?_
  rotate_left
  (intro w hSw; obtain ⟨s0, s1, s2⟩ := hSw; go_simp)
  try with_reducible rfl
  simp only [Act.put]
  refine wpAnyH_take (i := 5) (v := ?_) rfl (by kernel_rfl) (by kernel_rfl) (by kernel_rfl) (fun _ _ _ h => h) (Or.inl ⟨by rfl, ?_⟩) (HS.out (nq + 1)) ?_
  rotate_left
  (intro w hSw; obtain ⟨s0, s1, s2⟩ := hSw; go_simp)
  try with_reducible rfl
  simp only [Act.put]
  refine wpAnyH_take (i := 6) (v := ?_) rfl (by kernel_rfl) (by kernel_rfl) (by kernel_rfl) (fun _ _ _ h => h) (Or.inl ⟨by rfl, ?_⟩) (HS.out (nq + 1)) ?_
  rotate_left
  (intro w hSw; obtain ⟨s0, s1, s2⟩ := hSw; go_simp)
  try with_reducible rfl
  simp only [Act.put]
  refine wpAnyH_ready (rs := [4, 7]) (by kernel_rfl) (by simp) ?_
  refine AllReadyH.cons rfl (fun K hK => ?_) (AllReadyH.cons rfl (fun K hK => ?_) AllReadyH.nil)
  · go_simp
    refine hK.out _ _ (HS.out (nq + 1)) (fun _ => ?_)
    clear hK K
    refine wpAnyH_ready (rs := [7]) (by kernel_rfl) (by simp) ?_
    refine AllReadyH.cons rfl (fun K hK => ?_) AllReadyH.nil
    go_simp
    refine (ha (nq + 1)).mono ?_
    rintro e w1 ⟨rfl, hz⟩
    obtain ⟨zS, zib, zfr, zrow⟩ := HZ.out w1 hz
    obtain ⟨g3, cap3, w3, hrun, happ⟩ := ack_append zrow hlen place code
    have ZS : Hid (TakS w.heap.size place c fr w1) := zS
    have ZN : Hid (∀ b, (Value.slice va l.length cap).ownBlock = some b → b ≠ w.heap.size ∧ b ≠ ib) := HN.out w1 hz
    have HA : Hid (Appd w1 w3 (.slice va l.length cap) l (place, code) g3 cap3) := happ
    have A1 : Hid (TakS w.heap.size place c fr (w1.alloc (.cells #[.int .i64 place, .int .i64 code] 66))) := zS.keep ((Keep.refl (fun _ => True) w1).alloc _) trivial
    have A3 : Hid (TakS w.heap.size place c fr w3) := zS.keep happ.2.1 (fun e => (HN.out w1 hz _ e).1 rfl)
    have x1 : w3.cell? ⟨ib, 1, none⟩ = some (.slice va l.length cap) := by rw [World.cell?_of_block (w := w1) (happ.2.1.block ib (World.block_lt_of_cell? w1 _ zib) (fun e => (HN.out w1 hz _ e).2 rfl))]; exact zib
    have x2 : w3.frozen? ⟨ib, 1, none⟩ = false := by rw [World.frozen?_of_block (w := w1) (happ.2.1.block ib (World.block_lt_of_cell? w1 _ zib) (fun e => (HN.out w1 hz _ e).2 rfl))]; exact zfr
    have hib1 := World.block_lt_of_cell? w1 _ zib
    have hnib : ib ≠ w1.heap.size := Nat.ne_of_lt hib1
    have A4 : Hid (TakS w.heap.size place c fr (w3.setCell ⟨ib, 1, none⟩ (.slice (some ⟨g3, 0, none⟩) (l.length + 1) cap3))) := (zS.keep happ.2.1 (fun e => (HN.out w1 hz _ e).1 rfl)).keep ((Keep.refl (fun b => b ≠ ib) w3).setCell _ (fun _ h => h rfl) _) (Ne.symm hne)
    clear zS zrow happ
    go_wp2_with fail
    refine hK.out _ _ ZS.out (fun _ => ?_)
    clear hK K
    refine wpAnyH_ready (rs := [8]) (by kernel_rfl) (by simp) ?_
    refine AllReadyH.cons rfl (fun K hK => ?_) AllReadyH.nil
    go_simp
    refine hK.out _ _ A1.out (fun _ => ?_)
    clear hK K
    refine wpAnyH_ready (rs := [9]) (by kernel_rfl) (by simp) ?_
    refine AllReadyH.cons rfl (fun K hK => ?_) AllReadyH.nil
    refine append_op rfl (.tmp 18) (.tmp 22) 94 rfl (.slice va l.length cap) (.slice (some ⟨w1.heap.size, 0, none⟩) 1 1) _ _ (by simp [Act.eval]) (by simp [Act.eval]) hrun ?_
    simp only [Act.put]
    refine hK.out _ _ A3.out (fun _ => ?_)
    clear hK K
    refine wpAnyH_take (i := 10) (v := ?_) rfl (by kernel_rfl) (by kernel_rfl) (by kernel_rfl) (fun _ _ _ h => h) (Or.inl ⟨by rfl, ?_⟩) A3.out ?_
    rotate_left
    (intro w hSw; obtain ⟨s0, s1, s2⟩ := hSw; go_simp)
    try with_reducible rfl
    simp only [Act.put]
    refine wpAnyH_take (i := 11) (v := ?_) rfl (by kernel_rfl) (by kernel_rfl) (by kernel_rfl) (fun _ _ _ h => h) (Or.inl ⟨by rfl, ?_⟩) A3.out ?_
    rotate_left
    (intro w hSw; obtain ⟨s0, s1, s2⟩ := hSw; go_simp)
    try with_reducible rfl
    simp only [Act.put]
    refine wpAnyH_ready (rs := [12]) (by kernel_rfl) (by simp) ?_
    refine AllReadyH.cons rfl (fun K hK => ?_) AllReadyH.nil
    go_simp
    refine hK.out _ _ A4.out (fun _ => ?_)
    clear hK K
    refine wpAnyH_done (by kernel_rfl) (NoPanic.normal ?_) _
    go_wp2_with fail
    go_ret
    exact ⟨rfl, w1, w3, g3, cap3, hz, HA.out, rfl⟩
  · go_simp
    refine (ha (nq + 1)).mono ?_
    rintro e w1 ⟨rfl, hz⟩
    obtain ⟨zS, zib, zfr, zrow⟩ := HZ.out w1 hz
    obtain ⟨g3, cap3, w3, hrun, happ⟩ := ack_append zrow hlen place code
    have ZS : Hid (TakS w.heap.size place c fr w1) := zS
    have ZN : Hid (∀ b, (Value.slice va l.length cap).ownBlock = some b → b ≠ w.heap.size ∧ b ≠ ib) := HN.out w1 hz
    have HA : Hid (Appd w1 w3 (.slice va l.length cap) l (place, code) g3 cap3) := happ
    have A1 : Hid (TakS w.heap.size place c fr (w1.alloc (.cells #[.int .i64 place, .int .i64 code] 66))) := zS.keep ((Keep.refl (fun _ => True) w1).alloc _) trivial
    have A3 : Hid (TakS w.heap.size place c fr w3) := zS.keep happ.2.1 (fun e => (HN.out w1 hz _ e).1 rfl)
    have x1 : w3.cell? ⟨ib, 1, none⟩ = some (.slice va l.length cap) := by rw [World.cell?_of_block (w := w1) (happ.2.1.block ib (World.block_lt_of_cell? w1 _ zib) (fun e => (HN.out w1 hz _ e).2 rfl))]; exact zib
    have x2 : w3.frozen? ⟨ib, 1, none⟩ = false := by rw [World.frozen?_of_block (w := w1) (happ.2.1.block ib (World.block_lt_of_cell? w1 _ zib) (fun e => (HN.out w1 hz _ e).2 rfl))]; exact zfr
    have hib1 := World.block_lt_of_cell? w1 _ zib
    have hnib : ib ≠ w1.heap.size := Nat.ne_of_lt hib1
    have A4 : Hid (TakS w.heap.size place c fr (w3.setCell ⟨ib, 1, none⟩ (.slice (some ⟨g3, 0, none⟩) (l.length + 1) cap3))) := (zS.keep happ.2.1 (fun e => (HN.out w1 hz _ e).1 rfl)).keep ((Keep.refl (fun b => b ≠ ib) w3).setCell _ (fun _ h => h rfl) _) (Ne.symm hne)
    clear zS zrow happ
    go_wp2_with fail
    refine hK.out _ _ ZS.out (fun _ => ?_)
    clear hK K
    refine wpAnyH_ready (rs := [4, 8]) (by kernel_rfl) (by simp) ?_
    refine AllReadyH.cons rfl (fun K hK => ?_) (AllReadyH.cons rfl (fun K hK => ?_) AllReadyH.nil)
    · go_simp
      refine hK.out _ _ ZS.out (fun _ => ?_)
      clear hK K
      refine wpAnyH_ready (rs := [8]) (by kernel_rfl) (by simp) ?_
      refine AllReadyH.cons rfl (fun K hK => ?_) AllReadyH.nil
      go_simp
      refine hK.out _ _ A1.out (fun _ => ?_)
      clear hK K
      refine wpAnyH_ready (rs := [9]) (by kernel_rfl) (by simp) ?_
      refine AllReadyH.cons rfl (fun K hK => ?_) AllReadyH.nil
      refine append_op rfl (.tmp 18) (.tmp 22) 94 rfl (.slice va l.length cap) (.slice (some ⟨w1.heap.size, 0, none⟩) 1 1) _ _ (by simp [Act.eval]) (by simp [Act.eval]) hrun ?_
      simp only [Act.put]
      refine hK.out _ _ A3.out (fun _ => ?_)
      clear hK K
      refine wpAnyH_take (i := 10) (v := ?_) rfl (by kernel_rfl) (by kernel_rfl) (by kernel_rfl) (fun _ _ _ h => h) (Or.inl ⟨by rfl, ?_⟩) A3.out ?_
      rotate_left
      (intro w hSw; obtain ⟨s0, s1, s2⟩ := hSw; go_simp)
      try with_reducible rfl
      simp only [Act.put]
      refine wpAnyH_take (i := 11) (v := ?_) rfl (by kernel_rfl) (by kernel_rfl) (by kernel_rfl) (fun _ _ _ h => h) (Or.inl ⟨by rfl, ?_⟩) A3.out ?_
      rotate_left
      (intro w hSw; obtain ⟨s0, s1, s2⟩ := hSw; go_simp)
      try with_reducible rfl
      simp only [Act.put]
      refine wpAnyH_ready (rs := [12]) (by kernel_rfl) (by simp) ?_
      refine AllReadyH.cons rfl (fun K hK => ?_) AllReadyH.nil
      go_simp
      refine hK.out _ _ A4.out (fun _ => ?_)
      clear hK K
      refine wpAnyH_done (by kernel_rfl) (NoPanic.normal ?_) _
      go_wp2_with fail
      go_ret
      exact ⟨rfl, w1, w3, g3, cap3, hz, HA.out, rfl⟩
    · go_simp
      refine hK.out _ _ A1.out (fun _ => ?_)
      clear hK K
      refine wpAnyH_ready (rs := [4]) (by kernel_rfl) (by simp) ?_
      refine AllReadyH.cons rfl (fun K hK => ?_) AllReadyH.nil
      go_simp
      refine hK.out _ _ A1.out (fun _ => ?_)
      clear hK K
      refine wpAnyH_ready (rs := [9]) (by kernel_rfl) (by simp) ?_
      refine AllReadyH.cons rfl (fun K hK => ?_) AllReadyH.nil
      refine append_op rfl (.tmp 18) (.tmp 22) 94 rfl (.slice va l.length cap) (.slice (some ⟨w1.heap.size, 0, none⟩) 1 1) _ _ (by simp [Act.eval]) (by simp [Act.eval]) hrun ?_
      simp only [Act.put]
      refine hK.out _ _ A3.out (fun _ => ?_)
      clear hK K
      refine wpAnyH_take (i := 10) (v := ?_) rfl (by kernel_rfl) (by kernel_rfl) (by kernel_rfl) (fun _ _ _ h => h) (Or.inl ⟨by rfl, ?_⟩) A3.out ?_
      rotate_left
      (intro w hSw; obtain ⟨s0, s1, s2⟩ := hSw; go_simp)
      try with_reducible rfl
      simp only [Act.put]
      refine wpAnyH_take (i := 11) (v := ?_) rfl (by kernel_rfl) (by kernel_rfl) (by kernel_rfl) (fun _ _ _ h => h) (Or.inl ⟨by rfl, ?_⟩) A3.out ?_
      rotate_left
      (intro w hSw; obtain ⟨s0, s1, s2⟩ := hSw; go_simp)
      try with_reducible rfl
      simp only [Act.put]
      refine wpAnyH_ready (rs := [12]) (by kernel_rfl) (by simp) ?_
      refine AllReadyH.cons rfl (fun K hK => ?_) AllReadyH.nil
      go_simp
      refine hK.out _ _ A4.out (fun _ => ?_)
      clear hK K
      refine wpAnyH_done (by kernel_rfl) (NoPanic.normal ?_) _
      go_wp2_with fail
      go_ret
      exact ⟨rfl, w1, w3, g3, cap3, hz, HA.out, rfl⟩

end Go.Proofs.Ytjhifhoniimfgaa

