import Derived.Test.YtjhifhoniimfgaaGreatG20
/-
  The core does a frame of the common lane, or frees the answer with which it waits: the walks.
-/
namespace Go.Proofs.YtjhifhoniimfgaaGreat
open Go.RowKit

/-- What the walk of serve reads: the gate's inboxes, the client that was taken, its inbox, the answer. -/
def SrvS (gb ir ic cl ib lb tb ob : Nat) (c : Nat) (place code : Int) (W : World) : Prop :=
  W.cell? ⟨gb, 0, none⟩ = some (.slice (some ⟨ir, 0, none⟩) cl ic) ∧ W.cell? ⟨tb, 1, none⟩ = some (.int .i64 c) ∧ W.cell? ⟨ir, c, none⟩ = some (.pointer (some ⟨ib, 0, none⟩)) ∧ W.cell? ⟨ib, 0, none⟩ = some (.pointer (some ⟨lb, 0, none⟩)) ∧
  W.cell? ⟨ob, 0, none⟩ = some (.int .i64 place) ∧ W.cell? ⟨ob, 1, none⟩ = some (.int .i64 code)

/-- What serve leaves: the answer is laid, or it waits. -/
def SrvEnd (gb c : Nat) (place code : Int) (b : Bool) (Z : World → Prop) (Y : World → World → Prop) (w' : World) : Prop :=
  ∃ w1 w2, Z w1 ∧ Y w1 w2 ∧ ((b = true ∧ w' = w2) ∨ (b = false ∧ w' = (w2.setCell ⟨gb, 4, none⟩ (.pointer (some ⟨w2.heap.size, 0, none⟩))).alloc (.cells #[.int .i64 c, .int .i64 place, .int .i64 code] 153)))

def FreEnd (gb : Nat) (b : Bool) (Y : World → Prop) (w' : World) : Prop :=
  ∃ w2, Y w2 ∧ ((b = false ∧ w' = w2) ∨ (b = true ∧ w' = w2.setCell ⟨gb, 4, none⟩ (.pointer none)))

set_option maxRecDepth 100000 in
set_option maxHeartbeats 2000000 in
theorem serve_walk (gb ir ic cl ib lb : Nat) (c : Nat) (place code : Int) (fr : ByteArray) (u : Option Addr) (w : World) (h0 : w.cell? ⟨gb, 0, none⟩ = some (.slice (some ⟨ir, 0, none⟩) cl ic)) (hc : c < cl) (b : Bool) (Z : World → Prop) (Y : World → World → Prop)
    (ha : Calls Tryz.prog 64 #[.pointer (some ⟨gb, 0, none⟩), .int .i64 0, .agg #[.int .i64 place, .int .i64 c, .string fr]] (w.alloc (takO place c fr)) fun e w' => e = .returned (.agg #[.int .i64 place, .int .i64 code]) ∧ Z w')
    (hS : ∀ w1 n, Z w1 → SrvS gb ir ic cl ib lb w.heap.size w1.heap.size c place code ((w1.alloc (.cells #[.int .i64 place, .int .i64 code] 58)).drewN n))
    (hl : ∀ w1 n, Z w1 → Calls Tryz.prog 65 #[.pointer (some ⟨lb, 0, none⟩), .agg #[.int .i64 place, .int .i64 code]] ((w1.alloc (.cells #[.int .i64 place, .int .i64 code] 58)).drewN n) fun e w' => e = .returned (.bool b) ∧ Y w1 w')
    (hY : ∀ w1 w2, Z w1 → Y w1 w2 → SrvS gb ir ic cl ib lb w.heap.size w1.heap.size c place code w2 ∧ w2.cell? ⟨gb, 4, none⟩ = some (.pointer u) ∧ w2.frozen? ⟨gb, 4, none⟩ = false) :
    Calls Tryz.prog 47 #[.pointer (some ⟨gb, 0, none⟩), .agg #[.int .i64 place, .int .i64 c, .string fr]] w fun e w' => e = .returned (.int .i64 (if b then 2 else 3)) ∧
      SrvEnd gb c place code b Z Y w' := by
  have hlt := World.block_lt_of_cell? w _ h0
  have hc2 : (c : Int) < (cl : Int) := by omega
  unfold takO at ha
  have HS : Hid (∀ w1 n, Z w1 → SrvS gb ir ic cl ib lb w.heap.size w1.heap.size c place code ((w1.alloc (.cells #[.int .i64 place, .int .i64 code] 58)).drewN n)) := hS
  have HY : Hid (∀ w1 w2, Z w1 → Y w1 w2 → SrvS gb ir ic cl ib lb w.heap.size w1.heap.size c place code w2 ∧ w2.cell? ⟨gb, 4, none⟩ = some (.pointer u) ∧ w2.frozen? ⟨gb, 4, none⟩ = false) := hY
  clear hS hY
  go_enter Tryz.func47, Tryz.ntmps47
  go_wp2_with fail
  refine ha.mono ?_
  rintro e w1 ⟨rfl, hz⟩
  go_wp2_with fail
  refine wp_region_noPanic ?_
  refine wp_region_held_drew (S := SrvS gb ir ic cl ib lb w.heap.size w1.heap.size c place code) (by kernel_rfl) (HS.out w1 1 hz) (fun _ => ?_)
  refine wpAnyH_take (i := 0) (v := ?_) rfl (by kernel_rfl) (by kernel_rfl) (by kernel_rfl) (fun _ _ _ h => h) (Or.inl ⟨by rfl, ?_⟩) (HS.out w1 1 hz) ?_
  rotate_left
  (intro w hSw; obtain ⟨s0, s1, s2, s3, s4, s5⟩ := hSw; go_simp)
  try with_reducible rfl
  simp only [Act.put]
  refine wpAnyH_take (i := 1) (v := ?_) rfl (by kernel_rfl) (by kernel_rfl) (by kernel_rfl) (fun _ _ _ h => h) (Or.inl ⟨by rfl, ?_⟩) (HS.out w1 1 hz) ?_
  rotate_left
  (intro w hSw; obtain ⟨s0, s1, s2, s3, s4, s5⟩ := hSw; go_simp)
  try with_reducible rfl
  simp only [Act.put]
  refine wpAnyH_take (i := 2) (v := ?_) rfl (by kernel_rfl) (by kernel_rfl) (by kernel_rfl) (fun _ _ _ h => h) (Or.inl ⟨by rfl, ?_⟩) (HS.out w1 1 hz) ?_
  rotate_left
  (intro w hSw; obtain ⟨s0, s1, s2, s3, s4, s5⟩ := hSw; go_simp)
  try with_reducible rfl
  simp only [Act.put]
  refine wpAnyH_take (i := 3) (v := ?_) rfl (by kernel_rfl) (by kernel_rfl) (by kernel_rfl) (fun _ _ _ h => h) (Or.inl ⟨by rfl, ?_⟩) (HS.out w1 1 hz) ?_
  rotate_left
  (intro w hSw; obtain ⟨s0, s1, s2, s3, s4, s5⟩ := hSw; go_simp)
  try with_reducible rfl
  simp only [Act.put]
  refine wpAnyH_take (i := 4) (v := ?_) rfl (by kernel_rfl) (by kernel_rfl) (by kernel_rfl) (fun _ _ _ h => h) (Or.inl ⟨by rfl, ?_⟩) (HS.out w1 1 hz) ?_
  rotate_left
  (intro w hSw; obtain ⟨s0, s1, s2, s3, s4, s5⟩ := hSw; go_simp)
  try with_reducible rfl
  simp only [Act.put]
  refine wpAnyH_take (i := 5) (v := ?_) rfl (by kernel_rfl) (by kernel_rfl) (by kernel_rfl) (fun _ _ _ h => h) (Or.inl ⟨by rfl, ?_⟩) (HS.out w1 1 hz) ?_
  rotate_left
  (intro w hSw; obtain ⟨s0, s1, s2, s3, s4, s5⟩ := hSw; go_simp)
  try with_reducible rfl
  simp only [Act.put]
  refine wpAnyH_take (i := 6) (v := ?_) rfl (by kernel_rfl) (by kernel_rfl) (by kernel_rfl) (fun _ _ _ h => h) (Or.inl ⟨by rfl, ?_⟩) (HS.out w1 1 hz) ?_
  rotate_left
  (intro w hSw; obtain ⟨s0, s1, s2, s3, s4, s5⟩ := hSw; go_simp)
  try with_reducible rfl
  simp only [Act.put]
  refine wpAnyH_take (i := 7) (v := ?_) rfl (by kernel_rfl) (by kernel_rfl) (by kernel_rfl) (fun _ _ _ h => h) (Or.inl ⟨by rfl, ?_⟩) (HS.out w1 1 hz) ?_
  rotate_left
  (intro w hSw; obtain ⟨s0, s1, s2, s3, s4, s5⟩ := hSw; go_simp)
  try with_reducible rfl
  simp only [Act.put]
  refine wpAnyH_take (i := 8) (v := ?_) rfl (by kernel_rfl) (by kernel_rfl) (by kernel_rfl) (fun _ _ _ h => h) (Or.inl ⟨by rfl, ?_⟩) (HS.out w1 1 hz) ?_
  rotate_left
  (intro w hSw; obtain ⟨s0, s1, s2, s3, s4, s5⟩ := hSw; go_simp)
  try with_reducible rfl
  simp only [Act.put]
  refine wpAnyH_take (i := 9) (v := ?_) rfl (by kernel_rfl) (by kernel_rfl) (by kernel_rfl) (fun _ _ _ h => h) (Or.inl ⟨by rfl, ?_⟩) (HS.out w1 1 hz) ?_
  rotate_left
  (intro w hSw; obtain ⟨s0, s1, s2, s3, s4, s5⟩ := hSw; go_simp)
  try with_reducible rfl
  simp only [Act.put]
  refine wpAnyH_take (i := 10) (v := ?_) rfl (by kernel_rfl) (by kernel_rfl) (by kernel_rfl) (fun _ _ _ h => h) (Or.inl ⟨by rfl, ?_⟩) (HS.out w1 1 hz) ?_
  rotate_left
  (intro w hSw; obtain ⟨s0, s1, s2, s3, s4, s5⟩ := hSw; go_simp)
  try with_reducible rfl
  simp only [Act.put]
  refine wpAnyH_take (i := 11) (v := ?_) rfl (by kernel_rfl) (by kernel_rfl) (by kernel_rfl) (fun _ _ _ h => h) (Or.inl ⟨by rfl, ?_⟩) (HS.out w1 1 hz) ?_
  rotate_left
  (intro w hSw; obtain ⟨s0, s1, s2, s3, s4, s5⟩ := hSw; go_simp)
  try with_reducible rfl
  simp only [Act.put]
  refine wpAnyH_ready (rs := [12]) (by kernel_rfl) (by simp) ?_
  refine AllReadyH.cons rfl (fun K hK => ?_) AllReadyH.nil
  go_simp
  refine (hl w1 1 hz).mono ?_
  rintro e w2 ⟨rfl, hy⟩
  obtain ⟨yS, y4, yf⟩ := HY.out w1 w2 hz hy
  have YS : Hid (SrvS gb ir ic cl ib lb w.heap.size w1.heap.size c place code w2) := yS
  clear yS
  go_wp2_with fail
  refine hK.out _ _ YS.out (fun _ => ?_)
  clear hK K
  refine wpAnyH_take (i := 13) (v := ?_) rfl (by kernel_rfl) (by kernel_rfl) (by kernel_rfl) (fun _ _ _ h => h) (Or.inl ⟨by rfl, ?_⟩) YS.out ?_
  rotate_left
  (intro w hSw; obtain ⟨s0, s1, s2, s3, s4, s5⟩ := hSw; go_simp)
  try with_reducible rfl
  simp only [Act.put]
  refine wpAnyH_done (by kernel_rfl) (NoPanic.normal ?_) _
  cases b
  · obtain ⟨t0, t1, t2, t3, t4, t5⟩ := YS.out
    have hltg := World.block_lt_of_cell? w2 _ y4
    have hneg : gb ≠ w2.heap.size := Nat.ne_of_lt hltg
    go_wp2_with fail
    go_ret
    exact ⟨rfl, w1, w2, hz, hy, .inr ⟨rfl, rfl⟩⟩
  · go_wp2_with fail
    go_ret
    exact ⟨rfl, w1, _, hz, hy, .inl ⟨rfl, rfl⟩⟩

/-- What the walk of free reads. -/
def FreS (gb ir ic cl ib lb hb : Nat) (c : Nat) (place code : Int) (W : World) : Prop :=
  W.cell? ⟨gb, 0, none⟩ = some (.slice (some ⟨ir, 0, none⟩) cl ic) ∧ W.cell? ⟨gb, 4, none⟩ = some (.pointer (some ⟨hb, 0, none⟩)) ∧ W.cell? ⟨hb, 0, none⟩ = some (.int .i64 c) ∧ W.cell? ⟨hb, 1, none⟩ = some (.int .i64 place) ∧ W.cell? ⟨hb, 2, none⟩ = some (.int .i64 code) ∧
  W.cell? ⟨ir, c, none⟩ = some (.pointer (some ⟨ib, 0, none⟩)) ∧ W.cell? ⟨ib, 0, none⟩ = some (.pointer (some ⟨lb, 0, none⟩))

set_option maxRecDepth 100000 in
set_option maxHeartbeats 2000000 in
theorem free_walk (gb ir ic cl ib lb hb : Nat) (c : Nat) (place code : Int) (w : World) (hc : c < cl) (b : Bool) (Y : World → Prop)
    (hS : ∀ n, FreS gb ir ic cl ib lb hb c place code (w.drewN n))
    (hl : ∀ n, Calls Tryz.prog 65 #[.pointer (some ⟨lb, 0, none⟩), .agg #[.int .i64 place, .int .i64 code]] (w.drewN n) fun e w' => e = .returned (.bool b) ∧ Y w')
    (hY : ∀ w2, Y w2 → FreS gb ir ic cl ib lb hb c place code w2 ∧ w2.frozen? ⟨gb, 4, none⟩ = false) :
    Calls Tryz.prog 46 #[.pointer (some ⟨gb, 0, none⟩)] w fun e w' => e = .returned (.int .i64 (if b then 4 else 3)) ∧
      FreEnd gb b Y w' := by
  have hc2 : (c : Int) < (cl : Int) := by omega
  have HS : Hid (∀ n, FreS gb ir ic cl ib lb hb c place code (w.drewN n)) := hS
  have HY : Hid (∀ w2, Y w2 → FreS gb ir ic cl ib lb hb c place code w2 ∧ w2.frozen? ⟨gb, 4, none⟩ = false) := hY
  clear hS hY
  go_enter Tryz.func46, Tryz.ntmps46
  go_wp2_with fail
  refine wp_region_noPanic ?_
  refine wp_region_held_drew (S := FreS gb ir ic cl ib lb hb c place code) (by kernel_rfl) (HS.out 1) (fun _ => ?_)
  refine wpAnyH_take (i := 0) (v := ?_) rfl (by kernel_rfl) (by kernel_rfl) (by kernel_rfl) (fun _ _ _ h => h) (Or.inl ⟨by rfl, ?_⟩) (HS.out 1) ?_
  rotate_left
  (intro w hSw; obtain ⟨s0, s1, s2, s3, s4, s5, s6⟩ := hSw; go_simp)
  try with_reducible rfl
  simp only [Act.put]
  refine wpAnyH_take (i := 1) (v := ?_) rfl (by kernel_rfl) (by kernel_rfl) (by kernel_rfl) (fun _ _ _ h => h) (Or.inl ⟨by rfl, ?_⟩) (HS.out 1) ?_
  rotate_left
  (intro w hSw; obtain ⟨s0, s1, s2, s3, s4, s5, s6⟩ := hSw; go_simp)
  try with_reducible rfl
  simp only [Act.put]
  refine wpAnyH_take (i := 2) (v := ?_) rfl (by kernel_rfl) (by kernel_rfl) (by kernel_rfl) (fun _ _ _ h => h) (Or.inl ⟨by rfl, ?_⟩) (HS.out 1) ?_
  rotate_left
  (intro w hSw; obtain ⟨s0, s1, s2, s3, s4, s5, s6⟩ := hSw; go_simp)
  try with_reducible rfl
  simp only [Act.put]
  refine wpAnyH_take (i := 3) (v := ?_) rfl (by kernel_rfl) (by kernel_rfl) (by kernel_rfl) (fun _ _ _ h => h) (Or.inl ⟨by rfl, ?_⟩) (HS.out 1) ?_
  rotate_left
  (intro w hSw; obtain ⟨s0, s1, s2, s3, s4, s5, s6⟩ := hSw; go_simp)
  try with_reducible rfl
  simp only [Act.put]
  refine wpAnyH_take (i := 4) (v := ?_) rfl (by kernel_rfl) (by kernel_rfl) (by kernel_rfl) (fun _ _ _ h => h) (Or.inl ⟨by rfl, ?_⟩) (HS.out 1) ?_
  rotate_left
  (intro w hSw; obtain ⟨s0, s1, s2, s3, s4, s5, s6⟩ := hSw; go_simp)
  try with_reducible rfl
  simp only [Act.put]
  refine wpAnyH_take (i := 5) (v := ?_) rfl (by kernel_rfl) (by kernel_rfl) (by kernel_rfl) (fun _ _ _ h => h) (Or.inl ⟨by rfl, ?_⟩) (HS.out 1) ?_
  rotate_left
  (intro w hSw; obtain ⟨s0, s1, s2, s3, s4, s5, s6⟩ := hSw; go_simp)
  try with_reducible rfl
  simp only [Act.put]
  refine wpAnyH_take (i := 6) (v := ?_) rfl (by kernel_rfl) (by kernel_rfl) (by kernel_rfl) (fun _ _ _ h => h) (Or.inl ⟨by rfl, ?_⟩) (HS.out 1) ?_
  rotate_left
  (intro w hSw; obtain ⟨s0, s1, s2, s3, s4, s5, s6⟩ := hSw; go_simp)
  try with_reducible rfl
  simp only [Act.put]
  refine wpAnyH_take (i := 7) (v := ?_) rfl (by kernel_rfl) (by kernel_rfl) (by kernel_rfl) (fun _ _ _ h => h) (Or.inl ⟨by rfl, ?_⟩) (HS.out 1) ?_
  rotate_left
  (intro w hSw; obtain ⟨s0, s1, s2, s3, s4, s5, s6⟩ := hSw; go_simp)
  try with_reducible rfl
  simp only [Act.put]
  refine wpAnyH_take (i := 8) (v := ?_) rfl (by kernel_rfl) (by kernel_rfl) (by kernel_rfl) (fun _ _ _ h => h) (Or.inl ⟨by rfl, ?_⟩) (HS.out 1) ?_
  rotate_left
  (intro w hSw; obtain ⟨s0, s1, s2, s3, s4, s5, s6⟩ := hSw; go_simp)
  try with_reducible rfl
  simp only [Act.put]
  refine wpAnyH_take (i := 9) (v := ?_) rfl (by kernel_rfl) (by kernel_rfl) (by kernel_rfl) (fun _ _ _ h => h) (Or.inl ⟨by rfl, ?_⟩) (HS.out 1) ?_
  rotate_left
  (intro w hSw; obtain ⟨s0, s1, s2, s3, s4, s5, s6⟩ := hSw; go_simp)
  try with_reducible rfl
  simp only [Act.put]
  refine wpAnyH_take (i := 10) (v := ?_) rfl (by kernel_rfl) (by kernel_rfl) (by kernel_rfl) (fun _ _ _ h => h) (Or.inl ⟨by rfl, ?_⟩) (HS.out 1) ?_
  rotate_left
  (intro w hSw; obtain ⟨s0, s1, s2, s3, s4, s5, s6⟩ := hSw; go_simp)
  try with_reducible rfl
  simp only [Act.put]
  refine wpAnyH_take (i := 11) (v := ?_) rfl (by kernel_rfl) (by kernel_rfl) (by kernel_rfl) (fun _ _ _ h => h) (Or.inl ⟨by rfl, ?_⟩) (HS.out 1) ?_
  rotate_left
  (intro w hSw; obtain ⟨s0, s1, s2, s3, s4, s5, s6⟩ := hSw; go_simp)
  try with_reducible rfl
  simp only [Act.put]
  refine wpAnyH_take (i := 12) (v := ?_) rfl (by kernel_rfl) (by kernel_rfl) (by kernel_rfl) (fun _ _ _ h => h) (Or.inl ⟨by rfl, ?_⟩) (HS.out 1) ?_
  rotate_left
  (intro w hSw; obtain ⟨s0, s1, s2, s3, s4, s5, s6⟩ := hSw; go_simp)
  try with_reducible rfl
  simp only [Act.put]
  refine wpAnyH_take (i := 13) (v := ?_) rfl (by kernel_rfl) (by kernel_rfl) (by kernel_rfl) (fun _ _ _ h => h) (Or.inl ⟨by rfl, ?_⟩) (HS.out 1) ?_
  rotate_left
  (intro w hSw; obtain ⟨s0, s1, s2, s3, s4, s5, s6⟩ := hSw; go_simp)
  try with_reducible rfl
  simp only [Act.put]
  refine wpAnyH_take (i := 14) (v := ?_) rfl (by kernel_rfl) (by kernel_rfl) (by kernel_rfl) (fun _ _ _ h => h) (Or.inl ⟨by rfl, ?_⟩) (HS.out 1) ?_
  rotate_left
  (intro w hSw; obtain ⟨s0, s1, s2, s3, s4, s5, s6⟩ := hSw; go_simp)
  try with_reducible rfl
  simp only [Act.put]
  refine wpAnyH_take (i := 15) (v := ?_) rfl (by kernel_rfl) (by kernel_rfl) (by kernel_rfl) (fun _ _ _ h => h) (Or.inl ⟨by rfl, ?_⟩) (HS.out 1) ?_
  rotate_left
  (intro w hSw; obtain ⟨s0, s1, s2, s3, s4, s5, s6⟩ := hSw; go_simp)
  try with_reducible rfl
  simp only [Act.put]
  refine wpAnyH_take (i := 16) (v := ?_) rfl (by kernel_rfl) (by kernel_rfl) (by kernel_rfl) (fun _ _ _ h => h) (Or.inl ⟨by rfl, ?_⟩) (HS.out 1) ?_
  rotate_left
  (intro w hSw; obtain ⟨s0, s1, s2, s3, s4, s5, s6⟩ := hSw; go_simp)
  try with_reducible rfl
  simp only [Act.put]
  refine wpAnyH_take (i := 17) (v := ?_) rfl (by kernel_rfl) (by kernel_rfl) (by kernel_rfl) (fun _ _ _ h => h) (Or.inl ⟨by rfl, ?_⟩) (HS.out 1) ?_
  rotate_left
  (intro w hSw; obtain ⟨s0, s1, s2, s3, s4, s5, s6⟩ := hSw; go_simp)
  try with_reducible rfl
  simp only [Act.put]
  refine wpAnyH_take (i := 18) (v := ?_) rfl (by kernel_rfl) (by kernel_rfl) (by kernel_rfl) (fun _ _ _ h => h) (Or.inl ⟨by rfl, ?_⟩) (HS.out 1) ?_
  rotate_left
  (intro w hSw; obtain ⟨s0, s1, s2, s3, s4, s5, s6⟩ := hSw; go_simp)
  try with_reducible rfl
  simp only [Act.put]
  refine wpAnyH_take (i := 19) (v := ?_) rfl (by kernel_rfl) (by kernel_rfl) (by kernel_rfl) (fun _ _ _ h => h) (Or.inl ⟨by rfl, ?_⟩) (HS.out 1) ?_
  rotate_left
  (intro w hSw; obtain ⟨s0, s1, s2, s3, s4, s5, s6⟩ := hSw; go_simp)
  try with_reducible rfl
  simp only [Act.put]
  refine wpAnyH_take (i := 20) (v := ?_) rfl (by kernel_rfl) (by kernel_rfl) (by kernel_rfl) (fun _ _ _ h => h) (Or.inl ⟨by rfl, ?_⟩) (HS.out 1) ?_
  rotate_left
  (intro w hSw; obtain ⟨s0, s1, s2, s3, s4, s5, s6⟩ := hSw; go_simp)
  try with_reducible rfl
  simp only [Act.put]
  refine wpAnyH_take (i := 21) (v := ?_) rfl (by kernel_rfl) (by kernel_rfl) (by kernel_rfl) (fun _ _ _ h => h) (Or.inl ⟨by rfl, ?_⟩) (HS.out 1) ?_
  rotate_left
  (intro w hSw; obtain ⟨s0, s1, s2, s3, s4, s5, s6⟩ := hSw; go_simp)
  try with_reducible rfl
  simp only [Act.put]
  refine wpAnyH_take (i := 22) (v := ?_) rfl (by kernel_rfl) (by kernel_rfl) (by kernel_rfl) (fun _ _ _ h => h) (Or.inl ⟨by rfl, ?_⟩) (HS.out 1) ?_
  rotate_left
  (intro w hSw; obtain ⟨s0, s1, s2, s3, s4, s5, s6⟩ := hSw; go_simp)
  try with_reducible rfl
  simp only [Act.put]
  refine wpAnyH_ready (rs := [23]) (by kernel_rfl) (by simp) ?_
  refine AllReadyH.cons rfl (fun K hK => ?_) AllReadyH.nil
  go_simp
  refine (hl 1).mono ?_
  rintro e w2 ⟨rfl, hy⟩
  have yS := (HY.out w2 hy).1
  have yf := (HY.out w2 hy).2
  have y4 := yS.2.1
  have YS : Hid (FreS gb ir ic cl ib lb hb c place code w2) := yS
  clear yS
  go_wp2_with fail
  refine hK.out _ _ YS.out (fun _ => ?_)
  clear hK K
  refine wpAnyH_take (i := 24) (v := ?_) rfl (by kernel_rfl) (by kernel_rfl) (by kernel_rfl) (fun _ _ _ h => h) (Or.inl ⟨by rfl, ?_⟩) YS.out ?_
  rotate_left
  (intro w hSw; obtain ⟨s0, s1, s2, s3, s4, s5, s6⟩ := hSw; go_simp)
  try with_reducible rfl
  simp only [Act.put]
  refine wpAnyH_done (by kernel_rfl) (NoPanic.normal ?_) _
  cases b
  · go_wp2_with fail
    go_ret
    exact ⟨rfl, _, hy, .inl ⟨rfl, rfl⟩⟩
  · go_wp2_with fail
    go_ret
    exact ⟨rfl, w2, hy, .inr ⟨rfl, rfl⟩⟩

end Go.Proofs.YtjhifhoniimfgaaGreat

/-
  The core does a frame of the urgent lane, on a gate in memory.
-/
namespace Go.Proofs.YtjhifhoniimfgaaGreat
open Go.RowKit

/-- Behind what a frame says: the gate in its next state; what was taken lies where it lay; of the gate only accounts turned. -/
def Aft (own : Nat → Nat) (T : Nat) (w : World) (B : GB) (s' : St) (N : Nat) (place c : Int) (fr : ByteArray) (W : World) : Prop :=
  ∃ own' hb, PG own' T W { B with hb := hb } s' N ∧ Same own own' w ∧ own' w.heap.size = 0 ∧ w.heap.size < W.heap.size ∧ Keep (AccOut own T) w W ∧ W.heap[w.heap.size]? = some (takO place c fr)

theorem gAft {own : Nat → Nat} {T : Nat} {w : World} {B : GB} {s : St} {N : Nat} (h : PG own T w B s N) (hk : Ok s N) (hN : N < 1099511627776) (hT : 0 < T) (i : Nat) (hi : i < 2) (place c : Int) (fr : ByteArray) (n : Nat) :
    Calls Tryz.prog 64 #[.pointer (some ⟨B.gb, 0, none⟩), .int .i64 i, .agg #[.int .i64 place, .int .i64 c, .string fr]] ((w.alloc (takO place c fr)).drewN n) fun e w' =>
      e = .returned (.agg #[.int .i64 place, .int .i64 (doesS s i fr).1]) ∧ Aft own T w B (doesS s i fr).2 (N + 1) place c fr w' := by
  have k0 : Keep (fun _ => True) w ((w.alloc (takO place c fr)).drewN n) := ((Keep.refl _ w).alloc _).drewN n
  have hP : PG (ext own w.heap.size 0) T ((w.alloc (takO place c fr)).drewN n) B s N := h.keep hk.cl.2 hk.na.2 k0 (fun _ _ _ _ => trivial) (Same.ext own w 0)
  have t0 : ((w.alloc (takO place c fr)).drewN n).heap[w.heap.size]? = some (takO place c fr) := heap_alloc_new w _
  refine (gAnswer hP hk hN hT i hi place c fr).mono ?_
  rintro e w' ⟨rfl, own', B', g1, ⟨hb, rfl⟩, g3, g4⟩
  have lt0 := block_lt t0
  refine ⟨rfl, own', hb, g1, (Same.ext own w 0).trans g3 k0.size, ?_, Nat.lt_of_lt_of_le lt0 g4.size, ?_, g4.get t0 (Or.inl (by rw [ext_ge (Nat.le_refl _)]; omega))⟩
  · rw [g3 _ lt0, ext_ge (Nat.le_refl _)]
  · refine (k0.mono (T := AccOut own T) (fun _ _ _ => trivial)).trans' g4 (fun b hb hO => ?_)
    unfold AccOut at hO ⊢
    rw [ext_lt hb]; exact hO

theorem does_ring (s : St) (i : Nat) (fr : ByteArray) : (doesS s i fr).2.ring = s.ring ∧ (doesS s i fr).2.acks = s.acks ∧ (doesS s i fr).2.cl = s.cl ∧ (doesS s i fr).2.an = s.an ∧ (doesS s i fr).2.na = s.na ∧ (doesS s i fr).2.held = s.held := by
  unfold doesS
  rw [do_same]
  exact ⟨rfl, rfl, rfl, rfl, rfl, rfl⟩

theorem gRush {own : Nat → Nat} {T : Nat} {w : World} {B : GB} {s : St} {N : Nat} (h : PG own T w B s N) (hk : Ok s N) (hN : N < 1099511627776) (hT : 0 < T) (place : Int) (c : Nat) (hc : c < s.cl) (fr : ByteArray) :
    Calls Tryz.prog 45 #[.pointer (some ⟨B.gb, 0, none⟩), .agg #[.int .i64 place, .int .i64 c, .string fr]] w fun e w' =>
      e = .returned (.int .i64 1) ∧ GoesP own T w B ((doesS s 1 fr).2.ack c (place, (doesS s 1 fr).1)) (N + 1) w' := by
  have c0 := cellAt (i := 0) h.gate rfl
  have hc8 := hk.cl.2
  obtain ⟨lb, sb, tt, v, p⟩ := h.box c hc
  have hbox := h.boxAt c hc
  obtain ⟨va, vc, hv⟩ := p.ack.slice
  have b1 := cellAt (i := 1) p.box rfl
  have l1 := block_lt p.box
  have hacks := hk.acks c
  obtain ⟨e1, e2, e3, e4, e5, e6⟩ := does_ring s 1 fr
  generalize hd : doesS s 1 fr = d at *
  rw [hv] at b1
  have hrow : ∀ b, v.ownBlock = some b → b ≠ B.ib c ∧ b ≠ lb := fun b hb => by
    rcases p.ack.2 with ⟨q, _⟩ | ⟨g, cap, cur, q, _, q1, _⟩
    · rw [q] at hb; cases hb
    · rw [q] at hb
      simp [Value.ownBlock] at hb
      subst hb
      exact ⟨block_ne q1 p.box (by decide), block_ne q1 p.ans.ring (by decide)⟩
  have hout : ∀ b, own b = T + 10 + c → AccOut own T b := fun b hb => by unfold AccOut; omega
  refine (rush_walk B.gb B.ir B.ic s.cl (B.ib c) vc va (s.acks c) c place d.1 fr w c0 hc hbox b1 (by omega) (Aft own T w B d.2 (N + 1) place c fr) (fun n => ?_) (fun W hW => ?_) (fun b hb => ?_)).mono ?_
  · have := gAft h hk hN hT 1 (by omega) place c fr n
    rw [hd] at this
    exact this
  · obtain ⟨own', hb', g1, g2, g3, g4, g5, g6⟩ := hW
    have hb1 := g5.get p.box (hout _ p.o1)
    refine ⟨⟨cellAt (i := 0) g6 rfl, cellAt (i := 1) g6 rfl, cellAt (i := 2) g6 rfl⟩, ?_, frozenAt hb1, ?_⟩
    · rw [← hv]; exact cellAt (i := 1) hb1 rfl
    · rw [← hv]; exact p.ack.keep g5 (fun b hb => hout _ (p.o4 b hb).1)
  · rw [← hv] at hb
    exact ⟨Nat.ne_of_lt (p.ack.lt b hb), (hrow b hb).1⟩
  · rintro e w' ⟨rfl, w1, w3, g3, cap3, ⟨own', hb', q1, q2, q3, q4, q5, q6⟩, ⟨a1, a2, a3⟩, rfl⟩
    refine ⟨rfl, ?_⟩
    rw [← hv] at a2 a3
    have l1' : B.ib c < w1.heap.size := Nat.lt_of_lt_of_le l1 q5.size
    have l2 := p.ans.lt
    have hb1 := q5.get p.box (hout _ p.o1)
    have an1 : PAns w1 lb sb s.an tt (s.ring c) := p.ans.keep q5 (hout _ p.o2) (hout _ p.o3)
    have nb : B.ib c ≠ lb := block_ne p.box p.ans.ring (by decide)
    have nb2 : B.ib c ≠ sb := by obtain ⟨cs, q, _⟩ := p.ans.slots; exact block_ne p.box q (by decide)
    have hvb : v.ownBlock ≠ some (B.ib c) := fun e => (hrow _ e).1 rfl
    have hb3 := a2.get hb1 hvb
    have an3 : PAns w3 lb sb s.an tt (s.ring c) := an1.keep a2 (fun e => (hrow _ e).2 rfl) (fun e => (p.o4 _ e).2 rfl)
    have kS : Keep (fun b => b ≠ B.ib c) w3 (w3.setCell ⟨B.ib c, 1, none⟩ (.slice (some ⟨g3, 0, none⟩) ((s.acks c).length + 1) cap3)) := (Keep.refl _ w3).setCell _ (fun _ h => h rfl) _
    have hb4 : (w3.setCell ⟨B.ib c, 1, none⟩ (.slice (some ⟨g3, 0, none⟩) ((s.acks c).length + 1) cap3)).heap[B.ib c]? = some (.cells #[.pointer (some ⟨lb, 0, none⟩), .slice (some ⟨g3, 0, none⟩) ((s.acks c).length + 1) cap3] 87 (0, 0)) := by
      rw [heap_setCell_at _ hb3]; simp
    have o1' : own' (B.ib c) = T + 10 + c := by rw [q2 _ l1]; exact p.o1
    have o2' : own' lb = T + 10 + c := by rw [q2 _ l2.1]; exact p.o2
    have o3' : own' sb = T + 10 + c := by rw [q2 _ l2.2]; exact p.o3
    have o4' : ∀ b, v.ownBlock = some b → own' b = T + 10 + c := fun b hb => by rw [q2 _ (p.ack.lt b hb)]; exact (p.o4 b hb).1
    have hg3 : g3 ≠ B.ib c ∧ g3 ≠ lb ∧ g3 ≠ sb := by
      rcases a3 with e | e
      · exact ⟨(hrow _ e).1, (hrow _ e).2, (p.o4 _ e).2⟩
      · have := q5.size; omega
    have kk : Keep (fun b => own' b ≠ T + 10 + c) w1 (w3.setCell ⟨B.ib c, 1, none⟩ (.slice (some ⟨g3, 0, none⟩) ((s.acks c).length + 1) cap3)) :=
      (a2.mono (T := fun b => own' b ≠ T + 10 + c) (fun b _ hb e => hb (o4' b e))).trans' kS (fun b _ hb e => hb (e ▸ o1'))
    have a1' : AckAt (w3.setCell ⟨B.ib c, 1, none⟩ (.slice (some ⟨g3, 0, none⟩) ((s.acks c).length + 1) cap3)) (.slice (some ⟨g3, 0, none⟩) ((s.acks c).length + 1) cap3) (s.acks c ++ [(place, d.1)]) := a1.keep kS (fun b hb => by simp [Value.ownBlock] at hb; subst hb; exact hg3.1)
    have hbox' : InboxR (ext own' w1.heap.size (T + 10 + c)) (T + 10 + c) (w3.setCell ⟨B.ib c, 1, none⟩ (.slice (some ⟨g3, 0, none⟩) ((s.acks c).length + 1) cap3)) (B.ib c) d.2.an (N + 1) (d.2.ring c) (s.acks c ++ [(place, d.1)]) := by
      rw [e1, e4]
      refine ⟨lb, sb, tt, _, ⟨hb4, an3.keep kS (Ne.symm nb) (Ne.symm nb2), a1', ?_, ?_, ?_, fun b hb => ?_, by have := p.le; omega⟩⟩
      · rw [ext_lt l1']; exact o1'
      · rw [ext_lt an1.lt.1]; exact o2'
      · rw [ext_lt an1.lt.2]; exact o3'
      · simp [Value.ownBlock] at hb
        subst hb
        refine ⟨?_, hg3.2.2⟩
        rcases a3 with e | e
        · rw [ext_lt (Nat.lt_of_lt_of_le (p.ack.lt _ e) q5.size)]; exact o4' _ e
        · exact ext_ge e
    have hfin := q1.rebox (by rw [e3]; exact hk.cl.2) c (by rw [e3]; exact hc) (d.2.ring c) (s.acks c ++ [(place, d.1)]) hbox' kk
    rw [upN_self] at hfin
    refine ⟨_, _, ?_, ⟨hb', rfl⟩, q2.trans (Same.ext own' w1 (T + 10 + c)) q5.size, ?_⟩
    · unfold St.ack
      rw [e2] at hfin ⊢
      exact hfin
    · refine (q5.mono (T := Out own T) (fun b _ hb => ?_)).trans' kk (fun b hb hO => ?_)
      · unfold Out at hb; unfold AccOut; omega
      · rw [q2 b hb]; unfold Out at hO; omega

end Go.Proofs.YtjhifhoniimfgaaGreat

