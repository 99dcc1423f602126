import Derived.Test.YtjhifhoniimfgaaGreatG31
import Derived.Maps.AppendAt
/-
  The document's Claim and Publish: the walks.
-/
namespace Go.Proofs.YtjhifhoniimfgaaGreat
open Go.RowKit

theorem info_place : ∃ i, Tryz.prog.info? 118 = some i ∧ i.bytes = 32 ∧ i.size = 3 ∧ i.zero = some (.agg #[.int .i64 0, .bool false, .string ByteArray.empty]) := by
  have e : (Tryz.prog.info? 118).map (fun i => (i.bytes, i.size, i.zero)) = some (32, 3, some (.agg #[.int .i64 0, .bool false, .string ByteArray.empty])) := by kernel_rfl
  obtain ⟨i, hi, he⟩ := Option.map_eq_some_iff.1 e
  simp only [Prod.mk.injEq] at he
  exact ⟨i, hi, he.1, he.2.1, he.2.2⟩

theorem cell_three_new (w : World) (x y z : Value) (t : TypeId) : ∀ j u, [x, y, z][j]? = some u → (w.alloc (.cells #[x, y, z] t)).cell? ((⟨w.heap.size, 0, none⟩ : Addr).add j) = some u := by
  intro j u hj
  match j, hj with
  | 0, hj => simp at hj; subst hj; simp [Addr.add]
  | 1, hj => simp at hj; subst hj; simp [Addr.add]
  | 2, hj => simp at hj; subst hj; simp [Addr.add]

theorem owns_slice {w : World} {e : TypeId} {v : Value} {k : Nat} {xs : List Value} (h : w.ownsRow 0 e 3 v (k + 1) xs) : ∃ g cap, v = .slice (some ⟨g, 0, none⟩) (k + 1) cap := by
  rcases h.2 with ⟨_, h2⟩ | ⟨g, cap, cur, h2, _⟩
  · omega
  · exact ⟨g, cap, h2⟩

set_option maxHeartbeats 400000 in
theorem rClaim_nil (client lane : Int) (w : World) :
    Calls Tryz.prog 22 #[.pointer none, .int .i64 client, .int .i64 lane] w fun e w' => e = .returned (.tuple #[.int .i64 0, .int .i64 1]) ∧ w = w' := by
  go_enter Tryz.func22, Tryz.ntmps22
  go_wp2_with (go_at_call 52; refine (refuses_nil _ _ _).mono ?_; rintro e w' ⟨rfl, rfl⟩)
  go_ret2
  exact ⟨rfl, rfl⟩

set_option maxHeartbeats 400000 in
theorem rClaim_no (rb : Nat) (cl client lane : Int) (cs : Array Value) (w : World) (h : w.heap[rb]? = some (.cells cs 115 (0, 0))) (h0 : cs[0]? = some (.int .i64 cl)) (hr : (refuse cl client lane != 0) = true) :
    Calls Tryz.prog 22 #[.pointer (some ⟨rb, 0, none⟩), .int .i64 client, .int .i64 lane] w fun e w' => e = .returned (.tuple #[.int .i64 0, .int .i64 (refuse cl client lane)]) ∧ w = w' := by
  have hc := refuses_any rb cl client lane _ w h h0
  clear h h0
  go_enter Tryz.func22, Tryz.ntmps22
  go_wp2_with (go_at_call 52; refine hc.mono ?_; rintro e w' ⟨rfl, rfl⟩)
  go_ret2
  exact ⟨rfl, rfl⟩

set_option maxHeartbeats 400000 in
theorem rPublish_nil (client lane place : Int) (s : ByteArray) (w : World) :
    Calls Tryz.prog 53 #[.pointer none, .int .i64 client, .int .i64 lane, .int .i64 place, .string s] w fun e w' => e = .returned (.int .i64 1) ∧ w = w' := by
  go_enter Tryz.func53, Tryz.ntmps53
  go_wp2_with (go_at_call 52; refine (refuses_nil _ _ _).mono ?_; rintro e w' ⟨rfl, rfl⟩)
  go_ret
  exact ⟨rfl, rfl⟩

set_option maxHeartbeats 400000 in
theorem rPublish_no (rb : Nat) (cl client lane place : Int) (s : ByteArray) (cs : Array Value) (w : World) (h : w.heap[rb]? = some (.cells cs 115 (0, 0))) (h0 : cs[0]? = some (.int .i64 cl)) (hr : (refuse cl client lane != 0) = true) :
    Calls Tryz.prog 53 #[.pointer (some ⟨rb, 0, none⟩), .int .i64 client, .int .i64 lane, .int .i64 place, .string s] w fun e w' => e = .returned (.int .i64 (refuse cl client lane)) ∧ w = w' := by
  have hc := refuses_any rb cl client lane _ w h h0
  clear h h0
  go_enter Tryz.func53, Tryz.ntmps53
  go_wp2_with (go_at_call 52; refine hc.mono ?_; rintro e w' ⟨rfl, rfl⟩)
  go_ret
  exact ⟨rfl, rfl⟩

set_option maxHeartbeats 1000000 in
theorem rClaim_room0 (rb m t n cap : Nat) (a : Option Addr) (client : Int) (xs : List Value) (w : World) (hc : Calls Tryz.prog 52 #[.pointer (some ⟨rb, 0, none⟩), .int .i64 client, .int .i64 0] w fun e w' => e = .returned (.int .i64 0) ∧ w = w')
    (c29 : w.cell? ⟨rb, 29, none⟩ = some (.bool false)) (c0 : w.cell? ⟨rb, 7, none⟩ = some (.int .i64 n)) (c1 : w.cell? ⟨rb, 8, none⟩ = some (.slice a m cap)) (c2 : w.cell? ⟨rb, 9, none⟩ = some (.int .i64 t)) (z1 : w.frozen? ⟨rb, 8, none⟩ = false)
    (hown : w.ownsRow 0 118 3 (.slice a m cap) m xs) (hrb : (Value.slice a m cap).ownBlock ≠ some rb) (hm : m < t + n) (htm : t ≤ m) (hb : m < 1099511627776) :
    Calls Tryz.prog 22 #[.pointer (some ⟨rb, 0, none⟩), .int .i64 client, .int .i64 0] w fun e w' => e = .returned (.tuple #[.int .i64 m, .int .i64 0]) ∧
      ∃ g' cap' w3, w3.ownsRow 0 118 3 (.slice (some ⟨g', 0, none⟩) (m + 1) cap') (m + 1) (xs ++ [.int .i64 client, .bool false, .string ByteArray.empty]) ∧ Keep (fun b => (Value.slice a m cap).ownBlock ≠ some b) w w3 ∧ ((Value.slice a m cap).ownBlock = some g' ∨ w.heap.size ≤ g') ∧
        w3.setCell ⟨rb, 8, none⟩ (.slice (some ⟨g', 0, none⟩) (m + 1) cap') = w' := by
  have hlt := World.block_lt_of_cell? w _ c29
  obtain ⟨it, ht1, ht2, ht3, ht4⟩ := info_place
  have HT : Hid (Tryz.prog.info? 118 = some it ∧ it.bytes = 32 ∧ it.size = 3 ∧ it.zero = some (.agg #[.int .i64 0, .bool false, .string ByteArray.empty])) := ⟨ht1, ht2, ht3, ht4⟩
  have HO2 : Hid (w.ownsRow 0 118 3 (.slice a m cap) m xs) := hown
  have HB2 : Hid (some rb ≠ (Value.slice a m cap).ownBlock) := Ne.symm hrb
  have hd : decide ((n : Int) ≤ (m : Int) - (t : Int)) = false := decide_eq_false (by omega)
  have hwr : IntKind.i64.wrap ((m : Int) - (t : Int)) = (m : Int) - (t : Int) := by rw [IntKind.wrap_i64]; omega
  clear hown ht1 ht2 ht3 ht4 hrb
  go_enter Tryz.func22, Tryz.ntmps22
  go_wp2_with (go_at_call 52; refine hc.mono ?_; rintro e w' ⟨rfl, rfl⟩)
  go_quiet (fail)
  go_wp2_with (at_builtin; go_must (refine wpList_append_own_at _ rfl _ _ 107 rfl 0 118 it (.agg #[.int .i64 0, .bool false, .string ByteArray.empty]) 3 32 Tryz.underlying107 HT.out.1 HT.out.2.2.2 HT.out.2.2.1 HT.out.2.1 rfl (by decide) (.slice a m cap) m xs rfl (HO2.out.alloc _) ⟨w.heap.size, 0, none⟩ 1 1 [.int .i64 client, .bool false, .string ByteArray.empty] rfl rfl (cell_three_new _ _ _ _ _) (fun x hx => by simp at hx; rcases hx with rfl | rfl | rfl <;> rfl) (by unfold maxLen; omega) (by omega) (by omega) ?_))
  intro v3 w3 hown3 hg3 _ hb3
  obtain ⟨g', cap', hv3⟩ := owns_slice hown3
  rw [hv3] at hown3 hb3 ⊢
  have k0 : Keep (fun b => (Value.slice a m cap).ownBlock ≠ some b) w w3 := ⟨hg3.os, hg3.tape, hg3.output, Nat.le_trans (by simp) hg3.size, fun b hb1 hb2 => by
    rw [hg3.block b (by simp; omega) (fun e => hb2 e.symm)]
    exact Below.heap_alloc _ _ _ (by simpa using hb1)⟩
  have k1 : w3.cell? ⟨rb, 8, none⟩ = some (.slice a m cap) := by
    rw [World.cell?_of_block (w := w) (k0.block rb hlt (fun e => HB2.out e.symm))]; exact c1
  have k2 : w3.frozen? ⟨rb, 8, none⟩ = false := by
    rw [World.frozen?_of_block (w := w) (k0.block rb hlt (fun e => HB2.out e.symm))]; exact z1
  have HF : Hid (w3.ownsRow 0 118 3 (.slice (some ⟨g', 0, none⟩) (m + 1) cap') (m + 1) (xs ++ [.int .i64 client, .bool false, .string ByteArray.empty])) := hown3
  have HK : Hid (Keep (fun b => (Value.slice a m cap).ownBlock ≠ some b) w w3) := k0
  have HB3 : Hid ((Value.slice a m cap).ownBlock = some g' ∨ w.heap.size ≤ g') := by
    rcases hb3 with h | h
    · left; exact h.symm
    · right; simp [Value.ownBlock] at h; omega
  clear hown3 hg3 hb3 hv3 HO2 hc c0 c1 c2 c29 z1 k0
  go_wp2
  go_ret2
  exact ⟨by simp, g', cap', w3, HF.out, HK.out, HB3.out, rfl⟩

set_option maxHeartbeats 1000000 in
theorem rClaim_full0 (rb m t n cap : Nat) (a : Option Addr) (client : Int) (w : World) (hc : Calls Tryz.prog 52 #[.pointer (some ⟨rb, 0, none⟩), .int .i64 client, .int .i64 0] w fun e w' => e = .returned (.int .i64 0) ∧ w = w')
    (c29 : w.cell? ⟨rb, 29, none⟩ = some (.bool false)) (c0 : w.cell? ⟨rb, 7, none⟩ = some (.int .i64 n)) (c1 : w.cell? ⟨rb, 8, none⟩ = some (.slice a m cap)) (c2 : w.cell? ⟨rb, 9, none⟩ = some (.int .i64 t)) (hm : t + n ≤ m) (hb : m < 1099511627776) :
    Calls Tryz.prog 22 #[.pointer (some ⟨rb, 0, none⟩), .int .i64 client, .int .i64 0] w fun e w' => e = .returned (.tuple #[.int .i64 0, .int .i64 6]) ∧ ∃ q, w' = w.drewN q := by
  have hd : decide ((n : Int) ≤ (m : Int) - (t : Int)) = true := decide_eq_true (by omega)
  have hwr : IntKind.i64.wrap ((m : Int) - (t : Int)) = (m : Int) - (t : Int) := by rw [IntKind.wrap_i64]; omega
  go_enter Tryz.func22, Tryz.ntmps22
  go_wp2_with (go_at_call 52; refine hc.mono ?_; rintro e w' ⟨rfl, rfl⟩)
  go_quiet (fail)
  go_wp2
  go_ret2
  exact ⟨rfl, _, rfl⟩

set_option maxHeartbeats 1000000 in
theorem rClaim_shut0 (rb : Nat) (client : Int) (w : World) (hc : Calls Tryz.prog 52 #[.pointer (some ⟨rb, 0, none⟩), .int .i64 client, .int .i64 0] w fun e w' => e = .returned (.int .i64 0) ∧ w = w')
    (c29 : w.cell? ⟨rb, 29, none⟩ = some (.bool true)) :
    Calls Tryz.prog 22 #[.pointer (some ⟨rb, 0, none⟩), .int .i64 client, .int .i64 0] w fun e w' => e = .returned (.tuple #[.int .i64 0, .int .i64 5]) ∧ w = w' := by
  go_enter Tryz.func22, Tryz.ntmps22
  go_wp2_with (go_at_call 52; refine hc.mono ?_; rintro e w' ⟨rfl, rfl⟩)
  go_ret2
  exact ⟨rfl, rfl⟩

set_option maxHeartbeats 1000000 in
theorem rPublish_yes0 (rb m p cap g : Nat) (x : Int) (s0 s : ByteArray) (client : Int) (w : World) (hc : Calls Tryz.prog 52 #[.pointer (some ⟨rb, 0, none⟩), .int .i64 client, .int .i64 0] w fun e w' => e = .returned (.int .i64 0) ∧ w = w')
    (c1 : w.cell? ⟨rb, 8, none⟩ = some (.slice (some ⟨g, 0, none⟩) m cap)) (hp : p < m) (d0 : w.cell? ⟨g, p * 3, none⟩ = some (.int .i64 x)) (d1 : w.cell? ⟨g, p * 3 + 1, none⟩ = some (.bool false)) (d2 : w.cell? ⟨g, p * 3 + 2, none⟩ = some (.string s0))
    (z1 : w.frozen? ⟨g, p * 3 + 1, none⟩ = false) (z2 : w.frozen? ⟨g, p * 3 + 2, none⟩ = false) (hq : (x != client) = false) :
    Calls Tryz.prog 53 #[.pointer (some ⟨rb, 0, none⟩), .int .i64 client, .int .i64 0, .int .i64 p, .string s] w fun e w' => e = .returned (.int .i64 0) ∧
      (w.setCell ⟨g, p * 3 + 1, none⟩ (.bool true)).setCell ⟨g, p * 3 + 2, none⟩ (.string s) = w' := by
  have hpi : (p : Int) < (m : Int) := by omega
  go_enter Tryz.func53, Tryz.ntmps53
  go_wp2_with (go_at_call 52; refine hc.mono ?_; rintro e w' ⟨rfl, rfl⟩)
  go_ret
  exact ⟨rfl, rfl⟩

set_option maxHeartbeats 1000000 in
theorem rPublish_out0 (rb m cap : Nat) (a : Option Addr) (client place : Int) (s : ByteArray) (w : World) (hc : Calls Tryz.prog 52 #[.pointer (some ⟨rb, 0, none⟩), .int .i64 client, .int .i64 0] w fun e w' => e = .returned (.int .i64 0) ∧ w = w')
    (c1 : w.cell? ⟨rb, 8, none⟩ = some (.slice a m cap)) (hp : place < 0 ∨ (m : Int) ≤ place) :
    Calls Tryz.prog 53 #[.pointer (some ⟨rb, 0, none⟩), .int .i64 client, .int .i64 0, .int .i64 place, .string s] w fun e w' => e = .returned (.int .i64 7) ∧ w = w' := by
  by_cases hp0 : place < 0
  · clear hp
    go_enter Tryz.func53, Tryz.ntmps53
    go_wp2_with (go_at_call 52; refine hc.mono ?_; rintro e w' ⟨rfl, rfl⟩)
    go_ret
    exact ⟨rfl, rfl⟩
  · have hp1 : (m : Int) ≤ place := by omega
    clear hp
    go_enter Tryz.func53, Tryz.ntmps53
    go_wp2_with (go_at_call 52; refine hc.mono ?_; rintro e w' ⟨rfl, rfl⟩)
    go_ret
    exact ⟨rfl, rfl⟩

set_option maxHeartbeats 1000000 in
theorem rPublish_not0 (rb m p cap g : Nat) (x : Int) (f : Bool) (s : ByteArray) (client : Int) (w : World) (hc : Calls Tryz.prog 52 #[.pointer (some ⟨rb, 0, none⟩), .int .i64 client, .int .i64 0] w fun e w' => e = .returned (.int .i64 0) ∧ w = w')
    (c1 : w.cell? ⟨rb, 8, none⟩ = some (.slice (some ⟨g, 0, none⟩) m cap)) (hp : p < m) (d0 : w.cell? ⟨g, p * 3, none⟩ = some (.int .i64 x)) (d1 : w.cell? ⟨g, p * 3 + 1, none⟩ = some (.bool f)) (hq : (x != client) = true ∨ ((x != client) = false ∧ f = true)) :
    Calls Tryz.prog 53 #[.pointer (some ⟨rb, 0, none⟩), .int .i64 client, .int .i64 0, .int .i64 p, .string s] w fun e w' => e = .returned (.int .i64 7) ∧ w = w' := by
  have hpi : (p : Int) < (m : Int) := by omega
  rcases hq with hq | ⟨hq, rfl⟩
  all_goals
    go_enter Tryz.func53, Tryz.ntmps53
    go_wp2_with (go_at_call 52; refine hc.mono ?_; rintro e w' ⟨rfl, rfl⟩)
    go_ret
    exact ⟨rfl, rfl⟩

set_option maxHeartbeats 1000000 in
theorem rClaim_room1 (rb m t n cap : Nat) (a : Option Addr) (client : Int) (xs : List Value) (w : World) (hc : Calls Tryz.prog 52 #[.pointer (some ⟨rb, 0, none⟩), .int .i64 client, .int .i64 1] w fun e w' => e = .returned (.int .i64 0) ∧ w = w')
    (c29 : w.cell? ⟨rb, 29, none⟩ = some (.bool false)) (c0 : w.cell? ⟨rb, 10, none⟩ = some (.int .i64 n)) (c1 : w.cell? ⟨rb, 11, none⟩ = some (.slice a m cap)) (c2 : w.cell? ⟨rb, 12, none⟩ = some (.int .i64 t)) (z1 : w.frozen? ⟨rb, 11, none⟩ = false)
    (hown : w.ownsRow 0 118 3 (.slice a m cap) m xs) (hrb : (Value.slice a m cap).ownBlock ≠ some rb) (hm : m < t + n) (htm : t ≤ m) (hb : m < 1099511627776) :
    Calls Tryz.prog 22 #[.pointer (some ⟨rb, 0, none⟩), .int .i64 client, .int .i64 1] w fun e w' => e = .returned (.tuple #[.int .i64 m, .int .i64 0]) ∧
      ∃ g' cap' w3, w3.ownsRow 0 118 3 (.slice (some ⟨g', 0, none⟩) (m + 1) cap') (m + 1) (xs ++ [.int .i64 client, .bool false, .string ByteArray.empty]) ∧ Keep (fun b => (Value.slice a m cap).ownBlock ≠ some b) w w3 ∧ ((Value.slice a m cap).ownBlock = some g' ∨ w.heap.size ≤ g') ∧
        w3.setCell ⟨rb, 11, none⟩ (.slice (some ⟨g', 0, none⟩) (m + 1) cap') = w' := by
  have hlt := World.block_lt_of_cell? w _ c29
  obtain ⟨it, ht1, ht2, ht3, ht4⟩ := info_place
  have HT : Hid (Tryz.prog.info? 118 = some it ∧ it.bytes = 32 ∧ it.size = 3 ∧ it.zero = some (.agg #[.int .i64 0, .bool false, .string ByteArray.empty])) := ⟨ht1, ht2, ht3, ht4⟩
  have HO2 : Hid (w.ownsRow 0 118 3 (.slice a m cap) m xs) := hown
  have HB2 : Hid (some rb ≠ (Value.slice a m cap).ownBlock) := Ne.symm hrb
  have hd : decide ((n : Int) ≤ (m : Int) - (t : Int)) = false := decide_eq_false (by omega)
  have hwr : IntKind.i64.wrap ((m : Int) - (t : Int)) = (m : Int) - (t : Int) := by rw [IntKind.wrap_i64]; omega
  clear hown ht1 ht2 ht3 ht4 hrb
  go_enter Tryz.func22, Tryz.ntmps22
  go_wp2_with (go_at_call 52; refine hc.mono ?_; rintro e w' ⟨rfl, rfl⟩)
  go_quiet (fail)
  go_wp2_with (at_builtin; go_must (refine wpList_append_own_at _ rfl _ _ 107 rfl 0 118 it (.agg #[.int .i64 0, .bool false, .string ByteArray.empty]) 3 32 Tryz.underlying107 HT.out.1 HT.out.2.2.2 HT.out.2.2.1 HT.out.2.1 rfl (by decide) (.slice a m cap) m xs rfl (HO2.out.alloc _) ⟨w.heap.size, 0, none⟩ 1 1 [.int .i64 client, .bool false, .string ByteArray.empty] rfl rfl (cell_three_new _ _ _ _ _) (fun x hx => by simp at hx; rcases hx with rfl | rfl | rfl <;> rfl) (by unfold maxLen; omega) (by omega) (by omega) ?_))
  intro v3 w3 hown3 hg3 _ hb3
  obtain ⟨g', cap', hv3⟩ := owns_slice hown3
  rw [hv3] at hown3 hb3 ⊢
  have k0 : Keep (fun b => (Value.slice a m cap).ownBlock ≠ some b) w w3 := ⟨hg3.os, hg3.tape, hg3.output, Nat.le_trans (by simp) hg3.size, fun b hb1 hb2 => by
    rw [hg3.block b (by simp; omega) (fun e => hb2 e.symm)]
    exact Below.heap_alloc _ _ _ (by simpa using hb1)⟩
  have k1 : w3.cell? ⟨rb, 11, none⟩ = some (.slice a m cap) := by
    rw [World.cell?_of_block (w := w) (k0.block rb hlt (fun e => HB2.out e.symm))]; exact c1
  have k2 : w3.frozen? ⟨rb, 11, none⟩ = false := by
    rw [World.frozen?_of_block (w := w) (k0.block rb hlt (fun e => HB2.out e.symm))]; exact z1
  have HF : Hid (w3.ownsRow 0 118 3 (.slice (some ⟨g', 0, none⟩) (m + 1) cap') (m + 1) (xs ++ [.int .i64 client, .bool false, .string ByteArray.empty])) := hown3
  have HK : Hid (Keep (fun b => (Value.slice a m cap).ownBlock ≠ some b) w w3) := k0
  have HB3 : Hid ((Value.slice a m cap).ownBlock = some g' ∨ w.heap.size ≤ g') := by
    rcases hb3 with h | h
    · left; exact h.symm
    · right; simp [Value.ownBlock] at h; omega
  clear hown3 hg3 hb3 hv3 HO2 hc c0 c1 c2 c29 z1 k0
  go_wp2
  go_ret2
  exact ⟨by simp, g', cap', w3, HF.out, HK.out, HB3.out, rfl⟩

set_option maxHeartbeats 1000000 in
theorem rClaim_full1 (rb m t n cap : Nat) (a : Option Addr) (client : Int) (w : World) (hc : Calls Tryz.prog 52 #[.pointer (some ⟨rb, 0, none⟩), .int .i64 client, .int .i64 1] w fun e w' => e = .returned (.int .i64 0) ∧ w = w')
    (c29 : w.cell? ⟨rb, 29, none⟩ = some (.bool false)) (c0 : w.cell? ⟨rb, 10, none⟩ = some (.int .i64 n)) (c1 : w.cell? ⟨rb, 11, none⟩ = some (.slice a m cap)) (c2 : w.cell? ⟨rb, 12, none⟩ = some (.int .i64 t)) (hm : t + n ≤ m) (hb : m < 1099511627776) :
    Calls Tryz.prog 22 #[.pointer (some ⟨rb, 0, none⟩), .int .i64 client, .int .i64 1] w fun e w' => e = .returned (.tuple #[.int .i64 0, .int .i64 6]) ∧ ∃ q, w' = w.drewN q := by
  have hd : decide ((n : Int) ≤ (m : Int) - (t : Int)) = true := decide_eq_true (by omega)
  have hwr : IntKind.i64.wrap ((m : Int) - (t : Int)) = (m : Int) - (t : Int) := by rw [IntKind.wrap_i64]; omega
  go_enter Tryz.func22, Tryz.ntmps22
  go_wp2_with (go_at_call 52; refine hc.mono ?_; rintro e w' ⟨rfl, rfl⟩)
  go_quiet (fail)
  go_wp2
  go_ret2
  exact ⟨rfl, _, rfl⟩

set_option maxHeartbeats 1000000 in
theorem rClaim_shut1 (rb : Nat) (client : Int) (w : World) (hc : Calls Tryz.prog 52 #[.pointer (some ⟨rb, 0, none⟩), .int .i64 client, .int .i64 1] w fun e w' => e = .returned (.int .i64 0) ∧ w = w')
    (c29 : w.cell? ⟨rb, 29, none⟩ = some (.bool true)) :
    Calls Tryz.prog 22 #[.pointer (some ⟨rb, 0, none⟩), .int .i64 client, .int .i64 1] w fun e w' => e = .returned (.tuple #[.int .i64 0, .int .i64 5]) ∧ w = w' := by
  go_enter Tryz.func22, Tryz.ntmps22
  go_wp2_with (go_at_call 52; refine hc.mono ?_; rintro e w' ⟨rfl, rfl⟩)
  go_ret2
  exact ⟨rfl, rfl⟩

set_option maxHeartbeats 1000000 in
theorem rPublish_yes1 (rb m p cap g : Nat) (x : Int) (s0 s : ByteArray) (client : Int) (w : World) (hc : Calls Tryz.prog 52 #[.pointer (some ⟨rb, 0, none⟩), .int .i64 client, .int .i64 1] w fun e w' => e = .returned (.int .i64 0) ∧ w = w')
    (c1 : w.cell? ⟨rb, 11, none⟩ = some (.slice (some ⟨g, 0, none⟩) m cap)) (hp : p < m) (d0 : w.cell? ⟨g, p * 3, none⟩ = some (.int .i64 x)) (d1 : w.cell? ⟨g, p * 3 + 1, none⟩ = some (.bool false)) (d2 : w.cell? ⟨g, p * 3 + 2, none⟩ = some (.string s0))
    (z1 : w.frozen? ⟨g, p * 3 + 1, none⟩ = false) (z2 : w.frozen? ⟨g, p * 3 + 2, none⟩ = false) (hq : (x != client) = false) :
    Calls Tryz.prog 53 #[.pointer (some ⟨rb, 0, none⟩), .int .i64 client, .int .i64 1, .int .i64 p, .string s] w fun e w' => e = .returned (.int .i64 0) ∧
      (w.setCell ⟨g, p * 3 + 1, none⟩ (.bool true)).setCell ⟨g, p * 3 + 2, none⟩ (.string s) = w' := by
  have hpi : (p : Int) < (m : Int) := by omega
  go_enter Tryz.func53, Tryz.ntmps53
  go_wp2_with (go_at_call 52; refine hc.mono ?_; rintro e w' ⟨rfl, rfl⟩)
  go_ret
  exact ⟨rfl, rfl⟩

set_option maxHeartbeats 1000000 in
theorem rPublish_out1 (rb m cap : Nat) (a : Option Addr) (client place : Int) (s : ByteArray) (w : World) (hc : Calls Tryz.prog 52 #[.pointer (some ⟨rb, 0, none⟩), .int .i64 client, .int .i64 1] w fun e w' => e = .returned (.int .i64 0) ∧ w = w')
    (c1 : w.cell? ⟨rb, 11, none⟩ = some (.slice a m cap)) (hp : place < 0 ∨ (m : Int) ≤ place) :
    Calls Tryz.prog 53 #[.pointer (some ⟨rb, 0, none⟩), .int .i64 client, .int .i64 1, .int .i64 place, .string s] w fun e w' => e = .returned (.int .i64 7) ∧ w = w' := by
  by_cases hp0 : place < 0
  · clear hp
    go_enter Tryz.func53, Tryz.ntmps53
    go_wp2_with (go_at_call 52; refine hc.mono ?_; rintro e w' ⟨rfl, rfl⟩)
    go_ret
    exact ⟨rfl, rfl⟩
  · have hp1 : (m : Int) ≤ place := by omega
    clear hp
    go_enter Tryz.func53, Tryz.ntmps53
    go_wp2_with (go_at_call 52; refine hc.mono ?_; rintro e w' ⟨rfl, rfl⟩)
    go_ret
    exact ⟨rfl, rfl⟩

set_option maxHeartbeats 1000000 in
theorem rPublish_not1 (rb m p cap g : Nat) (x : Int) (f : Bool) (s : ByteArray) (client : Int) (w : World) (hc : Calls Tryz.prog 52 #[.pointer (some ⟨rb, 0, none⟩), .int .i64 client, .int .i64 1] w fun e w' => e = .returned (.int .i64 0) ∧ w = w')
    (c1 : w.cell? ⟨rb, 11, none⟩ = some (.slice (some ⟨g, 0, none⟩) m cap)) (hp : p < m) (d0 : w.cell? ⟨g, p * 3, none⟩ = some (.int .i64 x)) (d1 : w.cell? ⟨g, p * 3 + 1, none⟩ = some (.bool f)) (hq : (x != client) = true ∨ ((x != client) = false ∧ f = true)) :
    Calls Tryz.prog 53 #[.pointer (some ⟨rb, 0, none⟩), .int .i64 client, .int .i64 1, .int .i64 p, .string s] w fun e w' => e = .returned (.int .i64 7) ∧ w = w' := by
  have hpi : (p : Int) < (m : Int) := by omega
  rcases hq with hq | ⟨hq, rfl⟩
  all_goals
    go_enter Tryz.func53, Tryz.ntmps53
    go_wp2_with (go_at_call 52; refine hc.mono ?_; rintro e w' ⟨rfl, rfl⟩)
    go_ret
    exact ⟨rfl, rfl⟩

end Go.Proofs.YtjhifhoniimfgaaGreat

/-
  The document's Poll and Acks.
-/
namespace Go.Proofs.YtjhifhoniimfgaaGreat
open Go.RowKit

set_option maxHeartbeats 400000 in
theorem rAcks_nil (client : Int) (w : World) : Calls Tryz.prog 27 #[.pointer none, .int .i64 client] w fun e w' => e = .returned (.tuple #[.slice none 0 0, .int .i64 1]) ∧ w = w' := by
  go_enter Tryz.func27, Tryz.ntmps27
  go_wp2_with (go_at_call 52; refine (refuses_nil _ _ _).mono ?_; rintro e w' ⟨rfl, rfl⟩)
  go_ret2
  exact ⟨rfl, rfl⟩

set_option maxHeartbeats 400000 in
theorem rAcks_no (rb : Nat) (cl client : Int) (cs : Array Value) (w : World) (h : w.heap[rb]? = some (.cells cs 115 (0, 0))) (h0 : cs[0]? = some (.int .i64 cl)) (hr : (refuse cl client 0 != 0) = true) :
    Calls Tryz.prog 27 #[.pointer (some ⟨rb, 0, none⟩), .int .i64 client] w fun e w' => e = .returned (.tuple #[.slice none 0 0, .int .i64 (refuse cl client 0)]) ∧ w = w' := by
  have hc := refuses_any rb cl client 0 _ w h h0
  clear h h0
  go_enter Tryz.func27, Tryz.ntmps27
  go_wp2_with (go_at_call 52; refine hc.mono ?_; rintro e w' ⟨rfl, rfl⟩)
  go_ret2
  exact ⟨rfl, rfl⟩

set_option maxHeartbeats 400000 in
theorem rAcks_yes (rb kb n k : Nat) (cl : Int) (cs : Array Value) (v : Value) (w : World) (h : w.heap[rb]? = some (.cells cs 115 (0, 0))) (h0 : cs[0]? = some (.int .i64 cl)) (h13 : cs[13]? = some (.slice (some ⟨kb, 0, none⟩) n n))
    (hk : k < n) (hr : refuse cl k 0 = 0) (hv : w.cell? ⟨kb, k * 2 + 1, none⟩ = some v) (hz : w.frozen? ⟨kb, k * 2 + 1, none⟩ = false) :
    Calls Tryz.prog 27 #[.pointer (some ⟨rb, 0, none⟩), .int .i64 k] w fun e w' => e = .returned (.tuple #[v, .int .i64 0]) ∧ w.setCell ⟨kb, k * 2 + 1, none⟩ (.slice none 0 0) = w' := by
  have hc : Calls Tryz.prog 52 #[.pointer (some ⟨rb, 0, none⟩), .int .i64 k, .int .i64 0] w fun e w' => e = .returned (.int .i64 0) ∧ w = w' := by
    have := refuses_any rb cl k 0 _ w h h0
    rwa [hr] at this
  have c13 := cellAt h h13
  have hk2 : (k : Int) < (n : Int) := by omega
  clear h h0 h13 hr
  go_enter Tryz.func27, Tryz.ntmps27
  go_wp2_with (go_at_call 52; refine hc.mono ?_; rintro e w' ⟨rfl, rfl⟩)
  go_ret2
  exact ⟨rfl, rfl⟩

set_option maxHeartbeats 400000 in
theorem rPoll_nil (client : Int) (w : World) : Calls Tryz.prog 25 #[.pointer none, .int .i64 client] w fun e w' => e = .returned (.tuple #[.agg #[.int .i64 0, .int .i64 0], .int .i64 1]) ∧ Below w.heap.size w w' := by
  go_enter Tryz.func25, Tryz.ntmps25
  go_wp2_with (go_at_call 52; refine (refuses_nil _ _ _).mono ?_; rintro e w' ⟨rfl, rfl⟩)
  exact bodyPost_ret (v := .tuple #[.agg #[.int .i64 0, .int .i64 0], .int .i64 1]) (by simp [results, Tryz.results25, go_sem]) rfl ⟨rfl, (Below.refl _ _).alloc (Nat.le_refl _) _⟩

set_option maxHeartbeats 400000 in
theorem rPoll_no (rb : Nat) (cl client : Int) (cs : Array Value) (w : World) (h : w.heap[rb]? = some (.cells cs 115 (0, 0))) (h0 : cs[0]? = some (.int .i64 cl)) (hr : (refuse cl client 0 != 0) = true) :
    Calls Tryz.prog 25 #[.pointer (some ⟨rb, 0, none⟩), .int .i64 client] w fun e w' => e = .returned (.tuple #[.agg #[.int .i64 0, .int .i64 0], .int .i64 (refuse cl client 0)]) ∧ Below w.heap.size w w' := by
  have hc := fun W (hW : W.heap[rb]? = some (.cells cs 115 (0, 0))) => refuses_any rb cl client 0 _ W hW h0
  have HW : Hid ((w.alloc (.cells #[.int .i64 0, .int .i64 0] 58)).heap[rb]? = some (.cells cs 115 (0, 0))) := by
    show _ = _
    rw [Below.heap_alloc _ _ _ (block_lt h)]; exact h
  clear h h0
  go_enter Tryz.func25, Tryz.ntmps25
  go_wp2_with (go_at_call 52; refine (hc _ HW.out).mono ?_; rintro e w' ⟨rfl, rfl⟩)
  exact bodyPost_ret (v := .tuple #[.agg #[.int .i64 0, .int .i64 0], .int .i64 (refuse cl client 0)]) (by simp [results, Tryz.results25, go_sem]) rfl ⟨rfl, (Below.refl _ _).alloc (Nat.le_refl _) _⟩

set_option maxHeartbeats 400000 in
theorem rPoll_empty (rb kb n k cap : Nat) (a : Option Addr) (cl : Int) (cs : Array Value) (w : World) (h : w.heap[rb]? = some (.cells cs 115 (0, 0))) (h0 : cs[0]? = some (.int .i64 cl)) (h13 : cs[13]? = some (.slice (some ⟨kb, 0, none⟩) n n))
    (hk : k < n) (hr : refuse cl k 0 = 0) (hv : w.cell? ⟨kb, k * 2, none⟩ = some (.slice a 0 cap)) :
    Calls Tryz.prog 25 #[.pointer (some ⟨rb, 0, none⟩), .int .i64 k] w fun e w' => e = .returned (.tuple #[.agg #[.int .i64 0, .int .i64 0], .int .i64 8]) ∧ Below w.heap.size w w' := by
  have HW : Hid ((w.alloc (.cells #[.int .i64 0, .int .i64 0] 58)).heap[rb]? = some (.cells cs 115 (0, 0))) := by
    show _ = _
    rw [Below.heap_alloc _ _ _ (block_lt h)]; exact h
  have hc : Calls Tryz.prog 52 #[.pointer (some ⟨rb, 0, none⟩), .int .i64 k, .int .i64 0] (w.alloc (.cells #[.int .i64 0, .int .i64 0] 58)) fun e w' => e = .returned (.int .i64 0) ∧ w.alloc (.cells #[.int .i64 0, .int .i64 0] 58) = w' := by
    have := refuses_any rb cl k 0 _ _ HW.out h0
    rwa [hr] at this
  have c13 := cellAt h h13
  have l1 := block_lt h
  have l2 := World.block_lt_of_cell? w _ hv
  have hk2 : (k : Int) < (n : Int) := by omega
  clear h h0 h13 hr
  go_enter Tryz.func25, Tryz.ntmps25
  go_wp2_with (go_at_call 52; refine hc.mono ?_; rintro e w' ⟨rfl, rfl⟩)
  exact bodyPost_ret (v := .tuple #[.agg #[.int .i64 0, .int .i64 0], .int .i64 8]) (by simp [results, Tryz.results25, go_sem]) rfl ⟨rfl, (Below.refl _ _).alloc (Nat.le_refl _) _⟩

set_option maxHeartbeats 400000 in
theorem rPoll_take (rb kb n k cap g off len : Nat) (p q : Int) (cl : Int) (cs : Array Value) (w : World) (h : w.heap[rb]? = some (.cells cs 115 (0, 0))) (h0 : cs[0]? = some (.int .i64 cl)) (h13 : cs[13]? = some (.slice (some ⟨kb, 0, none⟩) n n))
    (hk : k < n) (hr : refuse cl k 0 = 0) (hv : w.cell? ⟨kb, k * 2, none⟩ = some (.slice (some ⟨g, off, none⟩) (len + 1) (cap + 1))) (hz : w.frozen? ⟨kb, k * 2, none⟩ = false) (hlc : len ≤ cap)
    (hp : w.cell? ⟨g, off, none⟩ = some (.int .i64 p)) (hq : w.cell? ⟨g, off + 1, none⟩ = some (.int .i64 q)) :
    Calls Tryz.prog 25 #[.pointer (some ⟨rb, 0, none⟩), .int .i64 k] w fun e w' => e = .returned (.tuple #[.agg #[.int .i64 p, .int .i64 q], .int .i64 0]) ∧
      ∃ off', (cap = 0 ∨ off' = off + 2) ∧ ((w.setCell ⟨kb, k * 2, none⟩ (.slice (some ⟨g, off', none⟩) len cap)).alloc (.cells #[.int .i64 p, .int .i64 q] 58)).alloc (.cells #[.int .i64 p, .int .i64 q] 58) = w' := by
  have HW : Hid ((w.alloc (.cells #[.int .i64 0, .int .i64 0] 58)).heap[rb]? = some (.cells cs 115 (0, 0))) := by
    show _ = _
    rw [Below.heap_alloc _ _ _ (block_lt h)]; exact h
  have hc : Calls Tryz.prog 52 #[.pointer (some ⟨rb, 0, none⟩), .int .i64 k, .int .i64 0] (w.alloc (.cells #[.int .i64 0, .int .i64 0] 58)) fun e w' => e = .returned (.int .i64 0) ∧ w.alloc (.cells #[.int .i64 0, .int .i64 0] 58) = w' := by
    have := refuses_any rb cl k 0 _ _ HW.out h0
    rwa [hr] at this
  have c13 := cellAt h h13
  have l1 := block_lt h
  have l2 := World.block_lt_of_cell? w _ hv
  have l3 := World.block_lt_of_cell? w _ hp
  have hk2 : (k : Int) < (n : Int) := by omega
  have hl0 : (((len + 1 : Nat) : Int) == 0) = false := by simp; omega
  clear h h0 h13 hr
  by_cases hcap : cap = 0
  · subst hcap
    obtain rfl : len = 0 := by omega
    go_enter Tryz.func25, Tryz.ntmps25
    go_wp2_with (go_at_call 52; refine hc.mono ?_; rintro e w' ⟨rfl, rfl⟩)
    refine bodyPost_ret (v := .tuple #[.agg #[.int .i64 p, .int .i64 q], .int .i64 0]) (by simp [results, Tryz.results25, go_sem]) rfl ⟨rfl, off, ?_, rfl⟩
    first | exact .inl trivial | exact .inl rfl
  · go_enter Tryz.func25, Tryz.ntmps25
    go_wp2_with (go_at_call 52; refine hc.mono ?_; rintro e w' ⟨rfl, rfl⟩)
    refine bodyPost_ret (v := .tuple #[.agg #[.int .i64 p, .int .i64 q], .int .i64 0]) (by simp [results, Tryz.results25, go_sem]) rfl ⟨rfl, off + 2, .inr rfl, rfl⟩

end Go.Proofs.YtjhifhoniimfgaaGreat

