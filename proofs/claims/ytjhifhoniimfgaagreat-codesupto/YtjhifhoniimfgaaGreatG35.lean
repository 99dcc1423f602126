import Derived.Test.YtjhifhoniimfgaaGreatG01
import Derived.Test.YtjhifhoniimfgaaGreatG14
import Derived.Deep.RegionLaw
import Derived.Deep.RegionLawGrows
import Derived.Test.YtjhifhoniimfgaaGreatG34
/-
  The document's lays: the answer with which the core waits is laid into its client's ring, if there is a place.
-/
namespace Go.Proofs.YtjhifhoniimfgaaGreat
open Go.RowKit

set_option maxHeartbeats 1000000 in
theorem lays_full (rb kb nc k n cap : Nat) (ao : Option Addr) (an : Int) (w : World) (c13 : w.cell? ⟨rb, 13, none⟩ = some (.slice (some ⟨kb, 0, none⟩) nc nc)) (c15 : w.cell? ⟨rb, 15, none⟩ = some (.int .i64 k)) (c3 : w.cell? ⟨rb, 3, none⟩ = some (.int .i64 an))
    (hk : k < nc) (hr : w.cell? ⟨kb, k * 2, none⟩ = some (.slice ao n cap)) (hfull : an ≤ n) :
    Calls Tryz.prog 56 #[.pointer (some ⟨rb, 0, none⟩)] w fun e w' => e = .returned (.bool false) ∧ ∃ q, w' = w.drewN q := by
  have hk2 : (k : Int) < (nc : Int) := by omega
  go_enter Tryz.func56, Tryz.ntmps56
  go_wp2
  go_quiet (fail)
  go_wp2
  go_quiet (fail)
  go_wp2
  go_ret
  exact ⟨rfl, _, World.drewN_drewN _ _ _⟩

theorem info_answer : ∃ i, Tryz.prog.info? 58 = some i ∧ i.bytes = 16 ∧ i.size = 2 ∧ i.zero = some (.agg #[.int .i64 0, .int .i64 0]) := by
  have e : (Tryz.prog.info? 58).map (fun i => (i.bytes, i.size, i.zero)) = some (16, 2, some (.agg #[.int .i64 0, .int .i64 0])) := by kernel_rfl
  obtain ⟨i, hi, he⟩ := Option.map_eq_some_iff.1 e
  simp only [Prod.mk.injEq] at he
  exact ⟨i, hi, he.1, he.2.1, he.2.2⟩

theorem cell_pair_at (w : World) (x y : Value) (t : TypeId) (n : Nat) (hn : n = w.heap.size) : ∀ j u, [x, y][j]? = some u → (w.alloc (.cells #[x, y] t)).cell? ((⟨n, 0, none⟩ : Addr).add j) = some u := by
  subst hn
  exact cell_two_new w x y t

theorem ints_one (p q : Int) : ∀ u ∈ [Value.int .i64 p, Value.int .i64 q], u.oneCell' = true := by
  intro u hu
  simp at hu
  rcases hu with rfl | rfl <;> rfl

set_option maxRecDepth 100000 in
set_option maxHeartbeats 1000000 in
theorem lays_grow (rb kb nc k n cap : Nat) (ao : Option Addr) (an p q : Int) (hb : Bool) (olds : List Value) (w : World) (c13 : w.cell? ⟨rb, 13, none⟩ = some (.slice (some ⟨kb, 0, none⟩) nc nc)) (c15 : w.cell? ⟨rb, 15, none⟩ = some (.int .i64 k)) (c3 : w.cell? ⟨rb, 3, none⟩ = some (.int .i64 an))
    (c16 : w.cell? ⟨rb, 16, none⟩ = some (.int .i64 p)) (c17 : w.cell? ⟨rb, 17, none⟩ = some (.int .i64 q)) (c14 : w.cell? ⟨rb, 14, none⟩ = some (.bool hb)) (z14 : w.frozen? ⟨rb, 14, none⟩ = false)
    (hk : k < nc) (hr : w.cell? ⟨kb, k * 2, none⟩ = some (.slice ao n cap)) (hz : w.frozen? ⟨kb, k * 2, none⟩ = false) (hroom : n < an) (hn16 : n ≤ 16) (hnone : ao = none → n = 0 ∧ cap = 0)
    (hol : olds.length = n * 2) (holds : ∀ b, ao = some b → ∀ j u, olds[j]? = some u → w.cell? (b.add j) = some u) (hfull : cap < n + 1) (hne : kb ≠ rb) :
    Calls Tryz.prog 56 #[.pointer (some ⟨rb, 0, none⟩)] w fun e w' => e = .returned (.bool true) ∧
      ∃ v3 w3, w3.ownsRow (w.heap.size + 1) 58 2 v3 (n + 1) (olds ++ [.int .i64 p, .int .i64 q]) ∧ Below w.heap.size w w3 ∧ w' = (w3.setCell ⟨kb, k * 2, none⟩ v3).setCell ⟨rb, 14, none⟩ (.bool false) := by
  have hk2 : (k : Int) < (nc : Int) := by omega
  obtain ⟨it, ht1, ht2, ht3, ht4⟩ := info_answer
  have HT : Hid (Tryz.prog.info? 58 = some it ∧ it.bytes = 16 ∧ it.size = 2 ∧ it.zero = some (.agg #[.int .i64 0, .int .i64 0])) := ⟨ht1, ht2, ht3, ht4⟩
  have l1 : rb < w.heap.size := World.block_lt_of_cell? w _ c14
  have l2 : kb < w.heap.size := World.block_lt_of_cell? w _ hr
  have HNO : Hid (ao = none → n = 0 ∧ cap = 0) := hnone
  have HOL : Hid (olds.length = n * 2) := hol
  have HOS : Hid (∀ Q b, ao = some b → ∀ j u, olds[j]? = some u → ((w.drewN Q).alloc (.cells #[.int .i64 p, .int .i64 q] 58)).cell? (b.add j) = some u) := by
    intro Q b hb2 j u hj
    have h1 := holds b hb2 j u hj
    have hlt := World.block_lt_of_cell? w _ h1
    rw [World.cell?_of_block (w := w) (show ((w.drewN Q).alloc (.cells #[.int .i64 p, .int .i64 q] 58)).heap[(b.add j).block]? = w.heap[(b.add j).block]? from Below.heap_alloc (w.drewN Q) _ _ hlt)]
    exact h1
  have HG : Hid (∀ Q w3, ((w.drewN Q).alloc (.cells #[.int .i64 p, .int .i64 q] 58)).grownBy w3 none → Below w.heap.size w w3) := fun Q w3 hg =>
    ((below_drewN (Below.refl _ _) Q).alloc (Nat.le_refl _) _).trans ⟨hg.os, hg.tape, hg.output, hg.size, fun i hi => hg.block i (by rw [World.size_alloc]; exact Nat.lt_succ_of_lt hi) (by simp)⟩
  have hrA : ∀ Q, ((w.drewN Q).alloc (.cells #[.int .i64 p, .int .i64 q] 58)).cell? ⟨kb, k * 2, none⟩ = some (.slice ao n cap) := by
    intro Q
    rw [World.cell?_of_block (w := w) (show ((w.drewN Q).alloc (.cells #[.int .i64 p, .int .i64 q] 58)).heap[kb]? = w.heap[kb]? from Below.heap_alloc (w.drewN Q) _ _ l2)]
    exact hr
  clear hnone hol holds ht1 ht2 ht3 ht4
  go_enter Tryz.func56, Tryz.ntmps56
  go_wp2
  go_quiet (fail)
  go_wp2
  go_quiet (fail)
  go_wp2
  go_region_law (refine step_append_grows rfl (.tmp 28) (.tmp 33) 66 rfl 58 it (.agg #[.int .i64 0, .int .i64 0]) 2 16 Tryz.underlying66 HT.out.1 HT.out.2.2.2 HT.out.2.2.1 HT.out.2.1 rfl (by decide) ao n cap olds (by simp [Act.eval]) HNO.out HOL.out (HOS.out _) ⟨w.heap.size, 0, none⟩ 1 1 [.int .i64 p, .int .i64 q] (by simp [Act.eval]) rfl (cell_pair_at _ _ _ _ _ (by simp)) (ints_one p q) hfull (by unfold maxLen; omega) (by omega) ?_; intro v3 w3 hown3 hg3; have bel3 := HG.out _ w3 hg3; have hv3 : ∃ g5 c5, v3 = .slice (some ⟨g5, 0, none⟩) (n + 1) c5 := (by rcases hown3.2 with ⟨_, h⟩ | ⟨g5, c5, _, h, _⟩; (omega); exact ⟨g5, c5, h⟩); obtain ⟨g5, c5, hv5⟩ := hv3; rw [hv5]; have k1 : w3.cell? ⟨kb, k * 2, none⟩ = some (.slice ao n cap) := (by rw [bel3.cell l2]; exact hr); have k2 : w3.frozen? ⟨kb, k * 2, none⟩ = false := (by rw [bel3.frozen l2]; exact hz); have k3 : w3.cell? ⟨rb, 14, none⟩ = some (.bool hb) := (by rw [bel3.cell l1]; exact c14); have k4 : w3.frozen? ⟨rb, 14, none⟩ = false := (by rw [bel3.frozen l1]; exact z14))
  all_goals
    rw [hv5] at hown3
    have HO3 : Hid (w3.ownsRow (w.heap.size + 1) 58 2 (.slice (some ⟨g5, 0, none⟩) (n + 1) c5) (n + 1) (olds ++ [.int .i64 p, .int .i64 q])) := by
      show w3.ownsRow _ _ _ _ _ _
      simpa using hown3
    have HB3 : Hid (Below w.heap.size w w3) := bel3
    clear hown3 hg3 hv5 bel3
    go_wp2
    go_ret
    exact ⟨rfl, _, w3, HO3.out, HB3.out, rfl⟩

set_option maxRecDepth 100000 in
set_option maxHeartbeats 1000000 in
theorem lays_room (rb kb nc k n cap g off : Nat) (an p q : Int) (hb : Bool) (cs : Array Value) (w : World) (c13 : w.cell? ⟨rb, 13, none⟩ = some (.slice (some ⟨kb, 0, none⟩) nc nc)) (c15 : w.cell? ⟨rb, 15, none⟩ = some (.int .i64 k)) (c3 : w.cell? ⟨rb, 3, none⟩ = some (.int .i64 an))
    (c16 : w.cell? ⟨rb, 16, none⟩ = some (.int .i64 p)) (c17 : w.cell? ⟨rb, 17, none⟩ = some (.int .i64 q)) (c14 : w.cell? ⟨rb, 14, none⟩ = some (.bool hb)) (z14 : w.frozen? ⟨rb, 14, none⟩ = false)
    (hk : k < nc) (hr : w.cell? ⟨kb, k * 2, none⟩ = some (.slice (some ⟨g, off, none⟩) n cap)) (hz : w.frozen? ⟨kb, k * 2, none⟩ = false) (hroom : n < an) (hg : w.heap[g]? = some (.cells cs 58 (0, 0))) (hfit : off + cap * 2 ≤ cs.size) (hcap : n + 1 ≤ cap)
    (hgk : g ≠ kb) (hgr : g ≠ rb) (hne : kb ≠ rb) :
    Calls Tryz.prog 56 #[.pointer (some ⟨rb, 0, none⟩)] w fun e w' => e = .returned (.bool true) ∧
      ∃ w3, Keep (fun b => b ≠ g) w w3 ∧ w3.heap[g]? = some (.cells ((cs.setIfInBounds (off + n * 2) (.int .i64 p)).setIfInBounds (off + n * 2 + 1) (.int .i64 q)) 58 (0, 0)) ∧
        w' = (w3.setCell ⟨kb, k * 2, none⟩ (.slice (some ⟨g, off, none⟩) (n + 1) cap)).setCell ⟨rb, 14, none⟩ (.bool false) := by
  have hk2 : (k : Int) < (nc : Int) := by omega
  obtain ⟨it, ht1, ht2, ht3, ht4⟩ := info_answer
  have HT : Hid (Tryz.prog.info? 58 = some it ∧ it.bytes = 16 ∧ it.size = 2 ∧ it.zero = some (.agg #[.int .i64 0, .int .i64 0])) := ⟨ht1, ht2, ht3, ht4⟩
  have l1 : rb < w.heap.size := World.block_lt_of_cell? w _ c14
  have l2 : kb < w.heap.size := World.block_lt_of_cell? w _ hr
  have l3 := block_lt hg
  have hgA : ∀ Q, ((w.drewN Q).alloc (.cells #[.int .i64 p, .int .i64 q] 58)).heap[g]? = some (.cells cs 58 (0, 0)) := fun Q => (Below.heap_alloc (w.drewN Q) _ _ l3).trans hg
  have HSP : Hid (∀ Q j, j < [Value.int .i64 p, Value.int .i64 q].length → (((w.drewN Q).alloc (.cells #[.int .i64 p, .int .i64 q] 58)).cell? ⟨g, off + n * 2 + j, none⟩).isSome = true ∧ ((w.drewN Q).alloc (.cells #[.int .i64 p, .int .i64 q] 58)).frozen? ⟨g, off + n * 2 + j, none⟩ = false) := by
    intro Q j hj
    have hj2 : j < 2 := by simpa using hj
    exact ⟨by rw [cellAt (hgA Q) (Array.getElem?_eq_getElem (show off + n * 2 + j < cs.size by omega))]; rfl, frozenAt (hgA Q)⟩
  have hrA : ∀ Q, ((w.drewN Q).alloc (.cells #[.int .i64 p, .int .i64 q] 58)).cell? ⟨kb, k * 2, none⟩ = some (.slice (some ⟨g, off, none⟩) n cap) := by
    intro Q
    rw [World.cell?_of_block (w := w) (show ((w.drewN Q).alloc (.cells #[.int .i64 p, .int .i64 q] 58)).heap[kb]? = w.heap[kb]? from Below.heap_alloc (w.drewN Q) _ _ l2)]
    exact hr
  have HK : Hid (∀ Q, Keep (fun b => b ≠ g) w (((w.drewN Q).alloc (.cells #[.int .i64 p, .int .i64 q] 58)).setCells g (off + n * 2) [.int .i64 p, .int .i64 q])) := fun Q =>
    ((((Keep.refl _ w).drewN Q).alloc _).setCell ⟨g, off + n * 2, none⟩ (fun _ h => h rfl) _).setCell ⟨g, off + n * 2 + 1, none⟩ (fun _ h => h rfl) _
  have HB : Hid (∀ Q, (((w.drewN Q).alloc (.cells #[.int .i64 p, .int .i64 q] 58)).setCells g (off + n * 2) [.int .i64 p, .int .i64 q]).heap[g]? = some (.cells ((cs.setIfInBounds (off + n * 2) (.int .i64 p)).setIfInBounds (off + n * 2 + 1) (.int .i64 q)) 58 (0, 0))) := fun Q =>
    heap_setCell_at _ (heap_setCell_at _ (hgA Q))
  clear ht1 ht2 ht3 ht4 hgA
  go_enter Tryz.func56, Tryz.ntmps56
  go_wp2
  go_quiet (fail)
  rename Nat => qa
  go_wp2
  go_quiet (fail)
  rename Nat => qb
  go_wp2
  obtain ⟨V, hV⟩ : ∃ V, V = ((w.drewN (qa + qb + 1)).alloc (.cells #[.int .i64 p, .int .i64 q] 58)).setCells g (off + n * 2) [.int .i64 p, .int .i64 q] := ⟨_, rfl⟩
  have kV : Keep (fun b => b ≠ g) w V := by rw [hV]; exact HK.out _
  have bV : V.heap[g]? = some (.cells ((cs.setIfInBounds (off + n * 2) (.int .i64 p)).setIfInBounds (off + n * 2 + 1) (.int .i64 q)) 58 (0, 0)) := by rw [hV]; exact HB.out _
  have HV : Hid (V = ((w.drewN (qa + qb + 1)).alloc (.cells #[.int .i64 p, .int .i64 q] 58)).setCells g (off + n * 2) [.int .i64 p, .int .i64 q]) := hV
  have k1 : V.cell? ⟨kb, k * 2, none⟩ = some (.slice (some ⟨g, off, none⟩) n cap) := by rw [World.cell?_of_block (w := w) (kV.block kb l2 (Ne.symm hgk))]; exact hr
  have k2 : V.frozen? ⟨kb, k * 2, none⟩ = false := by rw [World.frozen?_of_block (w := w) (kV.block kb l2 (Ne.symm hgk))]; exact hz
  have k3 : V.cell? ⟨rb, 14, none⟩ = some (.bool hb) := by rw [World.cell?_of_block (w := w) (kV.block rb l1 (Ne.symm hgr))]; exact c14
  have k4 : V.frozen? ⟨rb, 14, none⟩ = false := by rw [World.frozen?_of_block (w := w) (kV.block rb l1 (Ne.symm hgr))]; exact z14
  have KV : Hid (Keep (fun b => b ≠ g) w V) := kV
  have BV : Hid (V.heap[g]? = some (.cells ((cs.setIfInBounds (off + n * 2) (.int .i64 p)).setIfInBounds (off + n * 2 + 1) (.int .i64 q)) 58 (0, 0))) := bV
  clear hV kV bV
  go_region_law (refine step_append_room rfl (.tmp 28) (.tmp 33) 66 rfl 58 it 2 Tryz.underlying66 HT.out.1 HT.out.2.2.1 g off n cap (by simp [Act.eval]) ⟨w.heap.size, 0, none⟩ 1 1 [.int .i64 p, .int .i64 q] (by simp [Act.eval]) rfl (cell_pair_at _ _ _ _ _ (by simp)) (ints_one p q) hcap (HSP.out _) ?_; rw [← HV.out])
  all_goals
    go_wp2
    go_ret
    exact ⟨rfl, V, KV.out, BV.out, rfl⟩

end Go.Proofs.YtjhifhoniimfgaaGreat

/-
  The document's next: the next place of a lane, if it is filled.
-/
namespace Go.Proofs.YtjhifhoniimfgaaGreat
open Go.RowKit

set_option maxHeartbeats 1000000 in
theorem next_none0 (rb m tk cap : Nat) (a : Option Addr) (w : World) (c1 : w.cell? ⟨rb, 8, none⟩ = some (.slice a m cap)) (c2 : w.cell? ⟨rb, 9, none⟩ = some (.int .i64 tk)) (h : m ≤ tk) :
    Calls Tryz.prog 54 #[.pointer (some ⟨rb, 0, none⟩), .int .i64 0] w fun e w' => e = .returned (.tuple #[.int .i64 0, .bool false]) ∧ ∃ q, w' = w.drewN q := by
  have h2 : (m : Int) ≤ (tk : Int) := by omega
  have h3 : decide ((m : Int) ≤ (tk : Int)) = true := decide_eq_true h2
  go_enter Tryz.func54, Tryz.ntmps54
  go_wp2
  go_quiet (fail)
  go_wp2
  go_ret2
  exact ⟨rfl, _, rfl⟩

set_option maxHeartbeats 1000000 in
theorem next_wait0 (rb m tk cap g : Nat) (w : World) (c1 : w.cell? ⟨rb, 8, none⟩ = some (.slice (some ⟨g, 0, none⟩) m cap)) (c2 : w.cell? ⟨rb, 9, none⟩ = some (.int .i64 tk)) (h : tk < m)
    (c3 : w.cell? ⟨g, tk * 3 + 1, none⟩ = some (.bool false)) :
    Calls Tryz.prog 54 #[.pointer (some ⟨rb, 0, none⟩), .int .i64 0] w fun e w' => e = .returned (.tuple #[.int .i64 0, .bool false]) ∧ ∃ q, w' = w.drewN q := by
  have h2 : (tk : Int) < (m : Int) := by omega
  have h3 : decide ((m : Int) ≤ (tk : Int)) = false := decide_eq_false (by omega)
  have h4 : decide (m ≤ tk) = false := decide_eq_false (by omega)
  go_enter Tryz.func54, Tryz.ntmps54
  go_wp2
  go_quiet (fail)
  go_wp2
  go_ret2
  exact ⟨rfl, _, rfl⟩

set_option maxHeartbeats 1000000 in
theorem next_take0 (rb m tk cap g : Nat) (w : World) (c1 : w.cell? ⟨rb, 8, none⟩ = some (.slice (some ⟨g, 0, none⟩) m cap)) (c2 : w.cell? ⟨rb, 9, none⟩ = some (.int .i64 tk)) (h : tk < m) (hm : m ≤ 9223372036854775807)
    (c3 : w.cell? ⟨g, tk * 3 + 1, none⟩ = some (.bool true)) (z2 : w.frozen? ⟨rb, 9, none⟩ = false) :
    Calls Tryz.prog 54 #[.pointer (some ⟨rb, 0, none⟩), .int .i64 0] w fun e w' => e = .returned (.tuple #[.int .i64 tk, .bool true]) ∧ ∃ q, w' = (w.drewN q).setCell ⟨rb, 9, none⟩ (.int .i64 ((tk : Int) + 1)) := by
  have h2 : (tk : Int) < (m : Int) := by omega
  have h3 : decide ((m : Int) ≤ (tk : Int)) = false := decide_eq_false (by omega)
  have h4 : decide (m ≤ tk) = false := decide_eq_false (by omega)
  go_enter Tryz.func54, Tryz.ntmps54
  go_wp2
  go_quiet (fail)
  go_wp2
  go_ret2
  exact ⟨by simp, _, rfl⟩

set_option maxHeartbeats 1000000 in
theorem next_none1 (rb m tk cap : Nat) (a : Option Addr) (w : World) (c1 : w.cell? ⟨rb, 11, none⟩ = some (.slice a m cap)) (c2 : w.cell? ⟨rb, 12, none⟩ = some (.int .i64 tk)) (h : m ≤ tk) :
    Calls Tryz.prog 54 #[.pointer (some ⟨rb, 0, none⟩), .int .i64 1] w fun e w' => e = .returned (.tuple #[.int .i64 0, .bool false]) ∧ ∃ q, w' = w.drewN q := by
  have h2 : (m : Int) ≤ (tk : Int) := by omega
  have h3 : decide ((m : Int) ≤ (tk : Int)) = true := decide_eq_true h2
  go_enter Tryz.func54, Tryz.ntmps54
  go_wp2
  go_quiet (fail)
  go_wp2
  go_ret2
  exact ⟨rfl, _, rfl⟩

set_option maxHeartbeats 1000000 in
theorem next_wait1 (rb m tk cap g : Nat) (w : World) (c1 : w.cell? ⟨rb, 11, none⟩ = some (.slice (some ⟨g, 0, none⟩) m cap)) (c2 : w.cell? ⟨rb, 12, none⟩ = some (.int .i64 tk)) (h : tk < m)
    (c3 : w.cell? ⟨g, tk * 3 + 1, none⟩ = some (.bool false)) :
    Calls Tryz.prog 54 #[.pointer (some ⟨rb, 0, none⟩), .int .i64 1] w fun e w' => e = .returned (.tuple #[.int .i64 0, .bool false]) ∧ ∃ q, w' = w.drewN q := by
  have h2 : (tk : Int) < (m : Int) := by omega
  have h3 : decide ((m : Int) ≤ (tk : Int)) = false := decide_eq_false (by omega)
  have h4 : decide (m ≤ tk) = false := decide_eq_false (by omega)
  go_enter Tryz.func54, Tryz.ntmps54
  go_wp2
  go_quiet (fail)
  go_wp2
  go_ret2
  exact ⟨rfl, _, rfl⟩

set_option maxHeartbeats 1000000 in
theorem next_take1 (rb m tk cap g : Nat) (w : World) (c1 : w.cell? ⟨rb, 11, none⟩ = some (.slice (some ⟨g, 0, none⟩) m cap)) (c2 : w.cell? ⟨rb, 12, none⟩ = some (.int .i64 tk)) (h : tk < m) (hm : m ≤ 9223372036854775807)
    (c3 : w.cell? ⟨g, tk * 3 + 1, none⟩ = some (.bool true)) (z2 : w.frozen? ⟨rb, 12, none⟩ = false) :
    Calls Tryz.prog 54 #[.pointer (some ⟨rb, 0, none⟩), .int .i64 1] w fun e w' => e = .returned (.tuple #[.int .i64 tk, .bool true]) ∧ ∃ q, w' = (w.drewN q).setCell ⟨rb, 12, none⟩ (.int .i64 ((tk : Int) + 1)) := by
  have h2 : (tk : Int) < (m : Int) := by omega
  have h3 : decide ((m : Int) ≤ (tk : Int)) = false := decide_eq_false (by omega)
  have h4 : decide (m ≤ tk) = false := decide_eq_false (by omega)
  go_enter Tryz.func54, Tryz.ntmps54
  go_wp2
  go_quiet (fail)
  go_wp2
  go_ret2
  exact ⟨by simp, _, rfl⟩

end Go.Proofs.YtjhifhoniimfgaaGreat

/-
  The document's core lays an answer, on a gate in memory; takes the next place of a lane.
-/
namespace Go.Proofs.YtjhifhoniimfgaaGreat
open Go.RowKit

theorem ansFlat_get : ∀ (l : List Ans) (j : Nat) (a : Ans), l[j]? = some a → (ansFlat l)[j * 2]? = some (.int .i64 a.1) ∧ (ansFlat l)[j * 2 + 1]? = some (.int .i64 a.2)
  | [], j, a, h => by simp at h
  | b :: r, 0, a, h => by simp at h; subst h; exact ⟨rfl, rfl⟩
  | b :: r, j + 1, a, h => by
    have ih := ansFlat_get r j a (by simpa using h)
    rw [show (j + 1) * 2 = j * 2 + 1 + 1 by omega]
    simpa [ansFlat] using ih

theorem ansFlat_inv : ∀ (l : List Ans) (i : Nat) (u : Value), (ansFlat l)[i]? = some u → ∃ j a, l[j]? = some a ∧ ((i = j * 2 ∧ u = .int .i64 a.1) ∨ (i = j * 2 + 1 ∧ u = .int .i64 a.2))
  | [], i, u, h => by simp [ansFlat] at h
  | b :: r, 0, u, h => by simp [ansFlat] at h; exact ⟨0, b, rfl, .inl ⟨rfl, h.symm⟩⟩
  | b :: r, 1, u, h => by simp [ansFlat] at h; exact ⟨0, b, rfl, .inr ⟨rfl, h.symm⟩⟩
  | b :: r, i + 2, u, h => by
    have h' : (ansFlat r)[i]? = some u := by simpa [ansFlat] using h
    obtain ⟨j, a, h1, h2⟩ := ansFlat_inv r i u h'
    refine ⟨j + 1, a, by simpa using h1, ?_⟩
    rcases h2 with ⟨e, h2⟩ | ⟨e, h2⟩
    · exact .inl ⟨by omega, h2⟩
    · exact .inr ⟨by omega, h2⟩

theorem ring_of_owns {w : World} {b : Nat} {v : Value} {l : List Ans} (h : w.ownsRow b 58 2 v l.length (ansFlat l)) : RingAt w v l ∧ sBlock v = v.ownBlock := by
  rcases h.2 with ⟨rfl, q⟩ | ⟨g, cap, cur, rfl, _, q1, q2, _, q4, q5⟩
  · exact ⟨.inl ⟨rfl, List.length_eq_zero_iff.1 q⟩, rfl⟩
  · refine ⟨.inr ⟨g, 0, cap, cur, rfl, q1, q2, .inl (by omega), fun j a ha => ?_⟩, rfl⟩
    have hj := (List.getElem?_eq_some_iff.1 ha).1
    obtain ⟨f0, f1⟩ := ansFlat_get l j a ha
    rw [← q5, List.getElem?_take_of_lt (by omega)] at f0 f1
    simp only [Nat.zero_add]
    exact ⟨by simpa using f0, by simpa using f1⟩

theorem rLays {own : Nat → Nat} {T : Nat} {w : World} {R : RB} {s : St} {N : Nat} (h : RG own T w R s) (hk : Ok s N) (c : Nat) (a : Ans) (hheld : s.held = some (c, a)) :
    Calls Tryz.prog 56 #[.pointer (some ⟨R.rb, 0, none⟩)] w fun e w' => e = .returned (.bool (decide ((s.ring c).length < s.an))) ∧
      GoesR own T w R.rb (if (s.ring c).length < s.an then { s with ring := upN s.ring c (s.ring c ++ [a]), held := none } else s) w' := by
  have hcl := hk.cl.2
  have hc := hk.held c a hheld
  obtain ⟨h1, h2, h3⟩ := h.held c a hheld
  have han := pow_pos' hk.an
  have hfl := hk.ring c
  obtain ⟨k0, k1, kz⟩ := h.cliAt c hc
  obtain ⟨n1, n2, n3⟩ := h.ne
  have c13 := cellAt (i := 13) h.gate rfl
  have c15 := cellAt (i := 15) h.gate rfl
  have c3 := cellAt (i := 3) h.gate rfl
  have c16 := cellAt (i := 16) h.gate rfl
  have c17 := cellAt (i := 17) h.gate rfl
  have c14 := cellAt (i := 14) h.gate rfl
  have z14 := frozenAt (i := 14) h.gate
  have hring := h.ring c hc
  obtain ⟨ck, kk1, kk2, kk3⟩ := h.cli
  have hkl := block_lt kk1
  have hgl := block_lt h.gate
  have c15' : w.cell? ⟨R.rb, 15, none⟩ = some (.int .i64 c) := by rw [← h1]; exact c15
  have c16' : w.cell? ⟨R.rb, 16, none⟩ = some (.int .i64 a.1) := by rw [← h2]; exact c16
  have c17' : w.cell? ⟨R.rb, 17, none⟩ = some (.int .i64 a.2) := by rw [← h3]; exact c17
  obtain ⟨ao, cap, hv⟩ : ∃ ao cap, R.rv c = .slice ao (s.ring c).length cap := by
    rcases hring with ⟨q, q0⟩ | ⟨g, off, cap, cs, q, _⟩
    · exact ⟨none, 0, by rw [q, q0]; rfl⟩
    · exact ⟨_, cap, q⟩
  rw [hv] at k0
  by_cases hroom : (s.ring c).length < s.an
  rotate_left
  · rw [if_neg hroom, decide_eq_false hroom]
    refine (lays_full R.rb R.kb s.cl c (s.ring c).length cap ao s.an w c13 c15' c3 hc k0 (by omega)).mono ?_
    rintro e w' ⟨rfl, q, rfl⟩
    exact ⟨rfl, GoesR.same h hcl ((Keep.refl _ _).drewN q)⟩
  rw [if_pos hroom, decide_eq_true hroom]
  -- the end of both ways
  have fin : ∀ w3 v3, Keep (fun b => sBlock (R.rv c) ≠ some b) w w3 → RingAt w3 v3 (s.ring c ++ [a]) → (∀ b, sBlock v3 = some b → sBlock (R.rv c) = some b ∨ w.heap.size ≤ b) →
      GoesR own T w R.rb { s with ring := upN s.ring c (s.ring c ++ [a]), held := none } ((w3.setCell ⟨R.kb, c * 2, none⟩ v3).setCell ⟨R.rb, 14, none⟩ (.bool false)) := by
    intro w3 v3 kw hr hb
    have hne : ∀ b, sBlock v3 = some b → b ≠ R.kb ∧ b ≠ R.rb := fun b hb' => by
      rcases hb b hb' with q | q
      · exact h.ringNe c hc b q
      · omega
    have gg := kw.get h.gate (fun e => (h.ringNe c hc _ e).2 rfl)
    have kg := kw.get kk1 (fun e => (h.ringNe c hc _ e).1 rfl)
    have k1' : Keep (fun b => b ≠ R.kb) w3 (w3.setCell ⟨R.kb, c * 2, none⟩ v3) := (Keep.refl _ w3).setCell _ (fun _ h => h rfl) _
    have k2' : Keep (fun b => b ≠ R.rb) (w3.setCell ⟨R.kb, c * 2, none⟩ v3) ((w3.setCell ⟨R.kb, c * 2, none⟩ v3).setCell ⟨R.rb, 14, none⟩ (.bool false)) := (Keep.refl _ _).setCell _ (fun _ h => h rfl) _
    have g2 := k1'.get gg (Ne.symm n2)
    obtain ⟨r1, r2⟩ := h.rering hcl c hc v3 (s.ring c ++ [a]) none (fun c a e => by cases e) (((kw.mono (T := fun b => b ≠ R.rb ∧ b ≠ R.kb ∧ sBlock (R.rv c) ≠ some b) (fun b _ hb => hb.2.2)).trans' k1' (fun b _ hb => hb.2.1)).trans' k2' (fun b _ hb => hb.1)) (by
        rw [heap_setCell_at _ g2]
        simp [rCells]) (fun cs f hh => by
        rw [kk1] at hh
        cases hh
        exact k2'.get (heap_setCell_at _ kg) n2) ((hr.keep k1' (fun b hb' => (hne b hb').1)).keep k2' (fun b hb' => (hne b hb').2)) hb
    exact ⟨_, _, r1, rfl, Same.ext own w _, r2⟩
  by_cases hcap : (s.ring c).length + 1 ≤ cap
  · rcases hring with ⟨q, q0⟩ | ⟨g, off, cap2, cs, q, q1, q2, q3, q4⟩
    · rw [hv] at q
      simp at q
      omega
    · rw [hv] at q
      simp only [Value.slice.injEq, true_and] at q
      obtain ⟨rfl, rfl⟩ := q
      have hfit : off + cap * 2 ≤ cs.size := by
        rcases q3 with q3 | q3
        · exact q3
        · omega
      have hsb : sBlock (R.rv c) = some g := by rw [hv]; rfl
      obtain ⟨e1, e2⟩ := h.ringNe c hc g hsb
      refine (lays_room R.rb R.kb s.cl c (s.ring c).length cap g off s.an a.1 a.2 _ cs w c13 c15' c3 c16' c17' c14 z14 hc k0 (kz _) (by omega) q1 hfit hcap e1 e2 n2).mono ?_
      rintro e w' ⟨rfl, w3, kw, hg3, rfl⟩
      refine ⟨rfl, fin w3 _ (kw.mono (fun b _ hb e => hb (by rw [hsb, e]))) (.inr ⟨g, off, cap, _, by simp, hg3, by simp; omega, .inl (by simpa using hfit), fun j b hb => ?_⟩) (fun b hb => .inl (by rw [hsb]; exact hb))⟩
      by_cases hj : j < (s.ring c).length
      · rw [List.getElem?_append_left hj] at hb
        obtain ⟨a0, a1⟩ := q4 j b hb
        rw [Array.getElem?_setIfInBounds_ne (by omega), Array.getElem?_setIfInBounds_ne (by omega), Array.getElem?_setIfInBounds_ne (by omega), Array.getElem?_setIfInBounds_ne (by omega)]
        exact ⟨a0, a1⟩
      · have hjl := (List.getElem?_eq_some_iff.1 hb).1
        have hj2 : j = (s.ring c).length := by simp at hjl; omega
        subst hj2
        rw [List.getElem?_append_right (Nat.le_refl _)] at hb
        simp at hb
        subst hb
        rw [Array.getElem?_setIfInBounds_ne (by omega), Array.getElem?_setIfInBounds_self, if_pos (by omega), Array.getElem?_setIfInBounds_self, if_pos (by simp; omega)]
        exact ⟨rfl, rfl⟩
  · have hnone : ao = none → (s.ring c).length = 0 ∧ cap = 0 := fun e => by
      rcases hring with ⟨q, q0⟩ | ⟨g, off, cap2, cs, q, _⟩
      · rw [hv] at q
        simp only [Value.slice.injEq] at q
        exact ⟨q.2.1, q.2.2⟩
      · rw [hv, e] at q
        cases q
    refine (lays_grow R.rb R.kb s.cl c (s.ring c).length cap ao s.an a.1 a.2 _ (ansFlat (s.ring c)) w c13 c15' c3 c16' c17' c14 z14 hc k0 (kz _) (by omega) (by omega) hnone (ansFlat_len _) (fun b hb j u hu => ?_) (by omega) n2).mono ?_
    · rcases hring with ⟨q, q0⟩ | ⟨g, off, cap2, cs, q, q1, q2, q3, q4⟩
      · rw [q0] at hu; simp [ansFlat] at hu
      · rw [hv] at q
        simp only [Value.slice.injEq] at q
        rw [q.1] at hb
        cases hb
        obtain ⟨j', a', ha', hh⟩ := ansFlat_inv _ _ _ hu
        obtain ⟨a0, a1⟩ := q4 j' a' ha'
        rw [Addr.add_lit]
        rcases hh with ⟨rfl, rfl⟩ | ⟨rfl, rfl⟩
        · exact cellAt q1 a0
        · exact cellAt q1 (by rw [← Nat.add_assoc]; exact a1)
    · rintro e w' ⟨rfl, v3, w3, ho3, hb3, rfl⟩
      have ho3' : w3.ownsRow (w.heap.size + 1) 58 2 v3 (s.ring c ++ [a]).length (ansFlat (s.ring c ++ [a])) := by
        rw [ansFlat_append, List.length_append]
        exact ho3
      obtain ⟨hr, hsb⟩ := ring_of_owns ho3'
      refine ⟨rfl, fin w3 v3 (Keep.ofBelow hb3) hr (fun b hb => ?_)⟩
      rw [hsb] at hb
      right
      have := (ho3'.lt b hb).1
      omega

/-- What a lane's next gives, when it gives a place. -/
theorem RG.took {own : Nat → Nat} {T : Nat} {w : World} {R : RB} {s : St} (h : RG own T w R s) (hcl : s.cl ≤ 8) (i : Nat) (hi : i < 2) (q : Nat) : GoesR own T w R.rb (s.took i) ((w.drewN q).setCell ⟨R.rb, 9 + 3 * i, none⟩ (.int .i64 ((s.t i : Int) + 1))) := by
  have h' : RG own T (w.drewN q) R s := h.on hcl ((Keep.refl _ w).drewN q)
  have kS : Keep (fun b => b ≠ R.rb) (w.drewN q) ((w.drewN q).setCell ⟨R.rb, 9 + 3 * i, none⟩ (.int .i64 ((s.t i : Int) + 1))) := (Keep.refl _ _).setCell _ (fun _ h => h rfl) _
  obtain ⟨r1, r2⟩ := h'.recell (R' := R) (s' := s.took i) kS (by
    rw [heap_setCell_at _ h'.gate]
    rcases (show i = 0 ∨ i = 1 by omega) with rfl | rfl
    all_goals simp [rCells, St.took, upN]) rfl ⟨rfl, rfl, rfl, rfl, rfl, rfl, rfl, rfl⟩ h.held
  exact GoesR.on ((Keep.refl _ w).drewN q) ⟨_, _, r1, rfl, Same.ext own _ T, r2.outT⟩

theorem rNext {own : Nat → Nat} {T : Nat} {w : World} {R : RB} {s : St} {N : Nat} (h : RG own T w R s) (hk : Ok s N) (hN : N < 1099511627776) (i : Nat) (hi : i < 2) :
    Calls Tryz.prog 54 #[.pointer (some ⟨R.rb, 0, none⟩), .int .i64 i] w fun e w' =>
      (s.hasNext i = true ∧ e = .returned (.tuple #[.int .i64 (s.t i), .bool true]) ∧ GoesR own T w R.rb (s.took i) w') ∨ (s.hasNext i = false ∧ e = .returned (.tuple #[.int .i64 0, .bool false]) ∧ Keep (fun _ => True) w w') := by
  have hcl := hk.cl.2
  have hmt := hk.mt i hi
  obtain ⟨a0, a1, a2, b0, b1, b2, c29⟩ := h.laneAt
  have ca : w.cell? ⟨R.rb, 8 + 3 * i, none⟩ = some (R.lv i) := by rcases (show i = 0 ∨ i = 1 by omega) with rfl | rfl; exact a1; exact b1
  have ct : w.cell? ⟨R.rb, 9 + 3 * i, none⟩ = some (.int .i64 (s.t i)) := by rcases (show i = 0 ∨ i = 1 by omega) with rfl | rfl; exact a2; exact b2
  by_cases hlt : s.t i < s.m i
  · obtain ⟨g, cap, cs, hv, hg, hcs⟩ := ownsRow_cells (h.lane i hi) (by omega)
    obtain ⟨n0, n1, n2⟩ := plFlat_get (s.f i) (s.m i) (s.t i) hlt
    have d1 := cellAt hg (hcs _ _ n1)
    rw [hv] at ca
    cases hn : (s.f i (s.t i)).2.1
    · rw [hn] at d1
      have hh : s.hasNext i = false := hn
      rcases (show i = 0 ∨ i = 1 by omega) with rfl | rfl
      · refine (next_wait0 R.rb (s.m 0) (s.t 0) cap g w ca ct hlt d1).mono ?_
        rintro e w' ⟨rfl, q, rfl⟩
        exact .inr ⟨hh, rfl, (Keep.refl _ _).drewN q⟩
      · refine (next_wait1 R.rb (s.m 1) (s.t 1) cap g w ca ct hlt d1).mono ?_
        rintro e w' ⟨rfl, q, rfl⟩
        exact .inr ⟨hh, rfl, (Keep.refl _ _).drewN q⟩
    · rw [hn] at d1
      have hh : s.hasNext i = true := hn
      rcases (show i = 0 ∨ i = 1 by omega) with rfl | rfl
      · refine (next_take0 R.rb (s.m 0) (s.t 0) cap g w ca ct hlt (by omega) d1 (frozenAt h.gate)).mono ?_
        rintro e w' ⟨rfl, q, rfl⟩
        exact .inl ⟨hh, rfl, h.took hcl 0 (by omega) q⟩
      · refine (next_take1 R.rb (s.m 1) (s.t 1) cap g w ca ct hlt (by omega) d1 (frozenAt h.gate)).mono ?_
        rintro e w' ⟨rfl, q, rfl⟩
        exact .inl ⟨hh, rfl, h.took hcl 1 (by omega) q⟩
  · have hh : s.hasNext i = false := by
      unfold St.hasNext
      rw [hk.free i (s.t i) hi (by omega)]
      rfl
    obtain ⟨a, cap, hv⟩ := ownsRow_slice (h.lane i hi)
    rw [hv] at ca
    rcases (show i = 0 ∨ i = 1 by omega) with rfl | rfl
    · refine (next_none0 R.rb (s.m 0) (s.t 0) cap a w ca ct (by omega)).mono ?_
      rintro e w' ⟨rfl, q, rfl⟩
      exact .inr ⟨hh, rfl, (Keep.refl _ _).drewN q⟩
    · refine (next_none1 R.rb (s.m 1) (s.t 1) cap a w ca ct (by omega)).mono ?_
      rintro e w' ⟨rfl, q, rfl⟩
      exact .inr ⟨hh, rfl, (Keep.refl _ _).drewN q⟩

end Go.Proofs.YtjhifhoniimfgaaGreat

