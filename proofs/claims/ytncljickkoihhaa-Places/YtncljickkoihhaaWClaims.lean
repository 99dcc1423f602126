/-
  The document's example is played on the program: its answers are the document's.
-/
import Derived.Test.YtncljickkoihhaaWExample
import Derived.Test.YtncljickkoihhaaWGate
namespace Go.Proofs.Ytncljickkoihhaa
open Go.RowKit

set_option maxRecDepth 100000 in
set_option maxHeartbeats 1000000 in
theorem claims_any (w : World) :
    Calls Try.prog 4 #[] w fun e w' => ∃ gb, e = .returned (.pointer (some ⟨gb, 0, none⟩)) ∧ Below w.heap.size w w' := by
  go_enter Try.func4, Try.ntmps4
  go_wp2_with fail
  refine (example_any _).mono ?_
  rintro e w1 ⟨ab, rfl, b1, hacc⟩
  have hnew := gNew_yes 1 2 2 2 2 (some ⟨ab, 0, none⟩) 1 1 exLim w1 hacc ex_may
  clear hacc
  go_wp2_with fail
  refine hnew.mono ?_
  clear hnew
  rintro e w2 ⟨gb, cb, lb, sb, rfl, b2, hp, q1, q2, q3⟩
  have hs1 := b1.size
  have hc1 := gClaim_room 0 0 0 (.inl ⟨rfl, rfl⟩) hp rfl (by decide)
  have k2 : Keep (fun b => b < w.heap.size) w w2 := (Keep.ofBelow (S := fun b => b < w.heap.size) b1).trans' (Keep.ofBelow (S := fun _ => True) b2) (fun _ _ _ => trivial)
  have hl0 := (q3 0 (by omega)).1
  have hs0 := (q3 0 (by omega)).2
  clear hp b1 b2 q3
  go_wp2_with fail
  refine hc1.mono ?_
  clear hc1
  rintro e w3 ⟨rfl, hp3, hk3⟩
  have k3 : Keep (fun b => b < w.heap.size) w w3 := k2.trans' hk3 (fun b _ hb => ⟨by omega, by omega⟩)
  have hc2 := gClaim_room 0 0 0 (.inl ⟨rfl, rfl⟩) hp3 rfl (by decide)
  clear hk3 k2
  go_wp2_with fail
  refine hc2.mono ?_
  clear hc2 hp3
  rintro e w4 ⟨rfl, hp4, hk4⟩
  have k4 : Keep (fun b => b < w.heap.size) w w4 := k3.trans' hk4 (fun b _ hb => ⟨by omega, by omega⟩)
  have hc3 := gClaim_full 0 0 0 (.inl ⟨rfl, rfl⟩) hp4 rfl (by decide)
  clear hk4 k3
  go_wp2_with fail
  refine hc3.mono ?_
  clear hc3
  rintro e w5 ⟨rfl, q, rfl⟩
  have hp5 := hp4.drewN q
  have k5 : Keep (fun b => b < w.heap.size) w (w4.drewN q) := k4.drewN q
  clear hp4 k4
  go_wp2_with fail
  refine (order_any _ _ _ _ _ _).mono ?_
  rintro e w6 ⟨s, rfl, b6⟩
  have hp6 := hp5.keep (Keep.ofBelow (S := fun _ => True) b6) trivial trivial (fun _ _ => ⟨trivial, trivial⟩)
  have k6 : Keep (fun b => b < w.heap.size) w w6 := k5.trans' (Keep.ofBelow (S := fun _ => True) b6) (fun _ _ _ => trivial)
  have hc6 := gPublish_yes 0 0 1 s 0 (.inl ⟨rfl, rfl⟩) hp6 rfl (by decide) (by decide) (by decide)
  rw [show (((1 : Nat) : Int)) = 1 from rfl] at hc6
  clear hp5 k5 b6 hp6
  go_wp2_with fail
  refine hc6.mono ?_
  clear hc6
  rintro e w7 ⟨rfl, hp7, hk7⟩
  have k7 : Keep (fun b => b < w.heap.size) w w7 := k6.trans' hk7 (fun b _ hb => ⟨by omega, by omega⟩)
  have hc7 := gPublish_yes 0 0 0 ByteArray.empty 0 (.inl ⟨rfl, rfl⟩) hp7 rfl (by decide) rfl rfl
  rw [show (((0 : Nat) : Int)) = 0 from rfl] at hc7
  clear hp7 k6 hk7
  go_wp2_with fail
  refine hc7.mono ?_
  clear hc7
  rintro e w8 ⟨rfl, hp8, hk8⟩
  have k8 : Keep (fun b => b < w.heap.size) w w8 := k7.trans' hk8 (fun b _ hb => ⟨by omega, by omega⟩)
  have hc8 := gPublish_tick 0 0 0 ByteArray.empty 0 (.inl ⟨rfl, rfl⟩) hp8 rfl (.inr (.inr ⟨0, rfl, by decide, .inr ⟨rfl, rfl⟩⟩))
  clear hp8 k7 hk8
  go_wp2_with fail
  refine hc8.mono ?_
  clear hc8
  rintro e w9 ⟨rfl, q9, rfl⟩
  have KF : Hid (Below w.heap.size w (w8.drewN q9)) := (k8.drewN q9).below (Nat.le_refl _)
  clear k8
  go_wp2
  go_ret
  exact ⟨gb, rfl, KF.out⟩

end Go.Proofs.Ytncljickkoihhaa
