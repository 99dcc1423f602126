import Derived.Test.YtjhifhoniimfgaaG41
import Derived.Test.YtjhifhoniimfgaaG44
import Derived.WalkKit
import Derived.ProofKit
import Derived.OpenShut
import Derived.ChangeOld
import Derived.Below
import Derived.SizedLaws
/-
  For all numbers and scripts, the law Stops over the program sluice answers true, and they read afterwards as they read before.
-/
namespace Go.Proofs.Ytjhifhoniimfgaa
open Go.ChangeShapes Go.WideShapes Go.ChangeAt Go.RowKit

theorem stopsOwn : ownKnob Try.prog.godebug = none := by kernel_rfl
theorem stopsLaidOut : laidOutB Try.prog = true := by kernel_rfl

set_option maxRecDepth 100000 in
theorem stops_lifted (os : Os) (started : os.Started) (H : Type) (enc : TypeId × Value → H) :
    ReturnsInHanded {} Try.checked os 5 .any (Rows.stopsSpec.pre6 enc Try.prog Try.f5 Rows.stopsRow.domain false) (Rows.stopsSpec.post enc Try.prog Try.f5 false true false false) := by
  refine returnsInHanded_of_change_sized (C := Try.checked) stopsOwn started (by kernel_rfl) Try.func5
    (ChangeSpec.witness6 (enc := enc) (C := Try.checked) false ⟨#[], #[.int .i64 0, .slice none 0 0, .int .i64 0, .slice none 0 0], []⟩ 8 (by kernel_rfl) (by kernel_rfl) (by kernel_rfl) (by kernel_rfl)) ?_
  intro W base args ds gs before hval0 hW hcnd hsz0 _
  have hval : ∀ (j : Nat) t v, Try.f5.params[j]? = some t → args[j]? = some v → Value.okWide Try.prog W .any base t v := hval0
  have hW' := hW
  obtain ⟨p, q, hA0, hV, rfl, hfz, hnd⟩ := hW
  have hA : DataW.TrodAll enc Try.prog W 0 (fun _ => true) true Try.f5.params.toList args.toList ds p := hA0
  have hsz : (DataW.weightsEach Try.prog (Try.f5.params.toList ++ Rows.stopsSpec.plain.varTypes Try.prog) (ds ++ gs)).all (· ≤ reachBytes) = true := hsz0
  rw [Try.params5] at hA hval hsz
  obtain ⟨v0, vs0, d0, ds0, p0, q0, hargs0, rfl, rfl, h0, r0⟩ := trodAll_cons hA
  obtain ⟨v1, vs1, d1, ds1, p1, q1, hargs1, rfl, rfl, h1, r1⟩ := trodAll_cons r0
  obtain ⟨v2, vs2, d2, ds2, p2, q2, hargs2, rfl, rfl, h2, r2⟩ := trodAll_cons r1
  obtain ⟨v3, vs3, d3, ds3, p3, q3, hargs3, rfl, rfl, h3, r3⟩ := trodAll_cons r2
  obtain ⟨rfl, rfl, rfl⟩ := trodAll_nil r3
  obtain rfl : args = #[v0, v1, v2, v3] := by cases args; simp_all
  obtain ⟨rfl, rfl⟩ := trodVars_none hV
  obtain ⟨z0, rfl⟩ := okWide_int Try.underlying3 (hval 0 3 v0 rfl rfl)
  obtain ⟨a1, len1, cap1, rfl⟩ := okWide_slice Try.underlying22 (hval 1 22 v1 rfl rfl)
  obtain ⟨z2, rfl⟩ := okWide_int Try.underlying3 (hval 2 3 v2 rfl rfl)
  obtain ⟨a3, len3, cap3, rfl⟩ := okWide_slice Try.underlying22 (hval 3 22 v3 rfl rfl)
  have k0 := h0
  have k1 := h1
  have k2 := h2
  have k3 := h3
  have lt0 : ∀ x ∈ p0, x.block < W.heap.size := by obtain ⟨m, hm⟩ := k0; exact DataW.trod_lt m _ _ _ hm
  have lt1 : ∀ x ∈ p1, x.block < W.heap.size := by obtain ⟨m, hm⟩ := k1; exact DataW.trod_lt m _ _ _ hm
  have lt2 : ∀ x ∈ p2, x.block < W.heap.size := by obtain ⟨m, hm⟩ := k2; exact DataW.trod_lt m _ _ _ hm
  have lt3 : ∀ x ∈ p3, x.block < W.heap.size := by obtain ⟨m, hm⟩ := k3; exact DataW.trod_lt m _ _ _ hm
  have b0 : i64B z0 := by
    obtain ⟨fuel, hf⟩ := h0
    obtain ⟨z, e, b⟩ := int_of (x := (d0, p0)) (by simpa [Value.cells] using hf)
    simp only [Value.int.injEq, true_and] at e
    rw [e]
    exact b
  obtain ⟨m1, g1, l1⟩ : ∃ ms, MovesAt W a1 len1 ms ∧ len1 ≤ 5864062014634 := by
    obtain ⟨fuel, hf⟩ := h1
    refine moves_reach (x := (d1, p1)) (by simpa [Value.cells] using hf) (fun k hk => ?_)
    have hm := DataW.weights_mem_each (P := Try.prog) (ts := [3, 22, 3, 22] ++ Rows.stopsSpec.plain.varTypes Try.prog) (ds := [d0, d1, d2, d3] ++ []) (j := 1) (t := 22) (d := d1) rfl rfl k hk
    exact of_decide_eq_true (List.all_eq_true.1 hsz k hm)
  have b2 : i64B z2 := by
    obtain ⟨fuel, hf⟩ := h2
    obtain ⟨z, e, b⟩ := int_of (x := (d2, p2)) (by simpa [Value.cells] using hf)
    simp only [Value.int.injEq, true_and] at e
    rw [e]
    exact b
  obtain ⟨m3, g3, l3⟩ : ∃ ms, MovesAt W a3 len3 ms ∧ len3 ≤ 5864062014634 := by
    obtain ⟨fuel, hf⟩ := h3
    refine moves_reach (x := (d3, p3)) (by simpa [Value.cells] using hf) (fun k hk => ?_)
    have hm := DataW.weights_mem_each (P := Try.prog) (ts := [3, 22, 3, 22] ++ Rows.stopsSpec.plain.varTypes Try.prog) (ds := [d0, d1, d2, d3] ++ []) (j := 3) (t := 22) (d := d3) rfl rfl k hk
    exact of_decide_eq_true (List.all_eq_true.1 hsz k hm)
  clear hA0 hval0 hsz0 hsz
  refine (stops_walk z0 b0 a1 len1 cap1 m1 z2 b2 a3 len3 cap3 m3 W g1 l1 g3 l3).mono fun e W' ⟨he, bel⟩ => ?_
  subst he
  exact ⟨_, rfl, _, _, _, [], _, [], hW', trodAll_mk1 (shut_bool Try.underlying4 _), (trodAll_cons_mk (Below.trod stopsLaidOut (by kernel_rfl) (of_decide_eq_true (by kernel_rfl)) k0 bel lt0) (trodAll_cons_mk (Below.trod stopsLaidOut (by kernel_rfl) (of_decide_eq_true (by kernel_rfl)) k1 bel lt1) (trodAll_cons_mk (Below.trod stopsLaidOut (by kernel_rfl) (of_decide_eq_true (by kernel_rfl)) k2 bel lt2) (trodAll_cons_mk (Below.trod stopsLaidOut (by kernel_rfl) (of_decide_eq_true (by kernel_rfl)) k3 bel lt3) trodAll_mk0)))), rfl, bel.frame _, fun h => by cases h⟩

theorem stops_holds : Rows.StopsSaid :=
  OpenClaim.holds_of_wide 5 Try.f5 rfl rfl rfl rfl rfl rfl rfl ⟨rfl, rfl, rfl, rfl, rfl⟩ rfl rfl rfl rfl rfl (by kernel_rfl) Try.func5 (by kernel_rfl)
    (of_decide_eq_true (by kernel_rfl)) (by unfold Func.isWrapper; first | (rw [if_pos (by decide +kernel)]; kernel_rfl) | (rw [if_neg (by decide +kernel)]; exact ⟨rfl, rfl⟩))
    (fun os started H enc _ => stops_lifted os started H enc)

#print axioms stops_holds
end Go.Proofs.Ytjhifhoniimfgaa
