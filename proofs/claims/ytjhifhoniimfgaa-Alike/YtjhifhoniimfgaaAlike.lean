import Derived.Test.YtjhifhoniimfgaaG41
import Derived.Test.YtjhifhoniimfgaaG46
import Derived.WalkKit
import Derived.ProofKit
import Derived.OpenShut
import Derived.ChangeOld
import Derived.Below
import Derived.SizedLaws
/-
  For all numbers, the law Alike over the program sluice answers true, and they read afterwards as they read before.
-/
namespace Go.Proofs.Ytjhifhoniimfgaa
open Go.ChangeShapes Go.WideShapes Go.ChangeAt Go.RowKit

theorem alikeOwn : ownKnob Try.prog.godebug = none := by kernel_rfl
theorem alikeLaidOut : laidOutB Try.prog = true := by kernel_rfl

set_option maxRecDepth 100000 in
theorem alike_lifted (os : Os) (started : os.Started) (H : Type) (enc : TypeId × Value → H) :
    ReturnsInHanded {} Try.checked os 7 .any (Rows.alikeSpec.pre6 enc Try.prog Try.f7 Rows.alikeRow.domain false) (Rows.alikeSpec.post enc Try.prog Try.f7 false true false false) := by
  refine returnsInHanded_of_change_sized (C := Try.checked) alikeOwn started (by kernel_rfl) Try.func7
    (ChangeSpec.witness6 (enc := enc) (C := Try.checked) false ⟨#[], #[.int .i64 0, .slice none 0 0, .slice none 0 0], []⟩ 8 (by kernel_rfl) (by kernel_rfl) (by kernel_rfl) (by kernel_rfl)) ?_
  intro W base args ds gs before hval0 hW hcnd hsz0 _
  have hval : ∀ (j : Nat) t v, Try.f7.params[j]? = some t → args[j]? = some v → Value.okWide Try.prog W .any base t v := hval0
  have hW' := hW
  obtain ⟨p, q, hA0, hV, rfl, hfz, hnd⟩ := hW
  have hA : DataW.TrodAll enc Try.prog W 0 (fun _ => true) true Try.f7.params.toList args.toList ds p := hA0
  have hsz : (DataW.weightsEach Try.prog (Try.f7.params.toList ++ Rows.alikeSpec.plain.varTypes Try.prog) (ds ++ gs)).all (· ≤ reachBytes) = true := hsz0
  rw [Try.params7] at hA hval hsz
  obtain ⟨v0, vs0, d0, ds0, p0, q0, hargs0, rfl, rfl, h0, r0⟩ := trodAll_cons hA
  obtain ⟨v1, vs1, d1, ds1, p1, q1, hargs1, rfl, rfl, h1, r1⟩ := trodAll_cons r0
  obtain ⟨v2, vs2, d2, ds2, p2, q2, hargs2, rfl, rfl, h2, r2⟩ := trodAll_cons r1
  obtain ⟨rfl, rfl, rfl⟩ := trodAll_nil r2
  obtain rfl : args = #[v0, v1, v2] := by cases args; simp_all
  obtain ⟨rfl, rfl⟩ := trodVars_none hV
  obtain ⟨z0, rfl⟩ := okWide_int Try.underlying3 (hval 0 3 v0 rfl rfl)
  obtain ⟨a1, len1, cap1, rfl⟩ := okWide_slice Try.underlying57 (hval 1 57 v1 rfl rfl)
  obtain ⟨a2, len2, cap2, rfl⟩ := okWide_slice Try.underlying57 (hval 2 57 v2 rfl rfl)
  have k0 := h0
  have k1 := h1
  have k2 := h2
  have lt0 : ∀ x ∈ p0, x.block < W.heap.size := by obtain ⟨m, hm⟩ := k0; exact DataW.trod_lt m _ _ _ hm
  have lt1 : ∀ x ∈ p1, x.block < W.heap.size := by obtain ⟨m, hm⟩ := k1; exact DataW.trod_lt m _ _ _ hm
  have lt2 : ∀ x ∈ p2, x.block < W.heap.size := by obtain ⟨m, hm⟩ := k2; exact DataW.trod_lt m _ _ _ hm
  have b0 : i64B z0 := by
    obtain ⟨fuel, hf⟩ := h0
    obtain ⟨z, e, b⟩ := int_of (x := (d0, p0)) (by simpa [Value.cells] using hf)
    simp only [Value.int.injEq, true_and] at e
    rw [e]
    exact b
  obtain ⟨m1, g1, l1⟩ : ∃ ms, IntsAt W a1 len1 ms ∧ len1 ≤ 17592186043904 := by
    obtain ⟨fuel, hf⟩ := h1
    refine ints_reach (x := (d1, p1)) (by simpa [Value.cells] using hf) (fun k hk => ?_)
    have hm := DataW.weights_mem_each (P := Try.prog) (ts := [3, 57, 57] ++ Rows.alikeSpec.plain.varTypes Try.prog) (ds := [d0, d1, d2] ++ []) (j := 1) (t := 57) (d := d1) rfl rfl k hk
    exact of_decide_eq_true (List.all_eq_true.1 hsz k hm)
  obtain ⟨m2, g2, l2⟩ : ∃ ms, IntsAt W a2 len2 ms ∧ len2 ≤ 17592186043904 := by
    obtain ⟨fuel, hf⟩ := h2
    refine ints_reach (x := (d2, p2)) (by simpa [Value.cells] using hf) (fun k hk => ?_)
    have hm := DataW.weights_mem_each (P := Try.prog) (ts := [3, 57, 57] ++ Rows.alikeSpec.plain.varTypes Try.prog) (ds := [d0, d1, d2] ++ []) (j := 2) (t := 57) (d := d2) rfl rfl k hk
    exact of_decide_eq_true (List.all_eq_true.1 hsz k hm)
  clear hA0 hval0 hsz0 hsz
  refine (alike_walk z0 b0 a1 len1 cap1 m1 a2 len2 cap2 m2 W g1 l1 g2 l2).mono fun e W' ⟨he, bel⟩ => ?_
  subst he
  exact ⟨_, rfl, _, _, _, [], _, [], hW', trodAll_mk1 (shut_bool Try.underlying4 _), (trodAll_cons_mk (Below.trod alikeLaidOut (by kernel_rfl) (of_decide_eq_true (by kernel_rfl)) k0 bel lt0) (trodAll_cons_mk (Below.trod alikeLaidOut (by kernel_rfl) (of_decide_eq_true (by kernel_rfl)) k1 bel lt1) (trodAll_cons_mk (Below.trod alikeLaidOut (by kernel_rfl) (of_decide_eq_true (by kernel_rfl)) k2 bel lt2) trodAll_mk0))), rfl, bel.frame _, fun h => by cases h⟩

theorem alike_holds : Rows.AlikeSaid :=
  OpenClaim.holds_of_wide 7 Try.f7 rfl rfl rfl rfl rfl rfl rfl ⟨rfl, rfl, rfl, rfl, rfl⟩ rfl rfl rfl rfl rfl (by kernel_rfl) Try.func7 (by kernel_rfl)
    (of_decide_eq_true (by kernel_rfl)) (by unfold Func.isWrapper; first | (rw [if_pos (by decide +kernel)]; kernel_rfl) | (rw [if_neg (by decide +kernel)]; exact ⟨rfl, rfl⟩))
    (fun os started H enc _ => alike_lifted os started H enc)

#print axioms alike_holds
end Go.Proofs.Ytjhifhoniimfgaa
