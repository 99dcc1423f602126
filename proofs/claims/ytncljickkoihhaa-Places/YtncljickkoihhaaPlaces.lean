/-
  For every script, the law 'Places' over the program sluice answers true, and the script reads afterwards as it read before: gates are made alike, and places are claimed and filled alike, by the program and by the document's answer.
-/
import Derived.Test.YtncljickkoihhaaRows
import Derived.Test.YtncljickkoihhaaWHolds
import Derived.Test.YtncljickkoihhaaWClaims
import Derived.Test.YtncljickkoihhaaRead
import Derived.WalkKit
import Derived.ProofKit
import Derived.OpenShut
import Derived.ChangeOld
import Derived.Below
import Derived.SizedLaws
namespace Go.Proofs.Ytncljickkoihhaa
open Go.ChangeShapes Go.WideShapes Go.ChangeAt Go.RowKit

theorem ScriptAt.below {w w' : World} {a : Option Addr} {len : Nat} {ops : Nat → OpV} (h : ScriptAt w a len ops) (hb : Below w.heap.size w w') : ScriptAt w' a len ops := by
  rcases h with h | ⟨b, off, rfl, hlt, h⟩
  · exact .inl h
  · refine .inr ⟨b, off, rfl, Nat.lt_of_lt_of_le hlt hb.size, fun k hk => ?_⟩
    obtain ⟨ok, hc⟩ := h k hk
    refine ⟨⟨ok.acc.below hb, ok.n, ok.g1, ok.g2, ok.p1, ok.p2⟩, fun j v hv => ?_⟩
    rw [hb.cell (p := ⟨b, _, none⟩) hlt]
    exact hc j v hv

set_option maxHeartbeats 400000 in
theorem places_walk (a : Option Addr) (len cap : Nat) (ops : Nat → OpV) (w : World) (hs : ScriptAt w a len ops) (hl : len ≤ 1099511627776) :
    Calls Try.prog 3 #[.slice a len cap] w fun e w' => e = .returned (.bool true) ∧ Below w.heap.size w w' := by
  have HS : Hid (ScriptAt w a len ops) := hs
  clear hs
  go_enter Try.func3, Try.ntmps3
  go_wp2_with fail
  refine (claims_any _).mono ?_
  rintro e w1 ⟨gb, rfl, b1⟩
  have HB : Hid (Below w.heap.size w w1) := b1
  clear b1
  go_wp2_with fail
  refine (holds_any w1 a len cap ops (HS.out.below HB.out) hl).mono ?_
  rintro e w2 ⟨rfl, b2⟩
  have HB2 : Hid (Below w.heap.size w w2) := HB.out.trans (b2.mono HB.out.size)
  clear b2
  go_wp2
  go_ret
  exact ⟨rfl, HB2.out⟩

theorem placesOwn : ownKnob Try.prog.godebug = none := by kernel_rfl
theorem placesLaidOut : laidOutB Try.prog = true := by kernel_rfl

set_option maxRecDepth 100000 in
theorem places_lifted (os : Os) (started : os.Started) (H : Type) (enc : TypeId × Value → H) :
    ReturnsInHanded {} Try.checked os 3 .any (Rows.placesSpec.pre6 enc Try.prog Try.f3 Rows.placesRow.domain false) (Rows.placesSpec.post enc Try.prog Try.f3 false true false false) := by
  refine returnsInHanded_of_change_sized (C := Try.checked) placesOwn started (by kernel_rfl) Try.func3
    (ChangeSpec.witness6 (enc := enc) (C := Try.checked) false ⟨#[], #[.slice none 0 0], []⟩ 8 (by kernel_rfl) (by kernel_rfl) (by kernel_rfl) (by kernel_rfl)) ?_
  intro W base args ds gs before hval0 hW hcnd hsz0 _
  have hval : ∀ (j : Nat) t v, Try.f3.params[j]? = some t → args[j]? = some v → Value.okWide Try.prog W .any base t v := hval0
  have hW' := hW
  obtain ⟨p, q, hA0, hV, rfl, hfz, hnd⟩ := hW
  have hA : DataW.TrodAll enc Try.prog W 0 (fun _ => true) true Try.f3.params.toList args.toList ds p := hA0
  have hsz : (DataW.weightsEach Try.prog (Try.f3.params.toList ++ Rows.placesSpec.plain.varTypes Try.prog) (ds ++ gs)).all (· ≤ reachBytes) = true := hsz0
  rw [Try.params3] at hA hval hsz
  obtain ⟨v0, vs0, d0, ds0, p0, q0, hargs, rfl, rfl, h0, r0⟩ := trodAll_cons hA
  obtain ⟨rfl, rfl, rfl⟩ := trodAll_nil r0
  obtain rfl : args = #[v0] := by cases args; simp_all
  obtain ⟨rfl, rfl⟩ := trodVars_none hV
  obtain ⟨a0, len0, cap0, rfl⟩ := okWide_slice Try.underlying22 (hval 0 22 v0 rfl rfl)
  have k0 := h0
  have lt0 : ∀ x ∈ p0, x.block < W.heap.size := by obtain ⟨m, hm⟩ := k0; exact DataW.trod_lt m _ _ _ hm
  obtain ⟨ops, hs, hl⟩ : ∃ ops, ScriptAt W a0 len0 ops ∧ len0 ≤ 1099511627776 := by
    obtain ⟨fuel, hf⟩ := h0
    refine script_of (x := (d0, p0)) (by simpa [Value.cells] using hf) (fun k hk => ?_)
    have hm := DataW.weights_mem_each (P := Try.prog) (ts := [22] ++ Rows.placesSpec.plain.varTypes Try.prog) (ds := [d0] ++ []) (j := 0) (t := 22) (d := d0) rfl rfl k hk
    exact of_decide_eq_true (List.all_eq_true.1 hsz k hm)
  clear hA0 hval0 hsz0 hsz
  refine (places_walk a0 len0 cap0 ops W hs hl).mono fun e W' ⟨he, bel⟩ => ?_
  subst he
  exact ⟨_, rfl, _, _, _, [], _, [], hW', trodAll_mk1 (shut_bool Try.underlying4 _), (trodAll_cons_mk (Below.trod placesLaidOut (by kernel_rfl) (of_decide_eq_true (by kernel_rfl)) k0 bel lt0) trodAll_mk0), rfl, bel.frame _, fun h => by cases h⟩

theorem places_holds : Rows.PlacesSaid :=
  OpenClaim.holds_of_wide 3 Try.f3 rfl rfl rfl rfl rfl rfl rfl ⟨rfl, rfl, rfl, rfl, rfl⟩ rfl rfl rfl rfl rfl (by kernel_rfl) Try.func3 (by kernel_rfl)
    (of_decide_eq_true (by kernel_rfl)) (by unfold Func.isWrapper; first | (rw [if_pos (by decide +kernel)]; kernel_rfl) | (rw [if_neg (by decide +kernel)]; exact ⟨rfl, rfl⟩))
    (fun os started H enc _ => places_lifted os started H enc)

#print axioms places_holds
end Go.Proofs.Ytncljickkoihhaa
