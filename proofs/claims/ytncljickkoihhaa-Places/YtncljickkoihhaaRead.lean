/-
  How a script that came in reads: each step's cells, and that its numbers fit.
-/
import Derived.Test.YtncljickkoihhaaInv
import Derived.ProofKit
import Derived.OpenShut
import Derived.SizedLaws
import Derived.Deep.Slices
namespace Go.Proofs.Ytncljickkoihhaa
open Go.RowKit Go.Deep

theorem Try.cellsOp : Try.prog.cellsOf 45 = 13 := by kernel_rfl
theorem Try.bytesOp : Try.prog.bytesOf 45 = 128 := by kernel_rfl
theorem Try.cellsConf : Try.prog.cellsOf 32 = 6 := by kernel_rfl
theorem Try.cellsLims : Try.prog.cellsOf 62 = 6 := by kernel_rfl
theorem Try.bytesLims : Try.prog.bytesOf 62 = 48 := by kernel_rfl
theorem Try.cellsInt : Try.prog.cellsOf 3 = 1 := by kernel_rfl
theorem Try.cellsBool : Try.prog.cellsOf 4 = 1 := by kernel_rfl
theorem Try.cellsStr : Try.prog.cellsOf 9 = 1 := by kernel_rfl
theorem Try.cellsSl : Try.prog.cellsOf 30 = 1 := by kernel_rfl

section
variable {H : Type} {enc : TypeId × Value → H} {W : World} {held : Bool}

theorem six_of {α : Type} {l : List α} (h : l.length = 6) : ∃ a b c d e f, l = [a, b, c, d, e, f] := by
  match l, h with
  | [a, b, c, d, e, f], _ => exact ⟨a, b, c, d, e, f, rfl⟩

theorem eight_of {α : Type} {l : List α} (h : l.length = 8) : ∃ a b c d e f g i, l = [a, b, c, d, e, f, g, i] := by
  match l, h with
  | [a, b, c, d, e, f, g, i], _ => exact ⟨a, b, c, d, e, f, g, i, rfl⟩

theorem thirteen_of {α : Type} {l : List α} (h : l.length = 13) : ∃ a b c d e f g i j k m n o, l = [a, b, c, d, e, f, g, i, j, k, m, n, o] := by
  match l, h with
  | [a, b, c, d, e, f, g, i, j, k, m, n, o], _ => exact ⟨a, b, c, d, e, f, g, i, j, k, m, n, o, rfl⟩

theorem int_of {fuel : Nat} {v : Value} {x : DataW H × List MemPlace} (h : DataW.trod enc Try.prog W 0 (fun _ => true) held fuel 3 [v] = some x) : ∃ n : Int, v = .int .i64 n ∧ -9223372036854775808 ≤ n ∧ n ≤ 9223372036854775807 := by
  obtain ⟨n, e, _, wf⟩ := DataW.trod_int Try.underlying3 h
  simp only [List.cons.injEq, and_true] at e
  exact ⟨n, e, bounds_i64 wf⟩

theorem lims_of {fuel : Nat} {cs : List Value} {x : DataW H × List MemPlace} (h : DataW.trod enc Try.prog W 0 (fun _ => true) held fuel 62 cs = some x) :
    ∃ l : Nat → Int, cs.length = 6 ∧ ∀ j, j < 6 → cs[j]? = some (.int .i64 (l j)) := by
  obtain ⟨xs, n, _, _, hl, hxl, hf⟩ := DataW.trod_struct Try.underlying62 h
  rw [Try.cellsLims] at hl
  obtain ⟨c0, c1, c2, c3, c4, c5, rfl⟩ := six_of hl
  obtain ⟨x0, x1, x2, x3, x4, x5, rfl⟩ := six_of (show xs.length = 6 from hxl)
  have f0 : DataW.trod enc Try.prog W 0 (fun _ => true) held n 3 [c0] = some x0 := by simpa [Try.cellsInt] using hf 0 _ rfl
  have f1 : DataW.trod enc Try.prog W 0 (fun _ => true) held n 3 [c1] = some x1 := by simpa [Try.cellsInt] using hf 1 _ rfl
  have f2 : DataW.trod enc Try.prog W 0 (fun _ => true) held n 3 [c2] = some x2 := by simpa [Try.cellsInt] using hf 2 _ rfl
  have f3 : DataW.trod enc Try.prog W 0 (fun _ => true) held n 3 [c3] = some x3 := by simpa [Try.cellsInt] using hf 3 _ rfl
  have f4 : DataW.trod enc Try.prog W 0 (fun _ => true) held n 3 [c4] = some x4 := by simpa [Try.cellsInt] using hf 4 _ rfl
  have f5 : DataW.trod enc Try.prog W 0 (fun _ => true) held n 3 [c5] = some x5 := by simpa [Try.cellsInt] using hf 5 _ rfl
  obtain ⟨n0, rfl, _⟩ := int_of (enc := enc) (W := W) (held := held) (x := x0) f0
  obtain ⟨n1, rfl, _⟩ := int_of (enc := enc) (W := W) (held := held) (x := x1) f1
  obtain ⟨n2, rfl, _⟩ := int_of (enc := enc) (W := W) (held := held) (x := x2) f2
  obtain ⟨n3, rfl, _⟩ := int_of (enc := enc) (W := W) (held := held) (x := x3) f3
  obtain ⟨n4, rfl, _⟩ := int_of (enc := enc) (W := W) (held := held) (x := x4) f4
  obtain ⟨n5, rfl, _⟩ := int_of (enc := enc) (W := W) (held := held) (x := x5) f5
  refine ⟨fun j => [n0, n1, n2, n3, n4, n5].getD j 0, rfl, fun j hj => ?_⟩
  rcases (show j = 0 ∨ j = 1 ∨ j = 2 ∨ j = 3 ∨ j = 4 ∨ j = 5 by omega) with rfl | rfl | rfl | rfl | rfl | rfl <;> rfl

theorem weights_all_mem {P : Program} {e : TypeId} : ∀ {l : List (DataW H)} {d : DataW H} {k : Nat}, d ∈ l → k ∈ d.weights P e → k ∈ DataW.weightsAll P e l
  | x :: r, d, k, h, hk => by
    simp only [DataW.weightsAll, List.mem_append]
    rcases List.mem_cons.1 h with rfl | h2
    · exact .inl hk
    · exact .inr (weights_all_mem h2 hk)

theorem accs_of {fuel : Nat} {v : Value} {x : DataW H × List MemPlace} (h : DataW.trod enc Try.prog W 0 (fun _ => true) held fuel 30 [v] = some x)
    (hw : ∀ k ∈ x.1.weights Try.prog 30, k ≤ reachBytes) : ∃ a n c lim, v = .slice a n c ∧ AccAt W a n lim ∧ n ≤ 2932031007317 := by
  rcases open_slice Try.underlying30 h with ⟨hc, _⟩ | ⟨a, len, cap, m, n, D, Pl, hc, _, hl, _, hm, hx, hel⟩
  · simp only [List.cons.injEq, and_true] at hc
    exact ⟨none, 0, 0, fun _ _ => 0, hc, .inl rfl, by omega⟩
  · simp only [List.cons.injEq, and_true] at hc
    simp only [if_true] at hm
    subst hm
    rw [hx] at hw
    simp only [DataW.weights, Try.underlying30, List.mem_cons, List.length_map, List.length_range, Try.bytesLims, reachBytes] at hw
    have hb := hw _ (.inl rfl)
    have hn : len ≤ 2932031007317 := by omega
    rw [Try.cellsLims] at hel
    have hel2 : ∀ i, i < len → ∃ l : Nat → Int, ∀ j, j < 6 → W.cell? ((a.add (i * 6)).add j) = some (.int .i64 (l j)) := by
      intro i hi
      obtain ⟨cs', h1, h2⟩ := hel i (by omega)
      obtain ⟨l, _, h4⟩ := lims_of h2
      obtain ⟨_, _, h5⟩ := World.cells?_some h1
      exact ⟨l, fun j hj => by rw [h5 j hj]; exact h4 j hj⟩
    obtain ⟨lim, hlim⟩ := choose_lt hel2
    by_cases h0 : len = 0
    · exact ⟨some a, len, _, lim, hc, .inl h0, hn⟩
    · obtain ⟨b, off, spot⟩ := a
      have hs := World.cell?_spot (hlim 0 (by omega) 0 (by omega))
      simp [Addr.add] at hs
      subst hs
      refine ⟨_, len, _, lim, hc, .inr ⟨b, off, rfl, fun k j hk hj => ?_⟩, hn⟩
      have := hlim k hk j hj
      rwa [Addr.add_lit, Addr.add_lit] at this

theorem op_of {fuel : Nat} {cs : List Value} {x : DataW H × List MemPlace} (h : DataW.trod enc Try.prog W 0 (fun _ => true) held fuel 45 cs = some x)
    (hw : ∀ k ∈ x.1.weights Try.prog 45, k ≤ reachBytes) : ∃ o : OpV, cs = o.cells ∧ OpOk W o := by
  obtain ⟨xs, n, _, hx, hl, hxl, hf⟩ := DataW.trod_struct Try.underlying45 h
  rw [Try.cellsOp] at hl
  obtain ⟨c0, c1, c2, c3, c4, c5, c6, c7, c8, c9, c10, c11, c12, rfl⟩ := thirteen_of hl
  obtain ⟨x0, x1, x2, x3, x4, x5, x6, x7, rfl⟩ := eight_of (show xs.length = 8 from hxl)
  have f0 : DataW.trod enc Try.prog W 0 (fun _ => true) held n 3 [c0] = some x0 := by simpa [Try.cellsInt] using hf 0 _ rfl
  have f1 : DataW.trod enc Try.prog W 0 (fun _ => true) held n 3 [c1] = some x1 := by simpa [Try.cellsInt] using hf 1 _ rfl
  have f2 : DataW.trod enc Try.prog W 0 (fun _ => true) held n 3 [c2] = some x2 := by simpa [Try.cellsInt] using hf 2 _ rfl
  have f3 : DataW.trod enc Try.prog W 0 (fun _ => true) held n 3 [c3] = some x3 := by simpa [Try.cellsInt] using hf 3 _ rfl
  have f4 : DataW.trod enc Try.prog W 0 (fun _ => true) held n 3 [c4] = some x4 := by simpa [Try.cellsInt] using hf 4 _ rfl
  have f5 : DataW.trod enc Try.prog W 0 (fun _ => true) held n 4 [c5] = some x5 := by simpa [Try.cellsBool] using hf 5 _ rfl
  have f6 : DataW.trod enc Try.prog W 0 (fun _ => true) held n 9 [c6] = some x6 := by simpa [Try.cellsStr] using hf 6 _ rfl
  have f7 : DataW.trod enc Try.prog W 0 (fun _ => true) held n 32 [c7, c8, c9, c10, c11, c12] = some x7 := by simpa [Try.cellsConf] using hf 7 _ rfl
  obtain ⟨n0, rfl, _⟩ := int_of (enc := enc) (W := W) (held := held) (x := x0) f0
  obtain ⟨n1, rfl, b1⟩ := int_of (enc := enc) (W := W) (held := held) (x := x1) f1
  obtain ⟨n2, rfl, _⟩ := int_of (enc := enc) (W := W) (held := held) (x := x2) f2
  obtain ⟨n3, rfl, _⟩ := int_of (enc := enc) (W := W) (held := held) (x := x3) f3
  obtain ⟨n4, rfl, b4⟩ := int_of (enc := enc) (W := W) (held := held) (x := x4) f4
  obtain ⟨o, e5, _⟩ := DataW.trod_bool (x := x5) Try.underlying4 f5
  obtain ⟨s, e6, _⟩ := DataW.trod_string (x := x6) Try.underlying9 f6
  simp at e5 e6
  subst e5 e6
  obtain ⟨ys, n', _, hy, _, hyl, hg⟩ := DataW.trod_struct (x := x7) Try.underlying32 f7
  obtain ⟨y0, y1, y2, y3, y4, y5, rfl⟩ := six_of (show ys.length = 6 from hyl)
  have g0 : DataW.trod enc Try.prog W 0 (fun _ => true) held n' 3 [c7] = some y0 := by simpa [Try.cellsInt] using hg 0 _ rfl
  have g1 : DataW.trod enc Try.prog W 0 (fun _ => true) held n' 3 [c8] = some y1 := by simpa [Try.cellsInt] using hg 1 _ rfl
  have g2 : DataW.trod enc Try.prog W 0 (fun _ => true) held n' 3 [c9] = some y2 := by simpa [Try.cellsInt] using hg 2 _ rfl
  have g3 : DataW.trod enc Try.prog W 0 (fun _ => true) held n' 3 [c10] = some y3 := by simpa [Try.cellsInt] using hg 3 _ rfl
  have g4 : DataW.trod enc Try.prog W 0 (fun _ => true) held n' 3 [c11] = some y4 := by simpa [Try.cellsInt] using hg 4 _ rfl
  have g5 : DataW.trod enc Try.prog W 0 (fun _ => true) held n' 30 [c12] = some y5 := by simpa [Try.cellsSl] using hg 5 _ rfl
  obtain ⟨m0, rfl, _⟩ := int_of (enc := enc) (W := W) (held := held) (x := y0) g0
  obtain ⟨m1, rfl, _⟩ := int_of (enc := enc) (W := W) (held := held) (x := y1) g1
  obtain ⟨m2, rfl, _⟩ := int_of (enc := enc) (W := W) (held := held) (x := y2) g2
  obtain ⟨m3, rfl, _⟩ := int_of (enc := enc) (W := W) (held := held) (x := y3) g3
  obtain ⟨m4, rfl, _⟩ := int_of (enc := enc) (W := W) (held := held) (x := y4) g4
  have hw5 : ∀ k ∈ y5.1.weights Try.prog 30, k ≤ reachBytes := by
    intro k hk
    apply hw
    rw [hx]
    simp only [DataW.weights, Try.underlying45]
    refine DataW.weights_mem_each (j := 7) (t := 32) (d := x7.1) rfl rfl k ?_
    rw [hy]
    simp only [DataW.weights, Try.underlying32]
    exact DataW.weights_mem_each (j := 5) (t := 30) (d := y5.1) rfl rfl k hk
  obtain ⟨a, na, ca, lim, rfl, hacc, hn⟩ := accs_of (enc := enc) (W := W) (held := held) (x := y5) g5 hw5
  exact ⟨⟨n0, n1, n2, n3, n4, o, s, m0, m1, m2, m3, m4, a, na, ca, lim⟩, rfl, hacc, hn, b1.1, b1.2, b4.1, b4.2⟩

theorem script_of {fuel : Nat} {a : Option Addr} {len cap : Nat} {x : DataW H × List MemPlace} (h : DataW.trod enc Try.prog W 0 (fun _ => true) held fuel 22 [.slice a len cap] = some x)
    (hw : ∀ k ∈ x.1.weights Try.prog 22, k ≤ reachBytes) : ∃ ops, ScriptAt W a len ops ∧ len ≤ 1099511627776 := by
  rcases open_slice Try.underlying22 h with ⟨hc, _⟩ | ⟨a', len', cap', m, n, D, Pl, hc, _, hl, _, hm, hx, hel⟩
  · simp only [List.cons.injEq, and_true, Value.slice.injEq] at hc
    obtain ⟨rfl, rfl, rfl⟩ := hc
    exact ⟨fun _ => ⟨0, 0, 0, 0, 0, false, ByteArray.empty, 0, 0, 0, 0, 0, none, 0, 0, fun _ _ => 0⟩, .inl rfl, by omega⟩
  · simp only [List.cons.injEq, and_true, Value.slice.injEq] at hc
    obtain ⟨rfl, rfl, rfl⟩ := hc
    simp only [if_true] at hm
    subst hm
    have hw2 := hw
    rw [hx] at hw hw2
    simp only [DataW.weights, Try.underlying22, List.mem_cons, List.length_map, List.length_range, Try.bytesOp, reachBytes] at hw
    have hb := hw _ (.inl rfl)
    have hn : len ≤ 1099511627776 := by omega
    by_cases h0 : len = 0
    · exact ⟨fun _ => ⟨0, 0, 0, 0, 0, false, ByteArray.empty, 0, 0, 0, 0, 0, none, 0, 0, fun _ _ => 0⟩, .inl h0, hn⟩
    rw [Try.cellsOp] at hel
    have hel2 : ∀ i, i < len → ∃ o : OpV, OpOk W o ∧ ∀ (j : Nat) (v : Value), o.cells[j]? = some v → W.cell? ((a'.add (i * 13)).add j) = some v := by
      intro i hi
      obtain ⟨cs', h1, h2⟩ := hel i (by omega)
      obtain ⟨o, rfl, hok⟩ := op_of h2 (fun k hk => by
        apply hw2
        simp only [DataW.weights, Try.underlying22, List.mem_cons, List.mem_append]
        exact .inr (.inl (weights_all_mem (List.mem_map.2 ⟨i, List.mem_range.2 hi, rfl⟩) hk)))
      obtain ⟨_, _, h5⟩ := World.cells?_some h1
      refine ⟨o, hok, fun j v hv => ?_⟩
      have hj : j < 13 := by
        rcases Nat.lt_or_ge j 13 with h6 | h6
        · exact h6
        · rw [List.getElem?_eq_none (by simpa [OpV.cells] using h6)] at hv; cases hv
      rw [h5 j hj]; exact hv
    have : Inhabited OpV := ⟨⟨0, 0, 0, 0, 0, false, ByteArray.empty, 0, 0, 0, 0, 0, none, 0, 0, fun _ _ => 0⟩⟩
    obtain ⟨ops, hops⟩ := choose_lt hel2
    obtain ⟨b, off, spot⟩ := a'
    have hs := World.cell?_spot ((hops 0 (by omega)).2 0 _ rfl)
    simp [Addr.add] at hs
    subst hs
    refine ⟨ops, .inr ⟨b, off, rfl, World.block_lt_of_cell? W _ ((hops 0 (by omega)).2 0 _ rfl), fun k hk => ⟨(hops k hk).1, fun j v hv => ?_⟩⟩, hn⟩
    have := (hops k hk).2 j v hv
    rwa [Addr.add_lit, Addr.add_lit] at this
end

end Go.Proofs.Ytncljickkoihhaa
