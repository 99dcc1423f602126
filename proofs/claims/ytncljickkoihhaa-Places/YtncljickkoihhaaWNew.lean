/-
  The program's New.
-/
import Derived.Test.YtncljickkoihhaaWGate
import Derived.BigRegion
import Derived.Deep.RegionWith
namespace Go.Proofs.Ytncljickkoihhaa
open Go.RowKit Go.Conc

theorem make_chan (w : World) : (Instr.makeChan 55 (.int .i64 0)).run Try.prog w = .ok (.chan (some w.heap.size)) (w.alloc (.chan 0 #[] false 0 0 false)) := by
  have h : (Try.prog.info? 89).map (·.bytes) = some 0 := by kernel_rfl
  obtain ⟨i, hi, hb⟩ := Option.map_eq_some_iff.1 h
  simpa using run_makeChan (P := Try.prog) (w := w) Try.underlying55 hi .i64 0 (by omega) (by rw [hb]; omega)

set_option maxHeartbeats 400000 in
theorem gNew_no (cl co ur an ch : Int) (a : Option Addr) (n c : Nat) (lim : Nat → Nat → Int) (w : World) (ha : AccAt w a n lim) (hm : mayB cl co ur an ch n lim = false) :
    Calls Try.prog 6 #[.agg #[.int .i64 cl, .int .i64 co, .int .i64 ur, .int .i64 an, .int .i64 ch, .slice a n c]] w
      fun e w' => e = .returned (.tuple #[.pointer none, .int .i64 2]) ∧ Below w.heap.size w w' := by
  have HA : Hid (AccAt (w.alloc (.cells #[.int .i64 cl, .int .i64 co, .int .i64 ur, .int .i64 an, .int .i64 ch, .slice a n c] 32)) a n lim) :=
    ha.below ((Below.refl _ _).alloc (Nat.le_refl _) _)
  clear ha
  go_enter Try.func6, Try.ntmps6
  go_wp2_with (go_at_call 15; refine (mayBe_any cl co ur an ch a n c lim _ HA.out).mono ?_; rintro e w' ⟨rfl, hb⟩; rw [hm])
  go_ret2
  exact ⟨rfl, ((Below.refl _ _).alloc (Nat.le_refl _) _).trans (hb.mono (by simp))⟩

set_option maxHeartbeats 1000000 in
theorem gNew_yes (cl : Int) (co ur : Nat) (an ch : Int) (a : Option Addr) (n c : Nat) (lim : Nat → Nat → Int) (w : World) (ha : AccAt w a n lim) (hm : mayB cl co ur an ch n lim = true) :
    Calls Try.prog 6 #[.agg #[.int .i64 cl, .int .i64 co, .int .i64 ur, .int .i64 an, .int .i64 ch, .slice a n c]] w
      fun e w' => ∃ gb cb lb sb, e = .returned (.tuple #[.pointer (some ⟨gb, 0, none⟩), .int .i64 0]) ∧ Below w.heap.size w w' ∧
        PGate w' gb cb cl lb sb (fun i => if i = 0 then co else ur) (fun _ => 0) (fun _ _ => zeroPl) ∧
        w.heap.size ≤ gb ∧ w.heap.size ≤ cb ∧ ∀ i, i < 2 → w.heap.size ≤ lb i ∧ w.heap.size ≤ sb i := by
  have HA : Hid (AccAt (w.alloc (.cells #[.int .i64 cl, .int .i64 co, .int .i64 ur, .int .i64 an, .int .i64 ch, .slice a n c] 32)) a n lim) :=
    ha.below ((Below.refl _ _).alloc (Nat.le_refl _) _)
  have hmk := make_chan
  clear ha
  go_enter Try.func6, Try.ntmps6
  go_wp2_with (go_at_call 15; refine (mayBe_any cl co ur an ch a n c lim _ HA.out).mono ?_; rintro e w1 ⟨rfl, hb⟩; rw [hm])
  have d0 : w1.cell? ⟨w.heap.size, 0, none⟩ = some (.int .i64 cl) := by rw [hb.cell (by simp)]; simp
  have d1 : w1.cell? ⟨w.heap.size, 1, none⟩ = some (.int .i64 co) := by rw [hb.cell (by simp)]; simp
  have d2 : w1.cell? ⟨w.heap.size, 2, none⟩ = some (.int .i64 ur) := by rw [hb.cell (by simp)]; simp
  have hz : w.heap.size < w1.heap.size := by have := hb.size; simp at this; omega
  have hco : co ≤ 16 := by simp only [mayB, Bool.and_eq_true] at hm; have := powB_cases hm.1.1.1.1.2; omega
  have hur : ur ≤ 16 := by simp only [mayB, Bool.and_eq_true] at hm; have := powB_cases hm.1.1.1.2; omega
  have HM : Hid (mayB cl co ur an ch n lim = true) := hm
  clear hm
  go_region
  go_wp2
  generalize hW : ((w1.alloc (Obj.chan 0 #[] false 0 0 false)).alloc (Obj.cells #[Value.int IntKind.i64 cl, Value.pointer none, Value.pointer none, Value.chan (some w1.heap.size)] 59)).drew = W
  obtain ⟨gb, hgb⟩ : ∃ gb, gb = w1.heap.size + 1 := ⟨_, rfl⟩
  rw [← hgb]
  have x0 : Below w1.heap.size w1 W := by rw [← hW]; exact (((Below.refl _ _).alloc (Nat.le_refl _) _).alloc (by simp) _).drew
  have x1 : W.heap[gb]? = some (Obj.cells #[Value.int IntKind.i64 cl, Value.pointer none, Value.pointer none, Value.chan (some w1.heap.size)] 59 (0, 0)) := by
    rw [← hW, hgb]
    simpa [World.drew] using heap_alloc_new (w1.alloc (Obj.chan 0 #[] false 0 0 false)) _
  have x2 : W.heap[w1.heap.size]? = some (Obj.chan 0 #[] false 0 0 false) := by
    rw [← hW]
    simp only [World.drew]
    rw [Below.heap_alloc _ _ _ (by simp)]; exact heap_alloc_new w1 _
  have y1 : W.cell? ⟨w.heap.size, 1, none⟩ = some (.int .i64 co) := by rw [x0.cell hz]; exact d1
  have y2 : W.cell? ⟨w.heap.size, 2, none⟩ = some (.int .i64 ur) := by rw [x0.cell hz]; exact d2
  have X0 : Hid (Below w1.heap.size w1 W) := x0
  have X1 : Hid (W.heap[gb]? = some (Obj.cells #[Value.int IntKind.i64 cl, Value.pointer none, Value.pointer none, Value.chan (some w1.heap.size)] 59 (0, 0))) := x1
  have X2 : Hid (W.heap[w1.heap.size]? = some (Obj.chan 0 #[] false 0 0 false)) := x2
  have z1 := block_lt x1
  have HG : Hid (gb = w1.heap.size + 1) := hgb
  clear hW x0 x1 x2 d0 d1 d2 hgb
  go_region_with (go_at_call 16; refine (newLane_abs co hco _).mono ?_; rintro e w2 ⟨l0, s0, rfl, hb2, hp0, hl0, hs0⟩; have k1 : w2.cell? ⟨gb, 1, none⟩ = some (.pointer none) := (by rw [hb2.cell (by simpa using z1)]; exact cellAt (i := 1) X1.out rfl); have k2 : w2.frozen? ⟨gb, 1, none⟩ = false := (by rw [hb2.frozen (by simpa using z1)]; exact frozenAt X1.out))
  go_wp2
  have hwd : W.drew.heap.size = W.heap.size := rfl
  rw [hwd] at hl0 hs0 hb2
  have v1 : Keep (fun b => b ≠ gb) W (w2.setCell ⟨gb, 1, none⟩ (.pointer (some ⟨l0, 0, none⟩))) := by
    have v0 : Keep (fun b => b ≠ gb) W w2 := ⟨hb2.os, hb2.tape, hb2.output, hb2.size, fun k hk _ => hb2.block k hk⟩
    exact v0.setCell _ (fun _ h => h rfl) _
  have v2 : (w2.setCell ⟨gb, 1, none⟩ (.pointer (some ⟨l0, 0, none⟩))).heap[gb]? = some (Obj.cells #[Value.int IntKind.i64 cl, Value.pointer (some ⟨l0, 0, none⟩), Value.pointer none, Value.chan (some w1.heap.size)] 59 (0, 0)) := by
    rw [heap_setCell_at _ ((hb2.block gb z1).trans X1.out)]; simp
  have hg1 := HG.out
  have v3 := v1.get X2.out (by show w1.heap.size ≠ gb; omega)
  have v4 : PLane (w2.setCell ⟨gb, 1, none⟩ (.pointer (some ⟨l0, 0, none⟩))) l0 s0 co 0 (fun _ => zeroPl) :=
    hp0.keep (S := fun b => b ≠ gb) (Keep.setCell (Keep.refl _ _) _ (fun _ h => h rfl) _) (by show l0 ≠ gb; omega) (by show s0 ≠ gb; omega)
  have u2 : (w2.setCell ⟨gb, 1, none⟩ (.pointer (some ⟨l0, 0, none⟩))).cell? ⟨w.heap.size, 2, none⟩ = some (.int .i64 ur) := by
    rw [World.cell?_of_block (w := W) (v1.block w.heap.size (Nat.lt_of_lt_of_le hz X0.out.size) (by show w.heap.size ≠ gb; omega))]; exact y2
  have z2 : gb < w2.heap.size := Nat.lt_of_lt_of_le z1 hb2.size
  have z3 : W.heap.size ≤ w2.heap.size := hb2.size
  generalize hV : w2.setCell ⟨gb, 1, none⟩ (.pointer (some ⟨l0, 0, none⟩)) = V at v1 v2 v3 v4 u2 ⊢
  have z4 : V.heap.size = w2.heap.size := by rw [← hV]; exact size_setCell _ _ _
  have Z4 : Hid (V.heap.size = w2.heap.size) := z4
  have V1 : Hid (Keep (fun b => b ≠ gb) W V) := v1
  have V2 : Hid (V.heap[gb]? = some (Obj.cells #[Value.int IntKind.i64 cl, Value.pointer (some ⟨l0, 0, none⟩), Value.pointer none, Value.chan (some w1.heap.size)] 59 (0, 0))) := v2
  have V3 : Hid (V.heap[w1.heap.size]? = some (Obj.chan 0 #[] false 0 0 false)) := v3
  have V4 : Hid (PLane V l0 s0 co 0 (fun _ => zeroPl)) := v4
  have z5 : gb < V.heap.size := by omega
  clear hV v1 v2 v3 v4 hwd k1 k2 hb2 hp0 y1 y2 hg1 z4
  go_region_with (go_at_call 16; refine (newLane_abs ur hur _).mono ?_; rintro e w3 ⟨l1, s1, rfl, hb3, hp1, hl1, hs1⟩; have k1 : w3.cell? ⟨gb, 2, none⟩ = some (.pointer none) := (by rw [hb3.cell (by simpa using z5)]; exact cellAt (i := 2) V2.out rfl); have k2 : w3.frozen? ⟨gb, 2, none⟩ = false := (by rw [hb3.frozen (by simpa using z5)]; exact frozenAt V2.out))
  go_wp2
  go_ret2
  have hwd : V.drew.heap.size = V.heap.size := rfl
  rw [hwd] at hl1 hs1 hb3
  have hg1 := HG.out
  have v4 := V4.out
  have v5 := Z4.out
  have v6 := X0.out.size
  have r1 : Keep (fun b => b ≠ gb) V (w3.setCell ⟨gb, 2, none⟩ (.pointer (some ⟨l1, 0, none⟩))) := by
    have v0 : Keep (fun b => b ≠ gb) V w3 := ⟨hb3.os, hb3.tape, hb3.output, hb3.size, fun k hk _ => hb3.block k hk⟩
    exact v0.setCell _ (fun _ h => h rfl) _
  refine ⟨gb, w1.heap.size, fun i => if i = 0 then l0 else l1, fun i => if i = 0 then s0 else s1, rfl, ?_, ?_, by omega, by omega, ?_⟩
  · have k0 : Keep (fun b => b < w.heap.size) w (w3.setCell ⟨gb, 2, none⟩ (.pointer (some ⟨l1, 0, none⟩))) := by
      have a1 : Keep (fun b => b < w.heap.size) w w1 := Keep.ofBelow (((Below.refl _ _).alloc (Nat.le_refl _) _).trans (hb.mono (by simp)))
      have a2 : Keep (fun b => b < w.heap.size) w W := a1.trans' (Keep.ofBelow (S := fun _ => True) X0.out) (fun _ _ _ => trivial)
      have a3 : Keep (fun b => b < w.heap.size) w V := a2.trans' V1.out (fun b h1 h2 => by show b ≠ gb; omega)
      exact a3.trans' r1 (fun b h1 h2 => by show b ≠ gb; omega)
    exact k0.below (Nat.le_refl _)
  · have hp1' : PLane (w3.setCell ⟨gb, 2, none⟩ (.pointer (some ⟨l1, 0, none⟩))) l1 s1 ur 0 (fun _ => zeroPl) :=
      hp1.keep (S := fun b => b ≠ gb) (Keep.setCell (Keep.refl _ _) _ (fun _ h => h rfl) _) (by show l1 ≠ gb; omega) (by show s1 ≠ gb; omega)
    have hl0lt := block_lt v4.1
    obtain ⟨_, hnls, css, hcss, _⟩ := id v4
    have hs0lt := block_lt hcss
    have hm := HM.out
    simp only [mayB, Bool.and_eq_true] at hm
    refine ⟨?_, r1.get V3.out (by show w1.heap.size ≠ gb; omega), fun i hi => ?_, fun i hi => ?_, fun i hi => Nat.zero_le _, fun i hi => ?_, ?_⟩
    · rw [heap_setCell_at _ ((hb3.block gb z5).trans V2.out)]; simp
    · rcases (show i = 0 ∨ i = 1 by omega) with rfl | rfl
      · exact v4.keep r1 (by show l0 ≠ gb; omega) (by show s0 ≠ gb; omega)
      · exact hp1'
    · rcases (show i = 0 ∨ i = 1 by omega) with rfl | rfl
      · exact hm.1.1.1.1.2
      · exact hm.1.1.1.2
    · rcases (show i = 0 ∨ i = 1 by omega) with rfl | rfl
      · simp; omega
      · simp; omega
    · simp; omega
  · intro i hi
    rcases (show i = 0 ∨ i = 1 by omega) with rfl | rfl
    · simp; omega
    · simp; omega

end Go.Proofs.Ytncljickkoihhaa
