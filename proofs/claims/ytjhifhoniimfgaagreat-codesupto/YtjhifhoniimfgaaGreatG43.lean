import Derived.Test.YtjhifhoniimfgaaGreatG01
import Derived.Test.YtjhifhoniimfgaaGreatG37
import Derived.Test.YtjhifhoniimfgaaGreatG31
import Derived.Test.YtjhifhoniimfgaaGreatG42
import Derived.Test.YtjhifhoniimfgaaGreatG38
/-
  Six cells in a row that are written, one behind the other.
-/
namespace Go.Proofs.YtjhifhoniimfgaaGreat
open Go.RowKit

def set6 (c : Array Value) (o : Nat) (a0 a1 a2 a3 a4 a5 : Value) : Array Value :=
  (((((c.setIfInBounds o a0).setIfInBounds (o + 1) a1).setIfInBounds (o + 2) a2).setIfInBounds (o + 3) a3).setIfInBounds (o + 4) a4).setIfInBounds (o + 5) a5

theorem size_set6 (c : Array Value) (o : Nat) (a0 a1 a2 a3 a4 a5 : Value) : (set6 c o a0 a1 a2 a3 a4 a5).size = c.size := by simp [set6]

theorem set6_other (c : Array Value) (o : Nat) (a0 a1 a2 a3 a4 a5 : Value) (j : Nat) (h : j < o ∨ o + 6 ≤ j) : (set6 c o a0 a1 a2 a3 a4 a5)[j]? = c[j]? := by
  unfold set6
  rw [Array.getElem?_setIfInBounds_ne (by omega), Array.getElem?_setIfInBounds_ne (by omega), Array.getElem?_setIfInBounds_ne (by omega), Array.getElem?_setIfInBounds_ne (by omega), Array.getElem?_setIfInBounds_ne (by omega), Array.getElem?_setIfInBounds_ne (by omega)]

theorem set6_at (c : Array Value) (o : Nat) (a0 a1 a2 a3 a4 a5 : Value) (h : o + 6 ≤ c.size) (t : Nat) (ht : t < 6) :
    (set6 c o a0 a1 a2 a3 a4 a5)[o + t]? = [a0, a1, a2, a3, a4, a5][t]? := by
  unfold set6
  rcases (show t = 0 ∨ t = 1 ∨ t = 2 ∨ t = 3 ∨ t = 4 ∨ t = 5 by omega) with rfl | rfl | rfl | rfl | rfl | rfl
  · rw [Array.getElem?_setIfInBounds_ne (by omega), Array.getElem?_setIfInBounds_ne (by omega), Array.getElem?_setIfInBounds_ne (by omega), Array.getElem?_setIfInBounds_ne (by omega), Array.getElem?_setIfInBounds_ne (by omega), Nat.add_zero, Array.getElem?_setIfInBounds_self, if_pos (by omega)]; rfl
  · rw [Array.getElem?_setIfInBounds_ne (by omega), Array.getElem?_setIfInBounds_ne (by omega), Array.getElem?_setIfInBounds_ne (by omega), Array.getElem?_setIfInBounds_ne (by omega), Array.getElem?_setIfInBounds_self, if_pos (by simp; omega)]; rfl
  · rw [Array.getElem?_setIfInBounds_ne (by omega), Array.getElem?_setIfInBounds_ne (by omega), Array.getElem?_setIfInBounds_ne (by omega), Array.getElem?_setIfInBounds_self, if_pos (by simp; omega)]; rfl
  · rw [Array.getElem?_setIfInBounds_ne (by omega), Array.getElem?_setIfInBounds_ne (by omega), Array.getElem?_setIfInBounds_self, if_pos (by simp; omega)]; rfl
  · rw [Array.getElem?_setIfInBounds_ne (by omega), Array.getElem?_setIfInBounds_self, if_pos (by simp; omega)]; rfl
  · rw [Array.getElem?_setIfInBounds_self, if_pos (by simp; omega)]; rfl

/-- A world in which six cells of block L, from o on, have been written. -/
def put6 (w : World) (L o : Nat) (a0 a1 a2 a3 a4 a5 : Value) : World :=
  (((((w.setCell ⟨L, o, none⟩ a0).setCell ⟨L, o + 1, none⟩ a1).setCell ⟨L, o + 2, none⟩ a2).setCell ⟨L, o + 3, none⟩ a3).setCell ⟨L, o + 4, none⟩ a4).setCell ⟨L, o + 5, none⟩ a5

theorem put6_heap {w : World} {L o : Nat} {T : TypeId} {c : Array Value} (a0 a1 a2 a3 a4 a5 : Value) (h : w.heap[L]? = some (.cells c T (0, 0))) :
    (put6 w L o a0 a1 a2 a3 a4 a5).heap[L]? = some (.cells (set6 c o a0 a1 a2 a3 a4 a5) T (0, 0)) :=
  heap_setCell_at _ (heap_setCell_at _ (heap_setCell_at _ (heap_setCell_at _ (heap_setCell_at _ (heap_setCell_at _ h)))))

theorem put6_keep (w : World) (L o : Nat) (a0 a1 a2 a3 a4 a5 : Value) : Keep (fun b => b ≠ L) w (put6 w L o a0 a1 a2 a3 a4 a5) :=
  ((((((Keep.refl _ w).setCell _ (fun _ h => h rfl) _).setCell _ (fun _ h => h rfl) _).setCell _ (fun _ h => h rfl) _).setCell _ (fun _ h => h rfl) _).setCell _ (fun _ h => h rfl) _).setCell _ (fun _ h => h rfl) _

end Go.Proofs.YtjhifhoniimfgaaGreat

/-
  A gate is made by the program and by the document: the list that is handed over stays as it is.
-/
namespace Go.Proofs.YtjhifhoniimfgaaGreat
open Go.RowKit

def zeroLims (n : Nat) : Array Value := madeCells #[.int .i64 0, .int .i64 0, .int .i64 0, .int .i64 0, .int .i64 0, .int .i64 0] (n * 6)

theorem zeroLims_size (n : Nat) : (zeroLims n).size = n * 6 := by simp [zeroLims, size_madeCells]

theorem make_limits (n : Nat) (h : n ≤ 2932031007317) (w : World) :
    (Instr.makeSlice 28 (.int .i64 ((n : Int) + 8)) (.int .i64 ((n : Int) + 8))).run Tryz.prog w = .ok (.slice (some ⟨w.heap.size, 0, none⟩) (n + 8) (n + 8)) (w.alloc (.cells (zeroLims (n + 8)) 62)) := by
  obtain ⟨i, hi, hb, hs, hz⟩ := info_limits
  have := run_make (P := Tryz.prog) w 28 62 i _ Tryz.underlying28 hi hz .i64 .i64 ((n : Int) + 8) ((n : Int) + 8) (by omega) (by omega) (by rw [hb]; omega) (by omega)
  rw [this]
  have e : ((n : Int) + 8).toNat = n + 8 := by omega
  simp [zeroLims, hs, Value.cells, e]

/-- What the list that is handed over holds: the accounts; behind them its owner's mark. -/
def tab (n : Nat) (lim : Nat → Nat → Int) (j t : Nat) : Int := if j < n then lim j t else if t = 0 then -77 else 0

/-- Block L holds the list from place k up to place m. -/
def TabAt (w : World) (L n : Nat) (lim : Nat → Nat → Int) (k m : Nat) : Prop :=
  ∃ cur, w.heap[L]? = some (.cells cur 62 (0, 0)) ∧ cur.size = (n + 8) * 6 ∧ ∀ j t, k ≤ j → j < m → t < 6 → cur[j * 6 + t]? = some (.int .i64 (tab n lim j t))

theorem TabAt.cells {w : World} {L n : Nat} {lim : Nat → Nat → Int} {k m : Nat} (h : TabAt w L n lim k m) (j : Nat) (hj : j < n + 8) :
    ∃ x0 x1 x2 x3 x4 x5, w.cell? ⟨L, j * 6, none⟩ = some x0 ∧ w.cell? ⟨L, j * 6 + 1, none⟩ = some x1 ∧ w.cell? ⟨L, j * 6 + 2, none⟩ = some x2 ∧ w.cell? ⟨L, j * 6 + 3, none⟩ = some x3 ∧ w.cell? ⟨L, j * 6 + 4, none⟩ = some x4 ∧ w.cell? ⟨L, j * 6 + 5, none⟩ = some x5 := by
  obtain ⟨cur, h1, h2, _⟩ := h
  have f : ∀ t, t < 6 → ∃ x, w.cell? ⟨L, j * 6 + t, none⟩ = some x := fun t ht =>
    ⟨_, cellAt h1 (Array.getElem?_eq_getElem (show j * 6 + t < cur.size by omega))⟩
  obtain ⟨x0, a0⟩ := f 0 (by omega)
  obtain ⟨x1, a1⟩ := f 1 (by omega)
  obtain ⟨x2, a2⟩ := f 2 (by omega)
  obtain ⟨x3, a3⟩ := f 3 (by omega)
  obtain ⟨x4, a4⟩ := f 4 (by omega)
  obtain ⟨x5, a5⟩ := f 5 (by omega)
  exact ⟨x0, x1, x2, x3, x4, x5, a0, a1, a2, a3, a4, a5⟩

theorem TabAt.frozen {w : World} {L n : Nat} {lim : Nat → Nat → Int} {k m : Nat} (h : TabAt w L n lim k m) : ∀ o, w.frozen? ⟨L, o, none⟩ = false := by
  obtain ⟨cur, h1, h2, _⟩ := h
  exact fun o => frozenAt h1

/-- One mark more behind the accounts. -/
theorem TabAt.mark {w : World} {L n : Nat} {lim : Nat → Nat → Int} {k : Nat} (h : TabAt w L n lim 0 k) (hn : n ≤ k) (hk : k < n + 8) :
    TabAt (put6 w L (k * 6) (.int .i64 (-77)) (.int .i64 0) (.int .i64 0) (.int .i64 0) (.int .i64 0) (.int .i64 0)) L n lim 0 (k + 1) := by
  obtain ⟨cur, h1, h2, h3⟩ := h
  refine ⟨_, put6_heap _ _ _ _ _ _ h1, by rw [size_set6]; exact h2, fun j t _ hj ht => ?_⟩
  by_cases e : j = k
  · subst e
    rw [set6_at _ _ _ _ _ _ _ _ (by omega) t ht]
    simp only [tab, if_neg (show ¬ j < n by omega)]
    rcases (show t = 0 ∨ t = 1 ∨ t = 2 ∨ t = 3 ∨ t = 4 ∨ t = 5 by omega) with rfl | rfl | rfl | rfl | rfl | rfl <;> rfl
  · rw [set6_other _ _ _ _ _ _ _ _ _ (by omega)]
    exact h3 j t (by omega) (by omega) ht

/-- The owner writes over one place. -/
theorem TabAt.over {w : World} {L n : Nat} {lim : Nat → Nat → Int} {k : Nat} (h : TabAt w L n lim k (n + 8)) :
    TabAt (put6 w L (k * 6) (.int .i64 1) (.int .i64 1) (.int .i64 1) (.int .i64 1) (.int .i64 1) (.int .i64 1)) L n lim (k + 1) (n + 8) := by
  obtain ⟨cur, h1, h2, h3⟩ := h
  refine ⟨_, put6_heap _ _ _ _ _ _ h1, by rw [size_set6]; exact h2, fun j t hk hj ht => ?_⟩
  rw [set6_other _ _ _ _ _ _ _ _ _ (by omega)]
  exact h3 j t (by omega) hj ht

theorem TabAt.six {w : World} {L n : Nat} {lim : Nat → Nat → Int} {k m : Nat} (h : TabAt w L n lim k m) (j : Nat) (h1 : k ≤ j) (h2 : j < m) :
    w.cell? ⟨L, j * 6, none⟩ = some (.int .i64 (tab n lim j 0)) ∧ w.cell? ⟨L, j * 6 + 1, none⟩ = some (.int .i64 (tab n lim j 1)) ∧ w.cell? ⟨L, j * 6 + 2, none⟩ = some (.int .i64 (tab n lim j 2)) ∧
    w.cell? ⟨L, j * 6 + 3, none⟩ = some (.int .i64 (tab n lim j 3)) ∧ w.cell? ⟨L, j * 6 + 4, none⟩ = some (.int .i64 (tab n lim j 4)) ∧ w.cell? ⟨L, j * 6 + 5, none⟩ = some (.int .i64 (tab n lim j 5)) := by
  obtain ⟨cur, a, _, c⟩ := h
  exact ⟨cellAt a (c j 0 h1 h2 (by omega)), cellAt a (c j 1 h1 h2 (by omega)), cellAt a (c j 2 h1 h2 (by omega)), cellAt a (c j 3 h1 h2 (by omega)), cellAt a (c j 4 h1 h2 (by omega)), cellAt a (c j 5 h1 h2 (by omega))⟩

theorem TabAt.keep {S : Nat → Prop} {w w' : World} {L n : Nat} {lim : Nat → Nat → Int} {k m : Nat} (h : TabAt w L n lim k m) (hk : Keep S w w') (hs : S L) : TabAt w' L n lim k m := by
  obtain ⟨cur, a, b⟩ := h
  exact ⟨cur, hk.get a hs, b⟩

theorem TabAt.acc {w : World} {L n : Nat} {lim : Nat → Nat → Int} (h : TabAt w L n lim 0 (n + 8)) : AccAt w (some ⟨L, 0, none⟩) n lim := by
  obtain ⟨cur, a, b, c⟩ := h
  refine .inr ⟨L, 0, rfl, fun k j hk hj => ?_⟩
  have := cellAt a (c k j (Nat.zero_le _) (by omega) hj)
  simpa [tab, hk] using this

/-- What made leaves: behind which worlds the program's New and the document's stood, and that nothing of theirs has turned since. -/
def MadeOk (Φ Ψ : World → World → Nat → Prop) (w w' : World) (bx bY : Nat) : Prop :=
  ∃ W1 w1 W2 w2, Φ W1 w1 bx ∧ Ψ W2 w2 bY ∧ w.heap.size ≤ W1.heap.size ∧ w1.heap.size ≤ W2.heap.size ∧
    Below w1.heap.size w1 w2 ∧ Keep (fun k => W1.heap.size ≤ k) w2 w' ∧ Below w.heap.size w w'

set_option maxRecDepth 100000 in
set_option maxHeartbeats 2000000 in
theorem made_core (cl co ur an ch : Int) (a : Option Addr) (n c : Nat) (lim : Nat → Nat → Int) (w : World) (ha : AccAt w a n lim) (hn : n ≤ 2932031007317)
    (er : Int) (px py : Nat → Option Addr) (Φ Ψ : World → World → Nat → Prop)
    (hN : ∀ W a' c', AccAt W a' n lim → Calls Tryz.prog 14 #[.agg #[.int .i64 cl, .int .i64 co, .int .i64 ur, .int .i64 an, .int .i64 ch, .slice a' n c']] W
      fun e w' => ∃ b, e = .returned (.tuple #[.pointer (px b), .int .i64 er]) ∧ Below W.heap.size W w' ∧ Φ W w' b)
    (hR : ∀ W a' c', AccAt W a' n lim → Calls Tryz.prog 21 #[.agg #[.int .i64 cl, .int .i64 co, .int .i64 ur, .int .i64 an, .int .i64 ch, .slice a' n c']] W
      fun e w' => ∃ b, e = .returned (.tuple #[.pointer (py b), .int .i64 er]) ∧ Below W.heap.size W w' ∧ Ψ W w' b)
    (hX : ((∀ b, px b = none) ∧ ∀ b, py b = none) ∨ ((∀ b, px b = some ⟨b, 0, none⟩) ∧ ∀ b, py b = some ⟨b, 0, none⟩)) :
    Calls Tryz.prog 10 #[.agg #[.int .i64 cl, .int .i64 co, .int .i64 ur, .int .i64 an, .int .i64 ch, .slice a n c]] w
      fun e w' => ∃ bx bY, e = .returned (.tuple #[.agg #[.pointer (px bx), .pointer (py bY)], .bool true]) ∧ MadeOk Φ Ψ w w' bx bY := by
  have hmk := make_limits n hn
  have HN : Hid _ := hN
  have HR : Hid _ := hR
  have HX : Hid _ := hX
  have HS : Hid ((Tryz.prog.info? 62).map (·.size) = some 6) := by show _ = _; kernel_rfl
  have bel3 : Below w.heap.size w (((w.alloc (.cells #[.int .i64 cl, .int .i64 co, .int .i64 ur, .int .i64 an, .int .i64 ch, .slice a n c] 30)).alloc (.cells #[.pointer none, .pointer none] 35)).alloc (.cells (zeroLims (n + 8)) 62)) := (((Below.refl _ _).alloc (Nat.le_refl _) _).alloc (by simp) _).alloc (by simp; omega) _
  have HG0 : Hid ((((w.alloc (.cells #[.int .i64 cl, .int .i64 co, .int .i64 ur, .int .i64 an, .int .i64 ch, .slice a n c] 30)).alloc (.cells #[.pointer none, .pointer none] 35)).alloc (.cells (zeroLims (n + 8)) 62)).heap[w.heap.size + 1 + 1]? = some (.cells (zeroLims (n + 8)) 62 (0, 0))) := by
    show _ = _
    simpa using heap_alloc_new ((w.alloc (.cells #[.int .i64 cl, .int .i64 co, .int .i64 ur, .int .i64 an, .int .i64 ch, .slice a n c] 30)).alloc (.cells #[.pointer none, .pointer none] 35)) _
  have HG1 : Hid ((((w.alloc (.cells #[.int .i64 cl, .int .i64 co, .int .i64 ur, .int .i64 an, .int .i64 ch, .slice a n c] 30)).alloc (.cells #[.pointer none, .pointer none] 35)).alloc (.cells (zeroLims (n + 8)) 62)).heap[w.heap.size]? = some (.cells #[.int .i64 cl, .int .i64 co, .int .i64 ur, .int .i64 an, .int .i64 ch, .slice a n c] 30 (0, 0))) := by
    show _ = _
    rw [Below.heap_alloc _ _ _ (by simp; omega), Below.heap_alloc _ _ _ (by simp)]
    exact heap_alloc_new w _
  have HG2 : Hid ((((w.alloc (.cells #[.int .i64 cl, .int .i64 co, .int .i64 ur, .int .i64 an, .int .i64 ch, .slice a n c] 30)).alloc (.cells #[.pointer none, .pointer none] 35)).alloc (.cells (zeroLims (n + 8)) 62)).heap[w.heap.size + 1]? = some (.cells #[.pointer none, .pointer none] 35 (0, 0))) := by
    show _ = _
    rw [Below.heap_alloc _ _ _ (by simp)]
    simpa using heap_alloc_new (w.alloc (.cells #[.int .i64 cl, .int .i64 co, .int .i64 ur, .int .i64 an, .int .i64 ch, .slice a n c] 30)) _
  have HSRC : Hid (n = 0 ∨ ∃ ad, a = some ad ∧ ∀ j v, (limCells lim n)[j]? = some v → (((w.alloc (.cells #[.int .i64 cl, .int .i64 co, .int .i64 ur, .int .i64 an, .int .i64 ch, .slice a n c] 30)).alloc (.cells #[.pointer none, .pointer none] 35)).alloc (.cells (zeroLims (n + 8)) 62)).cell? (ad.add j) = some v) := by
    by_cases h0 : n = 0
    · exact .inl h0
    · obtain ⟨b, off, rfl⟩ := ha.some_of (by omega)
      exact .inr ⟨_, rfl, (ha.below bel3).cells⟩
  have HF : Hid ((limCells lim n).length ≤ (zeroLims (n + 8)).size) := by show _ ≤ _; rw [limCells_len, zeroLims_size]; omega
  obtain ⟨w3, cur3, hrun, hg3, hs3, hc3, hd3, hk3⟩ := copy_rows_ex (P := Tryz.prog) (((w.alloc (.cells #[.int .i64 cl, .int .i64 co, .int .i64 ur, .int .i64 an, .int .i64 ch, .slice a n c] 30)).alloc (.cells #[.pointer none, .pointer none] 35)).alloc (.cells (zeroLims (n + 8)) 62)) 28 28 3 62 6 Tryz.underlying28 HS.out (w.heap.size + 1 + 1) (n + 8) (n + 8) a n c (zeroLims (n + 8)) 62 HG0.out (limCells lim n) (by omega) (limCells_len lim n) HSRC.out HF.out (limCells_one lim n)
  have HB3 : Hid (Below w.heap.size w (((w.alloc (.cells #[.int .i64 cl, .int .i64 co, .int .i64 ur, .int .i64 an, .int .i64 ch, .slice a n c] 30)).alloc (.cells #[.pointer none, .pointer none] 35)).alloc (.cells (zeroLims (n + 8)) 62))) := bel3
  have HA : Hid (AccAt w a n lim) := ha
  clear ha hN hR hX bel3
  have t3 : TabAt w3 (w.heap.size + 1 + 1) n lim 0 n := by
    refine ⟨cur3, hg3, by rw [hs3, zeroLims_size], fun j t _ hj ht => ?_⟩
    rw [hc3 _ (by rw [limCells_len]; omega)]
    have e1 : (j * 6 + t) / 6 = j := by omega
    have e2 : (j * 6 + t) % 6 = t := by omega
    simp only [limCells, List.getElem?_map, List.getElem?_range (show j * 6 + t < n * 6 by omega), Option.map_some, e1, e2, tab, if_pos hj]
  have g1 := hk3.get HG1.out (by show w.heap.size ≠ w.heap.size + 1 + 1; omega)
  have g2 := hk3.get HG2.out (by show w.heap.size + 1 ≠ w.heap.size + 1 + 1; omega)
  have b3 : Below w.heap.size w w3 := by
    have k0 : Keep (fun b => b < w.heap.size) w w3 := (Keep.ofBelow (S := fun b => b < w.heap.size) HB3.out).trans' hk3 (fun b h1 h2 => by show b ≠ w.heap.size + 1 + 1; omega)
    exact k0.below (Nat.le_refl _)
  have l3 : w.heap.size + 3 ≤ w3.heap.size := by have := hk3.size; simp at this; omega
  obtain ⟨L, hL⟩ : ∃ L, L = w.heap.size + 1 + 1 := ⟨_, rfl⟩
  rw [← hL] at t3 hrun
  have hmk2 : (Instr.makeSlice 28 (.int .i64 ((n : Int) + 8)) (.int .i64 ((n : Int) + 8))).run Tryz.prog ((w.alloc (.cells #[.int .i64 cl, .int .i64 co, .int .i64 ur, .int .i64 an, .int .i64 ch, .slice a n c] 30)).alloc (.cells #[.pointer none, .pointer none] 35)) = .ok (.slice (some ⟨L, 0, none⟩) (n + 8) (n + 8)) (((w.alloc (.cells #[.int .i64 cl, .int .i64 co, .int .i64 ur, .int .i64 an, .int .i64 ch, .slice a n c] 30)).alloc (.cells #[.pointer none, .pointer none] 35)).alloc (.cells (zeroLims (n + 8)) 62)) := by
    rw [hmk, hL]; simp
  have T3 : Hid (TabAt w3 L n lim 0 n) := t3
  have G1 : Hid (w3.heap[w.heap.size]? = some (.cells #[.int .i64 cl, .int .i64 co, .int .i64 ur, .int .i64 an, .int .i64 ch, .slice a n c] 30 (0, 0))) := g1
  have G2 : Hid (w3.heap[w.heap.size + 1]? = some (.cells #[.pointer none, .pointer none] 35 (0, 0))) := g2
  have B3 : Hid (Below w.heap.size w w3) := b3
  have HL : Hid (L = w.heap.size + 1 + 1) := hL
  have d5 : w3.cell? ⟨w.heap.size, 5, none⟩ = some (.slice a n c) := cellAt (i := 5) g1 rfl
  have hLw : w.heap.size ≠ L := by omega
  clear hg3 hs3 hc3 hd3 hk3 t3 g1 g2 b3 hL HG0 HG1 HG2 HSRC HF HB3 hmk
  go_enter Tryz.func10, Tryz.ntmps10
  go_wp2
  clear hmk2 hrun
  go_loopw [5] (fun i wr => ∃ k : Nat, n ≤ k ∧ k ≤ n + 8 ∧ i = .int .i64 k ∧ TabAt wr L n lim 0 k ∧ Keep (fun b => b ≠ L) w3 wr) (fun i _ => n + 8 - (intOf i).toNat)
  case atStart => exact ⟨n, Nat.le_refl _, by omega, rfl, T3.out, Keep.refl _ _⟩
  case round =>
    obtain ⟨k, hk1, hk2, rfl, tk, hkk⟩ := hrel
    have TK : Hid (TabAt wr L n lim 0 k) := tk
    by_cases hlt : k < n + 8
    · have hlt' : (k : Int) < (n : Int) + 8 := by omega
      obtain ⟨x0, x1, x2, x3, x4, x5, c0, c1, c2, c3, c4, c5⟩ := tk.cells k hlt
      have hz := tk.frozen
      clear tk
      go_wp2
      go_roundw
      case rel => exact ⟨k + 1, by omega, by omega, by go_num, TK.out.mark hk1 hlt, hkk.trans (put6_keep wr L (k * 6) _ _ _ _ _ _)⟩
      case measure => simp [intOf]; omega
    · rename World => wq
      have hge : ¬ (k : Int) < (n : Int) + 8 := by omega
      obtain rfl : k = n + 8 := by omega
      have g1 := hkk.get G1.out hLw
      have g2 := hkk.get G2.out (by have := HL.out; show w.heap.size + 1 ≠ L; omega)
      have e0 : wq.cell? ⟨w.heap.size, 0, none⟩ = some (.int .i64 cl) := cellAt (i := 0) g1 rfl
      have e1 : wq.cell? ⟨w.heap.size, 1, none⟩ = some (.int .i64 co) := cellAt (i := 1) g1 rfl
      have e2 : wq.cell? ⟨w.heap.size, 2, none⟩ = some (.int .i64 ur) := cellAt (i := 2) g1 rfl
      have e3 : wq.cell? ⟨w.heap.size, 3, none⟩ = some (.int .i64 an) := cellAt (i := 3) g1 rfl
      have e4 : wq.cell? ⟨w.heap.size, 4, none⟩ = some (.int .i64 ch) := cellAt (i := 4) g1 rfl
      have e5 : wq.cell? ⟨w.heap.size, 5, none⟩ = some (.slice a n c) := cellAt (i := 5) g1 rfl
      have lr : w.heap.size + 3 ≤ wq.heap.size := Nat.le_trans l3 hkk.size
      have lr2 : w.heap.size < wq.heap.size := by omega
      have BR : Hid (Below w.heap.size w wq) := by
        have k0 : Keep (fun b => b < w.heap.size) w wq := (Keep.ofBelow (S := fun b => b < w.heap.size) B3.out).trans' hkk (fun b h1 h2 => by have := HL.out; show b ≠ L; omega)
        exact k0.below (Nat.le_refl _)
      have GR1 : Hid (wq.heap[w.heap.size]? = some (.cells #[.int .i64 cl, .int .i64 co, .int .i64 ur, .int .i64 an, .int .i64 ch, .slice a n c] 30 (0, 0))) := g1
      have GR2 : Hid (wq.heap[w.heap.size + 1]? = some (.cells #[.pointer none, .pointer none] 35 (0, 0))) := g2
      clear tk g1 g2 hkk T3 G1 G2 B3 d5
      go_wp2_with fail
      refine (HN.out _ (some ⟨L, 0, none⟩) (n + 8) (TK.out.acc.below ((Below.refl _ _).alloc (Nat.le_refl _) _))).mono ?_
      rintro e w1 ⟨bx, rfl, hb1, hφ⟩
      have hbr : Below wq.heap.size wq w1 := ((Below.refl _ _).alloc (Nat.le_refl _) _).trans (hb1.mono (by simp))
      have f0 : w1.cell? ⟨w.heap.size, 0, none⟩ = some (.int .i64 cl) := by rw [hbr.cell lr2]; exact e0
      have f1 : w1.cell? ⟨w.heap.size, 1, none⟩ = some (.int .i64 co) := by rw [hbr.cell lr2]; exact e1
      have f2 : w1.cell? ⟨w.heap.size, 2, none⟩ = some (.int .i64 ur) := by rw [hbr.cell lr2]; exact e2
      have f3 : w1.cell? ⟨w.heap.size, 3, none⟩ = some (.int .i64 an) := by rw [hbr.cell lr2]; exact e3
      have f4 : w1.cell? ⟨w.heap.size, 4, none⟩ = some (.int .i64 ch) := by rw [hbr.cell lr2]; exact e4
      have f5 : w1.cell? ⟨w.heap.size, 5, none⟩ = some (.slice a n c) := by rw [hbr.cell lr2]; exact e5
      have hw1 : wq.heap.size + 1 ≤ w1.heap.size := by have := hb1.size; simp at this; omega
      obtain ⟨M1, hM1⟩ : ∃ M1, M1 = wq.alloc (.cells #[.int .i64 cl, .int .i64 co, .int .i64 ur, .int .i64 an, .int .i64 ch, .slice (some ⟨L, 0, none⟩) n (n + 8)] 30) := ⟨_, rfl⟩
      have HM1 : Hid (Φ M1 w1 bx ∧ M1.heap.size = wq.heap.size + 1) := by rw [hM1]; exact ⟨hφ, by simp⟩
      have H1 : Hid (Below wq.heap.size wq w1) := hbr
      clear hbr hb1 hφ e0 e1 e2 e3 e4 e5 hM1
      go_wp2_with fail
      refine (HR.out _ a c ((HA.out.below BR.out).below H1.out)).mono ?_
      rintro e w2 ⟨bY, rfl, hb2, hψ⟩
      have d5 : w2.cell? ⟨w.heap.size, 5, none⟩ = some (.slice a n c) := by rw [hb2.cell (by show w.heap.size < _; omega)]; exact f5
      have k12 : Keep (fun b => b < wq.heap.size) wq w2 := (Keep.ofBelow (S := fun b => b < wq.heap.size) H1.out).trans' (Keep.ofBelow (S := fun _ => True) hb2) (fun _ _ _ => trivial)
      have T2 : Hid (TabAt w2 L n lim 0 (n + 8)) := TK.out.keep k12 (by have := HL.out; show L < wq.heap.size; omega)
      have R2 : Hid (w2.heap[w.heap.size + 1]? = some (.cells #[.pointer none, .pointer none] 35 (0, 0))) := k12.get GR2.out (by show w.heap.size + 1 < wq.heap.size; omega)
      have A2 : Hid (AccAt w2 a n lim) := ((HA.out.below BR.out).below H1.out).below hb2
      have H2 : Hid (Below w1.heap.size w1 w2) := hb2
      have HP : Hid (Ψ w1 w2 bY) := hψ
      have lw2 : w1.heap.size ≤ w2.heap.size := hb2.size
      clear hb2 hψ f0 f1 f2 f3 f4 f5 k12
      go_wp2_with fail
      go_loopw [11, 12] (fun s i wv => ∃ k : Nat, k ≤ n + 8 ∧ s = .bool true ∧ i = .int .i64 k ∧ TabAt wv L n lim k (n + 8) ∧ Keep (fun b => b ≠ L) w2 wv) (fun _ i _ => n + 8 - (intOf i).toNat)
      case atStart => exact ⟨0, Nat.zero_le _, rfl, rfl, T2.out, Keep.refl _ _⟩
      case round =>
        obtain ⟨k, hk, rfl, rfl, tk, hkk⟩ := hrel
        have TK2 : Hid (TabAt wr L n lim k (n + 8)) := tk
        have d6 : wr.cell? ⟨w.heap.size, 5, none⟩ = some (.slice a n c) := by rw [World.cell?_of_block (w := w2) (hkk.block w.heap.size (by omega) hLw)]; exact d5
        clear d5
        by_cases hlt : k < n + 8
        · have hlt' : (k : Int) < (n : Int) + 8 := by omega
          obtain ⟨c0, c1, c2, c3, c4, c5⟩ := tk.six k (Nat.le_refl _) hlt
          have hz := tk.frozen
          by_cases hkn : k < n
          · have hkn' : (k : Int) < (n : Int) := by omega
            have hl := HL.out
            obtain ⟨b, off, rfl⟩ := HA.out.some_of (by omega)
            have hbl : b < w.heap.size := World.block_lt_of_cell? w _ (HA.out.six k hkn).1
            obtain ⟨g0, g1, g2, g3, g4, g5⟩ := A2.out.six k hkn
            have kb := hkk.block b (by omega) (by show b ≠ L; omega)
            rw [← World.cell?_of_block (a := ⟨b, _, none⟩) kb] at g0 g1 g2 g3 g4 g5
            simp only [tab, if_pos hkn] at c0 c1 c2 c3 c4 c5
            clear tk kb hbl hl
            go_wp2
            go_quiet (fail)
            go_wp2
            go_roundw
            case rel => exact ⟨k + 1, by omega, rfl, by go_num, (TK2.out.keep (S := fun _ => True) ((Keep.refl _ wr).drewN nq) trivial).over, (hkk.drewN nq).trans (put6_keep (wr.drewN nq) L (k * 6) _ _ _ _ _ _)⟩
            case measure => simp [intOf]; omega
          · have hkn2 : decide ((k : Int) < (n : Int)) = false := by simp; omega
            have hkn3 : (n : Int) ≤ (k : Int) := by omega
            simp only [tab, if_neg hkn, if_true, if_neg (show ¬ (1 : Nat) = 0 by omega), if_neg (show ¬ (2 : Nat) = 0 by omega), if_neg (show ¬ (3 : Nat) = 0 by omega), if_neg (show ¬ (4 : Nat) = 0 by omega), if_neg (show ¬ (5 : Nat) = 0 by omega)] at c0 c1 c2 c3 c4 c5
            clear tk
            go_wp2
            go_quiet (fail)
            go_wp2
            go_roundw
            case rel => exact ⟨k + 1, by omega, rfl, by go_num, (TK2.out.keep (S := fun _ => True) ((Keep.refl _ wr).drewN nq) trivial).over, (hkk.drewN nq).trans (put6_keep (wr.drewN nq) L (k * 6) _ _ _ _ _ _)⟩
            case measure => simp [intOf]; omega
        · have hge2 : ¬ (k : Int) < (n : Int) + 8 := by omega
          have r2 := hkk.get R2.out (by have := HL.out; show w.heap.size + 1 ≠ L; omega)
          have q0 : wr.cell? ⟨w.heap.size + 1, 0, none⟩ = some (.pointer none) := cellAt (i := 0) r2 rfl
          have q1 : wr.cell? ⟨w.heap.size + 1, 1, none⟩ = some (.pointer none) := cellAt (i := 1) r2 rfl
          have z0 : wr.frozen? ⟨w.heap.size + 1, 0, none⟩ = false := frozenAt r2
          have z1 : wr.frozen? ⟨w.heap.size + 1, 1, none⟩ = false := frozenAt r2
          have h0 := HL.out
          have b2 : Below w.heap.size w w2 := (BR.out.trans (H1.out.mono (by omega))).trans (H2.out.mono (by omega))
          have KF : Hid (∀ x y, Below w.heap.size w ((wr.setCell ⟨w.heap.size + 1, 0, none⟩ x).setCell ⟨w.heap.size + 1, 1, none⟩ y)) := by
            intro x y
            have k0 : Keep (fun b => b < w.heap.size) w wr := (Keep.ofBelow (S := fun b => b < w.heap.size) b2).trans' hkk (fun b h1 h2 => by show b ≠ L; omega)
            exact ((k0.setCell ⟨w.heap.size + 1, 0, none⟩ (fun h1 h2 => by simp at h2; omega) x).setCell ⟨w.heap.size + 1, 1, none⟩ (fun h1 h2 => by simp at h2; omega) y).below (Nat.le_refl _)
          have KK : Hid (∀ x y, Keep (fun b => b ≠ L ∧ b ≠ w.heap.size + 1) w2 ((wr.setCell ⟨w.heap.size + 1, 0, none⟩ x).setCell ⟨w.heap.size + 1, 1, none⟩ y)) := by
            intro x y
            have k0 : Keep (fun b => b ≠ L ∧ b ≠ w.heap.size + 1) w2 wr := hkk.mono (fun _ _ h => h.1)
            exact (k0.setCell ⟨w.heap.size + 1, 0, none⟩ (fun _ h2 => h2.2 rfl) x).setCell ⟨w.heap.size + 1, 1, none⟩ (fun _ h2 => h2.2 rfl) y
          have MO : Hid (∀ x y, MadeOk Φ Ψ w ((wr.setCell ⟨w.heap.size + 1, 0, none⟩ x).setCell ⟨w.heap.size + 1, 1, none⟩ y) bx bY) := fun x y =>
            ⟨M1, w1, w1, w2, HM1.out.1, HP.out, by have := HM1.out.2; omega, Nat.le_refl _, H2.out, (KK.out x y).mono (fun b _ (hb : M1.heap.size ≤ b) => by have := HM1.out.2; show b ≠ L ∧ b ≠ w.heap.size + 1; omega), KF.out x y⟩
          clear tk r2 h0 b2
          rcases HX.out with ⟨p1, p2⟩ | ⟨p1, p2⟩
          · go_wp2
            refine bodyPost_ret (v := .tuple #[.agg #[.pointer none, .pointer none], .bool true]) (by simp [results, Tryz.results10, go_sem, q0, q1]) rfl ?_
            exact ⟨rfl, bx, bY, MO.out _ _⟩
          · go_wp2
            refine bodyPost_ret (v := .tuple #[.agg #[.pointer (some ⟨bx, 0, none⟩), .pointer (some ⟨bY, 0, none⟩)], .bool true]) (by simp [results, Tryz.results10, go_sem, q0, q1]) rfl ?_
            exact ⟨bx, bY, rfl, MO.out _ _⟩

end Go.Proofs.YtjhifhoniimfgaaGreat

/-
  A gate is made on both sides: the two are alike.
-/
namespace Go.Proofs.YtjhifhoniimfgaaGreat
open Go.RowKit

theorem PG.keep2 {own own' : Nat → Nat} {T : Nat} {S : Nat → Prop} {w w' : World} {B : GB} {s : St} {N : Nat} (h : PG own T w B s N) (hcl : s.cl ≤ 8) (hna : s.na ≤ 4) (hk : Keep S w w') (hs : ∀ b, b < w.heap.size → T ≤ own b → own b < T + 100 → S b ∧ own' b = own b) : PG own' T w' B s N := by
  refine (h.keep (own' := fun b => if b < w.heap.size then own b else own' b) hcl hna hk (fun b hb q1 q2 => (hs b hb q1 q2).1) (fun b hb => if_pos hb)).reown hcl hna (fun b q1 q2 => ?_)
  by_cases hb : b < w.heap.size
  · simp only [if_pos hb] at q1 q2 ⊢
    exact (hs b hb q1 q2).2
  · simp only [if_neg hb]

theorem RG.keep2 {own own' : Nat → Nat} {T : Nat} {S : Nat → Prop} {w w' : World} {R : RB} {s : St} (h : RG own T w R s) (hcl : s.cl ≤ 8) (hk : Keep S w w') (hs : ∀ b, b < w.heap.size → T ≤ own b → own b < T + 100 → S b ∧ own' b = own b) : RG own' T w' R s := by
  refine (h.keep (own' := fun b => if b < w.heap.size then own b else own' b) hcl hk (fun b hb q1 q2 => (hs b hb q1 q2).1) (fun b hb => if_pos hb)).reown hcl (fun b q1 q2 => ?_)
  by_cases hb : b < w.heap.size
  · simp only [if_pos hb] at q1 q2 ⊢
    exact (hs b hb q1 q2).2
  · simp only [if_neg hb]

theorem Keep.toBelow {w w' : World} (h : Keep (fun _ => True) w w') : Below w.heap.size w w' := (h.mono (T := fun k => k < w.heap.size) (fun _ _ _ => trivial)).below (Nat.le_refl _)

theorem made_no (cl co ur an ch : Int) (a : Option Addr) (n c : Nat) (lim : Nat → Nat → Int) (w : World) (ha : AccAt w a n lim) (hn : n ≤ 2932031007317) (hm : mayB cl co ur an ch n lim = false) :
    Calls Tryz.prog 10 #[.agg #[.int .i64 cl, .int .i64 co, .int .i64 ur, .int .i64 an, .int .i64 ch, .slice a n c]] w
      fun e w' => e = .returned (.tuple #[.agg #[.pointer none, .pointer none], .bool true]) ∧ Below w.heap.size w w' := by
  refine (made_core cl co ur an ch a n c lim w ha hn 2 (fun _ => none) (fun _ => none) (fun _ _ _ => True) (fun _ _ _ => True) ?_ ?_ (.inl ⟨fun _ => rfl, fun _ => rfl⟩)).mono ?_
  · intro W a' c' hA
    refine (gNew_no cl co ur an ch a' n c' lim W hA hm).mono ?_
    rintro e w' ⟨rfl, hb⟩
    exact ⟨0, rfl, hb, trivial⟩
  · intro W a' c' hA
    refine (rNew_no cl co ur an ch a' n c' lim W hA hm).mono ?_
    rintro e w' ⟨rfl, hb⟩
    exact ⟨0, rfl, hb, trivial⟩
  · rintro e w' ⟨bx, bY, rfl, _, _, _, _, _, _, _, _, _, _, hb⟩
    exact ⟨rfl, hb⟩

theorem mayB_newOk {cl co ur an ch n : Nat} {lim : Nat → Nat → Int} (hm : mayB cl co ur an ch n lim = true) : Ok (newS cl an ch n lim (fun i => if i = 0 then co else ur)) 0 := by
  obtain ⟨hs, hal⟩ := (mayB_iff _ _ _ _ _ _ _).1 hm
  have hm' := hm
  simp only [mayB, inB, accB, Bool.and_eq_true, decide_eq_true_eq] at hm'
  obtain ⟨⟨⟨⟨⟨m1, m2⟩, m3⟩, m4⟩, m5⟩, m6, m7⟩ := hm'
  refine new_ok cl an ch n lim _ (by omega) m4 (by omega) (by omega) (fun a ha => ?_) (fun i hi => ?_)
  · have hl := allOk_iff.1 hal a ha
    simp only [limOk, limsB, limB, winB, Bool.and_eq_true, decide_eq_true_eq] at hl
    refine ⟨fun j hj => ?_, hl.2⟩
    rcases (show j = 0 ∨ j = 1 ∨ j = 2 ∨ j = 3 ∨ j = 4 by omega) with rfl | rfl | rfl | rfl | rfl
    · exact hl.1.1.1.1.1
    · exact hl.1.1.1.1.2
    · exact hl.1.1.1.2
    · exact hl.1.1.2
    · exact hl.1.2
  · by_cases h0 : i = 0
    · rw [if_pos h0]; exact m2
    · rw [if_neg h0]; exact m3

theorem made_yes (own : Nat → Nat) (i : Nat) (cl co ur an ch : Int) (a : Option Addr) (n c : Nat) (lim : Nat → Nat → Int) (w : World) (ha : AccAt w a n lim) (hn : n ≤ 2932031007317) (hm : mayB cl co ur an ch n lim = true) :
    Calls Tryz.prog 10 #[.agg #[.int .i64 cl, .int .i64 co, .int .i64 ur, .int .i64 an, .int .i64 ch, .slice a n c]] w
      fun e w' => ∃ bx bY, e = .returned (.tuple #[.agg #[.pointer (some ⟨bx, 0, none⟩), .pointer (some ⟨bY, 0, none⟩)], .bool true]) ∧ Below w.heap.size w w' ∧
        ∃ own', Same own own' w ∧ TwinAt own' i w' (some ⟨bx, 0, none⟩) (some ⟨bY, 0, none⟩) 0 := by
  have hm' := hm
  simp only [mayB, inB, accB, Bool.and_eq_true, decide_eq_true_eq] at hm'
  obtain ⟨⟨⟨⟨⟨m1, m2⟩, m3⟩, m4⟩, m5⟩, m6, m7⟩ := hm'
  obtain ⟨cl, rfl⟩ := Int.eq_ofNat_of_zero_le (show 0 ≤ cl by omega)
  obtain ⟨co, rfl⟩ := Int.eq_ofNat_of_zero_le (show 0 ≤ co by have := powB_cases m2; omega)
  obtain ⟨ur, rfl⟩ := Int.eq_ofNat_of_zero_le (show 0 ≤ ur by have := powB_cases m3; omega)
  obtain ⟨an, rfl⟩ := Int.eq_ofNat_of_zero_le (show 0 ≤ an by have := powB_cases m4; omega)
  obtain ⟨ch, rfl⟩ := Int.eq_ofNat_of_zero_le (show 0 ≤ ch by omega)
  have hok := mayB_newOk hm
  refine (made_core cl co ur an ch a n c lim w ha hn 0 (fun b => some ⟨b, 0, none⟩) (fun b => some ⟨b, 0, none⟩)
    (fun W w' gb => NR4 (fun _ => 0) (200 * (i + 1)) W cl co ur an ch n lim gb w')
    (fun W w' rb => ∃ own' R, R.rb = rb ∧ RG own' (200 * (i + 1) + 100) w' R (newS cl an ch n lim (fun i => if i = 0 then co else ur)) ∧ Same (fun _ => 0) own' W ∧ Keep (fun _ => True) W w') ?_ ?_ (.inr ⟨fun _ => rfl, fun _ => rfl⟩)).mono ?_
  · intro W a' c' hA
    refine (gNew_yes (own := fun _ => 0) (T := 200 * (i + 1)) (by omega) cl co ur an ch a' n c' lim hA hm).mono ?_
    rintro e w' ⟨gb, rfl, hr⟩
    obtain ⟨_, _, _, _, _, hk⟩ := id hr
    exact ⟨gb, rfl, hk.toBelow, hr⟩
  · intro W a' c' hA
    refine (rNew_yes (own := fun _ => 0) (T := 200 * (i + 1) + 100) cl co ur an ch a' n c' lim hA hm).mono ?_
    rintro e w' ⟨own', R, rfl, hr, hs, hk⟩
    exact ⟨R.rb, rfl, hk.toBelow, own', R, rfl, hr, hs, hk⟩
  · rintro e w' ⟨bx, bY, rfl, W1, w1, W2, w2, ⟨own1, B, rfl, hp, hs1, hk1⟩, ⟨own2, R, rfl, hr, hs2, hk2⟩, q1, q2, q3, q4, hb⟩
    have l1 := hk1.size
    have l2 := hk2.size
    refine ⟨B.gb, R.rb, rfl, hb, fun b => if b < w.heap.size then own b else if b < w1.heap.size then own1 b else own2 b, fun b hb => if_pos hb, .inr ⟨B, R, _, rfl, rfl, ?_, ?_, hok⟩⟩
    · refine ((hp.keep hok.cl.2 hok.na.2 (Keep.ofBelow (S := fun _ => True) q3) (fun _ _ _ _ => trivial) (own' := fun b => if b < w1.heap.size then own1 b else 0) (fun b hb => if_pos hb))).keep2 hok.cl.2 hok.na.2 q4 (fun b hb h1 h2 => ?_)
      by_cases hlt : b < w1.heap.size
      · simp only [if_pos hlt] at h1 h2 ⊢
        have hge : W1.heap.size ≤ b := by
          rcases Nat.lt_or_ge b W1.heap.size with h3 | h3
          · have h4 : own1 b = 0 := hs1 b h3
            omega
          · exact h3
        refine ⟨hge, ?_⟩
        rw [if_neg (by omega)]
      · simp only [if_neg hlt] at h1
        omega
    · refine hr.keep2 hok.cl.2 q4 (fun b hb h1 h2 => ?_)
      have hge : W2.heap.size ≤ b := by
        rcases Nat.lt_or_ge b W2.heap.size with h3 | h3
        · have h4 : own2 b = 0 := hs2 b h3
          omega
        · exact h3
      refine ⟨by show W1.heap.size ≤ b; omega, ?_⟩
      show (if b < w.heap.size then own b else if b < w1.heap.size then own1 b else own2 b) = own2 b
      rw [if_neg (by omega), if_neg (by omega)]

end Go.Proofs.YtjhifhoniimfgaaGreat

