/-
  The document's New, behind its first test: the accounts, and the gate itself.
-/
import Derived.Test.YtncljickkoihhaaWRNewA
namespace Go.Proofs.Ytncljickkoihhaa
open Go.RowKit

theorem limOk_cases (lim : Nat → Nat → Int) (k : Nat) :
    (limOk lim k = true ∧ limB (lim k 0) = true ∧ limB (lim k 1) = true ∧ limB (lim k 2) = true ∧ limB (lim k 3) = true ∧ limB (lim k 4) = true ∧ 1 ≤ lim k 5 ∧ lim k 5 ≤ 1000) ∨
    (limOk lim k = false ∧ (limB (lim k 0) = false ∨ (limB (lim k 0) = true ∧ limB (lim k 1) = false) ∨ (limB (lim k 0) = true ∧ limB (lim k 1) = true ∧ limB (lim k 2) = false) ∨
      (limB (lim k 0) = true ∧ limB (lim k 1) = true ∧ limB (lim k 2) = true ∧ limB (lim k 3) = false) ∨
      (limB (lim k 0) = true ∧ limB (lim k 1) = true ∧ limB (lim k 2) = true ∧ limB (lim k 3) = true ∧ limB (lim k 4) = false) ∨
      (limB (lim k 0) = true ∧ limB (lim k 1) = true ∧ limB (lim k 2) = true ∧ limB (lim k 3) = true ∧ limB (lim k 4) = true ∧ (lim k 5 < 1 ∨ (1 ≤ lim k 5 ∧ 1000 < lim k 5))))) := by
  unfold limOk limsB winB
  cases limB (lim k 0) <;> cases limB (lim k 1) <;> cases limB (lim k 2) <;> cases limB (lim k 3) <;> cases limB (lim k 4) <;> simp
  omega

/-- The clients of a new gate: no answers, no acks. -/
def zeroClients (n : Nat) : Array Value := madeCells #[.slice none 0 0, .slice none 0 0] (n * 2)

theorem make_clients (cl : Int) (h1 : 1 ≤ cl) (h8 : cl ≤ 8) (w : World) :
    (Instr.makeSlice 96 (.int .i64 cl) (.int .i64 cl)).run Try.prog w = .ok (.slice (some ⟨w.heap.size, 0, none⟩) cl.toNat cl.toNat) (w.alloc (.cells (zeroClients cl.toNat) 112)) := by
  have e : (Try.prog.info? 112).map (fun i => (i.bytes, i.size, i.zero)) = some (48, 2, some (.agg #[.slice none 0 0, .slice none 0 0])) := by kernel_rfl
  obtain ⟨i, hi, he⟩ := Option.map_eq_some_iff.1 e
  simp only [Prod.mk.injEq] at he
  obtain ⟨hb, hs, hz⟩ := he
  have := run_make (P := Try.prog) w 96 112 i _ Try.underlying96 hi hz .i64 .i64 cl cl (by omega) (by omega) (by rw [hb]; omega) (by omega)
  rw [this]
  simp [zeroClients, hs, Value.cells]

theorem info_limits : ∃ i, Try.prog.info? 62 = some i ∧ i.bytes = 48 ∧ i.size = 6 ∧ i.zero = some (.agg #[.int .i64 0, .int .i64 0, .int .i64 0, .int .i64 0, .int .i64 0, .int .i64 0]) := by
  have e : (Try.prog.info? 62).map (fun i => (i.bytes, i.size, i.zero)) = some (48, 6, some (.agg #[.int .i64 0, .int .i64 0, .int .i64 0, .int .i64 0, .int .i64 0, .int .i64 0])) := by kernel_rfl
  obtain ⟨i, hi, he⟩ := Option.map_eq_some_iff.1 e
  simp only [Prod.mk.injEq] at he
  exact ⟨i, hi, he.1, he.2.1, he.2.2⟩

/-- The accounts' cells, in a row. -/
def limCells (lim : Nat → Nat → Int) (n : Nat) : List Value := (List.range (n * 6)).map fun j => .int .i64 (lim (j / 6) (j % 6))

theorem limCells_len (lim : Nat → Nat → Int) (n : Nat) : (limCells lim n).length = n * 6 := by simp [limCells]

theorem limCells_one (lim : Nat → Nat → Int) (n : Nat) : ∀ u ∈ limCells lim n, u.oneCell' = true := by
  intro u hu
  simp only [limCells, List.mem_map] at hu
  obtain ⟨j, _, rfl⟩ := hu
  rfl

theorem AccAt.cells {w : World} {b off n : Nat} {lim : Nat → Nat → Int} (h : AccAt w (some ⟨b, off, none⟩) n lim) :
    ∀ j u, (limCells lim n)[j]? = some u → w.cell? ((⟨b, off, none⟩ : Addr).add j) = some u := by
  intro j u hj
  rcases h with rfl | ⟨b', off', e, h⟩
  · simp [limCells] at hj
  · simp only [Option.some.injEq, Addr.mk.injEq, and_true] at e
    obtain ⟨rfl, rfl⟩ := e
    have hlt : j < n * 6 := by
      rcases Nat.lt_or_ge j (n * 6) with h1 | h1
      · exact h1
      · rw [List.getElem?_eq_none (by rw [limCells_len]; exact h1)] at hj; cases hj
    have h2 := h (j / 6) (j % 6) (by omega) (by omega)
    have h3 : off + j / 6 * 6 + j % 6 = off + j := by omega
    rw [h3] at h2
    simp only [limCells, List.getElem?_map, List.getElem?_range hlt, Option.map_some, Option.some.injEq] at hj
    rw [← hj]
    by_cases e : j = 0
    · subst e; simpa [Addr.add] using h2
    · simpa [Addr.add, e] using h2

set_option maxRecDepth 100000 in
set_option maxHeartbeats 2000000 in
theorem rNew_rest (cl : Int) (co ur : Nat) (an ch : Int) (a : Option Addr) (n c : Nat) (lim : Nat → Nat → Int) (w : World) (ha : AccAt w a n lim) (hs : statOk cl co ur an ch n) :
    Calls Try.prog 22 #[.agg #[.int .i64 cl, .int .i64 co, .int .i64 ur, .int .i64 an, .int .i64 ch, .slice a n c]] w
      fun e w' => (allOk lim n = false ∧ e = .returned (.tuple #[.pointer none, .int .i64 2]) ∧ Below w.heap.size w w') ∨
        (allOk lim n = true ∧ ∃ rb, e = .returned (.tuple #[.pointer (some ⟨rb, 0, none⟩), .int .i64 0]) ∧ Below w.heap.size w w' ∧
          RGate w' rb cl (fun i => if i = 0 then co else ur) (fun _ => 0) (fun _ _ => zeroPl) (fun _ => .slice none 0 0) ∧ w.heap.size ≤ rb) := by
  obtain ⟨h1, h2, h3, h4, h5, h6, h7, h8, h9⟩ := hs
  obtain ⟨b, off, rfl⟩ := ha.some_of (by omega)
  have h8' : 1 ≤ (n : Int) := by omega
  have h9' : (n : Int) ≤ 4 := by omega
  generalize hC : (#[.int .i64 cl, .int .i64 co, .int .i64 ur, .int .i64 an, .int .i64 ch, .slice (some ⟨b, off, none⟩) n c] : Array Value) = C
  have HA : Hid (AccAt (w.alloc (.cells C 32)) (some ⟨b, off, none⟩) n lim) := ha.below ((Below.refl _ _).alloc (Nat.le_refl _) _)
  subst hC
  clear ha
  go_enter Try.func22, Try.ntmps22
  go_wp2_with (go_at_call 40; refine (power_any _ _).mono ?_; rintro e w' ⟨rfl, rfl⟩; first | rw [h1] | rw [h2] | rw [h3])
  go_loopw [7] (fun i wr => ∃ k : Nat, k ≤ n ∧ i = .int .i64 k ∧ (∀ j, j < k → limOk lim j = true) ∧ Below (w.heap.size + 1) (w.alloc (.cells #[.int .i64 cl, .int .i64 co, .int .i64 ur, .int .i64 an, .int .i64 ch, .slice (some ⟨b, off, none⟩) n c] 32)) wr) (fun i _ => n - (intOf i).toNat)
  case atStart => exact ⟨0, Nat.zero_le _, rfl, fun _ h => by omega, Below.refl _ _⟩
  case round =>
    obtain ⟨k, hk, rfl, hok, hb⟩ := hrel
    have HO : Hid (∀ j, j < k → limOk lim j = true) := hok
    have d5 : wr.cell? ⟨w.heap.size, 5, none⟩ = some (.slice (some ⟨b, off, none⟩) n c) := by rw [hb.cell (by simp)]; simp
    clear hok
    by_cases hlt : k < n
    · have hlt' : (k : Int) < (n : Int) := by omega
      obtain ⟨c0, c1, c2, c3, c4, c5⟩ := (HA.out.below (hb.mono (by simp))).six k hlt
      have hsz := hb.size
      rcases limOk_cases lim k with ⟨e0, e1, e2, e3, e4, e5, e6, e7⟩ | ⟨e0, e⟩
      · have HE : Hid (limOk lim k = true) := e0
        clear e0
        go_wp2_with (go_at_call 41; refine (limit_B _ _).mono ?_; rintro e w' ⟨rfl, rfl⟩; first | rw [e1] | rw [e2] | rw [e3] | rw [e4] | rw [e5])
        go_roundw
        case rel =>
          refine ⟨k + 1, by omega, by go_num, fun j hj => ?_, hb.alloc (by simp at hsz; omega) _⟩
          by_cases e : j = k
          · rw [e]; exact HE.out
          · exact HO.out j (by omega)
        case measure => simp [intOf]; omega
      · have HE : Hid (allOk lim n = false) := by
          show allOk lim n = false
          cases e9 : allOk lim n
          · rfl
          · rw [allOk_iff.1 e9 k hlt] at e0; cases e0
        clear e0
        have HB : Hid (Below w.heap.size w wr) := ((Below.refl _ _).alloc (Nat.le_refl _) _).trans (hb.mono (by simp))
        have hsz2 : w.heap.size ≤ wr.heap.size := by simp at hsz; omega
        rcases e with e1 | ⟨e1, e2⟩ | ⟨e1, e2, e3⟩ | ⟨e1, e2, e3, e4⟩ | ⟨e1, e2, e3, e4, e5⟩ | ⟨e1, e2, e3, e4, e5, e6⟩
        · go_wp2_with (go_at_call 41; refine (limit_B _ _).mono ?_; rintro e w' ⟨rfl, rfl⟩; first | rw [e1] | skip)
          go_ret2
          exact .inl ⟨HE.out, rfl, HB.out.alloc hsz2 _⟩
        · go_wp2_with (go_at_call 41; refine (limit_B _ _).mono ?_; rintro e w' ⟨rfl, rfl⟩; first | rw [e1] | rw [e2] | skip)
          go_ret2
          exact .inl ⟨HE.out, rfl, HB.out.alloc hsz2 _⟩
        · go_wp2_with (go_at_call 41; refine (limit_B _ _).mono ?_; rintro e w' ⟨rfl, rfl⟩; first | rw [e1] | rw [e2] | rw [e3] | skip)
          go_ret2
          exact .inl ⟨HE.out, rfl, HB.out.alloc hsz2 _⟩
        · go_wp2_with (go_at_call 41; refine (limit_B _ _).mono ?_; rintro e w' ⟨rfl, rfl⟩; first | rw [e1] | rw [e2] | rw [e3] | rw [e4] | skip)
          go_ret2
          exact .inl ⟨HE.out, rfl, HB.out.alloc hsz2 _⟩
        · go_wp2_with (go_at_call 41; refine (limit_B _ _).mono ?_; rintro e w' ⟨rfl, rfl⟩; first | rw [e1] | rw [e2] | rw [e3] | rw [e4] | rw [e5] | skip)
          go_ret2
          exact .inl ⟨HE.out, rfl, HB.out.alloc hsz2 _⟩
        · rcases e6 with e6 | ⟨e6, e7⟩
          · go_wp2_with (go_at_call 41; refine (limit_B _ _).mono ?_; rintro e w' ⟨rfl, rfl⟩; first | rw [e1] | rw [e2] | rw [e3] | rw [e4] | rw [e5] | skip)
            go_ret2
            exact .inl ⟨HE.out, rfl, HB.out.alloc hsz2 _⟩
          · go_wp2_with (go_at_call 41; refine (limit_B _ _).mono ?_; rintro e w' ⟨rfl, rfl⟩; first | rw [e1] | rw [e2] | rw [e3] | rw [e4] | rw [e5] | skip)
            go_ret2
            exact .inl ⟨HE.out, rfl, HB.out.alloc hsz2 _⟩
    · have hge : ¬ (k : Int) < (n : Int) := by omega
      have HE : Hid (allOk lim n = true) := allOk_iff.2 fun j hj => HO.out j (by omega)
      have d0 : wr.cell? ⟨w.heap.size, 0, none⟩ = some (.int .i64 cl) := by rw [hb.cell (by simp)]; simp
      have d1 : wr.cell? ⟨w.heap.size, 1, none⟩ = some (.int .i64 co) := by rw [hb.cell (by simp)]; simp
      have d2 : wr.cell? ⟨w.heap.size, 2, none⟩ = some (.int .i64 ur) := by rw [hb.cell (by simp)]; simp
      have d3 : wr.cell? ⟨w.heap.size, 3, none⟩ = some (.int .i64 an) := by rw [hb.cell (by simp)]; simp
      have d4 : wr.cell? ⟨w.heap.size, 4, none⟩ = some (.int .i64 ch) := by rw [hb.cell (by simp)]; simp
      have hmk := make_clients cl h4 h5
      have hsz : w.heap.size < wr.heap.size := by have := hb.size; simp at this; omega
      have HA2 : Hid (AccAt wr (some ⟨b, off, none⟩) n lim) := HA.out.below (hb.mono (by simp))
      have HB : Hid (Below w.heap.size w wr) := ((Below.refl _ _).alloc (Nat.le_refl _) _).trans (hb.mono (by simp))
      clear HA hb HO
      go_wp2
      go_region
      generalize hW : ((wr.alloc (Obj.cells (zeroClients cl.toNat) 112)).alloc (Obj.cells #[.int .i64 cl, .int .i64 co, .int .i64 ur, .int .i64 an, .int .i64 ch, .slice (some ⟨b, off, none⟩) n c, .int .i64 0, .int .i64 0, .slice none 0 0, .int .i64 0, .int .i64 0, .slice none 0 0, .int .i64 0, .slice (some ⟨wr.heap.size, 0, none⟩) cl.toNat cl.toNat, .bool false, .int .i64 0, .int .i64 0, .int .i64 0, .slice none 0 0, .slice none 0 0, .slice none 0 0, .slice none 0 0, .bool false, .bool false, .bool false, .bool false, .bool false, .bool false, .int .i64 0, .bool false] 105)).drew = W
      obtain ⟨gb, hgb⟩ : ∃ gb, gb = wr.heap.size + 1 := ⟨_, rfl⟩
      rw [← hgb]
      have x0 : Below wr.heap.size wr W := by rw [← hW]; exact (((Below.refl _ _).alloc (Nat.le_refl _) _).alloc (by simp) _).drew
      have x1 : W.heap[gb]? = some (Obj.cells #[.int .i64 cl, .int .i64 co, .int .i64 ur, .int .i64 an, .int .i64 ch, .slice (some ⟨b, off, none⟩) n c, .int .i64 0, .int .i64 0, .slice none 0 0, .int .i64 0, .int .i64 0, .slice none 0 0, .int .i64 0, .slice (some ⟨wr.heap.size, 0, none⟩) cl.toNat cl.toNat, .bool false, .int .i64 0, .int .i64 0, .int .i64 0, .slice none 0 0, .slice none 0 0, .slice none 0 0, .slice none 0 0, .bool false, .bool false, .bool false, .bool false, .bool false, .bool false, .int .i64 0, .bool false] 105 (0, 0)) := by
        rw [← hW, hgb]
        simpa [World.drew] using heap_alloc_new (wr.alloc (Obj.cells (zeroClients cl.toNat) 112)) _
      have y1 : W.cell? ⟨w.heap.size, 1, none⟩ = some (.int .i64 co) := by rw [x0.cell hsz]; exact d1
      have y2 : W.cell? ⟨w.heap.size, 2, none⟩ = some (.int .i64 ur) := by rw [x0.cell hsz]; exact d2
      have y5 : W.cell? ⟨w.heap.size, 5, none⟩ = some (.slice (some ⟨b, off, none⟩) n c) := by rw [x0.cell hsz]; exact d5
      have HA3 : Hid (AccAt W (some ⟨b, off, none⟩) n lim) := HA2.out.below x0
      have X0 : Hid (Below wr.heap.size wr W) := x0
      have X1 : Hid _ := x1
      have z1 := block_lt x1
      have hzg : w.heap.size < gb := by omega
      have hzW : w.heap.size < W.heap.size := by omega
      have y6 : (W.alloc (.cells #[] 62)).cell? ⟨w.heap.size, 5, none⟩ = some (.slice (some ⟨b, off, none⟩) n c) := by
        rw [World.cell?_of_block (w := W) (Below.heap_alloc _ _ _ hzW)]; exact y5
      have HG : Hid (gb = wr.heap.size + 1) := hgb
      obtain ⟨it, ht1, ht2, ht3, ht4⟩ := info_limits
      have HT : Hid (Try.prog.info? 62 = some it ∧ it.bytes = 48 ∧ it.size = 6 ∧ it.zero = some (.agg #[.int .i64 0, .int .i64 0, .int .i64 0, .int .i64 0, .int .i64 0, .int .i64 0])) := ⟨ht1, ht2, ht3, ht4⟩
      have HO0 : Hid ((W.alloc (.cells #[] 62)).ownsRow 0 62 6 (.slice (some ⟨W.heap.size, 0, none⟩) 0 0) 0 []) := World.ownsRow_made W #[] 0 (Nat.zero_le _) (by unfold maxLen; omega) rfl
      have HN0 : Hid (∀ j u, (limCells lim n)[j]? = some u → (W.alloc (.cells #[] 62)).cell? ((⟨b, off, none⟩ : Addr).add j) = some u) :=
        (HA3.out.below ((Below.refl _ _).alloc (Nat.le_refl _) _)).cells
      clear hW x0 x1 d0 d1 d2 d3 d4 d5 hgb ht1 ht2 ht3 ht4 hmk
      go_wp2_with (at_builtin; go_must (refine wpList_append_own_at _ rfl _ _ 30 rfl 0 62 it (.agg #[.int .i64 0, .int .i64 0, .int .i64 0, .int .i64 0, .int .i64 0, .int .i64 0]) 6 48 Try.underlying30 HT.out.1 HT.out.2.2.2 HT.out.2.2.1 HT.out.2.1 rfl (by decide) (.slice (some ⟨W.heap.size, 0, none⟩) 0 0) 0 [] rfl HO0.out ⟨b, off, none⟩ n c (limCells lim n) rfl (limCells_len lim n) HN0.out (limCells_one lim n) (by unfold maxLen; omega) (by omega) (by omega) ?_))
      intro v3 w3 hown3 hg3 _ hb3
      have s1 : Below W.heap.size W w3 := ⟨hg3.os, hg3.tape, hg3.output, Nat.le_trans (by simp) hg3.size, fun k hk => by
        rw [hg3.block k (by simp; omega) (by simp [Value.ownBlock]; omega)]; exact Below.heap_alloc _ _ _ hk⟩
      have k1 : w3.cell? ⟨gb, 5, none⟩ = some (.slice (some ⟨b, off, none⟩) n c) := by rw [s1.cell z1]; exact cellAt (i := 5) X1.out rfl
      have k2 : w3.frozen? ⟨gb, 5, none⟩ = false := by rw [s1.frozen z1]; exact frozenAt X1.out
      have S1 : Hid (Below W.heap.size W w3) := s1
      obtain ⟨v4, hv4⟩ : ∃ v4, v4 = v3 := ⟨_, rfl⟩
      have hv5 : ∃ g cap, v3 = .slice (some ⟨g, 0, none⟩) n cap := by
        rcases hown3.2 with ⟨_, h⟩ | ⟨g, cap, _, h, _⟩
        · omega
        · exact ⟨g, cap, h⟩
      obtain ⟨g5, cap5, hv5⟩ := hv5
      rw [hv5]
      have k3 : w3.cell? ⟨w.heap.size, 1, none⟩ = some (.int .i64 co) := by rw [s1.cell hzW]; exact y1
      have k4 : w3.cell? ⟨w.heap.size, 2, none⟩ = some (.int .i64 ur) := by rw [s1.cell hzW]; exact y2
      have k5 : w3.cell? ⟨gb, 7, none⟩ = some (.int .i64 0) := by rw [s1.cell z1]; exact cellAt (i := 7) X1.out rfl
      have k6 : w3.frozen? ⟨gb, 7, none⟩ = false := by rw [s1.frozen z1]; exact frozenAt X1.out
      have k7 : w3.cell? ⟨gb, 10, none⟩ = some (.int .i64 0) := by rw [s1.cell z1]; exact cellAt (i := 10) X1.out rfl
      have k8 : w3.frozen? ⟨gb, 10, none⟩ = false := by rw [s1.frozen z1]; exact frozenAt X1.out
      have hne : w.heap.size ≠ gb := by omega
      have hne2 : gb ≠ w.heap.size := by omega
      clear hown3 hg3 hb3 s1 hv4 hv5 v4 HO0 HN0 y1 y2 y5 y6
      go_wp2
      go_region
      go_wp2
      go_region
      go_wp2
      go_ret2
      have hco := powB_cases h1
      have hur := powB_cases h2
      have b1 := S1.out
      have g1 := (b1.block gb z1).trans X1.out
      have g2 := heap_setCell_at (i := 10) (.int .i64 ur) (heap_setCell_at (i := 7) (.int .i64 co) (heap_setCell_at (i := 5) (.slice (some ⟨g5, 0, none⟩) n cap5) g1))
      refine .inr ⟨HE.out, gb, by simp, ?_, ⟨⟨_, g2, rfl, rfl, rfl, fun i hi => ?_⟩, fun i hi => .inl ⟨rfl, rfl⟩, fun i hi => ?_, fun i hi => by simp [Value.ownBlock], fun b hb => by simp [Value.ownBlock] at hb⟩, by omega⟩
      · have q1 : Below w.heap.size w w3 := (HB.out.trans (X0.out.mono (by omega))).trans (b1.mono (by omega))
        exact (((q1.setCell (p := ⟨gb, 5, none⟩) (by show w.heap.size ≤ gb; omega) _).setCell (p := ⟨gb, 7, none⟩) (by show w.heap.size ≤ gb; omega) _).setCell (p := ⟨gb, 10, none⟩) (by show w.heap.size ≤ gb; omega) _).drew.drew
      · rcases (show i = 0 ∨ i = 1 by omega) with rfl | rfl
        · exact ⟨rfl, rfl, rfl⟩
        · exact ⟨rfl, rfl, rfl⟩
      · rcases (show i = 0 ∨ i = 1 by omega) with rfl | rfl
        · simp; omega
        · simp; omega

end Go.Proofs.Ytncljickkoihhaa
