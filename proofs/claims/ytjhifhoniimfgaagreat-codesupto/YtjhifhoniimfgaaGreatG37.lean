import Derived.Test.YtjhifhoniimfgaaGreatG36
/-
  The document's New, behind its first test: the accounts, and the gate itself.
-/
namespace Go.Proofs.YtjhifhoniimfgaaGreat
open Go.RowKit

theorem limOk_cases (lim : Nat → Nat → Int) (k : Nat) :
    (limOk lim k = true ∧ limB (lim k 0) = true ∧ limB (lim k 1) = true ∧ limB (lim k 2) = true ∧ limB (lim k 3) = true ∧ limB (lim k 4) = true ∧ 1 ≤ lim k 5 ∧ lim k 5 ≤ 1000) ∨
    (limOk lim k = false ∧ (limB (lim k 0) = false ∨ (limB (lim k 0) = true ∧ limB (lim k 1) = false) ∨ (limB (lim k 0) = true ∧ limB (lim k 1) = true ∧ limB (lim k 2) = false) ∨
      (limB (lim k 0) = true ∧ limB (lim k 1) = true ∧ limB (lim k 2) = true ∧ limB (lim k 3) = false) ∨
      (limB (lim k 0) = true ∧ limB (lim k 1) = true ∧ limB (lim k 2) = true ∧ limB (lim k 3) = true ∧ limB (lim k 4) = false) ∨
      (limB (lim k 0) = true ∧ limB (lim k 1) = true ∧ limB (lim k 2) = true ∧ limB (lim k 3) = true ∧ limB (lim k 4) = true ∧ (lim k 5 < 1 ∨ (1 ≤ lim k 5 ∧ 1000 < lim k 5))))) := by
  unfold limOk limsB winB
  cases limB (lim k 0) <;> cases limB (lim k 1) <;> cases limB (lim k 2) <;> cases limB (lim k 3) <;> cases limB (lim k 4) <;> simp
  omega

/-- The clients of a new gate: no answers, no acks. -/
def zeroClients (n : Nat) : Array Value := madeCells #[.slice none 0 0, .slice none 0 0] (n * 2)

theorem make_clients (cl : Int) (h1 : 1 ≤ cl) (h8 : cl ≤ 8) (w : World) :
    (Instr.makeSlice 106 (.int .i64 cl) (.int .i64 cl)).run Tryz.prog w = .ok (.slice (some ⟨w.heap.size, 0, none⟩) cl.toNat cl.toNat) (w.alloc (.cells (zeroClients cl.toNat) 122)) := by
  have e : (Tryz.prog.info? 122).map (fun i => (i.bytes, i.size, i.zero)) = some (48, 2, some (.agg #[.slice none 0 0, .slice none 0 0])) := by kernel_rfl
  obtain ⟨i, hi, he⟩ := Option.map_eq_some_iff.1 e
  simp only [Prod.mk.injEq] at he
  obtain ⟨hb, hs, hz⟩ := he
  have := run_make (P := Tryz.prog) w 106 122 i _ Tryz.underlying106 hi hz .i64 .i64 cl cl (by omega) (by omega) (by rw [hb]; omega) (by omega)
  rw [this]
  simp [zeroClients, hs, Value.cells]

theorem info_limits : ∃ i, Tryz.prog.info? 62 = some i ∧ i.bytes = 48 ∧ i.size = 6 ∧ i.zero = some (.agg #[.int .i64 0, .int .i64 0, .int .i64 0, .int .i64 0, .int .i64 0, .int .i64 0]) := by
  have e : (Tryz.prog.info? 62).map (fun i => (i.bytes, i.size, i.zero)) = some (48, 6, some (.agg #[.int .i64 0, .int .i64 0, .int .i64 0, .int .i64 0, .int .i64 0, .int .i64 0])) := by kernel_rfl
  obtain ⟨i, hi, he⟩ := Option.map_eq_some_iff.1 e
  simp only [Prod.mk.injEq] at he
  exact ⟨i, hi, he.1, he.2.1, he.2.2⟩

/-- The accounts' cells, in a row. -/
def limCells (lim : Nat → Nat → Int) (n : Nat) : List Value := (List.range (n * 6)).map fun j => .int .i64 (lim (j / 6) (j % 6))

theorem limCells_len (lim : Nat → Nat → Int) (n : Nat) : (limCells lim n).length = n * 6 := by simp [limCells]

theorem limCells_one (lim : Nat → Nat → Int) (n : Nat) : ∀ u ∈ limCells lim n, u.oneCell' = true := by
  intro u hu
  simp only [limCells, List.mem_map] at hu
  obtain ⟨j, _, rfl⟩ := hu
  rfl

theorem AccAt.cells {w : World} {b off n : Nat} {lim : Nat → Nat → Int} (h : AccAt w (some ⟨b, off, none⟩) n lim) :
    ∀ j u, (limCells lim n)[j]? = some u → w.cell? ((⟨b, off, none⟩ : Addr).add j) = some u := by
  intro j u hj
  rcases h with rfl | ⟨b', off', e, h⟩
  · simp [limCells] at hj
  · simp only [Option.some.injEq, Addr.mk.injEq, and_true] at e
    obtain ⟨rfl, rfl⟩ := e
    have hlt : j < n * 6 := by
      rcases Nat.lt_or_ge j (n * 6) with h1 | h1
      · exact h1
      · rw [List.getElem?_eq_none (by rw [limCells_len]; exact h1)] at hj; cases hj
    have h2 := h (j / 6) (j % 6) (by omega) (by omega)
    have h3 : off + j / 6 * 6 + j % 6 = off + j := by omega
    rw [h3] at h2
    simp only [limCells, List.getElem?_map, List.getElem?_range hlt, Option.map_some, Option.some.injEq] at hj
    rw [← hj]
    by_cases e : j = 0
    · subst e; simpa [Addr.add] using h2
    · simpa [Addr.add, e] using h2

/-- The cells of a gate that is made. -/
def newCells (cl co ur an ch : Int) (n g cap kb : Nat) : Array Value :=
  #[.int .i64 cl, .int .i64 co, .int .i64 ur, .int .i64 an, .int .i64 ch, .slice (some ⟨g, 0, none⟩) n cap, .int .i64 0, .int .i64 co, .slice none 0 0, .int .i64 0, .int .i64 ur, .slice none 0 0, .int .i64 0, .slice (some ⟨kb, 0, none⟩) cl.toNat cl.toNat, .bool false, .int .i64 0, .int .i64 0, .int .i64 0, .slice none 0 0, .slice none 0 0, .slice none 0 0, .slice none 0 0, .bool false, .bool false, .bool false, .bool false, .bool false, .bool false, .int .i64 0, .bool false]

set_option maxRecDepth 100000 in
set_option maxHeartbeats 2000000 in
theorem rNew_rest (cl : Int) (co ur : Nat) (an ch : Int) (a : Option Addr) (n c : Nat) (lim : Nat → Nat → Int) (w : World) (ha : AccAt w a n lim) (hs : statOk cl co ur an ch n) :
    Calls Tryz.prog 21 #[.agg #[.int .i64 cl, .int .i64 co, .int .i64 ur, .int .i64 an, .int .i64 ch, .slice a n c]] w
      fun e w' => (allOk lim n = false ∧ e = .returned (.tuple #[.pointer none, .int .i64 2]) ∧ Below w.heap.size w w') ∨
        (allOk lim n = true ∧ ∃ rb, e = .returned (.tuple #[.pointer (some ⟨rb, 0, none⟩), .int .i64 0]) ∧ Below w.heap.size w w' ∧
          ∃ kb g cap, w'.heap[rb]? = some (.cells (newCells cl co ur an ch n g cap kb) 115 (0, 0)) ∧ w'.heap[kb]? = some (.cells (zeroClients cl.toNat) 122 (0, 0)) ∧ w'.ownsRow 0 62 6 (.slice (some ⟨g, 0, none⟩) n cap) n (limCells lim n) ∧
            w.heap.size ≤ rb ∧ w.heap.size ≤ kb ∧ w.heap.size ≤ g) := by
  obtain ⟨h1, h2, h3, h4, h5, h6, h7, h8, h9⟩ := hs
  obtain ⟨b, off, rfl⟩ := ha.some_of (by omega)
  have h8' : 1 ≤ (n : Int) := by omega
  have h9' : (n : Int) ≤ 4 := by omega
  generalize hC : (#[.int .i64 cl, .int .i64 co, .int .i64 ur, .int .i64 an, .int .i64 ch, .slice (some ⟨b, off, none⟩) n c] : Array Value) = C
  have HA : Hid (AccAt (w.alloc (.cells C 30)) (some ⟨b, off, none⟩) n lim) := ha.below ((Below.refl _ _).alloc (Nat.le_refl _) _)
  subst hC
  clear ha
  go_enter Tryz.func21, Tryz.ntmps21
  go_wp2_with (go_at_call 50; refine (power_any _ _).mono ?_; rintro e w' ⟨rfl, rfl⟩; first | rw [h1] | rw [h2] | rw [h3])
  go_loopw [7] (fun i wr => ∃ k : Nat, k ≤ n ∧ i = .int .i64 k ∧ (∀ j, j < k → limOk lim j = true) ∧ Below (w.heap.size + 1) (w.alloc (.cells #[.int .i64 cl, .int .i64 co, .int .i64 ur, .int .i64 an, .int .i64 ch, .slice (some ⟨b, off, none⟩) n c] 30)) wr) (fun i _ => n - (intOf i).toNat)
  case atStart => exact ⟨0, Nat.zero_le _, rfl, fun _ h => by omega, Below.refl _ _⟩
  case round =>
    obtain ⟨k, hk, rfl, hok, hb⟩ := hrel
    have HO : Hid (∀ j, j < k → limOk lim j = true) := hok
    have d5 : wr.cell? ⟨w.heap.size, 5, none⟩ = some (.slice (some ⟨b, off, none⟩) n c) := by rw [hb.cell (by simp)]; simp
    clear hok
    by_cases hlt : k < n
    · have hlt' : (k : Int) < (n : Int) := by omega
      obtain ⟨c0, c1, c2, c3, c4, c5⟩ := (HA.out.below (hb.mono (by simp))).six k hlt
      have hsz := hb.size
      rcases limOk_cases lim k with ⟨e0, e1, e2, e3, e4, e5, e6, e7⟩ | ⟨e0, e⟩
      · have HE : Hid (limOk lim k = true) := e0
        clear e0
        go_wp2_with (go_at_call 51; refine (limit_B _ _).mono ?_; rintro e w' ⟨rfl, rfl⟩; first | rw [e1] | rw [e2] | rw [e3] | rw [e4] | rw [e5])
        go_roundw
        case rel =>
          refine ⟨k + 1, by omega, by go_num, fun j hj => ?_, hb.alloc (by simp at hsz; omega) _⟩
          by_cases e : j = k
          · rw [e]; exact HE.out
          · exact HO.out j (by omega)
        case measure => simp [intOf]; omega
      · have HE : Hid (allOk lim n = false) := by
          show allOk lim n = false
          cases e9 : allOk lim n
          · rfl
          · rw [allOk_iff.1 e9 k hlt] at e0; cases e0
        clear e0
        have HB : Hid (Below w.heap.size w wr) := ((Below.refl _ _).alloc (Nat.le_refl _) _).trans (hb.mono (by simp))
        have hsz2 : w.heap.size ≤ wr.heap.size := by simp at hsz; omega
        rcases e with e1 | ⟨e1, e2⟩ | ⟨e1, e2, e3⟩ | ⟨e1, e2, e3, e4⟩ | ⟨e1, e2, e3, e4, e5⟩ | ⟨e1, e2, e3, e4, e5, e6⟩
        · go_wp2_with (go_at_call 51; refine (limit_B _ _).mono ?_; rintro e w' ⟨rfl, rfl⟩; first | rw [e1] | skip)
          go_ret2
          exact .inl ⟨HE.out, rfl, HB.out.alloc hsz2 _⟩
        · go_wp2_with (go_at_call 51; refine (limit_B _ _).mono ?_; rintro e w' ⟨rfl, rfl⟩; first | rw [e1] | rw [e2] | skip)
          go_ret2
          exact .inl ⟨HE.out, rfl, HB.out.alloc hsz2 _⟩
        · go_wp2_with (go_at_call 51; refine (limit_B _ _).mono ?_; rintro e w' ⟨rfl, rfl⟩; first | rw [e1] | rw [e2] | rw [e3] | skip)
          go_ret2
          exact .inl ⟨HE.out, rfl, HB.out.alloc hsz2 _⟩
        · go_wp2_with (go_at_call 51; refine (limit_B _ _).mono ?_; rintro e w' ⟨rfl, rfl⟩; first | rw [e1] | rw [e2] | rw [e3] | rw [e4] | skip)
          go_ret2
          exact .inl ⟨HE.out, rfl, HB.out.alloc hsz2 _⟩
        · go_wp2_with (go_at_call 51; refine (limit_B _ _).mono ?_; rintro e w' ⟨rfl, rfl⟩; first | rw [e1] | rw [e2] | rw [e3] | rw [e4] | rw [e5] | skip)
          go_ret2
          exact .inl ⟨HE.out, rfl, HB.out.alloc hsz2 _⟩
        · rcases e6 with e6 | ⟨e6, e7⟩
          · go_wp2_with (go_at_call 51; refine (limit_B _ _).mono ?_; rintro e w' ⟨rfl, rfl⟩; first | rw [e1] | rw [e2] | rw [e3] | rw [e4] | rw [e5] | skip)
            go_ret2
            exact .inl ⟨HE.out, rfl, HB.out.alloc hsz2 _⟩
          · go_wp2_with (go_at_call 51; refine (limit_B _ _).mono ?_; rintro e w' ⟨rfl, rfl⟩; first | rw [e1] | rw [e2] | rw [e3] | rw [e4] | rw [e5] | skip)
            go_ret2
            exact .inl ⟨HE.out, rfl, HB.out.alloc hsz2 _⟩
    · have hge : ¬ (k : Int) < (n : Int) := by omega
      have HE : Hid (allOk lim n = true) := allOk_iff.2 fun j hj => HO.out j (by omega)
      have d0 : wr.cell? ⟨w.heap.size, 0, none⟩ = some (.int .i64 cl) := by rw [hb.cell (by simp)]; simp
      have d1 : wr.cell? ⟨w.heap.size, 1, none⟩ = some (.int .i64 co) := by rw [hb.cell (by simp)]; simp
      have d2 : wr.cell? ⟨w.heap.size, 2, none⟩ = some (.int .i64 ur) := by rw [hb.cell (by simp)]; simp
      have d3 : wr.cell? ⟨w.heap.size, 3, none⟩ = some (.int .i64 an) := by rw [hb.cell (by simp)]; simp
      have d4 : wr.cell? ⟨w.heap.size, 4, none⟩ = some (.int .i64 ch) := by rw [hb.cell (by simp)]; simp
      have hmk := make_clients cl h4 h5
      have hsz : w.heap.size < wr.heap.size := by have := hb.size; simp at this; omega
      have HA2 : Hid (AccAt wr (some ⟨b, off, none⟩) n lim) := HA.out.below (hb.mono (by simp))
      have HB : Hid (Below w.heap.size w wr) := ((Below.refl _ _).alloc (Nat.le_refl _) _).trans (hb.mono (by simp))
      clear HA hb HO
      go_wp2
      go_region
      generalize hW : ((wr.alloc (Obj.cells (zeroClients cl.toNat) 122)).alloc (Obj.cells #[.int .i64 cl, .int .i64 co, .int .i64 ur, .int .i64 an, .int .i64 ch, .slice (some ⟨b, off, none⟩) n c, .int .i64 0, .int .i64 0, .slice none 0 0, .int .i64 0, .int .i64 0, .slice none 0 0, .int .i64 0, .slice (some ⟨wr.heap.size, 0, none⟩) cl.toNat cl.toNat, .bool false, .int .i64 0, .int .i64 0, .int .i64 0, .slice none 0 0, .slice none 0 0, .slice none 0 0, .slice none 0 0, .bool false, .bool false, .bool false, .bool false, .bool false, .bool false, .int .i64 0, .bool false] 115)).drew = W
      obtain ⟨gb, hgb⟩ : ∃ gb, gb = wr.heap.size + 1 := ⟨_, rfl⟩
      rw [← hgb]
      have x0 : Below wr.heap.size wr W := by rw [← hW]; exact (((Below.refl _ _).alloc (Nat.le_refl _) _).alloc (by simp) _).drew
      have x1 : W.heap[gb]? = some (Obj.cells #[.int .i64 cl, .int .i64 co, .int .i64 ur, .int .i64 an, .int .i64 ch, .slice (some ⟨b, off, none⟩) n c, .int .i64 0, .int .i64 0, .slice none 0 0, .int .i64 0, .int .i64 0, .slice none 0 0, .int .i64 0, .slice (some ⟨wr.heap.size, 0, none⟩) cl.toNat cl.toNat, .bool false, .int .i64 0, .int .i64 0, .int .i64 0, .slice none 0 0, .slice none 0 0, .slice none 0 0, .slice none 0 0, .bool false, .bool false, .bool false, .bool false, .bool false, .bool false, .int .i64 0, .bool false] 115 (0, 0)) := by
        rw [← hW, hgb]
        simpa [World.drew] using heap_alloc_new (wr.alloc (Obj.cells (zeroClients cl.toNat) 122)) _
      have y1 : W.cell? ⟨w.heap.size, 1, none⟩ = some (.int .i64 co) := by rw [x0.cell hsz]; exact d1
      have y2 : W.cell? ⟨w.heap.size, 2, none⟩ = some (.int .i64 ur) := by rw [x0.cell hsz]; exact d2
      have y5 : W.cell? ⟨w.heap.size, 5, none⟩ = some (.slice (some ⟨b, off, none⟩) n c) := by rw [x0.cell hsz]; exact d5
      have HA3 : Hid (AccAt W (some ⟨b, off, none⟩) n lim) := HA2.out.below x0
      have X0 : Hid (Below wr.heap.size wr W) := x0
      have X1 : Hid _ := x1
      have X2 : Hid (W.heap[wr.heap.size]? = some (Obj.cells (zeroClients cl.toNat) 122 (0, 0))) := by
        show W.heap[wr.heap.size]? = _
        rw [← hW]
        simp only [World.drew]
        rw [Below.heap_alloc _ _ _ (by simp)]
        exact heap_alloc_new wr _
      have z1 := block_lt x1
      have hzg : w.heap.size < gb := by omega
      have hzW : w.heap.size < W.heap.size := by omega
      have y6 : (W.alloc (.cells #[] 62)).cell? ⟨w.heap.size, 5, none⟩ = some (.slice (some ⟨b, off, none⟩) n c) := by
        rw [World.cell?_of_block (w := W) (Below.heap_alloc _ _ _ hzW)]; exact y5
      have HG : Hid (gb = wr.heap.size + 1) := hgb
      obtain ⟨it, ht1, ht2, ht3, ht4⟩ := info_limits
      have HT : Hid (Tryz.prog.info? 62 = some it ∧ it.bytes = 48 ∧ it.size = 6 ∧ it.zero = some (.agg #[.int .i64 0, .int .i64 0, .int .i64 0, .int .i64 0, .int .i64 0, .int .i64 0])) := ⟨ht1, ht2, ht3, ht4⟩
      have HO0 : Hid ((W.alloc (.cells #[] 62)).ownsRow 0 62 6 (.slice (some ⟨W.heap.size, 0, none⟩) 0 0) 0 []) := World.ownsRow_made W #[] 0 (Nat.zero_le _) (by unfold maxLen; omega) rfl
      have HN0 : Hid (∀ j u, (limCells lim n)[j]? = some u → (W.alloc (.cells #[] 62)).cell? ((⟨b, off, none⟩ : Addr).add j) = some u) :=
        (HA3.out.below ((Below.refl _ _).alloc (Nat.le_refl _) _)).cells
      clear hW x0 x1 d0 d1 d2 d3 d4 d5 hgb ht1 ht2 ht3 ht4 hmk
      go_wp2_with (at_builtin; go_must (refine wpList_append_own_at _ rfl _ _ 28 rfl 0 62 it (.agg #[.int .i64 0, .int .i64 0, .int .i64 0, .int .i64 0, .int .i64 0, .int .i64 0]) 6 48 Tryz.underlying28 HT.out.1 HT.out.2.2.2 HT.out.2.2.1 HT.out.2.1 rfl (by decide) (.slice (some ⟨W.heap.size, 0, none⟩) 0 0) 0 [] rfl HO0.out ⟨b, off, none⟩ n c (limCells lim n) rfl (limCells_len lim n) HN0.out (limCells_one lim n) (by unfold maxLen; omega) (by omega) (by omega) ?_))
      intro v3 w3 hown3 hg3 _ hb3
      have s1 : Below W.heap.size W w3 := ⟨hg3.os, hg3.tape, hg3.output, Nat.le_trans (by simp) hg3.size, fun k hk => by
        rw [hg3.block k (by simp; omega) (by simp [Value.ownBlock]; omega)]; exact Below.heap_alloc _ _ _ hk⟩
      have k1 : w3.cell? ⟨gb, 5, none⟩ = some (.slice (some ⟨b, off, none⟩) n c) := by rw [s1.cell z1]; exact cellAt (i := 5) X1.out rfl
      have k2 : w3.frozen? ⟨gb, 5, none⟩ = false := by rw [s1.frozen z1]; exact frozenAt X1.out
      have S1 : Hid (Below W.heap.size W w3) := s1
      obtain ⟨v4, hv4⟩ : ∃ v4, v4 = v3 := ⟨_, rfl⟩
      have hv5 : ∃ g cap, v3 = .slice (some ⟨g, 0, none⟩) n cap := by
        rcases hown3.2 with ⟨_, h⟩ | ⟨g, cap, _, h, _⟩
        · omega
        · exact ⟨g, cap, h⟩
      obtain ⟨g5, cap5, hv5⟩ := hv5
      have hbg : W.heap.size ≤ g5 := by
        rw [hv5] at hb3
        simp [Value.ownBlock] at hb3
        omega
      rw [hv5] at hown3
      have HR3 : Hid (w3.ownsRow 0 62 6 (.slice (some ⟨g5, 0, none⟩) n cap5) n (limCells lim n)) := by
        show w3.ownsRow _ _ _ _ _ _
        simpa using hown3
      rw [hv5]
      have k3 : w3.cell? ⟨w.heap.size, 1, none⟩ = some (.int .i64 co) := by rw [s1.cell hzW]; exact y1
      have k4 : w3.cell? ⟨w.heap.size, 2, none⟩ = some (.int .i64 ur) := by rw [s1.cell hzW]; exact y2
      have k5 : w3.cell? ⟨gb, 7, none⟩ = some (.int .i64 0) := by rw [s1.cell z1]; exact cellAt (i := 7) X1.out rfl
      have k6 : w3.frozen? ⟨gb, 7, none⟩ = false := by rw [s1.frozen z1]; exact frozenAt X1.out
      have k7 : w3.cell? ⟨gb, 10, none⟩ = some (.int .i64 0) := by rw [s1.cell z1]; exact cellAt (i := 10) X1.out rfl
      have k8 : w3.frozen? ⟨gb, 10, none⟩ = false := by rw [s1.frozen z1]; exact frozenAt X1.out
      have hne : w.heap.size ≠ gb := by omega
      have hne2 : gb ≠ w.heap.size := by omega
      clear hown3 hg3 hb3 s1 hv4 hv5 v4 HO0 HN0 y1 y2 y5 y6
      go_wp2
      go_region
      go_wp2
      go_region
      go_wp2
      go_ret2
      have hco := powB_cases h1
      have hur := powB_cases h2
      have b1 := S1.out
      have g1 := (b1.block gb z1).trans X1.out
      have g2 := heap_setCell_at (i := 10) (.int .i64 ur) (heap_setCell_at (i := 7) (.int .i64 co) (heap_setCell_at (i := 5) (.slice (some ⟨g5, 0, none⟩) n cap5) g1))
      have hgbW : gb < W.heap.size := z1
      have hkW := block_lt X2.out
      have hgw := HG.out
      have q1 : Below w.heap.size w w3 := (HB.out.trans (X0.out.mono (by omega))).trans (b1.mono (by omega))
      have kk : Keep (fun b => b ≠ gb) w3 (((((w3.setCell ⟨gb, 5, none⟩ (.slice (some ⟨g5, 0, none⟩) n cap5)).setCell ⟨gb, 7, none⟩ (.int .i64 co))).setCell ⟨gb, 10, none⟩ (.int .i64 ur)).drew.drew) :=
        (((((Keep.refl _ w3).setCell _ (fun _ h => h rfl) _).setCell _ (fun _ h => h rfl) _).setCell _ (fun _ h => h rfl) _).drew).drew
      refine .inr ⟨HE.out, gb, by simp, ?_, wr.heap.size, g5, cap5, ?_, ?_, ?_, by omega, by omega, by omega⟩
      · exact (((q1.setCell (p := ⟨gb, 5, none⟩) (by show w.heap.size ≤ gb; omega) _).setCell (p := ⟨gb, 7, none⟩) (by show w.heap.size ≤ gb; omega) _).setCell (p := ⟨gb, 10, none⟩) (by show w.heap.size ≤ gb; omega) _).drew.drew
      · refine g2.trans ?_
        simp [newCells]
      · exact kk.get ((b1.block _ hkW).trans X2.out) (by show wr.heap.size ≠ gb; omega)
      · refine ownsRow_keep HR3.out kk (fun b hb => ?_)
        simp [Value.ownBlock] at hb
        subst hb
        show g5 ≠ gb
        omega

end Go.Proofs.YtjhifhoniimfgaaGreat

/-
  The document's New, in memory.
-/
namespace Go.Proofs.YtjhifhoniimfgaaGreat
open Go.RowKit

theorem mayB_iff (cl co ur an ch : Int) (n : Nat) (lim : Nat → Nat → Int) : mayB cl co ur an ch n lim = true ↔ statOk cl co ur an ch n ∧ allOk lim n = true := by
  unfold mayB inB accB statOk
  simp only [Bool.and_eq_true, decide_eq_true_eq]
  constructor
  · rintro ⟨⟨⟨⟨⟨a, b⟩, c⟩, d⟩, e⟩, f, g⟩
    exact ⟨⟨b, c, d, a.1, a.2, e.1, e.2, by omega, by omega⟩, g⟩
  · rintro ⟨⟨b, c, d, a1, a2, e1, e2, f1, f2⟩, g⟩
    exact ⟨⟨⟨⟨⟨⟨a1, a2⟩, b⟩, c⟩, d⟩, e1, e2⟩, ⟨by omega, by omega⟩, g⟩

theorem zeroClients_at (n : Nat) : (zeroClients n).size = n * 2 ∧ ∀ i : Nat, i < n * 2 → (zeroClients n)[i]? = some (.slice none 0 0) := by
  have hs : (zeroClients n).size = n * 2 := by simp [zeroClients, size_madeCells]
  refine ⟨hs, fun i hi => ?_⟩
  rcases (show i % 2 = 0 ∨ i % 2 = 1 by omega) with h | h
  · simp [zeroClients, madeCells, hi, h]
  · simp [zeroClients, madeCells, hi, h]

theorem limCells_get (lim : Nat → Nat → Int) (n a j : Nat) (ha : a < n) (hj : j < 6) : (limCells lim n)[a * 6 + j]? = some (.int .i64 (lim a j)) := by
  unfold limCells
  rw [List.getElem?_map, List.getElem?_range (by omega)]
  simp only [Option.map_some]
  rw [show (a * 6 + j) / 6 = a by omega, show (a * 6 + j) % 6 = j by omega]

theorem rNew_no (cl co ur an ch : Int) (a : Option Addr) (n c : Nat) (lim : Nat → Nat → Int) (w : World) (ha : AccAt w a n lim) (hm : mayB cl co ur an ch n lim = false) :
    Calls Tryz.prog 21 #[.agg #[.int .i64 cl, .int .i64 co, .int .i64 ur, .int .i64 an, .int .i64 ch, .slice a n c]] w
      fun e w' => e = .returned (.tuple #[.pointer none, .int .i64 2]) ∧ Below w.heap.size w w' := by
  by_cases hs : statOk cl co ur an ch n
  · have hal : allOk lim n = false := by
      cases h : allOk lim n
      · rfl
      · rw [(mayB_iff cl co ur an ch n lim).2 ⟨hs, h⟩] at hm; cases hm
    obtain ⟨h1, h2, _⟩ := id hs
    obtain ⟨co', rfl⟩ := Int.eq_ofNat_of_zero_le (show 0 ≤ co by have := powB_cases h1; omega)
    obtain ⟨ur', rfl⟩ := Int.eq_ofNat_of_zero_le (show 0 ≤ ur by have := powB_cases h2; omega)
    refine (rNew_rest cl co' ur' an ch a n c lim w ha hs).mono ?_
    rintro e w' (⟨_, q1, q2⟩ | ⟨q, _⟩)
    · exact ⟨q1, q2⟩
    · rw [hal] at q; cases q
  · exact rNew_stat cl co ur an ch a n c w hs

theorem rNew_yes {own : Nat → Nat} {T : Nat} {w : World} (cl co ur an ch : Nat) (a : Option Addr) (n c : Nat) (lim : Nat → Nat → Int) (ha : AccAt w a n lim) (hm : mayB cl co ur an ch n lim = true) :
    Calls Tryz.prog 21 #[.agg #[.int .i64 cl, .int .i64 co, .int .i64 ur, .int .i64 an, .int .i64 ch, .slice a n c]] w fun e w' =>
      ∃ own' R, e = .returned (.tuple #[.pointer (some ⟨R.rb, 0, none⟩), .int .i64 0]) ∧ RG own' T w' R (newS cl an ch n lim (fun i => if i = 0 then co else ur)) ∧ Same own own' w ∧ Keep (fun _ => True) w w' := by
  obtain ⟨hs, hal⟩ := (mayB_iff _ _ _ _ _ _ _).1 hm
  refine (rNew_rest cl co ur an ch a n c lim w ha hs).mono ?_
  rintro e w' (⟨q, _⟩ | ⟨_, rb, rfl, hb, kb, g, cap, g1, g2, g3, l1, l2, l3⟩)
  · rw [hal] at q; cases q
  obtain ⟨_, _, _, _, _, _, _, n1, n2⟩ := hs
  obtain ⟨z1, z2⟩ := zeroClients_at cl
  obtain ⟨g', cap', cs, q1, q2, q3⟩ := ownsRow_cells g3 (by omega)
  simp only [Value.slice.injEq, Option.some.injEq, Addr.mk.injEq, and_true, true_and] at q1
  obtain ⟨rfl, rfl⟩ := q1
  rw [Int.toNat_natCast] at g2
  refine ⟨ext own w.heap.size T, ⟨rb, g, cap, kb, fun _ => .slice none 0 0, fun _ => .slice none 0 0, fun _ => .slice none 0 0, fun _ => .slice none 0 0, 0, 0, 0⟩, rfl, ⟨?_, ⟨cs, q2, fun a j ha hj => q3 _ _ (limCells_get lim n a j ha hj)⟩, ⟨_, g2, z1, fun c hc => ?_⟩, fun i hi => World.ownsRow_nil _ _ _ _, fun c hc => .inl ⟨rfl, rfl⟩, fun c hc => AckAt.nil _, fun a ha => World.ownsRow_nil _ _ _ _, fun c a e => (by cases e), ext_ge l1, ext_ge l3, ext_ge l2,
    fun i b hi hb => (by cases hb), fun c b hc hb => (by cases hb), fun c b hc hb => (by cases hb), fun a b ha hb => (by cases hb)⟩, Same.ext own w T, Keep.ofBelow hb⟩
  · rw [g1]
    simp [newCells, rCells, newS]
  · have hc : c < cl := hc
    exact ⟨z2 _ (by omega), z2 _ (by omega)⟩

end Go.Proofs.YtjhifhoniimfgaaGreat

