import Derived.Test.YtjhifhoniimfgaaG30
import Derived.BigRegion
import Derived.Deep.RegionHeld3
/-
  A game: a place is filled.
-/
namespace Go.Proofs.Ytjhifhoniimfgaa
open Go.RowKit

/-- The numbers of an order lie in its place. -/
def OS (pb : Nat) (a b c d e f : Int) (W : World) : Prop := W.cell? ⟨pb, 3, none⟩ = some (.int .i64 a) ∧ W.cell? ⟨pb, 4, none⟩ = some (.int .i64 b) ∧ W.cell? ⟨pb, 5, none⟩ = some (.int .i64 c) ∧ W.cell? ⟨pb, 6, none⟩ = some (.int .i64 d) ∧ W.cell? ⟨pb, 7, none⟩ = some (.int .i64 e) ∧ W.cell? ⟨pb, 8, none⟩ = some (.int .i64 f)

theorem OS.keep {pb : Nat} {a b c d e f : Int} {W W' : World} (h : OS pb a b c d e f W) (hk : Keep (fun _ => True) W W') : OS pb a b c d e f W' := by
  have hl := World.block_lt_of_cell? W _ h.1
  have q : ∀ i, W'.cell? ⟨pb, i, none⟩ = W.cell? ⟨pb, i, none⟩ := fun i => World.cell?_of_block (w := W) (hk.block pb hl trivial)
  obtain ⟨h1, h2, h3, h4, h5, h6⟩ := h
  exact ⟨(q 3).trans h1, (q 4).trans h2, (q 5).trans h3, (q 6).trans h4, (q 7).trans h5, (q 8).trans h6⟩

theorem sset {w : World} {b j : Nat} {g g' : Snt} {u : Value} (h : w.heap[b]? = some (.cells (sCells g) 43 (0, 0))) (hv : (sCells g).setIfInBounds j u = sCells g') : (w.setCell ⟨b, j, none⟩ u).heap[b]? = some (.cells (sCells g') 43 (0, 0)) := by
  rw [heap_setCell_at _ h, hv]

set_option maxRecDepth 100000 in
set_option maxHeartbeats 1000000 in
theorem said_walk {w : World} {pb : Nat} {g : Snt} (hb : w.heap[pb]? = some (.cells (sCells g) 43 (0, 0))) (b : Int) (n : Nat) (hn : n = pickN b 1099511627776) (h1 : -9223372036854775808 ≤ b) (h2 : b ≤ 9223372036854775807) (hl : g.lane = 0 ∨ g.lane = 1) :
    Calls Try.prog 33 #[.pointer (some ⟨pb, 0, none⟩), .int .i64 b] w fun e w' => e = .returned (.string (saidK g n).2) ∧ Keep (fun k => k ≠ pb) w w' ∧ w'.heap[pb]? = some (.cells (sCells (saidK g n).1) 43 (0, 0)) := by
  have hp := fun w => pick_any b 1099511627776 w (by omega) (by omega) h1 h2
  rw [← hn] at hp
  have hlt : n < 1099511627776 := by rw [hn]; exact pickN_lt _ _ (by omega)
  clear hn h1 h2
  have s1 := sc1 hb
  have s2 := sc2 hb
  have s3 := sc3 hb
  have s4 := sc4 hb
  have s5 := sc5 hb
  have s6 := sc6 hb
  have s7 := sc7 hb
  have s8 := sc8 hb
  have s10 := sc10 hb
  have fz : ∀ j, w.frozen? ⟨pb, j, none⟩ = false := fun j => frozenAt hb
  have tm : ∀ (m k : Nat), (m : Int).tmod k = ((m % k : Nat) : Int) := fun m k => by rw [Int.tmod_eq_emod_of_nonneg (by omega)]; rfl
  have HB := hideE hb
  clear hb
  unfold saidK
  rcases hl with hl | hl
  · rw [if_neg (by omega)]
    rw [hl] at s1
    by_cases q4 : n / 131072 % 4 = 0
    · rw [if_pos q4]
      have b4 : ((n : Int) / 131072 % 4 == 0) = true := by simp only [beq_iff_eq]; omega
      clear q4
      go_enter Try.func33, Try.ntmps33
      go_wp2_with fail
      refine (hp _).mono ?_
      rintro e w0 ⟨rfl, rfl⟩
      clear hp
      go_wp2_with fail
      generalize hV : (((((((w.setCell ⟨pb, 10, none⟩ (.bool true)).setCell ⟨pb, 3, none⟩ (.int .i64 ((n : Int) % 2))).setCell ⟨pb, 5, none⟩ (.int .i64 ((n : Int) / 2 % 6))).setCell ⟨pb, 4, none⟩ (.int .i64 ((n : Int) / 16 % 2))).setCell ⟨pb, 6, none⟩ (.int .i64 (1 + (n : Int) / 32 % 9))).setCell ⟨pb, 7, none⟩ (.int .i64 (1 + (n : Int) / 512 % 11))).setCell ⟨pb, 8, none⟩ (.int .i64 (1 + (n : Int) / 8192 % 12))).setCell ⟨pb, 2, none⟩ (.int .i64 2) = V
      have h1 := sset (j := 10) (u := .bool true) (g' := { g with filled := true }) HB.out rfl
      have h2 := sset (j := 3) (u := .int .i64 ((n : Int) % 2)) (g' := { g with filled := true, account := (n : Int) % 2 }) h1 rfl
      have h3 := sset (j := 5) (u := .int .i64 ((n : Int) / 2 % 6)) (g' := { g with filled := true, account := (n : Int) % 2, number := (n : Int) / 2 % 6 }) h2 rfl
      have h4 := sset (j := 4) (u := .int .i64 ((n : Int) / 16 % 2)) (g' := { g with filled := true, account := (n : Int) % 2, number := (n : Int) / 2 % 6, side := (n : Int) / 16 % 2 }) h3 rfl
      have h5 := sset (j := 6) (u := .int .i64 (1 + (n : Int) / 32 % 9)) (g' := { g with filled := true, account := (n : Int) % 2, number := (n : Int) / 2 % 6, side := (n : Int) / 16 % 2, price := 1 + (n : Int) / 32 % 9 }) h4 rfl
      have h6 := sset (j := 7) (u := .int .i64 (1 + (n : Int) / 512 % 11)) (g' := { g with filled := true, account := (n : Int) % 2, number := (n : Int) / 2 % 6, side := (n : Int) / 16 % 2, price := 1 + (n : Int) / 32 % 9, qty := 1 + (n : Int) / 512 % 11 }) h5 rfl
      have h7 := sset (j := 8) (u := .int .i64 (1 + (n : Int) / 8192 % 12)) (g' := { g with filled := true, account := (n : Int) % 2, number := (n : Int) / 2 % 6, side := (n : Int) / 16 % 2, price := 1 + (n : Int) / 32 % 9, qty := 1 + (n : Int) / 512 % 11, life := 1 + (n : Int) / 8192 % 12 }) h6 rfl
      have h8 := sset (j := 2) (u := .int .i64 2) (g' := { g with filled := true, account := (n : Int) % 2, number := (n : Int) / 2 % 6, side := (n : Int) / 16 % 2, price := 1 + (n : Int) / 32 % 9, qty := 1 + (n : Int) / 512 % 11, life := 1 + (n : Int) / 8192 % 12, kind := 2 }) h7 rfl
      have hVb : V.heap[pb]? = some (.cells (sCells ({ saidQ g n with kind := 2 })) 43 (0, 0)) := by
        rw [← hV]
        exact h8
      clear h1 h2 h3 h4 h5 h6 h7 h8
      have kV : Keep (fun k => k ≠ pb) w V := by
        rw [← hV]
        exact (((((((((Keep.refl _ w).setCell _ (fun _ h => h rfl) _).setCell _ (fun _ h => h rfl) _).setCell _ (fun _ h => h rfl) _).setCell _ (fun _ h => h rfl) _).setCell _ (fun _ h => h rfl) _).setCell _ (fun _ h => h rfl) _).setCell _ (fun _ h => h rfl) _).setCell _ (fun _ h => h rfl) _)
      have v2 := sc2 hVb
      have v3 := sc3 hVb
      have v4 := sc4 hVb
      have v5 := sc5 hVb
      have v6 := sc6 hVb
      have v7 := sc7 hVb
      have v8 := sc8 hVb
      simp only [saidQ] at v2 v3 v4 v5 v6 v7 v8
      have KV := hideE (show Keep (fun k => k ≠ pb) w V ∧ V.heap[pb]? = _ from ⟨kV, hVb⟩)
      clear hV hVb kV s1 s2 s3 s4 s5 s6 s7 s8 s10 fz
      go_region_with (go_at_call 20; refine (other_any _ _ _ _).mono ?_; rintro e w1 ⟨rfl, hb1⟩)
      all_goals
        have HB1 := hideE (show Keep (fun _ => True) V w1 from (Keep.refl _ V).drew.trans (Keep.ofBelow hb1))
        clear hb1
        go_wp2
        go_ret
        exact ⟨rfl, KV.out.1.trans' HB1.out (fun _ _ _ => trivial), HB1.out.get KV.out.2 trivial⟩
    · rw [if_neg q4]
      have b4 : ((n : Int) / 131072 % 4 == 0) = false := by simp only [beq_eq_false_iff_ne, ne_eq]; omega
      by_cases q16 : n / 131072 % 16 = 1
      · rw [if_pos q16]
        have b16 : ((n : Int) / 131072 % 16 == 1) = true := by simp only [beq_iff_eq]; omega
        clear q4 q16
        go_enter Try.func33, Try.ntmps33
        go_wp2_with fail
        refine (hp _).mono ?_
        rintro e w0 ⟨rfl, rfl⟩
        clear hp
        go_wp2_with fail
        generalize hV : ((((((w.setCell ⟨pb, 10, none⟩ (.bool true)).setCell ⟨pb, 3, none⟩ (.int .i64 ((n : Int) % 2))).setCell ⟨pb, 5, none⟩ (.int .i64 ((n : Int) / 2 % 6))).setCell ⟨pb, 4, none⟩ (.int .i64 ((n : Int) / 16 % 2))).setCell ⟨pb, 6, none⟩ (.int .i64 (1 + (n : Int) / 32 % 9))).setCell ⟨pb, 7, none⟩ (.int .i64 (1 + (n : Int) / 512 % 11))).setCell ⟨pb, 8, none⟩ (.int .i64 (1 + (n : Int) / 8192 % 12)) = V
        have h1 := sset (j := 10) (u := .bool true) (g' := { g with filled := true }) HB.out rfl
        have h2 := sset (j := 3) (u := .int .i64 ((n : Int) % 2)) (g' := { g with filled := true, account := (n : Int) % 2 }) h1 rfl
        have h3 := sset (j := 5) (u := .int .i64 ((n : Int) / 2 % 6)) (g' := { g with filled := true, account := (n : Int) % 2, number := (n : Int) / 2 % 6 }) h2 rfl
        have h4 := sset (j := 4) (u := .int .i64 ((n : Int) / 16 % 2)) (g' := { g with filled := true, account := (n : Int) % 2, number := (n : Int) / 2 % 6, side := (n : Int) / 16 % 2 }) h3 rfl
        have h5 := sset (j := 6) (u := .int .i64 (1 + (n : Int) / 32 % 9)) (g' := { g with filled := true, account := (n : Int) % 2, number := (n : Int) / 2 % 6, side := (n : Int) / 16 % 2, price := 1 + (n : Int) / 32 % 9 }) h4 rfl
        have h6 := sset (j := 7) (u := .int .i64 (1 + (n : Int) / 512 % 11)) (g' := { g with filled := true, account := (n : Int) % 2, number := (n : Int) / 2 % 6, side := (n : Int) / 16 % 2, price := 1 + (n : Int) / 32 % 9, qty := 1 + (n : Int) / 512 % 11 }) h5 rfl
        have h7 := sset (j := 8) (u := .int .i64 (1 + (n : Int) / 8192 % 12)) (g' := { g with filled := true, account := (n : Int) % 2, number := (n : Int) / 2 % 6, side := (n : Int) / 16 % 2, price := 1 + (n : Int) / 32 % 9, qty := 1 + (n : Int) / 512 % 11, life := 1 + (n : Int) / 8192 % 12 }) h6 rfl
        have hVb : V.heap[pb]? = some (.cells (sCells (saidQ g n)) 43 (0, 0)) := by
          rw [← hV]
          exact h7
        clear h1 h2 h3 h4 h5 h6 h7
        have kV : Keep (fun k => k ≠ pb) w V := by
          rw [← hV]
          exact ((((((((Keep.refl _ w).setCell _ (fun _ h => h rfl) _).setCell _ (fun _ h => h rfl) _).setCell _ (fun _ h => h rfl) _).setCell _ (fun _ h => h rfl) _).setCell _ (fun _ h => h rfl) _).setCell _ (fun _ h => h rfl) _).setCell _ (fun _ h => h rfl) _)
        go_ret
        exact ⟨rfl, kV, hVb⟩
      · rw [if_neg q16]
        have b16 : ((n : Int) / 131072 % 16 == 1) = false := by simp only [beq_eq_false_iff_ne, ne_eq]; omega
        clear q4 q16
        go_enter Try.func33, Try.ntmps33
        go_wp2_with fail
        refine (hp _).mono ?_
        rintro e w0 ⟨rfl, rfl⟩
        clear hp
        go_wp2_with fail
        generalize hV : (((((((w.setCell ⟨pb, 10, none⟩ (.bool true)).setCell ⟨pb, 3, none⟩ (.int .i64 ((n : Int) % 2))).setCell ⟨pb, 5, none⟩ (.int .i64 ((n : Int) / 2 % 6))).setCell ⟨pb, 4, none⟩ (.int .i64 ((n : Int) / 16 % 2))).setCell ⟨pb, 6, none⟩ (.int .i64 (1 + (n : Int) / 32 % 9))).setCell ⟨pb, 7, none⟩ (.int .i64 (1 + (n : Int) / 512 % 11))).setCell ⟨pb, 8, none⟩ (.int .i64 (1 + (n : Int) / 8192 % 12))).setCell ⟨pb, 2, none⟩ (.int .i64 1) = V
        have h1 := sset (j := 10) (u := .bool true) (g' := { g with filled := true }) HB.out rfl
        have h2 := sset (j := 3) (u := .int .i64 ((n : Int) % 2)) (g' := { g with filled := true, account := (n : Int) % 2 }) h1 rfl
        have h3 := sset (j := 5) (u := .int .i64 ((n : Int) / 2 % 6)) (g' := { g with filled := true, account := (n : Int) % 2, number := (n : Int) / 2 % 6 }) h2 rfl
        have h4 := sset (j := 4) (u := .int .i64 ((n : Int) / 16 % 2)) (g' := { g with filled := true, account := (n : Int) % 2, number := (n : Int) / 2 % 6, side := (n : Int) / 16 % 2 }) h3 rfl
        have h5 := sset (j := 6) (u := .int .i64 (1 + (n : Int) / 32 % 9)) (g' := { g with filled := true, account := (n : Int) % 2, number := (n : Int) / 2 % 6, side := (n : Int) / 16 % 2, price := 1 + (n : Int) / 32 % 9 }) h4 rfl
        have h6 := sset (j := 7) (u := .int .i64 (1 + (n : Int) / 512 % 11)) (g' := { g with filled := true, account := (n : Int) % 2, number := (n : Int) / 2 % 6, side := (n : Int) / 16 % 2, price := 1 + (n : Int) / 32 % 9, qty := 1 + (n : Int) / 512 % 11 }) h5 rfl
        have h7 := sset (j := 8) (u := .int .i64 (1 + (n : Int) / 8192 % 12)) (g' := { g with filled := true, account := (n : Int) % 2, number := (n : Int) / 2 % 6, side := (n : Int) / 16 % 2, price := 1 + (n : Int) / 32 % 9, qty := 1 + (n : Int) / 512 % 11, life := 1 + (n : Int) / 8192 % 12 }) h6 rfl
        have h8 := sset (j := 2) (u := .int .i64 1) (g' := { g with filled := true, account := (n : Int) % 2, number := (n : Int) / 2 % 6, side := (n : Int) / 16 % 2, price := 1 + (n : Int) / 32 % 9, qty := 1 + (n : Int) / 512 % 11, life := 1 + (n : Int) / 8192 % 12, kind := 1 }) h7 rfl
        have hVb : V.heap[pb]? = some (.cells (sCells ({ saidQ g n with kind := 1 })) 43 (0, 0)) := by
          rw [← hV]
          exact h8
        clear h1 h2 h3 h4 h5 h6 h7 h8
        have kV : Keep (fun k => k ≠ pb) w V := by
          rw [← hV]
          exact (((((((((Keep.refl _ w).setCell _ (fun _ h => h rfl) _).setCell _ (fun _ h => h rfl) _).setCell _ (fun _ h => h rfl) _).setCell _ (fun _ h => h rfl) _).setCell _ (fun _ h => h rfl) _).setCell _ (fun _ h => h rfl) _).setCell _ (fun _ h => h rfl) _).setCell _ (fun _ h => h rfl) _)
        have v2 := sc2 hVb
        have v3 := sc3 hVb
        have v4 := sc4 hVb
        have v5 := sc5 hVb
        have v6 := sc6 hVb
        have v7 := sc7 hVb
        have v8 := sc8 hVb
        simp only [saidQ] at v2 v3 v4 v5 v6 v7 v8
        have KV := hideE (show Keep (fun k => k ≠ pb) w V ∧ V.heap[pb]? = _ from ⟨kV, hVb⟩)
        clear hV hVb kV s1 s2 s3 s4 s5 s6 s7 s8 s10 fz
        have s0 : OS pb ((n : Int) % 2) ((n : Int) / 16 % 2) ((n : Int) / 2 % 6) (1 + (n : Int) / 32 % 9) (1 + (n : Int) / 512 % 11) (1 + (n : Int) / 8192 % 12) V := ⟨v3, v4, v5, v6, v7, v8⟩
        clear v2 v3 v4 v5 v6 v7 v8
        refine wp_region_noPanic ?_
        refine wp_region_held_drew (S := OS pb ((n : Int) % 2) ((n : Int) / 16 % 2) ((n : Int) / 2 % 6) (1 + (n : Int) / 32 % 9) (1 + (n : Int) / 512 % 11) (1 + (n : Int) / 8192 % 12)) (by kernel_rfl) s0 (fun _ => ?_)
        refine wpAnyH_take (i := 0) (v := ?_) rfl (by kernel_rfl) (by kernel_rfl) (by kernel_rfl) (fun _ _ _ h => h) (Or.inl ⟨by rfl, ?_⟩) s0 ?_
        rotate_left
        (intro w hSw; obtain ⟨z3, z4, z5, z6, z7, z8⟩ := hSw; go_simp)
        try with_reducible rfl
        simp only [Act.put]
        refine wpAnyH_take (i := 1) (v := ?_) rfl (by kernel_rfl) (by kernel_rfl) (by kernel_rfl) (fun _ _ _ h => h) (Or.inl ⟨by rfl, ?_⟩) s0 ?_
        rotate_left
        (intro w hSw; obtain ⟨z3, z4, z5, z6, z7, z8⟩ := hSw; go_simp)
        try with_reducible rfl
        simp only [Act.put]
        refine wpAnyH_take (i := 2) (v := ?_) rfl (by kernel_rfl) (by kernel_rfl) (by kernel_rfl) (fun _ _ _ h => h) (Or.inl ⟨by rfl, ?_⟩) s0 ?_
        rotate_left
        (intro w hSw; obtain ⟨z3, z4, z5, z6, z7, z8⟩ := hSw; go_simp)
        try with_reducible rfl
        simp only [Act.put]
        refine wpAnyH_take (i := 3) (v := ?_) rfl (by kernel_rfl) (by kernel_rfl) (by kernel_rfl) (fun _ _ _ h => h) (Or.inl ⟨by rfl, ?_⟩) s0 ?_
        rotate_left
        (intro w hSw; obtain ⟨z3, z4, z5, z6, z7, z8⟩ := hSw; go_simp)
        try with_reducible rfl
        simp only [Act.put]
        refine wpAnyH_take (i := 4) (v := ?_) rfl (by kernel_rfl) (by kernel_rfl) (by kernel_rfl) (fun _ _ _ h => h) (Or.inl ⟨by rfl, ?_⟩) s0 ?_
        rotate_left
        (intro w hSw; obtain ⟨z3, z4, z5, z6, z7, z8⟩ := hSw; go_simp)
        try with_reducible rfl
        simp only [Act.put]
        refine wpAnyH_take (i := 5) (v := ?_) rfl (by kernel_rfl) (by kernel_rfl) (by kernel_rfl) (fun _ _ _ h => h) (Or.inl ⟨by rfl, ?_⟩) s0 ?_
        rotate_left
        (intro w hSw; obtain ⟨z3, z4, z5, z6, z7, z8⟩ := hSw; go_simp)
        try with_reducible rfl
        simp only [Act.put]
        refine wpAnyH_take (i := 6) (v := ?_) rfl (by kernel_rfl) (by kernel_rfl) (by kernel_rfl) (fun _ _ _ h => h) (Or.inl ⟨by rfl, ?_⟩) s0 ?_
        rotate_left
        (intro w hSw; obtain ⟨z3, z4, z5, z6, z7, z8⟩ := hSw; go_simp)
        try with_reducible rfl
        simp only [Act.put]
        refine wpAnyH_take (i := 7) (v := ?_) rfl (by kernel_rfl) (by kernel_rfl) (by kernel_rfl) (fun _ _ _ h => h) (Or.inl ⟨by rfl, ?_⟩) s0 ?_
        rotate_left
        (intro w hSw; obtain ⟨z3, z4, z5, z6, z7, z8⟩ := hSw; go_simp)
        try with_reducible rfl
        simp only [Act.put]
        refine wpAnyH_take (i := 8) (v := ?_) rfl (by kernel_rfl) (by kernel_rfl) (by kernel_rfl) (fun _ _ _ h => h) (Or.inl ⟨by rfl, ?_⟩) s0 ?_
        rotate_left
        (intro w hSw; obtain ⟨z3, z4, z5, z6, z7, z8⟩ := hSw; go_simp)
        try with_reducible rfl
        simp only [Act.put]
        refine wpAnyH_take (i := 9) (v := ?_) rfl (by kernel_rfl) (by kernel_rfl) (by kernel_rfl) (fun _ _ _ h => h) (Or.inl ⟨by rfl, ?_⟩) s0 ?_
        rotate_left
        (intro w hSw; obtain ⟨z3, z4, z5, z6, z7, z8⟩ := hSw; go_simp)
        try with_reducible rfl
        simp only [Act.put]
        refine wpAnyH_take (i := 10) (v := ?_) rfl (by kernel_rfl) (by kernel_rfl) (by kernel_rfl) (fun _ _ _ h => h) (Or.inl ⟨by rfl, ?_⟩) s0 ?_
        rotate_left
        (intro w hSw; obtain ⟨z3, z4, z5, z6, z7, z8⟩ := hSw; go_simp)
        try with_reducible rfl
        simp only [Act.put]
        refine wpAnyH_take (i := 11) (v := ?_) rfl (by kernel_rfl) (by kernel_rfl) (by kernel_rfl) (fun _ _ _ h => h) (Or.inl ⟨by rfl, ?_⟩) s0 ?_
        rotate_left
        (intro w hSw; obtain ⟨z3, z4, z5, z6, z7, z8⟩ := hSw; go_simp)
        try with_reducible rfl
        simp only [Act.put]
        refine wpAnyH_take (i := 12) (v := ?_) rfl (by kernel_rfl) (by kernel_rfl) (by kernel_rfl) (fun _ _ _ h => h) (Or.inl ⟨by rfl, ?_⟩) s0 ?_
        rotate_left
        (intro w hSw; obtain ⟨z3, z4, z5, z6, z7, z8⟩ := hSw; go_simp)
        try with_reducible rfl
        simp only [Act.put]
        refine wpAnyH_take (i := 13) (v := ?_) rfl (by kernel_rfl) (by kernel_rfl) (by kernel_rfl) (fun _ _ _ h => h) (Or.inl ⟨by rfl, ?_⟩) s0 ?_
        rotate_left
        (intro w hSw; obtain ⟨z3, z4, z5, z6, z7, z8⟩ := hSw; go_simp)
        try with_reducible rfl
        simp only [Act.put]
        refine wpAnyH_take (i := 14) (v := ?_) rfl (by kernel_rfl) (by kernel_rfl) (by kernel_rfl) (fun _ _ _ h => h) (Or.inl ⟨by rfl, ?_⟩) s0 ?_
        rotate_left
        (intro w hSw; obtain ⟨z3, z4, z5, z6, z7, z8⟩ := hSw; go_simp)
        try with_reducible rfl
        simp only [Act.put]
        refine wpAnyH_take (i := 15) (v := ?_) rfl (by kernel_rfl) (by kernel_rfl) (by kernel_rfl) (fun _ _ _ h => h) (Or.inl ⟨by rfl, ?_⟩) s0 ?_
        rotate_left
        (intro w hSw; obtain ⟨z3, z4, z5, z6, z7, z8⟩ := hSw; go_simp)
        try with_reducible rfl
        simp only [Act.put]
        refine wpAnyH_take (i := 16) (v := ?_) rfl (by kernel_rfl) (by kernel_rfl) (by kernel_rfl) (fun _ _ _ h => h) (Or.inl ⟨by rfl, ?_⟩) s0 ?_
        rotate_left
        (intro w hSw; obtain ⟨z3, z4, z5, z6, z7, z8⟩ := hSw; go_simp)
        try with_reducible rfl
        simp only [Act.put]
        refine wpAnyH_take (i := 17) (v := ?_) rfl (by kernel_rfl) (by kernel_rfl) (by kernel_rfl) (fun _ _ _ h => h) (Or.inl ⟨by rfl, ?_⟩) s0 ?_
        rotate_left
        (intro w hSw; obtain ⟨z3, z4, z5, z6, z7, z8⟩ := hSw; go_simp)
        try with_reducible rfl
        simp only [Act.put]
        refine wpAnyH_take (i := 18) (v := ?_) rfl (by kernel_rfl) (by kernel_rfl) (by kernel_rfl) (fun _ _ _ h => h) (Or.inl ⟨by rfl, ?_⟩) s0 ?_
        rotate_left
        (intro w hSw; obtain ⟨z3, z4, z5, z6, z7, z8⟩ := hSw; go_simp)
        try with_reducible rfl
        simp only [Act.put]
        refine wpAnyH_take (i := 19) (v := ?_) rfl (by kernel_rfl) (by kernel_rfl) (by kernel_rfl) (fun _ _ _ h => h) (Or.inl ⟨by rfl, ?_⟩) s0 ?_
        rotate_left
        (intro w hSw; obtain ⟨z3, z4, z5, z6, z7, z8⟩ := hSw; go_simp)
        try with_reducible rfl
        simp only [Act.put]
        refine wpAnyH_take (i := 20) (v := ?_) rfl (by kernel_rfl) (by kernel_rfl) (by kernel_rfl) (fun _ _ _ h => h) (Or.inl ⟨by rfl, ?_⟩) s0 ?_
        rotate_left
        (intro w hSw; obtain ⟨z3, z4, z5, z6, z7, z8⟩ := hSw; go_simp)
        try with_reducible rfl
        simp only [Act.put]
        refine wpAnyH_take (i := 21) (v := ?_) rfl (by kernel_rfl) (by kernel_rfl) (by kernel_rfl) (fun _ _ _ h => h) (Or.inl ⟨by rfl, ?_⟩) s0 ?_
        rotate_left
        (intro w hSw; obtain ⟨z3, z4, z5, z6, z7, z8⟩ := hSw; go_simp)
        try with_reducible rfl
        simp only [Act.put]
        refine wpAnyH_take (i := 22) (v := ?_) rfl (by kernel_rfl) (by kernel_rfl) (by kernel_rfl) (fun _ _ _ h => h) (Or.inl ⟨by rfl, ?_⟩) s0 ?_
        rotate_left
        (intro w hSw; obtain ⟨z3, z4, z5, z6, z7, z8⟩ := hSw; go_simp)
        try with_reducible rfl
        simp only [Act.put]
        refine wpAnyH_take (i := 23) (v := ?_) rfl (by kernel_rfl) (by kernel_rfl) (by kernel_rfl) (fun _ _ _ h => h) (Or.inl ⟨by rfl, ?_⟩) s0 ?_
        rotate_left
        (intro w hSw; obtain ⟨z3, z4, z5, z6, z7, z8⟩ := hSw; go_simp)
        try with_reducible rfl
        simp only [Act.put]
        refine wpAnyH_ready (rs := [24]) (by kernel_rfl) (by simp) ?_
        refine AllReadyH.cons rfl (fun K hK => ?_) AllReadyH.nil
        go_simp
        refine (order_any _ _ _ _ _ _ _).mono ?_
        rintro e w1 ⟨rfl, hb1⟩
        have HB1 := hideE (show Keep (fun _ => True) V w1 from (Keep.refl _ V).drew.trans (Keep.ofBelow hb1))
        have s1' := OS.keep s0 HB1.out
        clear hb1
        go_wp2_with fail
        refine hK.out _ _ s1' (fun _ => ?_)
        clear hK K
        refine wpAnyH_ready (rs := [25]) (by kernel_rfl) (by simp) ?_
        refine AllReadyH.cons rfl (fun K hK => ?_) AllReadyH.nil
        go_simp
        refine hK.out _ _ s1' (fun _ => ?_)
        clear hK K
        refine wpAnyH_done (by kernel_rfl) (NoPanic.normal ?_) _
        go_wp2_with fail
        refine bodyPost_ret (v := .string (orderB ((n : Int) % 2) ((n : Int) / 16 % 2) ((n : Int) / 2 % 6) (1 + (n : Int) / 32 % 9) (1 + (n : Int) / 512 % 11) (1 + (n : Int) / 8192 % 12))) (by simp [results, Try.results33, go_sem]) rfl ?_
        exact ⟨rfl, KV.out.1.trans' HB1.out (fun _ _ _ => trivial), HB1.out.get KV.out.2 trivial⟩
  · rw [if_pos hl]
    rw [hl] at s1
    go_enter Try.func33, Try.ntmps33
    go_wp2_with fail
    refine (hp _).mono ?_
    rintro e w0 ⟨rfl, rfl⟩
    clear hp
    go_wp2_with fail
    generalize hV : (((((((w.setCell ⟨pb, 10, none⟩ (.bool true)).setCell ⟨pb, 3, none⟩ (.int .i64 ((n : Int) % 2))).setCell ⟨pb, 5, none⟩ (.int .i64 ((n : Int) / 2 % 6))).setCell ⟨pb, 4, none⟩ (.int .i64 ((n : Int) / 16 % 2))).setCell ⟨pb, 6, none⟩ (.int .i64 (1 + (n : Int) / 32 % 9))).setCell ⟨pb, 7, none⟩ (.int .i64 (1 + (n : Int) / 512 % 11))).setCell ⟨pb, 8, none⟩ (.int .i64 (1 + (n : Int) / 8192 % 12))).setCell ⟨pb, 2, none⟩ (.int .i64 (3 + (n : Int) / 16 % 2)) = V
    have h1 := sset (j := 10) (u := .bool true) (g' := { g with filled := true }) HB.out rfl
    have h2 := sset (j := 3) (u := .int .i64 ((n : Int) % 2)) (g' := { g with filled := true, account := (n : Int) % 2 }) h1 rfl
    have h3 := sset (j := 5) (u := .int .i64 ((n : Int) / 2 % 6)) (g' := { g with filled := true, account := (n : Int) % 2, number := (n : Int) / 2 % 6 }) h2 rfl
    have h4 := sset (j := 4) (u := .int .i64 ((n : Int) / 16 % 2)) (g' := { g with filled := true, account := (n : Int) % 2, number := (n : Int) / 2 % 6, side := (n : Int) / 16 % 2 }) h3 rfl
    have h5 := sset (j := 6) (u := .int .i64 (1 + (n : Int) / 32 % 9)) (g' := { g with filled := true, account := (n : Int) % 2, number := (n : Int) / 2 % 6, side := (n : Int) / 16 % 2, price := 1 + (n : Int) / 32 % 9 }) h4 rfl
    have h6 := sset (j := 7) (u := .int .i64 (1 + (n : Int) / 512 % 11)) (g' := { g with filled := true, account := (n : Int) % 2, number := (n : Int) / 2 % 6, side := (n : Int) / 16 % 2, price := 1 + (n : Int) / 32 % 9, qty := 1 + (n : Int) / 512 % 11 }) h5 rfl
    have h7 := sset (j := 8) (u := .int .i64 (1 + (n : Int) / 8192 % 12)) (g' := { g with filled := true, account := (n : Int) % 2, number := (n : Int) / 2 % 6, side := (n : Int) / 16 % 2, price := 1 + (n : Int) / 32 % 9, qty := 1 + (n : Int) / 512 % 11, life := 1 + (n : Int) / 8192 % 12 }) h6 rfl
    have h8 := sset (j := 2) (u := .int .i64 (3 + (n : Int) / 16 % 2)) (g' := { g with filled := true, account := (n : Int) % 2, number := (n : Int) / 2 % 6, side := (n : Int) / 16 % 2, price := 1 + (n : Int) / 32 % 9, qty := 1 + (n : Int) / 512 % 11, life := 1 + (n : Int) / 8192 % 12, kind := 3 + (n : Int) / 16 % 2 }) h7 rfl
    have hVb : V.heap[pb]? = some (.cells (sCells ({ saidQ g n with kind := 3 + (n : Int) / 16 % 2 })) 43 (0, 0)) := by
      rw [← hV]
      exact h8
    clear h1 h2 h3 h4 h5 h6 h7 h8
    have kV : Keep (fun k => k ≠ pb) w V := by
      rw [← hV]
      exact (((((((((Keep.refl _ w).setCell _ (fun _ h => h rfl) _).setCell _ (fun _ h => h rfl) _).setCell _ (fun _ h => h rfl) _).setCell _ (fun _ h => h rfl) _).setCell _ (fun _ h => h rfl) _).setCell _ (fun _ h => h rfl) _).setCell _ (fun _ h => h rfl) _).setCell _ (fun _ h => h rfl) _)
    have v2 := sc2 hVb
    have v3 := sc3 hVb
    have v4 := sc4 hVb
    have v5 := sc5 hVb
    have v6 := sc6 hVb
    have v7 := sc7 hVb
    have v8 := sc8 hVb
    simp only [saidQ] at v2 v3 v4 v5 v6 v7 v8
    have KV := hideE (show Keep (fun k => k ≠ pb) w V ∧ V.heap[pb]? = _ from ⟨kV, hVb⟩)
    clear hV hVb kV s1 s2 s3 s4 s5 s6 s7 s8 s10 fz
    go_region_with (go_at_call 20; refine (other_any _ _ _ _).mono ?_; rintro e w1 ⟨rfl, hb1⟩)
    all_goals
      have HB1 := hideE (show Keep (fun _ => True) V w1 from (Keep.refl _ V).drew.trans (Keep.ofBelow hb1))
      clear hb1
      go_wp2
      go_ret
      exact ⟨rfl, KV.out.1.trans' HB1.out (fun _ _ _ => trivial), HB1.out.get KV.out.2 trivial⟩

end Go.Proofs.Ytjhifhoniimfgaa

