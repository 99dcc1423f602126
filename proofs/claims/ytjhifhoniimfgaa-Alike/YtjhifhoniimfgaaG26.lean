import Derived.Test.YtjhifhoniimfgaaG24
/-
  A gate is made: the walk.
-/
namespace Go.Proofs.Ytjhifhoniimfgaa
open Go.RowKit

def cfgO (cl co ur an ch : Int) (v : Value) : Obj := .cells #[.int .i64 cl, .int .i64 co, .int .i64 ur, .int .i64 an, .int .i64 ch, v] 31

def gateO (wb : Nat) : Obj := .cells #[.slice none 0 0, .slice none 0 0, .pointer none, .pointer none, .pointer none, .int .i64 0, .pointer (some ⟨wb, 0, none⟩)] 80

/-- The limits of an account, in a box. -/
def LimS (b : Nat) (lim : Nat → Int) (W : World) : Prop :=
  W.cell? ⟨b, 0, none⟩ = some (.int .i64 (lim 0)) ∧ W.cell? ⟨b, 1, none⟩ = some (.int .i64 (lim 1)) ∧ W.cell? ⟨b, 2, none⟩ = some (.int .i64 (lim 2)) ∧ W.cell? ⟨b, 3, none⟩ = some (.int .i64 (lim 3)) ∧ W.cell? ⟨b, 4, none⟩ = some (.int .i64 (lim 4)) ∧ W.cell? ⟨b, 5, none⟩ = some (.int .i64 (lim 5))

theorem LimS.block {b : Nat} {lim : Nat → Int} {W W' : World} (h : LimS b lim W) (he : W'.heap[b]? = W.heap[b]?) : LimS b lim W' := by
  obtain ⟨h0, h1, h2, h3, h4, h5⟩ := h
  refine ⟨?_, ?_, ?_, ?_, ?_, ?_⟩
  all_goals
    rw [World.cell?_of_block (w := W) he]
    assumption

def limO (lim : Nat → Int) : Obj := .cells #[.int .i64 (lim 0), .int .i64 (lim 1), .int .i64 (lim 2), .int .i64 (lim 3), .int .i64 (lim 4), .int .i64 (lim 5)] 70

/-- Behind NewAnswers. -/
def After1 (cb : Nat) (an : Int) (gb j cap : Nat) (va : Option Addr) (lb : Nat) (w1 : World) (R : World → Prop) : Prop :=
  w1.cell? ⟨cb, 3, none⟩ = some (.int .i64 an) ∧ w1.cell? ⟨gb, 0, none⟩ = some (.slice va j cap) ∧
  ∃ g3 cap3 w3, (∀ ty, (Builtin.append_ #[73, 73] ty #[.slice va j cap, .slice (some ⟨w1.heap.size + 1, 0, none⟩) 1 1]).run Try.prog ((w1.alloc (inboxO lb)).alloc (.cells #[.pointer (some ⟨w1.heap.size, 0, none⟩)] 91)) = .ok (.slice (some ⟨g3, 0, none⟩) (j + 1) cap3) w3) ∧
    w3.cell? ⟨cb, 3, none⟩ = some (.int .i64 an) ∧ w3.cell? ⟨gb, 0, none⟩ = some (.slice va j cap) ∧ w3.frozen? ⟨gb, 0, none⟩ = false ∧ R (w3.setCell ⟨gb, 0, none⟩ (.slice (some ⟨g3, 0, none⟩) (j + 1) cap3))

/-- Behind account.New. -/
def After2 (bb : Nat) (lim : Nat → Int) (gb k cap : Nat) (va : Option Addr) (xb : Nat) (w1 : World) (R : World → Prop) : Prop :=
  LimS bb lim w1 ∧ w1.cell? ⟨gb, 1, none⟩ = some (.slice va k cap) ∧
  ∃ g3 cap3 w3, (∀ ty, (Builtin.append_ #[74, 74] ty #[.slice va k cap, .slice (some ⟨w1.heap.size, 0, none⟩) 1 1]).run Try.prog (w1.alloc (.cells #[.pointer (some ⟨xb, 0, none⟩)] 97)) = .ok (.slice (some ⟨g3, 0, none⟩) (k + 1) cap3) w3) ∧
    LimS bb lim w3 ∧ w3.cell? ⟨gb, 1, none⟩ = some (.slice va k cap) ∧ w3.frozen? ⟨gb, 1, none⟩ = false ∧ R (w3.setCell ⟨gb, 1, none⟩ (.slice (some ⟨g3, 0, none⟩) (k + 1) cap3))

set_option maxRecDepth 100000 in
set_option maxHeartbeats 4000000 in
theorem new_walk (cl : Nat) (co ur an ch : Int) (a : Option Addr) (n c : Nat) (lim : Nat → Nat → Int) (w : World) (Y : World → Prop) (R1 R2 : Nat → Nat → World → Prop) (R3 R4 : Nat → World → Prop) (hcl : cl ≤ 8) (hn : n ≤ 4)
    (hm : Calls Try.prog 43 #[.agg #[.int .i64 cl, .int .i64 co, .int .i64 ur, .int .i64 an, .int .i64 ch, .slice a n c]] (w.alloc (cfgO cl co ur an ch (.slice a n c))) fun e w1 => e = .returned (.bool true) ∧ Y w1)
    (hy : ∀ W, Y W → W.heap[w.heap.size]? = some (cfgO cl co ur an ch (.slice a n c)))
    (hw : ∀ W, Y W → Calls Try.prog 44 #[.int .i64 ch] W fun e w2 => ∃ wb, e = .returned (.pointer (some ⟨wb, 0, none⟩)) ∧ R1 w2.heap.size 0 (w2.alloc (gateO wb)))
    (hc1 : ∀ gb j W, R1 gb j W → W.heap[w.heap.size]? = some (cfgO cl co ur an ch (.slice a n c)) ∧ w.heap.size ≠ gb ∧ ∃ va cap, W.cell? ⟨gb, 0, none⟩ = some (.slice va j cap))
    (hb1 : ∀ gb j W m, j < cl → R1 gb j W → ∀ va cap, W.cell? ⟨gb, 0, none⟩ = some (.slice va j cap) → Calls Try.prog 45 #[.int .i64 an] (W.drewN m) fun e w1 => ∃ lb, e = .returned (.pointer (some ⟨lb, 0, none⟩)) ∧ After1 w.heap.size an gb j cap va lb w1 (R1 gb (j + 1)))
    (h12 : ∀ gb W, R1 gb cl W → R2 gb 0 W)
    (hc2 : ∀ gb k W, R2 gb k W → W.heap[w.heap.size]? = some (cfgO cl co ur an ch (.slice a n c)) ∧ w.heap.size ≠ gb ∧ AccAt W a n lim ∧ gb < W.heap.size ∧ ∃ va cap, W.cell? ⟨gb, 1, none⟩ = some (.slice va k cap))
    (hb2 : ∀ gb k W m, k < n → R2 gb k W → ∀ va cap, W.cell? ⟨gb, 1, none⟩ = some (.slice va k cap) → Calls Try.prog 46 #[.agg #[.int .i64 (lim k 0), .int .i64 (lim k 1), .int .i64 (lim k 2), .int .i64 (lim k 3), .int .i64 (lim k 4), .int .i64 (lim k 5)]] ((W.alloc (limO (lim k))).drewN m) fun e w1 => ∃ xb, e = .returned (.pointer (some ⟨xb, 0, none⟩)) ∧ After2 W.heap.size (lim k) gb k cap va xb w1 (R2 gb (k + 1)))
    (hl0 : ∀ gb W m, R2 gb n W → Calls Try.prog 47 #[.int .i64 co] (W.drewN m) fun e w1 => ∃ lb, e = .returned (.pointer (some ⟨lb, 0, none⟩)) ∧ w1.cell? ⟨w.heap.size, 1, none⟩ = some (.int .i64 co) ∧ (∃ v, w1.cell? ⟨gb, 2, none⟩ = some (.pointer v)) ∧ w1.frozen? ⟨gb, 2, none⟩ = false ∧ R3 gb (w1.setCell ⟨gb, 2, none⟩ (.pointer (some ⟨lb, 0, none⟩))))
    (hc3 : ∀ gb W, R3 gb W → W.cell? ⟨w.heap.size, 2, none⟩ = some (.int .i64 ur))
    (hl1 : ∀ gb W m, R3 gb W → Calls Try.prog 47 #[.int .i64 ur] (W.drewN m) fun e w1 => ∃ lb, e = .returned (.pointer (some ⟨lb, 0, none⟩)) ∧ w1.cell? ⟨w.heap.size, 2, none⟩ = some (.int .i64 ur) ∧ (∃ v, w1.cell? ⟨gb, 3, none⟩ = some (.pointer v)) ∧ w1.frozen? ⟨gb, 3, none⟩ = false ∧ R4 gb (w1.setCell ⟨gb, 3, none⟩ (.pointer (some ⟨lb, 0, none⟩)))) :
    Calls Try.prog 28 #[.agg #[.int .i64 cl, .int .i64 co, .int .i64 ur, .int .i64 an, .int .i64 ch, .slice a n c]] w fun e w' => ∃ gb, e = .returned (.tuple #[.pointer (some ⟨gb, 0, none⟩), .int .i64 0]) ∧ R4 gb w' := by
  unfold cfgO at hm
  have HY : Hid (∀ W, Y W → W.heap[w.heap.size]? = some (cfgO cl co ur an ch (.slice a n c))) := hy
  have HC1 : Hid (∀ gb j W, R1 gb j W → W.heap[w.heap.size]? = some (cfgO cl co ur an ch (.slice a n c)) ∧ w.heap.size ≠ gb ∧ ∃ va cap, W.cell? ⟨gb, 0, none⟩ = some (.slice va j cap)) := hc1
  have HC2 : Hid (∀ gb k W, R2 gb k W → W.heap[w.heap.size]? = some (cfgO cl co ur an ch (.slice a n c)) ∧ w.heap.size ≠ gb ∧ AccAt W a n lim ∧ gb < W.heap.size ∧ ∃ va cap, W.cell? ⟨gb, 1, none⟩ = some (.slice va k cap)) := hc2
  have HC3 : Hid (∀ gb W, R3 gb W → W.cell? ⟨w.heap.size, 2, none⟩ = some (.int .i64 ur)) := hc3
  clear hy hc1 hc2 hc3
  unfold limO at hb2
  go_enter Try.func28, Try.ntmps28
  go_wp2_with fail
  refine hm.mono ?_
  rintro e w1 ⟨rfl, hy1⟩
  have d4 := cellAt (i := 4) (HY.out w1 hy1) rfl
  go_wp2_with fail
  refine (hw w1 hy1).mono ?_
  rintro e w2 ⟨wb, rfl, hR0⟩
  obtain ⟨q1, q2, _⟩ := HC1.out _ _ _ hR0
  have hlt0 : w.heap.size < w2.heap.size := by have := block_lt q1; simp at this; omega
  have d0 : w2.cell? ⟨w.heap.size, 0, none⟩ = some (.int .i64 cl) := cellAt (i := 0) ((Below.heap_alloc _ _ _ hlt0).symm.trans q1) rfl
  have HR0 : Hid (R1 w2.heap.size 0 (w2.alloc (gateO wb))) := hR0
  unfold gateO at HR0
  clear q1 q2 hR0 d4
  go_wp2_with fail
  go_loopw [17] (fun i wr => ∃ j : Nat, j ≤ cl ∧ i = .int .i64 j ∧ R1 w2.heap.size j wr) (fun i _ => cl - (intOf i).toNat)
  case atStart => exact ⟨0, Nat.zero_le _, rfl, HR0.out⟩
  case round =>
    obtain ⟨j, hj, rfl, hR⟩ := hrel
    obtain ⟨q1, hcg, va, cap, c0⟩ := HC1.out _ _ _ hR
    clear d0 hlt0 HR0
    generalize w2.heap.size = gb at *
    by_cases hlt : j < cl
    · have hlt' : (j : Int) < (cl : Int) := by omega
      have hS6 : wr.cell? ⟨w.heap.size, 3, none⟩ = some (.int .i64 an) := cellAt (i := 3) q1 rfl
      clear q1
      go_wp2_with fail
      refine wp_region_noPanic ?_
      refine wp_region_held_drew (S := (fun W => W.cell? ⟨w.heap.size, 3, none⟩ = some (.int .i64 an))) (by kernel_rfl) hS6 (fun _ => ?_)
      refine wpAnyH_take (i := 0) (v := ?_) rfl (by kernel_rfl) (by kernel_rfl) (by kernel_rfl) (fun _ _ _ h => h) (Or.inl ⟨by rfl, ?_⟩) hS6 ?_
      rotate_left
      (intro w hSw; go_simp)
      try with_reducible rfl
      simp only [Act.put]
      refine wpAnyH_take (i := 1) (v := ?_) rfl (by kernel_rfl) (by kernel_rfl) (by kernel_rfl) (fun _ _ _ h => h) (Or.inl ⟨by rfl, ?_⟩) hS6 ?_
      rotate_left
      (intro w hSw; go_simp)
      try with_reducible rfl
      simp only [Act.put]
      refine wpAnyH_take (i := 2) (v := ?_) rfl (by kernel_rfl) (by kernel_rfl) (by kernel_rfl) (fun _ _ _ h => h) (Or.inl ⟨by rfl, ?_⟩) hS6 ?_
      rotate_left
      (intro w hSw; go_simp)
      try with_reducible rfl
      simp only [Act.put]
      refine wpAnyH_take (i := 3) (v := ?_) rfl (by kernel_rfl) (by kernel_rfl) (by kernel_rfl) (fun _ _ _ h => h) (Or.inl ⟨by rfl, ?_⟩) hS6 ?_
      rotate_left
      (intro w hSw; go_simp)
      try with_reducible rfl
      simp only [Act.put]
      refine wpAnyH_take (i := 5) (v := ?_) rfl (by kernel_rfl) (by kernel_rfl) (by kernel_rfl) (fun _ _ _ h => h) (Or.inl ⟨by rfl, ?_⟩) hS6 ?_
      rotate_left
      (intro w hSw; go_simp)
      try with_reducible rfl
      simp only [Act.put]
      refine wpAnyH_take (i := 6) (v := ?_) rfl (by kernel_rfl) (by kernel_rfl) (by kernel_rfl) (fun _ _ _ h => h) (Or.inl ⟨by rfl, ?_⟩) hS6 ?_
      rotate_left
      (intro w hSw; go_simp)
      try with_reducible rfl
      simp only [Act.put]
      refine wpAnyH_ready (rs := [4, 7]) (by kernel_rfl) (by simp) ?_
      refine AllReadyH.cons rfl (fun K hK => ?_) (AllReadyH.cons rfl (fun K hK => ?_) AllReadyH.nil)
      · go_simp
        refine hK.out _ _ hS6 (fun _ => ?_)
        clear hK K
        refine wpAnyH_ready (rs := [7]) (by kernel_rfl) (by simp) ?_
        refine AllReadyH.cons rfl (fun K hK => ?_) AllReadyH.nil
        go_simp
        refine (hb1 gb j wr 1 hlt hR va cap c0).mono ?_
        rintro e w1 ⟨lb, rfl, z0, z1, g3, cap3, w3, hrun, x1, x2, x3, hnext⟩
        have hltg := World.block_lt_of_cell? w1 _ z1
        have hltc : w.heap.size < w1.heap.size := World.block_lt_of_cell? w1 _ z0
        have Z0 : Hid (w1.cell? ⟨w.heap.size, 3, none⟩ = some (.int .i64 an)) := z0
        have Z1 : Hid ((w1.alloc (inboxO lb)).cell? ⟨w.heap.size, 3, none⟩ = some (.int .i64 an)) := by show _ = _; rw [World.cell?_of_block (w := w1) (Below.heap_alloc _ _ _ hltc)]; exact z0
        have Z2 : Hid (((w1.alloc (inboxO lb)).alloc (.cells #[.pointer (some ⟨w1.heap.size, 0, none⟩)] 91)).cell? ⟨w.heap.size, 3, none⟩ = some (.int .i64 an)) := by
          show _ = _
          rw [World.cell?_of_block (w := w1) ((Below.heap_alloc _ _ _ (by simp; omega)).trans (Below.heap_alloc _ _ _ hltc))]; exact z0
        have X1 : Hid (w3.cell? ⟨w.heap.size, 3, none⟩ = some (.int .i64 an)) := x1
        have X4 : Hid ((w3.setCell ⟨gb, 0, none⟩ (.slice (some ⟨g3, 0, none⟩) (j + 1) cap3)).cell? ⟨w.heap.size, 3, none⟩ = some (.int .i64 an)) := by
          show _ = _
          rw [World.cell?_of_block (w := w3) (Below.heap_setCell _ _ _ _ hcg)]; exact x1
        have HX : Hid (R1 gb (j + 1) (w3.setCell ⟨gb, 0, none⟩ (.slice (some ⟨g3, 0, none⟩) (j + 1) cap3))) := hnext
        unfold inboxO at Z1 Z2 hrun
        clear z0 x1 hnext
        go_wp2_with fail
        refine hK.out _ _ Z0.out (fun _ => ?_)
        clear hK K
        refine wpAnyH_take (i := 8) (v := ?_) rfl (by kernel_rfl) (by kernel_rfl) (by kernel_rfl) (fun _ _ _ h => h) (Or.inl ⟨by rfl, ?_⟩) Z0.out ?_
        rotate_left
        (intro w hSw; go_simp)
        try with_reducible rfl
        simp only [Act.put]
        refine wpAnyH_ready (rs := [9]) (by kernel_rfl) (by simp) ?_
        refine AllReadyH.cons rfl (fun K hK => ?_) AllReadyH.nil
        go_simp
        refine hK.out _ _ Z1.out (fun _ => ?_)
        clear hK K
        refine wpAnyH_ready (rs := [10]) (by kernel_rfl) (by simp) ?_
        refine AllReadyH.cons rfl (fun K hK => ?_) AllReadyH.nil
        go_simp
        refine hK.out _ _ Z2.out (fun _ => ?_)
        clear hK K
        refine wpAnyH_ready (rs := [11]) (by kernel_rfl) (by simp) ?_
        refine AllReadyH.cons rfl (fun K hK => ?_) AllReadyH.nil
        refine append_op rfl (.tmp 23) (.tmp 29) 73 rfl (.slice va j cap) (.slice (some ⟨w1.heap.size + 1, 0, none⟩) 1 1) _ _ (by simp [Act.eval]) (by simp [Act.eval]) hrun ?_
        simp only [Act.put]
        refine hK.out _ _ X1.out (fun _ => ?_)
        clear hK K
        refine wpAnyH_take (i := 12) (v := ?_) rfl (by kernel_rfl) (by kernel_rfl) (by kernel_rfl) (fun _ _ _ h => h) (Or.inl ⟨by rfl, ?_⟩) X1.out ?_
        rotate_left
        (intro w hSw; go_simp)
        try with_reducible rfl
        simp only [Act.put]
        refine wpAnyH_take (i := 13) (v := ?_) rfl (by kernel_rfl) (by kernel_rfl) (by kernel_rfl) (fun _ _ _ h => h) (Or.inl ⟨by rfl, ?_⟩) X1.out ?_
        rotate_left
        (intro w hSw; go_simp)
        try with_reducible rfl
        simp only [Act.put]
        refine wpAnyH_ready (rs := [14]) (by kernel_rfl) (by simp) ?_
        refine AllReadyH.cons rfl (fun K hK => ?_) AllReadyH.nil
        go_simp
        refine hK.out _ _ X4.out (fun _ => ?_)
        clear hK K
        refine wpAnyH_done (by kernel_rfl) (NoPanic.normal ?_) _
        go_wp2_with fail
        go_roundw
        case rel => exact ⟨j + 1, by omega, by go_num, HX.out⟩
        case measure => simp [intOf]; omega
      · go_simp
        refine (hb1 gb j wr 1 hlt hR va cap c0).mono ?_
        rintro e w1 ⟨lb, rfl, z0, z1, g3, cap3, w3, hrun, x1, x2, x3, hnext⟩
        have hltg := World.block_lt_of_cell? w1 _ z1
        have hltc : w.heap.size < w1.heap.size := World.block_lt_of_cell? w1 _ z0
        have Z0 : Hid (w1.cell? ⟨w.heap.size, 3, none⟩ = some (.int .i64 an)) := z0
        have Z1 : Hid ((w1.alloc (inboxO lb)).cell? ⟨w.heap.size, 3, none⟩ = some (.int .i64 an)) := by show _ = _; rw [World.cell?_of_block (w := w1) (Below.heap_alloc _ _ _ hltc)]; exact z0
        have Z2 : Hid (((w1.alloc (inboxO lb)).alloc (.cells #[.pointer (some ⟨w1.heap.size, 0, none⟩)] 91)).cell? ⟨w.heap.size, 3, none⟩ = some (.int .i64 an)) := by
          show _ = _
          rw [World.cell?_of_block (w := w1) ((Below.heap_alloc _ _ _ (by simp; omega)).trans (Below.heap_alloc _ _ _ hltc))]; exact z0
        have X1 : Hid (w3.cell? ⟨w.heap.size, 3, none⟩ = some (.int .i64 an)) := x1
        have X4 : Hid ((w3.setCell ⟨gb, 0, none⟩ (.slice (some ⟨g3, 0, none⟩) (j + 1) cap3)).cell? ⟨w.heap.size, 3, none⟩ = some (.int .i64 an)) := by
          show _ = _
          rw [World.cell?_of_block (w := w3) (Below.heap_setCell _ _ _ _ hcg)]; exact x1
        have HX : Hid (R1 gb (j + 1) (w3.setCell ⟨gb, 0, none⟩ (.slice (some ⟨g3, 0, none⟩) (j + 1) cap3))) := hnext
        unfold inboxO at Z1 Z2 hrun
        clear z0 x1 hnext
        go_wp2_with fail
        refine hK.out _ _ Z0.out (fun _ => ?_)
        clear hK K
        refine wpAnyH_take (i := 8) (v := ?_) rfl (by kernel_rfl) (by kernel_rfl) (by kernel_rfl) (fun _ _ _ h => h) (Or.inl ⟨by rfl, ?_⟩) Z0.out ?_
        rotate_left
        (intro w hSw; go_simp)
        try with_reducible rfl
        simp only [Act.put]
        refine wpAnyH_ready (rs := [4, 9]) (by kernel_rfl) (by simp) ?_
        refine AllReadyH.cons rfl (fun K hK => ?_) (AllReadyH.cons rfl (fun K hK => ?_) AllReadyH.nil)
        · go_simp
          refine hK.out _ _ Z0.out (fun _ => ?_)
          clear hK K
          refine wpAnyH_ready (rs := [9]) (by kernel_rfl) (by simp) ?_
          refine AllReadyH.cons rfl (fun K hK => ?_) AllReadyH.nil
          go_simp
          refine hK.out _ _ Z1.out (fun _ => ?_)
          clear hK K
          refine wpAnyH_ready (rs := [10]) (by kernel_rfl) (by simp) ?_
          refine AllReadyH.cons rfl (fun K hK => ?_) AllReadyH.nil
          go_simp
          refine hK.out _ _ Z2.out (fun _ => ?_)
          clear hK K
          refine wpAnyH_ready (rs := [11]) (by kernel_rfl) (by simp) ?_
          refine AllReadyH.cons rfl (fun K hK => ?_) AllReadyH.nil
          refine append_op rfl (.tmp 23) (.tmp 29) 73 rfl (.slice va j cap) (.slice (some ⟨w1.heap.size + 1, 0, none⟩) 1 1) _ _ (by simp [Act.eval]) (by simp [Act.eval]) hrun ?_
          simp only [Act.put]
          refine hK.out _ _ X1.out (fun _ => ?_)
          clear hK K
          refine wpAnyH_take (i := 12) (v := ?_) rfl (by kernel_rfl) (by kernel_rfl) (by kernel_rfl) (fun _ _ _ h => h) (Or.inl ⟨by rfl, ?_⟩) X1.out ?_
          rotate_left
          (intro w hSw; go_simp)
          try with_reducible rfl
          simp only [Act.put]
          refine wpAnyH_take (i := 13) (v := ?_) rfl (by kernel_rfl) (by kernel_rfl) (by kernel_rfl) (fun _ _ _ h => h) (Or.inl ⟨by rfl, ?_⟩) X1.out ?_
          rotate_left
          (intro w hSw; go_simp)
          try with_reducible rfl
          simp only [Act.put]
          refine wpAnyH_ready (rs := [14]) (by kernel_rfl) (by simp) ?_
          refine AllReadyH.cons rfl (fun K hK => ?_) AllReadyH.nil
          go_simp
          refine hK.out _ _ X4.out (fun _ => ?_)
          clear hK K
          refine wpAnyH_done (by kernel_rfl) (NoPanic.normal ?_) _
          go_wp2_with fail
          go_roundw
          case rel => exact ⟨j + 1, by omega, by go_num, HX.out⟩
          case measure => simp [intOf]; omega
        · go_simp
          refine hK.out _ _ Z1.out (fun _ => ?_)
          clear hK K
          refine wpAnyH_ready (rs := [4, 10]) (by kernel_rfl) (by simp) ?_
          refine AllReadyH.cons rfl (fun K hK => ?_) (AllReadyH.cons rfl (fun K hK => ?_) AllReadyH.nil)
          · go_simp
            refine hK.out _ _ Z1.out (fun _ => ?_)
            clear hK K
            refine wpAnyH_ready (rs := [10]) (by kernel_rfl) (by simp) ?_
            refine AllReadyH.cons rfl (fun K hK => ?_) AllReadyH.nil
            go_simp
            refine hK.out _ _ Z2.out (fun _ => ?_)
            clear hK K
            refine wpAnyH_ready (rs := [11]) (by kernel_rfl) (by simp) ?_
            refine AllReadyH.cons rfl (fun K hK => ?_) AllReadyH.nil
            refine append_op rfl (.tmp 23) (.tmp 29) 73 rfl (.slice va j cap) (.slice (some ⟨w1.heap.size + 1, 0, none⟩) 1 1) _ _ (by simp [Act.eval]) (by simp [Act.eval]) hrun ?_
            simp only [Act.put]
            refine hK.out _ _ X1.out (fun _ => ?_)
            clear hK K
            refine wpAnyH_take (i := 12) (v := ?_) rfl (by kernel_rfl) (by kernel_rfl) (by kernel_rfl) (fun _ _ _ h => h) (Or.inl ⟨by rfl, ?_⟩) X1.out ?_
            rotate_left
            (intro w hSw; go_simp)
            try with_reducible rfl
            simp only [Act.put]
            refine wpAnyH_take (i := 13) (v := ?_) rfl (by kernel_rfl) (by kernel_rfl) (by kernel_rfl) (fun _ _ _ h => h) (Or.inl ⟨by rfl, ?_⟩) X1.out ?_
            rotate_left
            (intro w hSw; go_simp)
            try with_reducible rfl
            simp only [Act.put]
            refine wpAnyH_ready (rs := [14]) (by kernel_rfl) (by simp) ?_
            refine AllReadyH.cons rfl (fun K hK => ?_) AllReadyH.nil
            go_simp
            refine hK.out _ _ X4.out (fun _ => ?_)
            clear hK K
            refine wpAnyH_done (by kernel_rfl) (NoPanic.normal ?_) _
            go_wp2_with fail
            go_roundw
            case rel => exact ⟨j + 1, by omega, by go_num, HX.out⟩
            case measure => simp [intOf]; omega
          · go_simp
            refine hK.out _ _ Z2.out (fun _ => ?_)
            clear hK K
            refine wpAnyH_ready (rs := [4]) (by kernel_rfl) (by simp) ?_
            refine AllReadyH.cons rfl (fun K hK => ?_) AllReadyH.nil
            go_simp
            refine hK.out _ _ Z2.out (fun _ => ?_)
            clear hK K
            refine wpAnyH_ready (rs := [11]) (by kernel_rfl) (by simp) ?_
            refine AllReadyH.cons rfl (fun K hK => ?_) AllReadyH.nil
            refine append_op rfl (.tmp 23) (.tmp 29) 73 rfl (.slice va j cap) (.slice (some ⟨w1.heap.size + 1, 0, none⟩) 1 1) _ _ (by simp [Act.eval]) (by simp [Act.eval]) hrun ?_
            simp only [Act.put]
            refine hK.out _ _ X1.out (fun _ => ?_)
            clear hK K
            refine wpAnyH_take (i := 12) (v := ?_) rfl (by kernel_rfl) (by kernel_rfl) (by kernel_rfl) (fun _ _ _ h => h) (Or.inl ⟨by rfl, ?_⟩) X1.out ?_
            rotate_left
            (intro w hSw; go_simp)
            try with_reducible rfl
            simp only [Act.put]
            refine wpAnyH_take (i := 13) (v := ?_) rfl (by kernel_rfl) (by kernel_rfl) (by kernel_rfl) (fun _ _ _ h => h) (Or.inl ⟨by rfl, ?_⟩) X1.out ?_
            rotate_left
            (intro w hSw; go_simp)
            try with_reducible rfl
            simp only [Act.put]
            refine wpAnyH_ready (rs := [14]) (by kernel_rfl) (by simp) ?_
            refine AllReadyH.cons rfl (fun K hK => ?_) AllReadyH.nil
            go_simp
            refine hK.out _ _ X4.out (fun _ => ?_)
            clear hK K
            refine wpAnyH_done (by kernel_rfl) (NoPanic.normal ?_) _
            go_wp2_with fail
            go_roundw
            case rel => exact ⟨j + 1, by omega, by go_num, HX.out⟩
            case measure => simp [intOf]; omega

    · obtain rfl : j = cl := by omega
      have hge : ¬ (j : Int) < (j : Int) := by omega
      have d5 := cellAt (i := 5) q1 rfl
      have HR2 : Hid (R2 gb 0 wr) := h12 gb wr hR
      clear q1 c0
      go_wp2_with fail
      rename World => wq
      go_loopw [37] (fun i wr => ∃ k : Nat, k ≤ n ∧ i = .int .i64 k ∧ R2 gb k wr) (fun i _ => n - (intOf i).toNat)
      case atStart => exact ⟨0, Nat.zero_le _, rfl, HR2.out⟩
      case round =>
        obtain ⟨k, hk, rfl, hR⟩ := hrel
        obtain ⟨q1, hcg, hacc, hgl, va, cap, c1⟩ := HC2.out _ _ _ hR
        clear d5
        by_cases hlt : k < n
        · have hlt' : (k : Int) < (n : Int) := by omega
          obtain ⟨ba, off, rfl⟩ := hacc.some_of (by omega)
          obtain ⟨a0, a1, a2, a3, a4, a5⟩ := hacc.six k hlt
          have hwg : wr.heap.size ≠ gb := by omega
          have HS11 : Hid (LimS wr.heap.size (lim k) ((wr.alloc (limO (lim k))).drewN 1)) := by
            have hb : ((wr.alloc (limO (lim k))).drewN 1).heap[wr.heap.size]? = some (limO (lim k)) := heap_alloc_new wr _
            exact ⟨cellAt (i := 0) hb rfl, cellAt (i := 1) hb rfl, cellAt (i := 2) hb rfl, cellAt (i := 3) hb rfl, cellAt (i := 4) hb rfl, cellAt (i := 5) hb rfl⟩
          unfold limO at HS11
          clear q1 hacc
          go_wp2_with fail
          refine wp_region_noPanic ?_
          refine wp_region_held_drew (S := (LimS wr.heap.size (lim k))) (by kernel_rfl) HS11.out (fun _ => ?_)
          refine wpAnyH_take (i := 0) (v := ?_) rfl (by kernel_rfl) (by kernel_rfl) (by kernel_rfl) (fun _ _ _ h => h) (Or.inl ⟨by rfl, ?_⟩) HS11.out ?_
          rotate_left
          (intro w hSw; obtain ⟨s0, s1, s2, s3, s4, s5⟩ := hSw; go_simp)
          try with_reducible rfl
          simp only [Act.put]
          refine wpAnyH_take (i := 1) (v := ?_) rfl (by kernel_rfl) (by kernel_rfl) (by kernel_rfl) (fun _ _ _ h => h) (Or.inl ⟨by rfl, ?_⟩) HS11.out ?_
          rotate_left
          (intro w hSw; obtain ⟨s0, s1, s2, s3, s4, s5⟩ := hSw; go_simp)
          try with_reducible rfl
          simp only [Act.put]
          refine wpAnyH_take (i := 2) (v := ?_) rfl (by kernel_rfl) (by kernel_rfl) (by kernel_rfl) (fun _ _ _ h => h) (Or.inl ⟨by rfl, ?_⟩) HS11.out ?_
          rotate_left
          (intro w hSw; obtain ⟨s0, s1, s2, s3, s4, s5⟩ := hSw; go_simp)
          try with_reducible rfl
          simp only [Act.put]
          refine wpAnyH_take (i := 3) (v := ?_) rfl (by kernel_rfl) (by kernel_rfl) (by kernel_rfl) (fun _ _ _ h => h) (Or.inl ⟨by rfl, ?_⟩) HS11.out ?_
          rotate_left
          (intro w hSw; obtain ⟨s0, s1, s2, s3, s4, s5⟩ := hSw; go_simp)
          try with_reducible rfl
          simp only [Act.put]
          refine wpAnyH_take (i := 5) (v := ?_) rfl (by kernel_rfl) (by kernel_rfl) (by kernel_rfl) (fun _ _ _ h => h) (Or.inl ⟨by rfl, ?_⟩) HS11.out ?_
          rotate_left
          (intro w hSw; obtain ⟨s0, s1, s2, s3, s4, s5⟩ := hSw; go_simp)
          try with_reducible rfl
          simp only [Act.put]
          refine wpAnyH_ready (rs := [4, 6]) (by kernel_rfl) (by simp) ?_
          refine AllReadyH.cons rfl (fun K hK => ?_) (AllReadyH.cons rfl (fun K hK => ?_) AllReadyH.nil)
          · go_simp
            refine hK.out _ _ HS11.out (fun _ => ?_)
            clear hK K
            refine wpAnyH_ready (rs := [6]) (by kernel_rfl) (by simp) ?_
            refine AllReadyH.cons rfl (fun K hK => ?_) AllReadyH.nil
            go_simp
            refine (hb2 gb k wr 1 hlt hR va cap c1).mono ?_
            rintro e w1 ⟨xb, rfl, z0, z1, g3, cap3, w3, hrun, x1, x2, x3, hnext⟩
            have hltg := World.block_lt_of_cell? w1 _ z1
            have hltc : wr.heap.size < w1.heap.size := World.block_lt_of_cell? w1 _ z0.1
            have Z0 : Hid (LimS wr.heap.size (lim k) w1) := z0
            have Z2 : Hid (LimS wr.heap.size (lim k) (w1.alloc (.cells #[.pointer (some ⟨xb, 0, none⟩)] 97))) := z0.block (Below.heap_alloc _ _ _ hltc)
            have X1 : Hid (LimS wr.heap.size (lim k) w3) := x1
            have X4 : Hid (LimS wr.heap.size (lim k) (w3.setCell ⟨gb, 1, none⟩ (.slice (some ⟨g3, 0, none⟩) (k + 1) cap3))) := x1.block (Below.heap_setCell _ _ _ _ hwg)
            have HX : Hid (R2 gb (k + 1) (w3.setCell ⟨gb, 1, none⟩ (.slice (some ⟨g3, 0, none⟩) (k + 1) cap3))) := hnext
            clear z0 x1 hnext
            go_wp2_with fail
            refine hK.out _ _ Z0.out (fun _ => ?_)
            clear hK K
            refine wpAnyH_ready (rs := [7]) (by kernel_rfl) (by simp) ?_
            refine AllReadyH.cons rfl (fun K hK => ?_) AllReadyH.nil
            go_simp
            refine hK.out _ _ Z2.out (fun _ => ?_)
            clear hK K
            refine wpAnyH_ready (rs := [8]) (by kernel_rfl) (by simp) ?_
            refine AllReadyH.cons rfl (fun K hK => ?_) AllReadyH.nil
            refine append_op rfl (.tmp 45) (.tmp 48) 74 rfl (.slice va k cap) (.slice (some ⟨w1.heap.size, 0, none⟩) 1 1) _ _ (by simp [Act.eval]) (by simp [Act.eval]) hrun ?_
            simp only [Act.put]
            refine hK.out _ _ X1.out (fun _ => ?_)
            clear hK K
            refine wpAnyH_take (i := 9) (v := ?_) rfl (by kernel_rfl) (by kernel_rfl) (by kernel_rfl) (fun _ _ _ h => h) (Or.inl ⟨by rfl, ?_⟩) X1.out ?_
            rotate_left
            (intro w hSw; obtain ⟨s0, s1, s2, s3, s4, s5⟩ := hSw; go_simp)
            try with_reducible rfl
            simp only [Act.put]
            refine wpAnyH_take (i := 10) (v := ?_) rfl (by kernel_rfl) (by kernel_rfl) (by kernel_rfl) (fun _ _ _ h => h) (Or.inl ⟨by rfl, ?_⟩) X1.out ?_
            rotate_left
            (intro w hSw; obtain ⟨s0, s1, s2, s3, s4, s5⟩ := hSw; go_simp)
            try with_reducible rfl
            simp only [Act.put]
            refine wpAnyH_ready (rs := [11]) (by kernel_rfl) (by simp) ?_
            refine AllReadyH.cons rfl (fun K hK => ?_) AllReadyH.nil
            go_simp
            refine hK.out _ _ X4.out (fun _ => ?_)
            clear hK K
            refine wpAnyH_done (by kernel_rfl) (NoPanic.normal ?_) _
            go_wp2_with fail
            go_roundw
            case rel => exact ⟨k + 1, by omega, by go_num, HX.out⟩
            case measure => simp [intOf]; omega
          · go_simp
            refine (hb2 gb k wr 1 hlt hR va cap c1).mono ?_
            rintro e w1 ⟨xb, rfl, z0, z1, g3, cap3, w3, hrun, x1, x2, x3, hnext⟩
            have hltg := World.block_lt_of_cell? w1 _ z1
            have hltc : wr.heap.size < w1.heap.size := World.block_lt_of_cell? w1 _ z0.1
            have Z0 : Hid (LimS wr.heap.size (lim k) w1) := z0
            have Z2 : Hid (LimS wr.heap.size (lim k) (w1.alloc (.cells #[.pointer (some ⟨xb, 0, none⟩)] 97))) := z0.block (Below.heap_alloc _ _ _ hltc)
            have X1 : Hid (LimS wr.heap.size (lim k) w3) := x1
            have X4 : Hid (LimS wr.heap.size (lim k) (w3.setCell ⟨gb, 1, none⟩ (.slice (some ⟨g3, 0, none⟩) (k + 1) cap3))) := x1.block (Below.heap_setCell _ _ _ _ hwg)
            have HX : Hid (R2 gb (k + 1) (w3.setCell ⟨gb, 1, none⟩ (.slice (some ⟨g3, 0, none⟩) (k + 1) cap3))) := hnext
            clear z0 x1 hnext
            go_wp2_with fail
            refine hK.out _ _ Z0.out (fun _ => ?_)
            clear hK K
            refine wpAnyH_ready (rs := [4, 7]) (by kernel_rfl) (by simp) ?_
            refine AllReadyH.cons rfl (fun K hK => ?_) (AllReadyH.cons rfl (fun K hK => ?_) AllReadyH.nil)
            · go_simp
              refine hK.out _ _ Z0.out (fun _ => ?_)
              clear hK K
              refine wpAnyH_ready (rs := [7]) (by kernel_rfl) (by simp) ?_
              refine AllReadyH.cons rfl (fun K hK => ?_) AllReadyH.nil
              go_simp
              refine hK.out _ _ Z2.out (fun _ => ?_)
              clear hK K
              refine wpAnyH_ready (rs := [8]) (by kernel_rfl) (by simp) ?_
              refine AllReadyH.cons rfl (fun K hK => ?_) AllReadyH.nil
              refine append_op rfl (.tmp 45) (.tmp 48) 74 rfl (.slice va k cap) (.slice (some ⟨w1.heap.size, 0, none⟩) 1 1) _ _ (by simp [Act.eval]) (by simp [Act.eval]) hrun ?_
              simp only [Act.put]
              refine hK.out _ _ X1.out (fun _ => ?_)
              clear hK K
              refine wpAnyH_take (i := 9) (v := ?_) rfl (by kernel_rfl) (by kernel_rfl) (by kernel_rfl) (fun _ _ _ h => h) (Or.inl ⟨by rfl, ?_⟩) X1.out ?_
              rotate_left
              (intro w hSw; obtain ⟨s0, s1, s2, s3, s4, s5⟩ := hSw; go_simp)
              try with_reducible rfl
              simp only [Act.put]
              refine wpAnyH_take (i := 10) (v := ?_) rfl (by kernel_rfl) (by kernel_rfl) (by kernel_rfl) (fun _ _ _ h => h) (Or.inl ⟨by rfl, ?_⟩) X1.out ?_
              rotate_left
              (intro w hSw; obtain ⟨s0, s1, s2, s3, s4, s5⟩ := hSw; go_simp)
              try with_reducible rfl
              simp only [Act.put]
              refine wpAnyH_ready (rs := [11]) (by kernel_rfl) (by simp) ?_
              refine AllReadyH.cons rfl (fun K hK => ?_) AllReadyH.nil
              go_simp
              refine hK.out _ _ X4.out (fun _ => ?_)
              clear hK K
              refine wpAnyH_done (by kernel_rfl) (NoPanic.normal ?_) _
              go_wp2_with fail
              go_roundw
              case rel => exact ⟨k + 1, by omega, by go_num, HX.out⟩
              case measure => simp [intOf]; omega
            · go_simp
              refine hK.out _ _ Z2.out (fun _ => ?_)
              clear hK K
              refine wpAnyH_ready (rs := [4]) (by kernel_rfl) (by simp) ?_
              refine AllReadyH.cons rfl (fun K hK => ?_) AllReadyH.nil
              go_simp
              refine hK.out _ _ Z2.out (fun _ => ?_)
              clear hK K
              refine wpAnyH_ready (rs := [8]) (by kernel_rfl) (by simp) ?_
              refine AllReadyH.cons rfl (fun K hK => ?_) AllReadyH.nil
              refine append_op rfl (.tmp 45) (.tmp 48) 74 rfl (.slice va k cap) (.slice (some ⟨w1.heap.size, 0, none⟩) 1 1) _ _ (by simp [Act.eval]) (by simp [Act.eval]) hrun ?_
              simp only [Act.put]
              refine hK.out _ _ X1.out (fun _ => ?_)
              clear hK K
              refine wpAnyH_take (i := 9) (v := ?_) rfl (by kernel_rfl) (by kernel_rfl) (by kernel_rfl) (fun _ _ _ h => h) (Or.inl ⟨by rfl, ?_⟩) X1.out ?_
              rotate_left
              (intro w hSw; obtain ⟨s0, s1, s2, s3, s4, s5⟩ := hSw; go_simp)
              try with_reducible rfl
              simp only [Act.put]
              refine wpAnyH_take (i := 10) (v := ?_) rfl (by kernel_rfl) (by kernel_rfl) (by kernel_rfl) (fun _ _ _ h => h) (Or.inl ⟨by rfl, ?_⟩) X1.out ?_
              rotate_left
              (intro w hSw; obtain ⟨s0, s1, s2, s3, s4, s5⟩ := hSw; go_simp)
              try with_reducible rfl
              simp only [Act.put]
              refine wpAnyH_ready (rs := [11]) (by kernel_rfl) (by simp) ?_
              refine AllReadyH.cons rfl (fun K hK => ?_) AllReadyH.nil
              go_simp
              refine hK.out _ _ X4.out (fun _ => ?_)
              clear hK K
              refine wpAnyH_done (by kernel_rfl) (NoPanic.normal ?_) _
              go_wp2_with fail
              go_roundw
              case rel => exact ⟨k + 1, by omega, by go_num, HX.out⟩
              case measure => simp [intOf]; omega

        · obtain rfl : k = n := by omega
          have hge : ¬ (k : Int) < (k : Int) := by omega
          have d1 := cellAt (i := 1) q1 rfl
          have hR0 := hR
          clear q1 c1 hacc
          go_wp2_with fail
          refine wp_region_noPanic ?_
          refine wp_region_held_drew (S := (fun W => W.cell? ⟨w.heap.size, 1, none⟩ = some (.int .i64 co))) (by kernel_rfl) d1 (fun _ => ?_)
          refine wpAnyH_take (i := 0) (v := ?_) rfl (by kernel_rfl) (by kernel_rfl) (by kernel_rfl) (fun _ _ _ h => h) (Or.inl ⟨by rfl, ?_⟩) d1 ?_
          rotate_left
          (intro w hSw; go_simp)
          try with_reducible rfl
          simp only [Act.put]
          refine wpAnyH_take (i := 1) (v := ?_) rfl (by kernel_rfl) (by kernel_rfl) (by kernel_rfl) (fun _ _ _ h => h) (Or.inl ⟨by rfl, ?_⟩) d1 ?_
          rotate_left
          (intro w hSw; go_simp)
          try with_reducible rfl
          simp only [Act.put]
          refine wpAnyH_take (i := 2) (v := ?_) rfl (by kernel_rfl) (by kernel_rfl) (by kernel_rfl) (fun _ _ _ h => h) (Or.inl ⟨by rfl, ?_⟩) d1 ?_
          rotate_left
          (intro w hSw; go_simp)
          try with_reducible rfl
          simp only [Act.put]
          refine wpAnyH_take (i := 4) (v := ?_) rfl (by kernel_rfl) (by kernel_rfl) (by kernel_rfl) (fun _ _ _ h => h) (Or.inl ⟨by rfl, ?_⟩) d1 ?_
          rotate_left
          (intro w hSw; go_simp)
          try with_reducible rfl
          simp only [Act.put]
          refine wpAnyH_take (i := 5) (v := ?_) rfl (by kernel_rfl) (by kernel_rfl) (by kernel_rfl) (fun _ _ _ h => h) (Or.inl ⟨by rfl, ?_⟩) d1 ?_
          rotate_left
          (intro w hSw; go_simp)
          try with_reducible rfl
          simp only [Act.put]
          refine wpAnyH_ready (rs := [3]) (by kernel_rfl) (by simp) ?_
          refine AllReadyH.cons rfl (fun K hK => ?_) AllReadyH.nil
          go_simp
          refine (hl0 gb wr 1 hR0).mono ?_
          rintro e y0 ⟨lb0, rfl, z0, ⟨zv, z1⟩, z2, hnext⟩
          have Z00 : Hid (y0.cell? ⟨w.heap.size, 1, none⟩ = some (.int .i64 co)) := z0
          have X00 : Hid ((y0.setCell ⟨gb, 2, none⟩ (.pointer (some ⟨lb0, 0, none⟩))).cell? ⟨w.heap.size, 1, none⟩ = some (.int .i64 co)) := by
            show _ = _
            rw [World.cell?_of_block (w := y0) (Below.heap_setCell _ _ _ _ hcg)]; exact z0
          have HX0 : Hid (R3 gb (y0.setCell ⟨gb, 2, none⟩ (.pointer (some ⟨lb0, 0, none⟩)))) := hnext
          clear z0 hnext
          go_wp2_with fail
          refine hK.out _ _ Z00.out (fun _ => ?_)
          clear hK K
          refine wpAnyH_take (i := 6) (v := ?_) rfl (by kernel_rfl) (by kernel_rfl) (by kernel_rfl) (fun _ _ _ h => h) (Or.inl ⟨by rfl, ?_⟩) Z00.out ?_
          rotate_left
          (intro w hSw; go_simp)
          try with_reducible rfl
          simp only [Act.put]
          refine wpAnyH_ready (rs := [7]) (by kernel_rfl) (by simp) ?_
          refine AllReadyH.cons rfl (fun K hK => ?_) AllReadyH.nil
          go_simp
          refine hK.out _ _ X00.out (fun _ => ?_)
          clear hK K
          refine wpAnyH_done (by kernel_rfl) (NoPanic.normal ?_) _

          have hR1 := HX0.out
          have d2 := HC3.out _ _ hR1
          obtain ⟨V, hV⟩ : ∃ V, V = y0.setCell ⟨gb, 2, none⟩ (.pointer (some ⟨lb0, 0, none⟩)) := ⟨_, rfl⟩
          rw [← hV] at hR1 d2
          clear HX0 X00 Z00
          rw [← hV]
          clear hV z1 z2 d1 hR hR0
          go_wp2_with fail
          refine wp_region_noPanic ?_
          refine wp_region_held_drew (S := (fun W => W.cell? ⟨w.heap.size, 2, none⟩ = some (.int .i64 ur))) (by kernel_rfl) d2 (fun _ => ?_)
          refine wpAnyH_take (i := 0) (v := ?_) rfl (by kernel_rfl) (by kernel_rfl) (by kernel_rfl) (fun _ _ _ h => h) (Or.inl ⟨by rfl, ?_⟩) d2 ?_
          rotate_left
          (intro w hSw; go_simp)
          try with_reducible rfl
          simp only [Act.put]
          refine wpAnyH_take (i := 1) (v := ?_) rfl (by kernel_rfl) (by kernel_rfl) (by kernel_rfl) (fun _ _ _ h => h) (Or.inl ⟨by rfl, ?_⟩) d2 ?_
          rotate_left
          (intro w hSw; go_simp)
          try with_reducible rfl
          simp only [Act.put]
          refine wpAnyH_take (i := 2) (v := ?_) rfl (by kernel_rfl) (by kernel_rfl) (by kernel_rfl) (fun _ _ _ h => h) (Or.inl ⟨by rfl, ?_⟩) d2 ?_
          rotate_left
          (intro w hSw; go_simp)
          try with_reducible rfl
          simp only [Act.put]
          refine wpAnyH_take (i := 4) (v := ?_) rfl (by kernel_rfl) (by kernel_rfl) (by kernel_rfl) (fun _ _ _ h => h) (Or.inl ⟨by rfl, ?_⟩) d2 ?_
          rotate_left
          (intro w hSw; go_simp)
          try with_reducible rfl
          simp only [Act.put]
          refine wpAnyH_take (i := 5) (v := ?_) rfl (by kernel_rfl) (by kernel_rfl) (by kernel_rfl) (fun _ _ _ h => h) (Or.inl ⟨by rfl, ?_⟩) d2 ?_
          rotate_left
          (intro w hSw; go_simp)
          try with_reducible rfl
          simp only [Act.put]
          refine wpAnyH_ready (rs := [3]) (by kernel_rfl) (by simp) ?_
          refine AllReadyH.cons rfl (fun K hK => ?_) AllReadyH.nil
          go_simp
          refine (hl1 gb V 1 hR1).mono ?_
          rintro e y1 ⟨lb1, rfl, z0, ⟨zv, z1⟩, z2, hnext⟩
          have Z01 : Hid (y1.cell? ⟨w.heap.size, 2, none⟩ = some (.int .i64 ur)) := z0
          have X01 : Hid ((y1.setCell ⟨gb, 3, none⟩ (.pointer (some ⟨lb1, 0, none⟩))).cell? ⟨w.heap.size, 2, none⟩ = some (.int .i64 ur)) := by
            show _ = _
            rw [World.cell?_of_block (w := y1) (Below.heap_setCell _ _ _ _ hcg)]; exact z0
          have HX1 : Hid (R4 gb (y1.setCell ⟨gb, 3, none⟩ (.pointer (some ⟨lb1, 0, none⟩)))) := hnext
          clear z0 hnext
          go_wp2_with fail
          refine hK.out _ _ Z01.out (fun _ => ?_)
          clear hK K
          refine wpAnyH_take (i := 6) (v := ?_) rfl (by kernel_rfl) (by kernel_rfl) (by kernel_rfl) (fun _ _ _ h => h) (Or.inl ⟨by rfl, ?_⟩) Z01.out ?_
          rotate_left
          (intro w hSw; go_simp)
          try with_reducible rfl
          simp only [Act.put]
          refine wpAnyH_ready (rs := [7]) (by kernel_rfl) (by simp) ?_
          refine AllReadyH.cons rfl (fun K hK => ?_) AllReadyH.nil
          go_simp
          refine hK.out _ _ X01.out (fun _ => ?_)
          clear hK K
          refine wpAnyH_done (by kernel_rfl) (NoPanic.normal ?_) _

          go_wp2_with fail
          go_ret2
          exact ⟨gb, rfl, HX1.out⟩

end Go.Proofs.Ytjhifhoniimfgaa

