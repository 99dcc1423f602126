import Derived.Test.YtjhifhoniimfgaaGreatG19
import Derived.Maps.AppendAt
/-
  The core's steps: what was taken is done and answered.
-/
namespace Go.Proofs.YtjhifhoniimfgaaGreat
open Go.RowKit

def takO (place client : Int) (fr : ByteArray) : Obj := .cells #[.int .i64 place, .int .i64 client, .string fr] 97

/-- What the walk of answer reads. -/
def AnsS (gb ar ac na tb : Nat) (place : Int) (fr : ByteArray) (W : World) : Prop :=
  W.cell? ⟨gb, 1, none⟩ = some (.slice (some ⟨ar, 0, none⟩) na ac) ∧ W.cell? ⟨tb, 0, none⟩ = some (.int .i64 place) ∧ W.cell? ⟨tb, 2, none⟩ = some (.string fr)

theorem AnsS.set {gb ar ac na tb : Nat} {place : Int} {fr : ByteArray} {W : World} (h : AnsS gb ar ac na tb place fr W) (hg : gb < tb) (u v : Value) : AnsS gb ar ac na tb place fr ((W.setCell ⟨tb + 1, 0, none⟩ u).setCell ⟨tb + 1, 1, none⟩ v) := by
  have hk : Keep (fun b => b ≠ tb + 1) W ((W.setCell ⟨tb + 1, 0, none⟩ u).setCell ⟨tb + 1, 1, none⟩ v) := ((Keep.refl _ W).setCell _ (fun _ h => h rfl) _).setCell _ (fun _ h => h rfl) _
  obtain ⟨h1, h2, h3⟩ := h
  have l1 := World.block_lt_of_cell? W _ h1
  have l2 := World.block_lt_of_cell? W _ h2
  refine ⟨?_, ?_, ?_⟩
  · rw [World.cell?_of_block (w := W) (hk.block gb l1 (by show gb ≠ tb + 1; omega))]; exact h1
  · rw [World.cell?_of_block (w := W) (hk.block tb l2 (by show tb ≠ tb + 1; omega))]; exact h2
  · rw [World.cell?_of_block (w := W) (hk.block tb l2 (by show tb ≠ tb + 1; omega))]; exact h3

theorem two_set {w1 : World} {k : Nat} {U : TypeId} {x y : Value} (h : w1.heap[k]? = some (.cells #[x, y] U (0, 0))) (u v : Value) :
    ((w1.setCell ⟨k, 0, none⟩ u).setCell ⟨k, 1, none⟩ v).cell? ⟨k, 0, none⟩ = some u ∧ ((w1.setCell ⟨k, 0, none⟩ u).setCell ⟨k, 1, none⟩ v).cell? ⟨k, 1, none⟩ = some v := by
  have h2 : ((w1.setCell ⟨k, 0, none⟩ u).setCell ⟨k, 1, none⟩ v).heap[k]? = some (.cells #[u, v] U (0, 0)) := by
    rw [heap_setCell_at _ (heap_setCell_at _ h)]
    simp
  exact ⟨cellAt (i := 0) h2 rfl, cellAt (i := 1) h2 rfl⟩

set_option maxRecDepth 100000 in
set_option maxHeartbeats 1000000 in
theorem answer_walk (gb ar ac na : Nat) (lane place client : Int) (fr : ByteArray) (w : World) (h1 : w.cell? ⟨gb, 1, none⟩ = some (.slice (some ⟨ar, 0, none⟩) na ac)) (sv : Value) (code : Int) (Y Z : World → Prop)
    (hr : ∀ n, Calls Tryz.prog 73 #[.int .i64 lane, .int .i64 na, .string fr] (((w.alloc (takO place client fr)).alloc ansO).drewN n) fun e w' => e = .returned sv ∧ Y w')
    (hS : ∀ n, AnsS gb ar ac na w.heap.size place fr (((w.alloc (takO place client fr)).alloc ansO).drewN n))
    (hY : ∀ W, Y W → AnsS gb ar ac na w.heap.size place fr W ∧ W.heap[w.heap.size + 1]? = some ansO)
    (hd : ∀ W n, Y W → Calls Tryz.prog 74 #[.pointer (some ⟨gb, 0, none⟩), sv] (W.drewN n) fun e w' => e = .returned (.int .i64 code) ∧ Z w')
    (hZ : ∀ W, Z W → AnsS gb ar ac na w.heap.size place fr W ∧ W.heap[w.heap.size + 1]? = some ansO) :
    Calls Tryz.prog 64 #[.pointer (some ⟨gb, 0, none⟩), .int .i64 lane, .agg #[.int .i64 place, .int .i64 client, .string fr]] w fun e w' => e = .returned (.agg #[.int .i64 place, .int .i64 code]) ∧ ∃ W, Z W ∧ Keep (fun k => k ≠ w.heap.size + 1) W w' := by
  have hlt := World.block_lt_of_cell? w _ h1
  unfold takO ansO at hr hS
  have HS : Hid (∀ n, AnsS gb ar ac na w.heap.size place fr (((w.alloc (.cells #[.int .i64 place, .int .i64 client, .string fr] 97)).alloc (.cells #[.int .i64 0, .int .i64 0] 58)).drewN n)) := hS
  have HY : Hid (∀ W, Y W → AnsS gb ar ac na w.heap.size place fr W ∧ W.heap[w.heap.size + 1]? = some ansO) := hY
  have HZ : Hid (∀ W, Z W → AnsS gb ar ac na w.heap.size place fr W ∧ W.heap[w.heap.size + 1]? = some ansO) := hZ
  clear hS hY hZ
  go_enter Tryz.func64, Tryz.ntmps64
  go_wp2_with fail
  refine wp_region_noPanic ?_
  refine wp_region_held_drew (S := AnsS gb ar ac na w.heap.size place fr) (by kernel_rfl) (HS.out 1) (fun _ => ?_)
  refine wpAnyH_take (i := 0) (v := ?_) rfl (by kernel_rfl) (by kernel_rfl) (by kernel_rfl) (fun _ _ _ h => h) (Or.inl ⟨by rfl, ?_⟩) (HS.out _) ?_
  rotate_left
  (intro w hSw; obtain ⟨s0, s1, s2⟩ := hSw; go_simp)
  try with_reducible rfl
  simp only [Act.put]
  refine wpAnyH_take (i := 1) (v := ?_) rfl (by kernel_rfl) (by kernel_rfl) (by kernel_rfl) (fun _ _ _ h => h) (Or.inl ⟨by rfl, ?_⟩) (HS.out _) ?_
  rotate_left
  (intro w hSw; obtain ⟨s0, s1, s2⟩ := hSw; go_simp)
  try with_reducible rfl
  simp only [Act.put]
  refine wpAnyH_take (i := 2) (v := ?_) rfl (by kernel_rfl) (by kernel_rfl) (by kernel_rfl) (fun _ _ _ h => h) (Or.inl ⟨by rfl, ?_⟩) (HS.out _) ?_
  rotate_left
  (intro w hSw; obtain ⟨s0, s1, s2⟩ := hSw; go_simp)
  try with_reducible rfl
  simp only [Act.put]
  refine wpAnyH_take (i := 3) (v := ?_) rfl (by kernel_rfl) (by kernel_rfl) (by kernel_rfl) (fun _ _ _ h => h) (Or.inl ⟨by rfl, ?_⟩) (HS.out _) ?_
  rotate_left
  (intro w hSw; obtain ⟨s0, s1, s2⟩ := hSw; go_simp)
  try with_reducible rfl
  simp only [Act.put]
  refine wpAnyH_take (i := 4) (v := ?_) rfl (by kernel_rfl) (by kernel_rfl) (by kernel_rfl) (fun _ _ _ h => h) (Or.inl ⟨by rfl, ?_⟩) (HS.out _) ?_
  rotate_left
  (intro w hSw; obtain ⟨s0, s1, s2⟩ := hSw; go_simp)
  try with_reducible rfl
  simp only [Act.put]
  refine wpAnyH_take (i := 5) (v := ?_) rfl (by kernel_rfl) (by kernel_rfl) (by kernel_rfl) (fun _ _ _ h => h) (Or.inl ⟨by rfl, ?_⟩) (HS.out _) ?_
  rotate_left
  (intro w hSw; obtain ⟨s0, s1, s2⟩ := hSw; go_simp)
  try with_reducible rfl
  simp only [Act.put]
  refine wpAnyH_take (i := 6) (v := ?_) rfl (by kernel_rfl) (by kernel_rfl) (by kernel_rfl) (fun _ _ _ h => h) (Or.inl ⟨by rfl, ?_⟩) (HS.out _) ?_
  rotate_left
  (intro w hSw; obtain ⟨s0, s1, s2⟩ := hSw; go_simp)
  try with_reducible rfl
  simp only [Act.put]
  refine wpAnyH_take (i := 7) (v := ?_) rfl (by kernel_rfl) (by kernel_rfl) (by kernel_rfl) (fun _ _ _ h => h) (Or.inl ⟨by rfl, ?_⟩) (HS.out _) ?_
  rotate_left
  (intro w hSw; obtain ⟨s0, s1, s2⟩ := hSw; go_simp)
  try with_reducible rfl
  simp only [Act.put]
  refine wpAnyH_ready (rs := [8]) (by kernel_rfl) (by simp) ?_
  refine AllReadyH.cons rfl (fun K hK => ?_) AllReadyH.nil
  go_simp
  refine (hr 1).mono ?_
  rintro e w1 ⟨rfl, hy⟩
  go_wp2_with fail
  refine hK.out _ _ (HY.out w1 hy).1 (fun _ => ?_)
  clear hK K
  refine wpAnyH_ready (rs := [9]) (by kernel_rfl) (by simp) ?_
  refine AllReadyH.cons rfl (fun K hK => ?_) AllReadyH.nil
  go_simp
  refine hK.out _ _ (HY.out w1 hy).1 (fun _ => ?_)
  clear hK K
  refine wpAnyH_done (by kernel_rfl) (NoPanic.normal ?_) _
  have y2 := (HY.out w1 hy).2
  obtain ⟨x0, x1, x2⟩ := (HY.out w1 hy).1
  go_wp2_with fail
  refine wp_region_noPanic ?_
  refine wp_region_held_drew (S := AnsS gb ar ac na w.heap.size place fr) (by kernel_rfl) (HY.out w1 hy).1 (fun _ => ?_)
  refine wpAnyH_take (i := 0) (v := ?_) rfl (by kernel_rfl) (by kernel_rfl) (by kernel_rfl) (fun _ _ _ h => h) (Or.inl ⟨by rfl, ?_⟩) (HY.out w1 hy).1 ?_
  rotate_left
  (intro w hSw; obtain ⟨s0, s1, s2⟩ := hSw; go_simp)
  try with_reducible rfl
  simp only [Act.put]
  refine wpAnyH_take (i := 1) (v := ?_) rfl (by kernel_rfl) (by kernel_rfl) (by kernel_rfl) (fun _ _ _ h => h) (Or.inl ⟨by rfl, ?_⟩) (HY.out w1 hy).1 ?_
  rotate_left
  (intro w hSw; obtain ⟨s0, s1, s2⟩ := hSw; go_simp)
  try with_reducible rfl
  simp only [Act.put]
  refine wpAnyH_take (i := 2) (v := ?_) rfl (by kernel_rfl) (by kernel_rfl) (by kernel_rfl) (fun _ _ _ h => h) (Or.inl ⟨by rfl, ?_⟩) (HY.out w1 hy).1 ?_
  rotate_left
  (intro w hSw; obtain ⟨s0, s1, s2⟩ := hSw; go_simp)
  try with_reducible rfl
  simp only [Act.put]
  refine wpAnyH_take (i := 3) (v := ?_) rfl (by kernel_rfl) (by kernel_rfl) (by kernel_rfl) (fun _ _ _ h => h) (Or.inl ⟨by rfl, ?_⟩) (HY.out w1 hy).1 ?_
  rotate_left
  (intro w hSw; obtain ⟨s0, s1, s2⟩ := hSw; go_simp)
  try with_reducible rfl
  simp only [Act.put]
  refine wpAnyH_ready (rs := [4]) (by kernel_rfl) (by simp) ?_
  refine AllReadyH.cons rfl (fun K hK => ?_) AllReadyH.nil
  go_simp
  refine (hd w1 1 hy).mono ?_
  rintro e w2 ⟨rfl, hz⟩
  have hx := (HZ.out w2 hz).2
  have z0 := cellAt (i := 0) hx rfl
  have z1 := cellAt (i := 1) hx rfl
  have f0 := frozenAt (i := 0) hx
  have f1 := frozenAt (i := 1) hx
  have HX : Hid (w2.heap[w.heap.size + 1]? = some (.cells #[.int .i64 0, .int .i64 0] 58 (0, 0))) := hx
  clear hx
  go_wp2_with fail
  refine hK.out _ _ (HZ.out w2 hz).1 (fun _ => ?_)
  clear hK K
  refine wpAnyH_take (i := 5) (v := ?_) rfl (by kernel_rfl) (by kernel_rfl) (by kernel_rfl) (fun _ _ _ h => h) (Or.inl ⟨by rfl, ?_⟩) (HZ.out w2 hz).1 ?_
  rotate_left
  (intro w hSw; obtain ⟨s0, s1, s2⟩ := hSw; go_simp)
  try with_reducible rfl
  simp only [Act.put]
  refine wpAnyH_ready (rs := [6]) (by kernel_rfl) (by simp) ?_
  refine AllReadyH.cons rfl (fun K hK => ?_) AllReadyH.nil
  go_simp
  refine hK.out _ _ ((HZ.out w2 hz).1.set hlt _ _) (fun _ => ?_)
  clear hK K
  refine wpAnyH_done (by kernel_rfl) (NoPanic.normal ?_) _
  have R := two_set HX.out (.int .i64 place) (.int .i64 code)
  go_wp2_with fail
  refine bodyPost_ret (v := .agg #[.int .i64 place, .int .i64 code]) (by simp [results, Tryz.results64, go_sem, R.1, R.2]) rfl ⟨rfl, w2, hz, ?_⟩
  exact ((Keep.refl (fun k => k ≠ w.heap.size + 1) w2).setCell _ (fun _ h => h rfl) _).setCell _ (fun _ h => h rfl) _

end Go.Proofs.YtjhifhoniimfgaaGreat

/-
  The core's steps on a gate in memory.
-/
namespace Go.Proofs.YtjhifhoniimfgaaGreat
open Go.RowKit

theorem do_na (s : St) (x : Said) : (doS s x).2.na = s.na := by rw [do_same]

/-- A frame is done, and its answer made. -/
theorem gAnswer {own : Nat → Nat} {T : Nat} {w : World} {B : GB} {s : St} {N : Nat} (h : PG own T w B s N) (hk : Ok s N) (hN : N < 1099511627776) (hT : 0 < T) (i : Nat) (hi : i < 2) (place client : Int) (fr : ByteArray) :
    Calls Tryz.prog 64 #[.pointer (some ⟨B.gb, 0, none⟩), .int .i64 i, .agg #[.int .i64 place, .int .i64 client, .string fr]] w fun e w' =>
      e = .returned (.agg #[.int .i64 place, .int .i64 (doesS s i fr).1]) ∧ GoesA own T w B (doesS s i fr).2 (N + 1) w' := by
  have c1 := cellAt (i := 1) h.gate rfl
  obtain ⟨W0, hW0⟩ : ∃ W0, W0 = (w.alloc (takO place client fr)).alloc ansO := ⟨_, rfl⟩
  have k0 : Keep (fun _ => True) w W0 := by rw [hW0]; exact ((Keep.refl _ w).alloc _).alloc _
  have hlt := block_lt h.gate
  have t0 : W0.heap[w.heap.size]? = some (takO place client fr) := by rw [hW0, Below.heap_alloc _ _ _ (by simp)]; exact heap_alloc_new w _
  have r0 : W0.heap[w.heap.size + 1]? = some ansO := by
    rw [hW0]
    have := heap_alloc_new (w.alloc (takO place client fr)) ansO
    rwa [World.size_alloc] at this
  have hP : ∀ W, Keep (fun _ => True) W0 W → PG (ext own w.heap.size 0) T W B s N := fun W hW => h.keep hk.cl.2 hk.na.2 (k0.trans hW) (fun _ _ _ _ => trivial) (Same.ext own w 0)
  have hA : ∀ W, Keep (fun _ => True) W0 W → AnsS B.gb B.ar B.ac s.na w.heap.size place fr W := fun W hW =>
    ⟨cellAt (i := 1) (hP W hW).gate rfl, cellAt (i := 0) (hW.get t0 trivial) rfl, cellAt (i := 2) (hW.get t0 trivial) rfl⟩
  have hna : (doS s (saidOf s.na i fr)).2.na = s.na := do_na _ _
  refine (answer_walk B.gb B.ar B.ac s.na i place client fr w c1 (saidOf s.na i fr).val (doesS s i fr).1 (fun W => Keep (fun _ => True) W0 W)
    (fun W => ∃ own' B', PG own' T W B' (doesS s i fr).2 (N + 1) ∧ B.Like B' ∧ Same own own' w ∧ Keep (AccOut own T) w W ∧ own' (w.heap.size + 1) = 0 ∧ AnsS B.gb B.ar B.ac s.na w.heap.size place fr W ∧ W.heap[w.heap.size + 1]? = some ansO) (fun n => ?_) (fun n => ?_) (fun W hW => ⟨hA W hW, hW.get r0 trivial⟩) (fun W n hW => ?_) (fun W ⟨_, _, _, _, _, _, _, hW⟩ => hW)).mono ?_
  · rw [← hW0]
    refine (read_any s.na i fr (W0.drewN n) (by omega)).mono ?_
    rintro e w' ⟨rfl, hb⟩
    exact ⟨rfl, ((Keep.refl _ W0).drewN n).trans (Keep.ofBelow hb)⟩
  · rw [← hW0]
    exact hA _ ((Keep.refl _ W0).drewN n)
  · have hWn := hW.drewN n
    refine (gDo (hP _ hWn) hk hN hT (saidOf s.na i fr) (said_ok _ _ _)).mono ?_
    rintro e w' ⟨rfl, own', B', g1, g2, g3, g4⟩
    have hr := hWn.get r0 trivial
    have ht := g4.get (hWn.get t0 trivial) (Or.inl (by rw [ext_ge (Nat.le_refl _)]; omega))
    refine ⟨rfl, own', B', g1, g2, (Same.ext own w 0).trans g3 (k0.trans hWn).size, ?_, ?_, ?_, ?_⟩
    · refine ((k0.trans hWn).mono (T := AccOut own T) (fun _ _ _ => trivial)).trans' g4 (fun b hb hO => ?_)
      unfold AccOut at hO ⊢
      rw [ext_lt hb]; exact hO
    · rw [g3 _ (block_lt hr), ext_ge (by omega)]
    · obtain ⟨hb, rfl⟩ := g2
      have hg1 := cellAt (i := 1) g1.gate rfl
      rw [hna] at hg1
      exact ⟨hg1, cellAt (i := 0) ht rfl, cellAt (i := 2) ht rfl⟩
    · exact g4.get hr (Or.inl (by rw [ext_ge (by omega)]; omega))
  · rintro e w' ⟨rfl, W, ⟨own', B', g1, g2, g3, g4, g5, _, _⟩, hkW⟩
    have hd := do_ok hk (saidOf s.na i fr) (said_ok _ _ _)
    refine ⟨rfl, own', B', g1.keep hd.cl.2 hd.na.2 hkW (fun b _ h1 h2 e => ?_) (Same.refl _ _), g2, g3, g4.trans' hkW (fun b hb _ => ?_)⟩
    · rw [e, g5] at h1; omega
    · show b ≠ w.heap.size + 1
      omega

end Go.Proofs.YtjhifhoniimfgaaGreat

/-
  The core does a frame of the urgent lane: the walk.
-/
namespace Go.Proofs.YtjhifhoniimfgaaGreat
open Go.RowKit

/-- What was taken, in memory. -/
def TakS (tb : Nat) (place c : Int) (fr : ByteArray) (W : World) : Prop :=
  W.cell? ⟨tb, 0, none⟩ = some (.int .i64 place) ∧ W.cell? ⟨tb, 1, none⟩ = some (.int .i64 c) ∧ W.cell? ⟨tb, 2, none⟩ = some (.string fr)

theorem TakS.keep {S : Nat → Prop} {tb : Nat} {place c : Int} {fr : ByteArray} {W W' : World} (h : TakS tb place c fr W) (hk : Keep S W W') (hs : S tb) : TakS tb place c fr W' := by
  obtain ⟨h1, h2, h3⟩ := h
  have l := World.block_lt_of_cell? W _ h1
  refine ⟨?_, ?_, ?_⟩
  · rw [World.cell?_of_block (w := W) (hk.block tb l hs)]; exact h1
  · rw [World.cell?_of_block (w := W) (hk.block tb l hs)]; exact h2
  · rw [World.cell?_of_block (w := W) (hk.block tb l hs)]; exact h3

theorem info_ans : ∃ i, Tryz.prog.info? 58 = some i ∧ i.bytes = 16 ∧ i.size = 2 ∧ i.zero = some (.agg #[.int .i64 0, .int .i64 0]) := by
  have e : (Tryz.prog.info? 58).map (fun i => (i.bytes, i.size, i.zero)) = some (16, 2, some (.agg #[.int .i64 0, .int .i64 0])) := by kernel_rfl
  obtain ⟨i, hi, he⟩ := Option.map_eq_some_iff.1 e
  simp only [Prod.mk.injEq] at he
  exact ⟨i, hi, he.1, he.2.1, he.2.2⟩

/-- One answer more at the end of a list in a row of its own. -/
def Appd (w w' : World) (v : Value) (l : List Ans) (a : Ans) (g cap : Nat) : Prop :=
  AckAt w' (.slice (some ⟨g, 0, none⟩) (l.length + 1) cap) (l ++ [a]) ∧ Keep (fun b => v.ownBlock ≠ some b) w w' ∧ (v.ownBlock = some g ∨ w.heap.size ≤ g)

theorem ack_append {w : World} {v : Value} {l : List Ans} (h : AckAt w v l) (hl : l.length < 1099511627776) (p q : Int) :
    ∃ g cap w', (∀ ty, (Builtin.append_ #[66, 66] ty #[v, .slice (some ⟨w.heap.size, 0, none⟩) 1 1]).run Tryz.prog (w.alloc (.cells #[.int .i64 p, .int .i64 q] 58)) = .ok (.slice (some ⟨g, 0, none⟩) (l.length + 1) cap) w') ∧
      Appd w w' v l (p, q) g cap := by
  obtain ⟨it, t1, t2, t3, t4⟩ := info_ans
  have hlt : ∀ b, v.ownBlock = some b → b < w.heap.size := fun b hb => h.lt b hb
  have h2 : (w.alloc (.cells #[.int .i64 p, .int .i64 q] 58)).ownsRow 0 58 2 v l.length (ansFlat l) := World.ownsRow.alloc h _
  have key := fun ty => run_append_own_at (P := Tryz.prog) (w.alloc (.cells #[.int .i64 p, .int .i64 q] 58)) 0 66 ty 58 it (.agg #[.int .i64 0, .int .i64 0]) 2 16 Tryz.underlying66 t1 t4 t3 t2 rfl (by decide) v l.length (ansFlat l) h2
    ⟨w.heap.size, 0, none⟩ 1 1 [.int .i64 p, .int .i64 q] rfl (cell_two_new w _ _ _) (fun u hu => by simp at hu; rcases hu with rfl | rfl <;> rfl) (by unfold maxLen; omega) (by omega) (Nat.zero_le _)
  obtain ⟨v', w', hrun, hown, hg, _, hb⟩ := key 0
  have hrun2 : ∀ ty, (Builtin.append_ #[66, 66] ty #[v, .slice (some ⟨w.heap.size, 0, none⟩) 1 1]).run Tryz.prog (w.alloc (.cells #[.int .i64 p, .int .i64 q] 58)) = .ok v' w' := fun ty => hrun
  have hv : ∃ g cap, v' = .slice (some ⟨g, 0, none⟩) (l.length + 1) cap := by
    rcases hown.2 with ⟨_, hx⟩ | ⟨g, cap, cur, hx, _⟩
    · omega
    · exact ⟨g, cap, hx⟩
  obtain ⟨g, cap, rfl⟩ := hv
  have e1 : ansFlat (l ++ [(p, q)]) = ansFlat l ++ [.int .i64 p, .int .i64 q] := by rw [ansFlat_append]; rfl
  have e2 : (l ++ [(p, q)]).length = l.length + 1 := by simp
  refine ⟨g, cap, w', hrun2, ?_, ?_⟩
  · unfold AckAt
    rw [e1, e2]
    exact hown
  refine ⟨⟨hg.os, hg.tape, hg.output, Nat.le_trans (by simp) hg.size, fun b hb1 hb2 => ?_⟩, ?_⟩
  · rw [hg.block b (by simp; omega) (fun e => hb2 e.symm)]
    exact Below.heap_alloc _ _ _ hb1
  · rcases hb with e | e
    · exact .inl e.symm
    · right
      simp [Value.ownBlock] at e
      omega

/-- An append in a region, by its run. -/
theorem append_op {P : Program} {ops : Array Oper} {o : Oper} {a : Act} {w : World} {K : Act → World → Prop} {Q : Exit → Act → World → Prop} {E : Prop} (hg : o.guard = none) (s x : Operand) (t : TypeId)
    (hop : o.op = Op.call { callee := Callee.builtin Builtin.append, args := #[s, x], argTypes := #[t, t] }) (v u v' : Value) (w' : World) (hs : a.eval s = v) (hx : a.eval x = u)
    (hrun : ∀ ty, (Builtin.append_ #[t, t] ty #[v, u]).run P w = .ok v' w') (hK : K (a.put o.dst v') w') : if Region.wanted o (yielded ops a.tmps) = true then Oper.wp P o a w K Q else E := by
  rw [if_pos (by simp [Region.wanted, hg])]
  have hr := hrun o.type
  unfold Oper.wp
  simp [execOp, hop, resolve, invoke, builtin, hs, hx, hr, Result.andThen, Oper.upon]
  exact hK

set_option maxRecDepth 100000 in
set_option maxHeartbeats 2000000 in
theorem rush_walk (gb ir ic cl ib cap : Nat) (va : Option Addr) (l : List Ans) (c : Nat) (place code : Int) (fr : ByteArray) (w : World) (h0 : w.cell? ⟨gb, 0, none⟩ = some (.slice (some ⟨ir, 0, none⟩) cl ic)) (hc : c < cl) (hi : w.cell? ⟨ir, c, none⟩ = some (.pointer (some ⟨ib, 0, none⟩)))
    (h1 : w.cell? ⟨ib, 1, none⟩ = some (.slice va l.length cap)) (hlen : l.length < 1099511627776) (Z : World → Prop)
    (ha : ∀ n, Calls Tryz.prog 64 #[.pointer (some ⟨gb, 0, none⟩), .int .i64 1, .agg #[.int .i64 place, .int .i64 c, .string fr]] ((w.alloc (takO place c fr)).drewN n) fun e w' => e = .returned (.agg #[.int .i64 place, .int .i64 code]) ∧ Z w')
    (hZ : ∀ W, Z W → TakS w.heap.size place c fr W ∧ W.cell? ⟨ib, 1, none⟩ = some (.slice va l.length cap) ∧ W.frozen? ⟨ib, 1, none⟩ = false ∧ AckAt W (.slice va l.length cap) l)
    (hN : ∀ b, (Value.slice va l.length cap).ownBlock = some b → b ≠ w.heap.size ∧ b ≠ ib) :
    Calls Tryz.prog 45 #[.pointer (some ⟨gb, 0, none⟩), .agg #[.int .i64 place, .int .i64 c, .string fr]] w fun e w' => e = .returned (.int .i64 1) ∧
      ∃ w1 w3 g3 cap3, Z w1 ∧ Appd w1 w3 (.slice va l.length cap) l (place, code) g3 cap3 ∧ w3.setCell ⟨ib, 1, none⟩ (.slice (some ⟨g3, 0, none⟩) (l.length + 1) cap3) = w' := by
  have hlt := World.block_lt_of_cell? w _ h0
  have hlt2 := World.block_lt_of_cell? w _ hi
  have hlt3 := World.block_lt_of_cell? w _ h1
  have hne : ib ≠ w.heap.size := Nat.ne_of_lt hlt3
  have hc2 : (c : Int) < (cl : Int) := by omega
  unfold takO at ha
  have HS : Hid (∀ n, TakS w.heap.size place c fr ((w.alloc (.cells #[.int .i64 place, .int .i64 c, .string fr] 97)).drewN n)) := fun n => by
    have hb : ((w.alloc (.cells #[.int .i64 place, .int .i64 c, .string fr] 97)).drewN n).heap[w.heap.size]? = some (.cells #[.int .i64 place, .int .i64 c, .string fr] 97 (0, 0)) := heap_alloc_new w _
    exact ⟨cellAt (i := 0) hb rfl, cellAt (i := 1) hb rfl, cellAt (i := 2) hb rfl⟩
  have HZ : Hid (∀ W, Z W → TakS w.heap.size place c fr W ∧ W.cell? ⟨ib, 1, none⟩ = some (.slice va l.length cap) ∧ W.frozen? ⟨ib, 1, none⟩ = false ∧ AckAt W (.slice va l.length cap) l) := hZ
  have HN : Hid (∀ W, Z W → ∀ b, (Value.slice va l.length cap).ownBlock = some b → b ≠ w.heap.size ∧ b ≠ ib) := fun _ _ => hN
  clear hZ hN
  go_enter Tryz.func45, Tryz.ntmps45
  go_wp2_with fail
  go_quiet (fail)
  go_wp2_with fail
  refine wp_region_noPanic ?_
  refine wp_region_held_drew (S := TakS w.heap.size place c fr) (by kernel_rfl) (HS.out (nq + 1)) (fun _ => ?_)
  refine wpAnyH_take (i := 0) (v := ?_) rfl (by kernel_rfl) (by kernel_rfl) (by kernel_rfl) (fun _ _ _ h => h) (Or.inl ⟨by rfl, ?_⟩) (HS.out (nq + 1)) ?_
  rotate_left
  (intro w hSw; obtain ⟨s0, s1, s2⟩ := hSw; go_simp)
  try with_reducible rfl
  simp only [Act.put]
  refine wpAnyH_take (i := 1) (v := ?_) rfl (by kernel_rfl) (by kernel_rfl) (by kernel_rfl) (fun _ _ _ h => h) (Or.inl ⟨by rfl, ?_⟩) (HS.out (nq + 1)) ?_
  rotate_left
  (intro w hSw; obtain ⟨s0, s1, s2⟩ := hSw; go_simp)
  try with_reducible rfl
  simp only [Act.put]
  refine wpAnyH_take (i := 2) (v := ?_) rfl (by kernel_rfl) (by kernel_rfl) (by kernel_rfl) (fun _ _ _ h => h) (Or.inl ⟨by rfl, ?_⟩) (HS.out (nq + 1)) ?_
  rotate_left
  (intro w hSw; obtain ⟨s0, s1, s2⟩ := hSw; go_simp)
  try with_reducible rfl
  simp only [Act.put]
  refine wpAnyH_take (i := 3) (v := ?_) rfl (by kernel_rfl) (by kernel_rfl) (by kernel_rfl) (fun _ _ _ h => h) (Or.inl ⟨by rfl, ?_⟩) (HS.out (nq + 1)) ?_
  rotate_left
  (intro w hSw; obtain ⟨s0, s1, s2⟩ := hSw; go_simp)
  try with_reducible rfl
  simp only [Act.put]
  refine wpAnyH_take (i := 5) (v := ?_) rfl (by kernel_rfl) (by kernel_rfl) (by kernel_rfl) (fun _ _ _ h => h) (Or.inl ⟨by rfl, ?_⟩) (HS.out (nq + 1)) ?_
  rotate_left
  (intro w hSw; obtain ⟨s0, s1, s2⟩ := hSw; go_simp)
  try with_reducible rfl
  simp only [Act.put]
  refine wpAnyH_take (i := 6) (v := ?_) rfl (by kernel_rfl) (by kernel_rfl) (by kernel_rfl) (fun _ _ _ h => h) (Or.inl ⟨by rfl, ?_⟩) (HS.out (nq + 1)) ?_
  rotate_left
  (intro w hSw; obtain ⟨s0, s1, s2⟩ := hSw; go_simp)
  try with_reducible rfl
  simp only [Act.put]
  refine wpAnyH_ready (rs := [4, 7]) (by kernel_rfl) (by simp) ?_
  refine AllReadyH.cons rfl (fun K hK => ?_) (AllReadyH.cons rfl (fun K hK => ?_) AllReadyH.nil)
  · go_simp
    refine hK.out _ _ (HS.out (nq + 1)) (fun _ => ?_)
    clear hK K
    refine wpAnyH_ready (rs := [7]) (by kernel_rfl) (by simp) ?_
    refine AllReadyH.cons rfl (fun K hK => ?_) AllReadyH.nil
    go_simp
    refine (ha (nq + 1)).mono ?_
    rintro e w1 ⟨rfl, hz⟩
    obtain ⟨zS, zib, zfr, zrow⟩ := HZ.out w1 hz
    obtain ⟨g3, cap3, w3, hrun, happ⟩ := ack_append zrow hlen place code
    have ZS : Hid (TakS w.heap.size place c fr w1) := zS
    have ZN : Hid (∀ b, (Value.slice va l.length cap).ownBlock = some b → b ≠ w.heap.size ∧ b ≠ ib) := HN.out w1 hz
    have HA : Hid (Appd w1 w3 (.slice va l.length cap) l (place, code) g3 cap3) := happ
    have A1 : Hid (TakS w.heap.size place c fr (w1.alloc (.cells #[.int .i64 place, .int .i64 code] 58))) := zS.keep ((Keep.refl (fun _ => True) w1).alloc _) trivial
    have A3 : Hid (TakS w.heap.size place c fr w3) := zS.keep happ.2.1 (fun e => (HN.out w1 hz _ e).1 rfl)
    have x1 : w3.cell? ⟨ib, 1, none⟩ = some (.slice va l.length cap) := by rw [World.cell?_of_block (w := w1) (happ.2.1.block ib (World.block_lt_of_cell? w1 _ zib) (fun e => (HN.out w1 hz _ e).2 rfl))]; exact zib
    have x2 : w3.frozen? ⟨ib, 1, none⟩ = false := by rw [World.frozen?_of_block (w := w1) (happ.2.1.block ib (World.block_lt_of_cell? w1 _ zib) (fun e => (HN.out w1 hz _ e).2 rfl))]; exact zfr
    have hib1 := World.block_lt_of_cell? w1 _ zib
    have hnib : ib ≠ w1.heap.size := Nat.ne_of_lt hib1
    have A4 : Hid (TakS w.heap.size place c fr (w3.setCell ⟨ib, 1, none⟩ (.slice (some ⟨g3, 0, none⟩) (l.length + 1) cap3))) := (zS.keep happ.2.1 (fun e => (HN.out w1 hz _ e).1 rfl)).keep ((Keep.refl (fun b => b ≠ ib) w3).setCell _ (fun _ h => h rfl) _) (Ne.symm hne)
    clear zS zrow happ
    go_wp2_with fail
    refine hK.out _ _ ZS.out (fun _ => ?_)
    clear hK K
    refine wpAnyH_ready (rs := [8]) (by kernel_rfl) (by simp) ?_
    refine AllReadyH.cons rfl (fun K hK => ?_) AllReadyH.nil
    go_simp
    refine hK.out _ _ A1.out (fun _ => ?_)
    clear hK K
    refine wpAnyH_ready (rs := [9]) (by kernel_rfl) (by simp) ?_
    refine AllReadyH.cons rfl (fun K hK => ?_) AllReadyH.nil
    refine append_op rfl (.tmp 18) (.tmp 22) 66 rfl (.slice va l.length cap) (.slice (some ⟨w1.heap.size, 0, none⟩) 1 1) _ _ (by simp [Act.eval]) (by simp [Act.eval]) hrun ?_
    simp only [Act.put]
    refine hK.out _ _ A3.out (fun _ => ?_)
    clear hK K
    refine wpAnyH_take (i := 10) (v := ?_) rfl (by kernel_rfl) (by kernel_rfl) (by kernel_rfl) (fun _ _ _ h => h) (Or.inl ⟨by rfl, ?_⟩) A3.out ?_
    rotate_left
    (intro w hSw; obtain ⟨s0, s1, s2⟩ := hSw; go_simp)
    try with_reducible rfl
    simp only [Act.put]
    refine wpAnyH_take (i := 11) (v := ?_) rfl (by kernel_rfl) (by kernel_rfl) (by kernel_rfl) (fun _ _ _ h => h) (Or.inl ⟨by rfl, ?_⟩) A3.out ?_
    rotate_left
    (intro w hSw; obtain ⟨s0, s1, s2⟩ := hSw; go_simp)
    try with_reducible rfl
    simp only [Act.put]
    refine wpAnyH_ready (rs := [12]) (by kernel_rfl) (by simp) ?_
    refine AllReadyH.cons rfl (fun K hK => ?_) AllReadyH.nil
    go_simp
    refine hK.out _ _ A4.out (fun _ => ?_)
    clear hK K
    refine wpAnyH_done (by kernel_rfl) (NoPanic.normal ?_) _
    go_wp2_with fail
    go_ret
    exact ⟨rfl, w1, w3, g3, cap3, hz, HA.out, rfl⟩
  · go_simp
    refine (ha (nq + 1)).mono ?_
    rintro e w1 ⟨rfl, hz⟩
    obtain ⟨zS, zib, zfr, zrow⟩ := HZ.out w1 hz
    obtain ⟨g3, cap3, w3, hrun, happ⟩ := ack_append zrow hlen place code
    have ZS : Hid (TakS w.heap.size place c fr w1) := zS
    have ZN : Hid (∀ b, (Value.slice va l.length cap).ownBlock = some b → b ≠ w.heap.size ∧ b ≠ ib) := HN.out w1 hz
    have HA : Hid (Appd w1 w3 (.slice va l.length cap) l (place, code) g3 cap3) := happ
    have A1 : Hid (TakS w.heap.size place c fr (w1.alloc (.cells #[.int .i64 place, .int .i64 code] 58))) := zS.keep ((Keep.refl (fun _ => True) w1).alloc _) trivial
    have A3 : Hid (TakS w.heap.size place c fr w3) := zS.keep happ.2.1 (fun e => (HN.out w1 hz _ e).1 rfl)
    have x1 : w3.cell? ⟨ib, 1, none⟩ = some (.slice va l.length cap) := by rw [World.cell?_of_block (w := w1) (happ.2.1.block ib (World.block_lt_of_cell? w1 _ zib) (fun e => (HN.out w1 hz _ e).2 rfl))]; exact zib
    have x2 : w3.frozen? ⟨ib, 1, none⟩ = false := by rw [World.frozen?_of_block (w := w1) (happ.2.1.block ib (World.block_lt_of_cell? w1 _ zib) (fun e => (HN.out w1 hz _ e).2 rfl))]; exact zfr
    have hib1 := World.block_lt_of_cell? w1 _ zib
    have hnib : ib ≠ w1.heap.size := Nat.ne_of_lt hib1
    have A4 : Hid (TakS w.heap.size place c fr (w3.setCell ⟨ib, 1, none⟩ (.slice (some ⟨g3, 0, none⟩) (l.length + 1) cap3))) := (zS.keep happ.2.1 (fun e => (HN.out w1 hz _ e).1 rfl)).keep ((Keep.refl (fun b => b ≠ ib) w3).setCell _ (fun _ h => h rfl) _) (Ne.symm hne)
    clear zS zrow happ
    go_wp2_with fail
    refine hK.out _ _ ZS.out (fun _ => ?_)
    clear hK K
    refine wpAnyH_ready (rs := [4, 8]) (by kernel_rfl) (by simp) ?_
    refine AllReadyH.cons rfl (fun K hK => ?_) (AllReadyH.cons rfl (fun K hK => ?_) AllReadyH.nil)
    · go_simp
      refine hK.out _ _ ZS.out (fun _ => ?_)
      clear hK K
      refine wpAnyH_ready (rs := [8]) (by kernel_rfl) (by simp) ?_
      refine AllReadyH.cons rfl (fun K hK => ?_) AllReadyH.nil
      go_simp
      refine hK.out _ _ A1.out (fun _ => ?_)
      clear hK K
      refine wpAnyH_ready (rs := [9]) (by kernel_rfl) (by simp) ?_
      refine AllReadyH.cons rfl (fun K hK => ?_) AllReadyH.nil
      refine append_op rfl (.tmp 18) (.tmp 22) 66 rfl (.slice va l.length cap) (.slice (some ⟨w1.heap.size, 0, none⟩) 1 1) _ _ (by simp [Act.eval]) (by simp [Act.eval]) hrun ?_
      simp only [Act.put]
      refine hK.out _ _ A3.out (fun _ => ?_)
      clear hK K
      refine wpAnyH_take (i := 10) (v := ?_) rfl (by kernel_rfl) (by kernel_rfl) (by kernel_rfl) (fun _ _ _ h => h) (Or.inl ⟨by rfl, ?_⟩) A3.out ?_
      rotate_left
      (intro w hSw; obtain ⟨s0, s1, s2⟩ := hSw; go_simp)
      try with_reducible rfl
      simp only [Act.put]
      refine wpAnyH_take (i := 11) (v := ?_) rfl (by kernel_rfl) (by kernel_rfl) (by kernel_rfl) (fun _ _ _ h => h) (Or.inl ⟨by rfl, ?_⟩) A3.out ?_
      rotate_left
      (intro w hSw; obtain ⟨s0, s1, s2⟩ := hSw; go_simp)
      try with_reducible rfl
      simp only [Act.put]
      refine wpAnyH_ready (rs := [12]) (by kernel_rfl) (by simp) ?_
      refine AllReadyH.cons rfl (fun K hK => ?_) AllReadyH.nil
      go_simp
      refine hK.out _ _ A4.out (fun _ => ?_)
      clear hK K
      refine wpAnyH_done (by kernel_rfl) (NoPanic.normal ?_) _
      go_wp2_with fail
      go_ret
      exact ⟨rfl, w1, w3, g3, cap3, hz, HA.out, rfl⟩
    · go_simp
      refine hK.out _ _ A1.out (fun _ => ?_)
      clear hK K
      refine wpAnyH_ready (rs := [4]) (by kernel_rfl) (by simp) ?_
      refine AllReadyH.cons rfl (fun K hK => ?_) AllReadyH.nil
      go_simp
      refine hK.out _ _ A1.out (fun _ => ?_)
      clear hK K
      refine wpAnyH_ready (rs := [9]) (by kernel_rfl) (by simp) ?_
      refine AllReadyH.cons rfl (fun K hK => ?_) AllReadyH.nil
      refine append_op rfl (.tmp 18) (.tmp 22) 66 rfl (.slice va l.length cap) (.slice (some ⟨w1.heap.size, 0, none⟩) 1 1) _ _ (by simp [Act.eval]) (by simp [Act.eval]) hrun ?_
      simp only [Act.put]
      refine hK.out _ _ A3.out (fun _ => ?_)
      clear hK K
      refine wpAnyH_take (i := 10) (v := ?_) rfl (by kernel_rfl) (by kernel_rfl) (by kernel_rfl) (fun _ _ _ h => h) (Or.inl ⟨by rfl, ?_⟩) A3.out ?_
      rotate_left
      (intro w hSw; obtain ⟨s0, s1, s2⟩ := hSw; go_simp)
      try with_reducible rfl
      simp only [Act.put]
      refine wpAnyH_take (i := 11) (v := ?_) rfl (by kernel_rfl) (by kernel_rfl) (by kernel_rfl) (fun _ _ _ h => h) (Or.inl ⟨by rfl, ?_⟩) A3.out ?_
      rotate_left
      (intro w hSw; obtain ⟨s0, s1, s2⟩ := hSw; go_simp)
      try with_reducible rfl
      simp only [Act.put]
      refine wpAnyH_ready (rs := [12]) (by kernel_rfl) (by simp) ?_
      refine AllReadyH.cons rfl (fun K hK => ?_) AllReadyH.nil
      go_simp
      refine hK.out _ _ A4.out (fun _ => ?_)
      clear hK K
      refine wpAnyH_done (by kernel_rfl) (NoPanic.normal ?_) _
      go_wp2_with fail
      go_ret
      exact ⟨rfl, w1, w3, g3, cap3, hz, HA.out, rfl⟩

end Go.Proofs.YtjhifhoniimfgaaGreat

