import Derived.Test.YtjhifhoniimfgaaGreatG35
import Derived.BigRegion
import Derived.Deep.RegionWith
/-
  The document's core: the walks.
-/
namespace Go.Proofs.YtjhifhoniimfgaaGreat
open Go.RowKit

set_option maxHeartbeats 400000 in
theorem rCore_nil (w : World) : Calls Tryz.prog 24 #[.pointer none] w fun e w' => e = .returned (.tuple #[.int .i64 0, .int .i64 1]) ∧ w = w' := by
  go_enter Tryz.func24, Tryz.ntmps24
  go_wp2
  go_ret2
  exact ⟨rfl, rfl⟩

def plO (c : Int) (b : Bool) (fr : ByteArray) : Obj := .cells #[.int .i64 c, .bool b, .string fr] 118

set_option maxRecDepth 100000 in
set_option maxHeartbeats 2000000 in
theorem rcore_rush (rb c place : Nat) (code : Int) (bl : Bool) (fr : ByteArray) (l : List Ans) (w : World) (hlen : l.length < 1099511627776) (Z1 : World → Prop) (Z2 : World → World → Prop) (Q : World → Prop) (x27 : Bool) (c27 : w.cell? ⟨rb, 27, none⟩ = some (.bool x27)) (z27 : w.frozen? ⟨rb, 27, none⟩ = false)
    (hn : Calls Tryz.prog 54 #[.pointer (some ⟨rb, 0, none⟩), .int .i64 1] (w.setCell ⟨rb, 27, none⟩ (.bool true)) fun e w' => e = .returned (.tuple #[.int .i64 place, .bool true]) ∧ Z1 w')
    (h1 : ∀ W, Z1 W → ∃ g m cap, place < m ∧ W.cell? ⟨rb, 11, none⟩ = some (.slice (some ⟨g, 0, none⟩) m cap) ∧ W.cell? ⟨g, place * 3, none⟩ = some (.int .i64 c) ∧ W.cell? ⟨g, place * 3 + 1, none⟩ = some (.bool bl) ∧ W.cell? ⟨g, place * 3 + 2, none⟩ = some (.string fr))
    (hd : ∀ W, Z1 W → Calls Tryz.prog 55 #[.pointer (some ⟨rb, 0, none⟩), .int .i64 1, .string fr] (W.alloc (plO c bl fr)) fun e w' => e = .returned (.int .i64 code) ∧ Z2 W w')
    (h2 : ∀ W W', Z1 W → Z2 W W' → ∃ kb nc va vc, c < nc ∧ W'.heap[W.heap.size]? = some (plO c bl fr) ∧ W'.cell? ⟨rb, 13, none⟩ = some (.slice (some ⟨kb, 0, none⟩) nc nc) ∧ W'.cell? ⟨kb, c * 2 + 1, none⟩ = some (.slice va l.length vc) ∧ W'.frozen? ⟨kb, c * 2 + 1, none⟩ = false ∧ AckAt W' (.slice va l.length vc) l ∧ (Value.slice va l.length vc).ownBlock ≠ some kb ∧ (∀ n g3 cap3 w3, Appd (W'.drewN n) w3 (.slice va l.length vc) l (place, code) g3 cap3 → Q (w3.setCell ⟨kb, c * 2 + 1, none⟩ (.slice (some ⟨g3, 0, none⟩) (l.length + 1) cap3)))) :
    Calls Tryz.prog 24 #[.pointer (some ⟨rb, 0, none⟩)] w fun e w' => e = .returned (.tuple #[.int .i64 1, .int .i64 0]) ∧ Q w' := by
  have H1 := hide' h1
  have H2 := hide' h2
  unfold plO at hd
  obtain ⟨it, t1, t2, t3, t4⟩ := info_ans
  have HT : Hid (Tryz.prog.info? 58 = some it ∧ it.bytes = 16 ∧ it.size = 2 ∧ it.zero = some (.agg #[.int .i64 0, .int .i64 0])) := ⟨t1, t2, t3, t4⟩
  clear h1 h2 t1 t2 t3 t4
  go_enter Tryz.func24, Tryz.ntmps24
  go_wp2_with fail
  refine hn.mono ?_
  rintro e w1 ⟨rfl, hz1⟩
  obtain ⟨g, m, cap, hpm, a11, d0, d1, d2⟩ := H1.out w1 hz1
  have hpm' : (place : Int) < (m : Int) := by omega
  clear c27 z27
  go_wp2_with fail
  refine (hd w1 hz1).mono ?_
  rintro e w2 ⟨rfl, hz2⟩
  obtain ⟨kb, nc, va, vc, hcn, hb, b13, bk, bz, back, bne, hq⟩ := H2.out w1 w2 hz1 hz2
  have hcn' : (c : Int) < (nc : Int) := by omega
  have HQ := hide' hq
  unfold plO at hb
  have p0 := cellAt (i := 0) hb rfl
  have hlk : kb < w2.heap.size := World.block_lt_of_cell? w2 _ bk
  have HAK := hide' back
  have HNE := hide' bne
  clear hb back bne hq
  go_wp2_with fail
  go_quiet (fail)
  go_wp2_with (at_builtin; go_must (refine wpList_append_own_at _ rfl _ _ 66 rfl 0 58 it (.agg #[.int .i64 0, .int .i64 0]) 2 16 Tryz.underlying66 HT.out.1 HT.out.2.2.2 HT.out.2.2.1 HT.out.2.1 rfl (by decide) (.slice va l.length vc) l.length (ansFlat l) rfl (World.ownsRow.alloc (show (w2.drewN nq).ownsRow 0 58 2 (.slice va l.length vc) l.length (ansFlat l) from HAK.out) _) ⟨w2.heap.size, 0, none⟩ 1 1 [.int .i64 place, .int .i64 code] rfl rfl (cell_two_new _ _ _ _) (ints_one _ _) (by unfold maxLen; omega) (by omega) (Nat.zero_le _) ?_))
  intro v3 w3 hown3 hg3 _ hb3
  obtain ⟨g3, cap3, hv3⟩ : ∃ g3 cap3, v3 = .slice (some ⟨g3, 0, none⟩) (l.length + 1) cap3 := by
    rcases hown3.2 with ⟨_, hx⟩ | ⟨g3, cap3, cur, hx, _⟩
    · omega
    · exact ⟨g3, cap3, hx⟩
  rw [hv3] at hown3 hb3 ⊢
  have k0 : Keep (fun b => (Value.slice va l.length vc).ownBlock ≠ some b) (w2.drewN nq) w3 := ⟨hg3.os, hg3.tape, hg3.output, Nat.le_trans (by simp) hg3.size, fun b hb1 hb2 => by
    rw [hg3.block b (by simp at hb1 ⊢; omega) (fun e => hb2 e.symm)]
    exact Below.heap_alloc _ _ _ (by simpa using hb1)⟩
  have k1 : w3.cell? ⟨kb, c * 2 + 1, none⟩ = some (.slice va l.length vc) := by
    rw [World.cell?_of_block (w := w2) (show _ = w2.heap[kb]? from k0.block kb hlk HNE.out)]; exact bk
  have k2 : w3.frozen? ⟨kb, c * 2 + 1, none⟩ = false := by
    rw [World.frozen?_of_block (w := w2) (show _ = w2.heap[kb]? from k0.block kb hlk HNE.out)]; exact bz
  have HF : Hid (Appd (w2.drewN nq) w3 (.slice va l.length vc) l (place, code) g3 cap3) := by
    refine ⟨?_, k0, ?_⟩
    · unfold AckAt
      rw [ansFlat_append, List.length_append]
      exact hown3
    · rcases hb3 with h | h
      · exact .inl h.symm
      · right; simp [Value.ownBlock] at h; simp; omega
  clear hown3 hg3 hb3 hv3 k0 HAK
  go_wp2
  go_ret2
  exact ⟨rfl, HQ.out _ _ _ _ HF.out⟩

set_option maxRecDepth 100000 in
set_option maxHeartbeats 2000000 in
theorem rcore_free (rb : Nat) (b : Bool) (w : World) (Z1 Z2 : World → Prop) (x27 : Bool) (c27 : w.cell? ⟨rb, 27, none⟩ = some (.bool x27)) (z27 : w.frozen? ⟨rb, 27, none⟩ = false)
    (hn : Calls Tryz.prog 54 #[.pointer (some ⟨rb, 0, none⟩), .int .i64 1] (w.setCell ⟨rb, 27, none⟩ (.bool true)) fun e w' => e = .returned (.tuple #[.int .i64 0, .bool false]) ∧ Z1 w')
    (h1 : ∀ W, Z1 W → W.cell? ⟨rb, 14, none⟩ = some (.bool true))
    (hl : ∀ W, Z1 W → Calls Tryz.prog 56 #[.pointer (some ⟨rb, 0, none⟩)] W fun e w' => e = .returned (.bool b) ∧ Z2 w') :
    Calls Tryz.prog 24 #[.pointer (some ⟨rb, 0, none⟩)] w fun e w' => e = .returned (.tuple #[.int .i64 (if b then 4 else 3), .int .i64 0]) ∧ Z2 w' := by
  have H1 := hide' h1
  clear h1
  cases b
  all_goals
    go_enter Tryz.func24, Tryz.ntmps24
    go_wp2_with fail
    refine hn.mono ?_
    rintro e w1 ⟨rfl, hz1⟩
    have a14 := H1.out w1 hz1
    clear c27 z27
    go_wp2_with fail
    refine (hl w1 hz1).mono ?_
    rintro e w2 ⟨rfl, hz2⟩
    go_wp2_with fail
    go_ret2
    exact ⟨rfl, hz2⟩

set_option maxRecDepth 100000 in
set_option maxHeartbeats 2000000 in
theorem rcore_idle (rb : Nat) (w : World) (Z1 Z2 : World → Prop) (x27 : Bool) (c27 : w.cell? ⟨rb, 27, none⟩ = some (.bool x27)) (z27 : w.frozen? ⟨rb, 27, none⟩ = false)
    (hn : Calls Tryz.prog 54 #[.pointer (some ⟨rb, 0, none⟩), .int .i64 1] (w.setCell ⟨rb, 27, none⟩ (.bool true)) fun e w' => e = .returned (.tuple #[.int .i64 0, .bool false]) ∧ Z1 w')
    (h1 : ∀ W, Z1 W → W.cell? ⟨rb, 14, none⟩ = some (.bool false))
    (hn0 : ∀ W, Z1 W → Calls Tryz.prog 54 #[.pointer (some ⟨rb, 0, none⟩), .int .i64 0] W fun e w' => e = .returned (.tuple #[.int .i64 0, .bool false]) ∧ Z2 w') :
    Calls Tryz.prog 24 #[.pointer (some ⟨rb, 0, none⟩)] w fun e w' => e = .returned (.tuple #[.int .i64 0, .int .i64 0]) ∧ Z2 w' := by
  have H1 := hide' h1
  clear h1
  go_enter Tryz.func24, Tryz.ntmps24
  go_wp2_with fail
  refine hn.mono ?_
  rintro e w1 ⟨rfl, hz1⟩
  have a14 := H1.out w1 hz1
  clear c27 z27
  go_wp2_with fail
  refine (hn0 w1 hz1).mono ?_
  rintro e w2 ⟨rfl, hz2⟩
  go_wp2_with fail
  go_ret2
  exact ⟨rfl, hz2⟩

/-- The answer with which the core waits, as it is stored. -/
def holdW (rb c : Nat) (place : Nat) (code : Int) (W : World) : World :=
  (((W.setCell ⟨rb, 14, none⟩ (.bool true)).setCell ⟨rb, 15, none⟩ (.int .i64 c)).setCell ⟨rb, 16, none⟩ (.int .i64 place)).setCell ⟨rb, 17, none⟩ (.int .i64 code)

set_option maxRecDepth 100000 in
set_option maxHeartbeats 2000000 in
theorem rcore_serve (rb c place : Nat) (code : Int) (bl : Bool) (fr : ByteArray) (b : Bool) (w : World) (Z1 Z2 : World → Prop) (Z3 : World → World → Prop) (Z4 : World → Prop) (x27 : Bool) (c27 : w.cell? ⟨rb, 27, none⟩ = some (.bool x27)) (z27 : w.frozen? ⟨rb, 27, none⟩ = false)
    (hn : Calls Tryz.prog 54 #[.pointer (some ⟨rb, 0, none⟩), .int .i64 1] (w.setCell ⟨rb, 27, none⟩ (.bool true)) fun e w' => e = .returned (.tuple #[.int .i64 0, .bool false]) ∧ Z1 w')
    (h1 : ∀ W, Z1 W → W.cell? ⟨rb, 14, none⟩ = some (.bool false))
    (hn0 : ∀ W, Z1 W → Calls Tryz.prog 54 #[.pointer (some ⟨rb, 0, none⟩), .int .i64 0] W fun e w' => e = .returned (.tuple #[.int .i64 place, .bool true]) ∧ Z2 w')
    (h2 : ∀ W, Z2 W → ∃ g m cap, place < m ∧ W.cell? ⟨rb, 8, none⟩ = some (.slice (some ⟨g, 0, none⟩) m cap) ∧ W.cell? ⟨g, place * 3, none⟩ = some (.int .i64 c) ∧ W.cell? ⟨g, place * 3 + 1, none⟩ = some (.bool bl) ∧ W.cell? ⟨g, place * 3 + 2, none⟩ = some (.string fr))
    (hd : ∀ W, Z2 W → Calls Tryz.prog 55 #[.pointer (some ⟨rb, 0, none⟩), .int .i64 0, .string fr] (W.alloc (plO c bl fr)) fun e w' => e = .returned (.int .i64 code) ∧ Z3 W w')
    (h3 : ∀ W W', Z2 W → Z3 W W' → W'.heap[W.heap.size]? = some (plO c bl fr) ∧ rb ≠ W.heap.size ∧ (∃ x14, W'.cell? ⟨rb, 14, none⟩ = some (.bool x14)) ∧ (∃ x15, W'.cell? ⟨rb, 15, none⟩ = some (.int .i64 x15)) ∧ (∃ x16, W'.cell? ⟨rb, 16, none⟩ = some (.int .i64 x16)) ∧ (∃ x17, W'.cell? ⟨rb, 17, none⟩ = some (.int .i64 x17)) ∧ ∀ i, W'.frozen? ⟨rb, i, none⟩ = false)
    (hl : ∀ W W', Z2 W → Z3 W W' → Calls Tryz.prog 56 #[.pointer (some ⟨rb, 0, none⟩)] (holdW rb c place code W') fun e w' => e = .returned (.bool b) ∧ Z4 w') :
    Calls Tryz.prog 24 #[.pointer (some ⟨rb, 0, none⟩)] w fun e w' => e = .returned (.tuple #[.int .i64 (if b then 2 else 3), .int .i64 0]) ∧ Z4 w' := by
  have H1 := hide' h1
  have H2 := hide' h2
  have H3 := hide' h3
  unfold plO at hd
  unfold holdW at hl
  clear h1 h2 h3
  cases b
  all_goals
    go_enter Tryz.func24, Tryz.ntmps24
    go_wp2_with fail
    refine hn.mono ?_
    rintro e w1 ⟨rfl, hz1⟩
    have a14 := H1.out w1 hz1
    clear c27 z27
    go_wp2_with fail
    refine (hn0 w1 hz1).mono ?_
    rintro e w2 ⟨rfl, hz2⟩
    obtain ⟨g, m, cap, hpm, a8, d0, d1, d2⟩ := H2.out w2 hz2
    have hpm' : (place : Int) < (m : Int) := by omega
    go_wp2_with fail
    refine (hd w2 hz2).mono ?_
    rintro e w3 ⟨rfl, hz3⟩
    obtain ⟨hb, hne, ⟨x14, b14⟩, ⟨x15, b15⟩, ⟨x16, b16⟩, ⟨x17, b17⟩, bz⟩ := H3.out w2 w3 hz2 hz3
    unfold plO at hb
    have p0 := cellAt (i := 0) hb rfl
    have z14 := bz 14
    have z15 := bz 15
    have z16 := bz 16
    have z17 := bz 17
    have HL := hl w2 w3 hz2 hz3
    clear hb bz
    go_wp2_with fail
    refine HL.mono ?_
    rintro e w4 ⟨rfl, hz4⟩
    go_wp2_with fail
    go_ret2
    exact ⟨rfl, hz4⟩

end Go.Proofs.YtjhifhoniimfgaaGreat

/-
  The document's core, on a gate in memory.
-/
namespace Go.Proofs.YtjhifhoniimfgaaGreat
open Go.RowKit

theorem RG.stepped {own : Nat → Nat} {T : Nat} {w : World} {R : RB} {s : St} (h : RG own T w R s) : RG (ext own w.heap.size T) T (w.setCell ⟨R.rb, 27, none⟩ (.bool true)) R s.step ∧ Keep (Out own T) w (w.setCell ⟨R.rb, 27, none⟩ (.bool true)) := by
  have kS : Keep (fun b => b ≠ R.rb) w (w.setCell ⟨R.rb, 27, none⟩ (.bool true)) := (Keep.refl _ w).setCell _ (fun _ h => h rfl) _
  obtain ⟨r1, r2⟩ := h.recell (R' := R) (s' := s.step) kS (by
    rw [heap_setCell_at _ h.gate]
    simp [rCells, St.step]) rfl ⟨rfl, rfl, rfl, rfl, rfl, rfl, rfl, rfl⟩ h.held
  exact ⟨r1, r2.outT⟩

/-- On the way: the document's gate in a state; nothing else turned. -/
def WayR (own : Nat → Nat) (T : Nat) (w : World) (rb : Nat) (s' : St) (W : World) : Prop := ∃ own' R, R.rb = rb ∧ RG own' T W R s' ∧ Same own own' w ∧ Keep (Out own T) w W

theorem WayR.goes {own : Nat → Nat} {T : Nat} {w : World} {rb : Nat} {s' : St} {W : World} (h : WayR own T w rb s' W) : GoesR own T w rb s' W := by
  obtain ⟨o, R, e, h1, h2, h3⟩ := h
  exact ⟨o, R, h1, e, h2, h3⟩

theorem WayR.of {own : Nat → Nat} {T : Nat} {w : World} {rb : Nat} {s' : St} {W : World} (h : GoesR own T w rb s' W) : WayR own T w rb s' W := by
  obtain ⟨o, R, h1, e, h2, h3⟩ := h
  exact ⟨o, R, e, h1, h2, h3⟩

theorem WayR.then {own own1 : Nat → Nat} {T : Nat} {w W W2 : World} {rb : Nat} {s2 : St} (ho : Same own own1 w) (hk : Keep (Out own T) w W) (h : GoesR own1 T W rb s2 W2) : WayR own T w rb s2 W2 := WayR.of (GoesR.trans hk ho h)

theorem WayR.keep {own : Nat → Nat} {T : Nat} {w W W' : World} {rb : Nat} {s : St} (h : WayR own T w rb s W) (hcl : s.cl ≤ 8) (hk : Keep (fun _ => True) W W') : WayR own T w rb s W' := by
  obtain ⟨o, R, e, h1, h2, h3⟩ := h
  exact ⟨o, R, e, h1.on hcl hk, h2, h3.trans' hk (fun _ _ _ => trivial)⟩

/-- What lies in the place that was taken last. -/
theorem RG.placeAt {own : Nat → Nat} {T : Nat} {w : World} {R : RB} {s : St} (h : RG own T w R s) (i : Nat) (hi : i < 2) (p : Nat) (hp : p < s.m i) : ∃ g cap, w.cell? ⟨R.rb, 8 + 3 * i, none⟩ = some (.slice (some ⟨g, 0, none⟩) (s.m i) cap) ∧ w.cell? ⟨g, p * 3, none⟩ = some (.int .i64 (s.f i p).1) ∧ w.cell? ⟨g, p * 3 + 1, none⟩ = some (.bool (s.f i p).2.1) ∧ w.cell? ⟨g, p * 3 + 2, none⟩ = some (.string (s.f i p).2.2) := by
  obtain ⟨a0, a1, a2, b0, b1, b2, c29⟩ := h.laneAt
  have ca : w.cell? ⟨R.rb, 8 + 3 * i, none⟩ = some (R.lv i) := by rcases (show i = 0 ∨ i = 1 by omega) with rfl | rfl; exact a1; exact b1
  obtain ⟨g, cap, cs, hv, hg, hcs⟩ := ownsRow_cells (h.lane i hi) (by omega)
  obtain ⟨n0, n1, n2⟩ := plFlat_get (s.f i) (s.m i) p hp
  rw [hv] at ca
  exact ⟨g, cap, ca, cellAt hg (hcs _ _ n0), cellAt hg (hcs _ _ n1), cellAt hg (hcs _ _ n2)⟩

/-- The core waits with an answer. -/
theorem RG.holds {own : Nat → Nat} {T : Nat} {w : World} {R : RB} {s : St} (h : RG own T w R s) (c place : Nat) (code : Int) :
    ∃ R', R'.rb = R.rb ∧ RG (ext own w.heap.size T) T (holdW R.rb c place code w) R' { s with held := some (c, ((place : Int), code)) } ∧ Keep (Out own T) w (holdW R.rb c place code w) := by
  have kS : Keep (fun b => b ≠ R.rb) w (holdW R.rb c place code w) := by
    unfold holdW
    exact ((((Keep.refl _ w).setCell _ (fun _ h => h rfl) _).setCell _ (fun _ h => h rfl) _).setCell _ (fun _ h => h rfl) _).setCell _ (fun _ h => h rfl) _
  obtain ⟨r1, r2⟩ := h.recell (R' := { R with hw := c, hp := place, hq := code }) (s' := { s with held := some (c, ((place : Int), code)) }) kS (by
    unfold holdW
    rw [heap_setCell_at _ (heap_setCell_at _ (heap_setCell_at _ (heap_setCell_at _ h.gate)))]
    simp [rCells]) rfl ⟨rfl, rfl, rfl, rfl, rfl, rfl, rfl, rfl⟩ (fun c' a' e => by
      injection e with e
      injection e with ea eb
      subst ea; subst eb
      exact ⟨rfl, rfl, rfl⟩)
  exact ⟨{ R with hw := c, hp := place, hq := code }, rfl, r1, r2.outT⟩

theorem Ok.hold {s : St} {N : Nat} (h : Ok s N) (c : Nat) (a : Ans) (hc : c < s.cl) : Ok { s with held := some (c, a) } N :=
  { h with held := fun c' a' e => (by
      have e' : some (c, a) = some (c', a') := e
      simp only [Option.some.injEq, Prod.mk.injEq] at e'
      rw [← e'.1]
      exact hc) }

theorem rCore {own : Nat → Nat} {T : Nat} {w : World} {R : RB} {s : St} {N : Nat} (h : RG own T w R s) (hk : Ok s N) (hN : N < 1099511627775) :
    Calls Tryz.prog 24 #[.pointer (some ⟨R.rb, 0, none⟩)] w fun e w' => e = .returned (.tuple #[.int .i64 (coreS s).1, .int .i64 0]) ∧ GoesR own T w R.rb (coreS s).2 w' := by
  have c27 := cellAt (i := 27) h.gate rfl
  have z27 := frozenAt (i := 27) h.gate
  have hk1 := step_ok hk
  obtain ⟨hst, hkst⟩ := h.stepped
  have hso := Same.ext own w T
  unfold coreS
  generalize s.step = s1 at *
  have hcl := hk1.cl.2
  have hna := hk1.na.2
  have hnext : ∀ {W : World} (i : Nat), i < 2 → WayR own T w R.rb s1 W → Calls Tryz.prog 54 #[.pointer (some ⟨R.rb, 0, none⟩), .int .i64 i] W fun e w' =>
      (s1.hasNext i = true ∧ e = .returned (.tuple #[.int .i64 (s1.t i), .bool true]) ∧ WayR own T w R.rb (s1.took i) w') ∨ (s1.hasNext i = false ∧ e = .returned (.tuple #[.int .i64 0, .bool false]) ∧ WayR own T w R.rb s1 w') := by
    intro W i hi hW
    have hW' := hW
    obtain ⟨o, R1, e1, g1, g2, g3⟩ := hW
    rw [← e1]
    refine (rNext g1 hk1 (by omega) i hi).mono ?_
    rintro e w' (⟨q1, q2, q3⟩ | ⟨q1, q2, q3⟩)
    · exact .inl ⟨q1, q2, WayR.then g2 g3 q3⟩
    · exact .inr ⟨q1, q2, by rw [e1]; exact hW'.keep hcl q3⟩
  have hno : ∀ {W : World} (i : Nat), i < 2 → s1.hasNext i = false → WayR own T w R.rb s1 W → Calls Tryz.prog 54 #[.pointer (some ⟨R.rb, 0, none⟩), .int .i64 i] W fun e w' => e = .returned (.tuple #[.int .i64 0, .bool false]) ∧ WayR own T w R.rb s1 w' := by
    intro W i hi hn hW
    refine (hnext i hi hW).mono ?_
    rintro e w' (⟨q1, _⟩ | ⟨_, q2, q3⟩)
    · rw [hn] at q1; cases q1
    · exact ⟨q2, q3⟩
  have hyes : ∀ {W : World} (i : Nat), i < 2 → s1.hasNext i = true → WayR own T w R.rb s1 W → Calls Tryz.prog 54 #[.pointer (some ⟨R.rb, 0, none⟩), .int .i64 i] W fun e w' => e = .returned (.tuple #[.int .i64 (s1.t i), .bool true]) ∧ WayR own T w R.rb (s1.took i) w' := by
    intro W i hi hn hW
    refine (hnext i hi hW).mono ?_
    rintro e w' (⟨_, q2, q3⟩ | ⟨q1, _⟩)
    · exact ⟨q2, q3⟩
    · rw [hn] at q1; cases q1
  have hW0 : WayR own T w R.rb s1 (w.setCell ⟨R.rb, 27, none⟩ (.bool true)) := ⟨_, R, rfl, hst, hso, hkst⟩
  -- a frame of a lane is done
  have hdoes : ∀ (i : Nat), i < 2 → s1.hasNext i = true → ∀ W, WayR own T w R.rb (s1.took i) W → Calls Tryz.prog 55 #[.pointer (some ⟨R.rb, 0, none⟩), .int .i64 i, .string (s1.f i (s1.t i)).2.2] (W.alloc (plO (s1.whose i) (s1.f i (s1.t i)).2.1 (s1.f i (s1.t i)).2.2)) fun e w' =>
      e = .returned (.int .i64 (doesS (s1.took i) i (s1.f i (s1.t i)).2.2).1) ∧ WayR own T w R.rb (doesS (s1.took i) i (s1.f i (s1.t i)).2.2).2 w' ∧ w'.heap[W.heap.size]? = some (plO (s1.whose i) (s1.f i (s1.t i)).2.1 (s1.f i (s1.t i)).2.2) := by
    intro i hi hn W hW
    obtain ⟨o, R1, e1, g1, g2, g3⟩ := hW
    have ht := took_ok hk1 i hi hn
    have kA : Keep (fun _ => True) W (W.alloc (plO (s1.whose i) (s1.f i (s1.t i)).2.1 (s1.f i (s1.t i)).2.2)) := (Keep.refl _ W).alloc _
    have hb : (W.alloc (plO (s1.whose i) (s1.f i (s1.t i)).2.1 (s1.f i (s1.t i)).2.2)).heap[W.heap.size]? = some (plO (s1.whose i) (s1.f i (s1.t i)).2.1 (s1.f i (s1.t i)).2.2) := heap_alloc_new W _
    have hR : RG (ext o W.heap.size (T + 100)) T (W.alloc (plO (s1.whose i) (s1.f i (s1.t i)).2.1 (s1.f i (s1.t i)).2.2)) R1 (s1.took i) := g1.keep hcl kA (fun _ _ _ _ => trivial) (Same.ext o W _)
    rw [← e1]
    refine (rDoes hR ht (by omega) i (s1.f i (s1.t i)).2.2).mono ?_
    rintro e w' ⟨rfl, hg⟩
    have hg' := hg
    obtain ⟨o', R', f1, f2, f3, f4⟩ := hg
    refine ⟨rfl, ?_, f4.get hb ?_⟩
    · exact WayR.then (g2.trans (Same.ext o W _) g3.size) (g3.trans' kA (fun _ _ _ => trivial)) hg'
    · unfold Out
      rw [ext_ge (Nat.le_refl _)]
      omega
  unfold coreS'
  cases hn1 : s1.hasNext 1 with
  | true =>
    have hw := whose_lt hk1 (i := 1) (by omega) hn1
    have hlt := next_lt hk1 (i := 1) (by omega) hn1
    obtain ⟨e1, e2, e3, e4, e5, e6⟩ := does_ring (s1.took 1) 1 (s1.f 1 (s1.t 1)).2.2
    have hacks := hk1.acks (s1.whose 1)
    have hwf := hw.2
    refine rcore_rush R.rb (s1.whose 1) (s1.t 1) (doesS (s1.took 1) 1 (s1.f 1 (s1.t 1)).2.2).1 (s1.f 1 (s1.t 1)).2.1 (s1.f 1 (s1.t 1)).2.2 (s1.acks (s1.whose 1)) w (by omega) (WayR own T w R.rb (s1.took 1))
      (fun W w' => WayR own T w R.rb (doesS (s1.took 1) 1 (s1.f 1 (s1.t 1)).2.2).2 w' ∧ w'.heap[W.heap.size]? = some (plO (s1.whose 1) (s1.f 1 (s1.t 1)).2.1 (s1.f 1 (s1.t 1)).2.2)) (GoesR own T w R.rb (rushS s1).2) _ c27 z27 (hyes 1 (by omega) hn1 hW0) (fun W hW => ?_) (fun W hW => hdoes 1 (by omega) hn1 W hW) (fun W W' hW hW' => ?_)
    · obtain ⟨o, R1, e1, g1, g2, g3⟩ := hW
      obtain ⟨g, cap, p0, p1, p2, p3⟩ := g1.placeAt 1 (by omega) (s1.t 1) hlt
      rw [← e1]
      refine ⟨g, _, cap, hlt, p0, ?_, p2, p3⟩
      rw [← hwf]
      exact p1
    · obtain ⟨⟨o, R1, r1, g1, g2, g3⟩, hbox⟩ := hW'
      have hcw : s1.whose 1 < (doesS (s1.took 1) 1 (s1.f 1 (s1.t 1)).2.2).2.cl := by rw [e3]; exact hw.1
      obtain ⟨k0, k1, kz⟩ := g1.cliAt (s1.whose 1) hcw
      have hack := g1.acks (s1.whose 1) hcw
      have hacc : (doesS (s1.took 1) 1 (s1.f 1 (s1.t 1)).2.2).2.acks (s1.whose 1) = s1.acks (s1.whose 1) := by rw [e2]; rfl
      rw [hacc] at hack
      obtain ⟨va, vc, hv⟩ := hack.slice
      have hne : (R1.av (s1.whose 1)).ownBlock ≠ some R1.kb := fun e => (g1.ackNe _ hcw _ e).1 rfl
      have c13 := cellAt (i := 13) g1.gate rfl
      rw [r1] at c13
      rw [hv] at k1 hne hack
      refine ⟨R1.kb, _, va, vc, hcw, hbox, c13, k1, kz _, hack, hne, fun n g3' cap3 w3 happ => ?_⟩
      have hg1 : RG o T (W'.drewN n) R1 (doesS (s1.took 1) 1 (s1.f 1 (s1.t 1)).2.2).2 := g1.on (by rw [e3]; exact hcl) ((Keep.refl _ W').drewN n)
      obtain ⟨a1, a2, a3⟩ := happ
      rw [← hv] at a2 a3
      have kS : Keep (fun b => b ≠ R1.kb) w3 (w3.setCell ⟨R1.kb, s1.whose 1 * 2 + 1, none⟩ (.slice (some ⟨g3', 0, none⟩) ((s1.acks (s1.whose 1)).length + 1) cap3)) := (Keep.refl _ w3).setCell _ (fun _ h => h rfl) _
      have hgk : g3' ≠ R1.kb := by
        rcases a3 with q | q
        · exact (hg1.ackNe _ hcw _ q).1
        · obtain ⟨ck, q1, _⟩ := hg1.cli
          have := block_lt q1
          omega
      obtain ⟨f1, f2⟩ := hg1.reacks (by rw [e3]; exact hcl) (s1.whose 1) hcw (.slice (some ⟨g3', 0, none⟩) ((s1.acks (s1.whose 1)).length + 1) cap3) (s1.acks (s1.whose 1) ++ [((s1.t 1 : Int), (doesS (s1.took 1) 1 (s1.f 1 (s1.t 1)).2.2).1)])
        ((a2.mono (T := fun b => b ≠ R1.kb ∧ (R1.av (s1.whose 1)).ownBlock ≠ some b) (fun b _ hb => hb.2)).trans' kS (fun b _ hb => hb.1)) (fun cs f hh => heap_setCell_at _ (a2.get hh (fun e => (hg1.ackNe _ hcw _ e).1 rfl))) (a1.keep kS (fun b hb => by simp [Value.ownBlock] at hb; subst hb; exact hgk)) (fun b hb => by simp [Value.ownBlock] at hb; subst hb; exact a3)
      have fin : GoesR o T (W'.drewN n) R1.rb _ _ := ⟨_, _, f1, rfl, Same.ext o _ _, f2⟩
      have fin2 := GoesR.trans (g3.drewN n) g2 fin
      rw [r1] at fin2
      have hst2 : (rushS s1).2 = { (doesS (s1.took 1) 1 (s1.f 1 (s1.t 1)).2.2).2 with acks := upN (doesS (s1.took 1) 1 (s1.f 1 (s1.t 1)).2.2).2.acks (s1.whose 1) (s1.acks (s1.whose 1) ++ [((s1.t 1 : Int), (doesS (s1.took 1) 1 (s1.f 1 (s1.t 1)).2.2).1)]) } := by
        unfold rushS St.ack
        simp only
        rw [hacc]
      rw [hst2]
      exact fin2
  | false =>
    have hz1 := hno 1 (by omega) hn1 hW0
    cases hh : s1.held with
    | some ca =>
      obtain ⟨c, a⟩ := ca
      change Calls _ _ _ _ fun e w' => e = .returned (.tuple #[.int .i64 (freeS s1 c a).1, .int .i64 0]) ∧ GoesR own T w R.rb (freeS s1 c a).2 w'
      refine (rcore_free R.rb (decide ((s1.ring c).length < s1.an)) w (WayR own T w R.rb s1) (GoesR own T w R.rb (freeS s1 c a).2) _ c27 z27 hz1 (fun W hW => ?_) (fun W hW => ?_)).mono ?_
      · obtain ⟨o, R1, e1, g1, g2, g3⟩ := hW
        rw [← e1]
        have q : W.cell? ⟨R1.rb, 14, none⟩ = some (.bool s1.held.isSome) := cellAt (i := 14) g1.gate rfl
        rw [hh] at q
        exact q
      · obtain ⟨o, R1, e1, g1, g2, g3⟩ := hW
        rw [← e1]
        refine (rLays g1 hk1 c a hh).mono ?_
        rintro e w' ⟨rfl, hg⟩
        refine ⟨rfl, ?_⟩
        have hg' := GoesR.trans g3 g2 hg
        unfold freeS St.lay
        by_cases hr : (s1.ring c).length < s1.an
        · rw [if_pos hr] at hg' ⊢
          exact hg'
        · rw [if_neg hr] at hg' ⊢
          exact hg'
      · rintro e w' ⟨rfl, hg⟩
        refine ⟨?_, hg⟩
        unfold freeS
        by_cases hr : (s1.ring c).length < s1.an
        · rw [if_pos hr, decide_eq_true hr]; rfl
        · rw [if_neg hr, decide_eq_false hr]; rfl
    | none =>
      have h14 : ∀ W, WayR own T w R.rb s1 W → W.cell? ⟨R.rb, 14, none⟩ = some (.bool false) := fun W hW => by
        obtain ⟨o, R1, e1, g1, g2, g3⟩ := hW
        rw [← e1]
        have q : W.cell? ⟨R1.rb, 14, none⟩ = some (.bool s1.held.isSome) := cellAt (i := 14) g1.gate rfl
        rw [hh] at q
        exact q
      cases hn0 : s1.hasNext 0 with
      | true =>
        change Calls _ _ _ _ fun e w' => e = .returned (.tuple #[.int .i64 (serveS s1).1, .int .i64 0]) ∧ GoesR own T w R.rb (serveS s1).2 w'
        have hw := whose_lt hk1 (i := 0) (by omega) hn0
        have hlt := next_lt hk1 (i := 0) (by omega) hn0
        have hwf := hw.2
        have hto := took_ok hk1 0 (by omega) hn0
        have hdo := do_ok hto (saidOf (s1.took 0).na (0 : Nat) (s1.f 0 (s1.t 0)).2.2) (said_ok _ _ _)
        obtain ⟨e1, e2, e3, e4, e5, e6⟩ := does_ring (s1.took 0) 0 (s1.f 0 (s1.t 0)).2.2
        have hdo' : Ok (doesS (s1.took 0) 0 (s1.f 0 (s1.t 0)).2.2).2 (N + 1) := hdo
        refine (rcore_serve R.rb (s1.whose 0) (s1.t 0) (doesS (s1.took 0) 0 (s1.f 0 (s1.t 0)).2.2).1 (s1.f 0 (s1.t 0)).2.1 (s1.f 0 (s1.t 0)).2.2 (decide (((doesS (s1.took 0) 0 (s1.f 0 (s1.t 0)).2.2).2.ring (s1.whose 0)).length < s1.an)) w (WayR own T w R.rb s1) (WayR own T w R.rb (s1.took 0))
          (fun W w' => WayR own T w R.rb (doesS (s1.took 0) 0 (s1.f 0 (s1.t 0)).2.2).2 w' ∧ w'.heap[W.heap.size]? = some (plO (s1.whose 0) (s1.f 0 (s1.t 0)).2.1 (s1.f 0 (s1.t 0)).2.2)) (GoesR own T w R.rb (serveS s1).2) _ c27 z27 hz1 h14 (fun W hW => hyes 0 (by omega) hn0 hW) (fun W hW => ?_) (fun W hW => hdoes 0 (by omega) hn0 W hW) (fun W W' hW hW' => ?_) (fun W W' hW hW' => ?_)).mono ?_
        · obtain ⟨o, R1, r1, g1, g2, g3⟩ := hW
          obtain ⟨g, cap, p0, p1, p2, p3⟩ := g1.placeAt 0 (by omega) (s1.t 0) hlt
          rw [← r1]
          refine ⟨g, _, cap, hlt, p0, ?_, p2, p3⟩
          rw [← hwf]
          exact p1
        · obtain ⟨o0, R0, r0, g0, _, _⟩ := hW
          obtain ⟨⟨o, R1, r1, g1, g2, g3⟩, hbox⟩ := hW'
          refine ⟨hbox, ?_, ?_⟩
          · have := block_lt g0.gate
            omega
          · rw [← r1]
            exact ⟨⟨_, cellAt (i := 14) g1.gate rfl⟩, ⟨_, cellAt (i := 15) g1.gate rfl⟩, ⟨_, cellAt (i := 16) g1.gate rfl⟩, ⟨_, cellAt (i := 17) g1.gate rfl⟩, fun i => frozenAt g1.gate⟩
        · obtain ⟨⟨o, R1, r1, g1, g2, g3⟩, hbox⟩ := hW'
          obtain ⟨R2, r2, f1, f2⟩ := g1.holds (s1.whose 0) (s1.t 0) (doesS (s1.took 0) 0 (s1.f 0 (s1.t 0)).2.2).1
          have hokh : Ok { (doesS (s1.took 0) 0 (s1.f 0 (s1.t 0)).2.2).2 with held := some (s1.whose 0, ((s1.t 0 : Int), (doesS (s1.took 0) 0 (s1.f 0 (s1.t 0)).2.2).1)) } (N + 1) := hdo'.hold _ _ (by rw [e3]; exact hw.1)
          rw [← r1, ← r2]
          have key := rLays f1 hokh (s1.whose 0) ((s1.t 0 : Int), (doesS (s1.took 0) 0 (s1.f 0 (s1.t 0)).2.2).1) rfl
          rw [r2] at key ⊢
          refine key.mono ?_
          rintro e w' ⟨rfl, hg⟩
          have hane : (doesS (s1.took 0) 0 (s1.f 0 (s1.t 0)).2.2).2.an = s1.an := e4
          refine ⟨by rw [← hane], ?_⟩
          have hg' := GoesR.trans (g3.trans' f2 (fun b hb hO => by unfold Out at hO ⊢; rw [g2 b hb]; exact hO)) (g2.trans (Same.ext o W' T) g3.size) hg
          unfold serveS St.lay
          simp only at hg' ⊢
          rw [← hane]
          by_cases hr : ((doesS (s1.took 0) 0 (s1.f 0 (s1.t 0)).2.2).2.ring (s1.whose 0)).length < (doesS (s1.took 0) 0 (s1.f 0 (s1.t 0)).2.2).2.an
          · rw [if_pos hr] at hg' ⊢
            have hheld : (doesS (s1.took 0) 0 (s1.f 0 (s1.t 0)).2.2).2.held = none := by rw [e6]; exact hh
            rw [← hheld] at hg'
            exact hg'
          · rw [if_neg hr] at hg' ⊢
            exact hg'
        · rintro e w' ⟨rfl, hg⟩
          refine ⟨?_, hg⟩
          unfold serveS
          by_cases hr : ((doesS (s1.took 0) 0 (s1.f 0 (s1.t 0)).2.2).2.ring (s1.whose 0)).length < s1.an
          · rw [if_pos hr, decide_eq_true hr]; rfl
          · rw [if_neg hr, decide_eq_false hr]; rfl
      | false =>
        refine (rcore_idle R.rb w (WayR own T w R.rb s1) (WayR own T w R.rb s1) _ c27 z27 hz1 h14 (fun W hW => hno 0 (by omega) hn0 hW)).mono ?_
        rintro e w' ⟨rfl, hg⟩
        exact ⟨rfl, hg.goes⟩

end Go.Proofs.YtjhifhoniimfgaaGreat

/-
  The document's New, where the settings fall ahead of the accounts.
-/
namespace Go.Proofs.YtjhifhoniimfgaaGreat
open Go.RowKit

theorem limit_B (n : Int) (w : World) :
    Calls Tryz.prog 51 #[.int .i64 n] w fun e w' => e = .returned (.bool (limB n)) ∧ w = w' := limit_any n w

/-- What of the settings is asked ahead of the accounts. -/
def statOk (cl co ur an ch : Int) (n : Nat) : Prop := powB co = true ∧ powB ur = true ∧ powB an = true ∧ 1 ≤ cl ∧ cl ≤ 8 ∧ 1 ≤ ch ∧ ch ≤ 100 ∧ 1 ≤ n ∧ n ≤ 4

theorem stat_cases (cl co ur an ch : Int) (n : Nat) : statOk cl co ur an ch n ∨
    powB co = false ∨ (powB co = true ∧ powB ur = false) ∨ (powB co = true ∧ powB ur = true ∧ powB an = false) ∨
    (powB co = true ∧ powB ur = true ∧ powB an = true ∧ (cl < 1 ∨ (1 ≤ cl ∧ 8 < cl) ∨ (1 ≤ cl ∧ cl ≤ 8 ∧ ch < 1) ∨ (1 ≤ cl ∧ cl ≤ 8 ∧ 1 ≤ ch ∧ 100 < ch) ∨
      (1 ≤ cl ∧ cl ≤ 8 ∧ 1 ≤ ch ∧ ch ≤ 100 ∧ (n : Int) < 1) ∨ (1 ≤ cl ∧ cl ≤ 8 ∧ 1 ≤ ch ∧ ch ≤ 100 ∧ 1 ≤ (n : Int) ∧ 4 < (n : Int)))) := by
  unfold statOk
  cases powB co <;> cases powB ur <;> cases powB an <;> simp
  omega

set_option maxRecDepth 100000 in
set_option maxHeartbeats 1000000 in
theorem rNew_stat (cl co ur an ch : Int) (a : Option Addr) (n c : Nat) (w : World) (hno : ¬ statOk cl co ur an ch n) :
    Calls Tryz.prog 21 #[.agg #[.int .i64 cl, .int .i64 co, .int .i64 ur, .int .i64 an, .int .i64 ch, .slice a n c]] w
      fun e w' => e = .returned (.tuple #[.pointer none, .int .i64 2]) ∧ Below w.heap.size w w' := by
  rcases stat_cases cl co ur an ch n with h | h1 | ⟨h1, h2⟩ | ⟨h1, h2, h3⟩ | ⟨h1, h2, h3, h4 | ⟨h4, h5⟩ | ⟨h4, h5, h6⟩ | ⟨h4, h5, h6, h7⟩ | ⟨h4, h5, h6, h7, h8⟩ | ⟨h4, h5, h6, h7, h8, h9⟩⟩
  · exact absurd h hno
  · clear hno
    cases hu : powB ur <;> cases hx : powB an
    all_goals
      go_enter Tryz.func21, Tryz.ntmps21
      go_wp2_with (go_at_call 50; refine (power_any _ _).mono ?_; rintro e w' ⟨rfl, rfl⟩; first | rw [h1] | rw [hu] | rw [hx])
      go_ret2
      exact ⟨rfl, (Below.refl _ _).alloc (Nat.le_refl _) _⟩
  · clear hno
    cases hx : powB an
    all_goals
      go_enter Tryz.func21, Tryz.ntmps21
      go_wp2_with (go_at_call 50; refine (power_any _ _).mono ?_; rintro e w' ⟨rfl, rfl⟩; first | rw [h1] | rw [h2] | rw [hx])
      go_ret2
      exact ⟨rfl, (Below.refl _ _).alloc (Nat.le_refl _) _⟩
  all_goals
    clear hno
    go_enter Tryz.func21, Tryz.ntmps21
    go_wp2_with (go_at_call 50; refine (power_any _ _).mono ?_; rintro e w' ⟨rfl, rfl⟩; first | rw [h1] | rw [h2] | rw [h3])
    go_ret2
    exact ⟨rfl, (Below.refl _ _).alloc (Nat.le_refl _) _⟩

end Go.Proofs.YtjhifhoniimfgaaGreat

