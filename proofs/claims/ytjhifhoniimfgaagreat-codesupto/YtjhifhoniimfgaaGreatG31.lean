import Derived.Test.YtjhifhoniimfgaaGreatG30
import Derived.Test.YtjhifhoniimfgaaGreatG14
/-
  A gate is made, in memory.
-/
namespace Go.Proofs.YtjhifhoniimfgaaGreat
open Go.RowKit

set_option maxHeartbeats 400000 in
theorem gNew_no (cl co ur an ch : Int) (a : Option Addr) (n c : Nat) (lim : Nat → Nat → Int) (w : World) (ha : AccAt w a n lim) (hm : mayB cl co ur an ch n lim = false) :
    Calls Tryz.prog 14 #[.agg #[.int .i64 cl, .int .i64 co, .int .i64 ur, .int .i64 an, .int .i64 ch, .slice a n c]] w
      fun e w' => e = .returned (.tuple #[.pointer none, .int .i64 2]) ∧ Below w.heap.size w w' := by
  have HA : Hid (AccAt (w.alloc (.cells #[.int .i64 cl, .int .i64 co, .int .i64 ur, .int .i64 an, .int .i64 ch, .slice a n c] 30)) a n lim) :=
    ha.below ((Below.refl _ _).alloc (Nat.le_refl _) _)
  clear ha
  go_enter Tryz.func14, Tryz.ntmps14
  go_wp2_with (go_at_call 33; refine (mayBe_any cl co ur an ch a n c lim _ HA.out).mono ?_; rintro e w' ⟨rfl, hb⟩; rw [hm])
  go_ret2
  exact ⟨rfl, ((Below.refl _ _).alloc (Nat.le_refl _) _).trans (hb.mono (by simp))⟩

theorem info_pbox : ∃ i, Tryz.prog.info? 83 = some i ∧ i.bytes = 8 ∧ i.size = 1 ∧ i.zero = some (.pointer none) := by
  have e : (Tryz.prog.info? 83).map (fun i => (i.bytes, i.size, i.zero)) = some (8, 1, some (.pointer none)) := by kernel_rfl
  obtain ⟨i, hi, he⟩ := Option.map_eq_some_iff.1 e
  simp only [Prod.mk.injEq] at he
  exact ⟨i, hi, he.1, he.2.1, he.2.2⟩

theorem info_pacc : ∃ i, Tryz.prog.info? 88 = some i ∧ i.bytes = 8 ∧ i.size = 1 ∧ i.zero = some (.pointer none) := by
  have e : (Tryz.prog.info? 88).map (fun i => (i.bytes, i.size, i.zero)) = some (8, 1, some (.pointer none)) := by kernel_rfl
  obtain ⟨i, hi, he⟩ := Option.map_eq_some_iff.1 e
  simp only [Prod.mk.injEq] at he
  exact ⟨i, hi, he.1, he.2.1, he.2.2⟩

theorem ownsRow_slice {w : World} {e : TypeId} {k : Nat} {v : Value} {n : Nat} {xs : List Value} (h : w.ownsRow 0 e k v n xs) : ∃ a cap, v = .slice a n cap := by
  rcases h.2 with ⟨rfl, q⟩ | ⟨g, cap, cur, rfl, _⟩
  · exact ⟨none, 0, by rw [q]⟩
  · exact ⟨_, cap, rfl⟩

/-- What stays all the while a gate is made in w: the config's box; nothing old turned. -/
structure NewWay (own own' : Nat → Nat) (w W : World) (cfg : Obj) : Prop where
  same : Same own own' w
  keep : Keep (fun _ => True) w W
  cfg : W.heap[w.heap.size]? = some cfg
  oc : own' w.heap.size = 0

theorem NewWay.next {own own1 own2 : Nat → Nat} {T : Nat} {w W W' : World} {cfg : Obj} (h : NewWay own own1 w W cfg) (hT : 0 < T) (hk : Keep (fun b => own1 b ≠ T) W W') (ho : Same own1 own2 W) (hold : ∀ b, b < w.heap.size → W'.heap[b]? = W.heap[b]?) : NewWay own own2 w W' cfg :=
  ⟨h.same.trans ho h.keep.size, ⟨hk.os.trans h.keep.os, hk.tape.trans h.keep.tape, hk.output.trans h.keep.output, Nat.le_trans h.keep.size hk.size, fun k hk' _ => (hold k hk').trans (h.keep.block k hk' trivial)⟩,
    hk.get h.cfg (by rw [h.oc]; omega), by rw [ho _ (block_lt h.cfg)]; exact h.oc⟩

section
variable (own : Nat → Nat) (T : Nat) (w : World) (cl co ur an ch : Nat) (a : Option Addr) (n c : Nat) (lim : Nat → Nat → Int)

def NR1 (gb j : Nat) (W : World) : Prop := ∃ own' wb chb vi ib, NewMid own' T W gb wb chb vi (.slice none 0 0) (.pointer none) (.pointer none) an ch lim ib (fun _ => 0) j 0 ∧ NewWay own own' w W (cfgO cl co ur an ch (.slice a n c)) ∧ w.heap.size < gb ∧ (∀ b, vi.ownBlock = some b → w.heap.size < b)
def NR2 (gb k : Nat) (W : World) : Prop := ∃ own' wb chb vi va ib ab, NewMid own' T W gb wb chb vi va (.pointer none) (.pointer none) an ch lim ib ab cl k ∧ NewWay own own' w W (cfgO cl co ur an ch (.slice a n c)) ∧ w.heap.size < gb ∧ (∀ b, va.ownBlock = some b → w.heap.size < b)
def NR3 (gb : Nat) (W : World) : Prop := ∃ own' wb chb vi va ib ab lb0, NewMid own' T W gb wb chb vi va (.pointer (some ⟨lb0, 0, none⟩)) (.pointer none) an ch lim ib ab cl n ∧ NewWay own own' w W (cfgO cl co ur an ch (.slice a n c)) ∧ w.heap.size < gb ∧ LaneR own' (T + 1) W lb0 co 0 0 (fun _ => zeroPl)
def NR4 (gb : Nat) (W : World) : Prop := ∃ own' B, B.gb = gb ∧ PG own' T W B (newS cl an ch n lim (fun i => if i = 0 then co else ur)) 0 ∧ Same own own' w ∧ Keep (fun _ => True) w W

end

theorem new_box {own : Nat → Nat} {T : Nat} {w : World} {cl co ur an ch : Nat} {a : Option Addr} {n c : Nat} {lim : Nat → Nat → Int} (hT : 0 < T) (han : powB an = true) (hcl : cl ≤ 8) (gb j : Nat) (W : World) (m : Nat) (hj : j < cl) (hR : NR1 own T w cl co ur an ch a n c lim gb j W) (va : Option Addr) (cap : Nat) (hc : W.cell? ⟨gb, 0, none⟩ = some (.slice va j cap)) :
    Calls Tryz.prog 35 #[.int .i64 an] (W.drewN m) fun e w1 => ∃ lb, e = .returned (.pointer (some ⟨lb, 0, none⟩)) ∧ After1 w.heap.size an gb j cap va lb w1 (NR1 own T w cl co ur an ch a n c lim gb (j + 1)) := by
  obtain ⟨own', wb, chb, vi, ib, h, hw, hg, hfr⟩ := hR
  have c0 := cellAt (i := 0) h.gate rfl
  rw [hc] at c0
  obtain rfl : Value.slice va j cap = vi := by injection c0
  clear c0
  refine (newAnswers_abs an han (W.drewN m)).mono ?_
  rintro e w1 ⟨lb, sb, rfl, hb, p, q1, q2, q3, q4⟩
  have k1 : Keep (fun _ => True) W w1 := ((Keep.refl _ W).drewN m).trans (Keep.ofBelow hb)
  obtain ⟨m1, bx⟩ := h.boxed k1 p q1 q2
  obtain ⟨it, t1, t2, t3, t4⟩ := info_pbox
  obtain ⟨g3, cap3, w3, hrun, happ⟩ := ptr_append 76 83 it Tryz.underlying76 t1 t2 t3 t4 m1.irow (by omega) w1.heap.size
  obtain ⟨m3, kT⟩ := m1.pushI bx happ
  have kA : Keep (fun _ => True) w1 (w1.alloc (inboxO lb)) := (Keep.refl _ w1).alloc _
  have g1 := k1.get h.gate trivial
  have cf1 := k1.get hw.cfg trivial
  have cf2 := kA.get cf1 trivial
  have gne : ∀ b cs U f, (w1.alloc (inboxO lb)).heap[b]? = some (.cells cs U f) → U ≠ 83 → (Value.slice va j cap).ownBlock ≠ some b := fun b cs U f hb' hU e => by
    rcases m1.irow.2 with ⟨q, _⟩ | ⟨g', cap', cur, q, _, q1, _⟩
    · rw [q] at e; cases e
    · rw [q] at e; simp [Value.ownBlock] at e; subst e; exact block_ne q1 hb' (Ne.symm hU) rfl
  have g3' := happ.2.1.get m1.gate (gne _ _ _ _ m1.gate (by decide))
  have cf3 := happ.2.1.get cf2 (gne _ _ _ _ cf2 (by decide))
  refine ⟨lb, rfl, cellAt (i := 3) cf1 rfl, cellAt (i := 0) g1 rfl, g3, cap3, w3, ?_, cellAt (i := 3) cf3 rfl, cellAt (i := 0) g3' rfl, frozenAt g3', ?_⟩
  · intro ty
    have := hrun ty
    rw [World.size_alloc] at this
    exact this
  · have hszw := hw.keep.size
    have hszk := k1.size
    have hsa : (w1.alloc (inboxO lb)).heap.size = w1.heap.size + 1 := World.size_alloc _ _
    have hcl0 := block_lt hw.cfg
    refine ⟨_, wb, chb, _, _, m3, ?_, hg, fun b hb' => ?_⟩
    · have ho1 : Same own' (ext own' W.heap.size (T + 10 + j)) W := Same.ext _ _ _
      have w2 : NewWay own (ext own' W.heap.size (T + 10 + j)) w (w1.alloc (inboxO lb)) (cfgO cl co ur an ch (.slice a n c)) :=
        ⟨hw.same.trans ho1 hw.keep.size, (hw.keep.trans k1).trans kA, cf2, by rw [ho1 _ (block_lt hw.cfg)]; exact hw.oc⟩
      refine w2.next hT kT (Same.ext _ _ T) (fun b hb' => ?_)
      rw [Below.heap_setCell _ _ _ _ (by show b ≠ gb; omega)]
      exact happ.2.1.block b (by omega) (fun e => by have := hfr b e; omega)
    · simp [Value.ownBlock] at hb'
      subst hb'
      rcases happ.2.2 with e | e
      · exact hfr _ e
      · omega

theorem new_acc {own : Nat → Nat} {T : Nat} {w : World} {cl co ur an ch : Nat} {a : Option Addr} {n c : Nat} {lim : Nat → Nat → Int} (hT : 0 < T) (hn : n ≤ 4) (gb k : Nat) (W : World) (m : Nat) (hk : k < n) (hR : NR2 own T w cl co ur an ch a n c lim gb k W) (va : Option Addr) (cap : Nat) (hc : W.cell? ⟨gb, 1, none⟩ = some (.slice va k cap)) :
    Calls Tryz.prog 36 #[.agg #[.int .i64 (lim k 0), .int .i64 (lim k 1), .int .i64 (lim k 2), .int .i64 (lim k 3), .int .i64 (lim k 4), .int .i64 (lim k 5)]] ((W.alloc (limO (lim k))).drewN m) fun e w1 => ∃ xb, e = .returned (.pointer (some ⟨xb, 0, none⟩)) ∧ After2 W.heap.size (lim k) gb k cap va xb w1 (NR2 own T w cl co ur an ch a n c lim gb (k + 1)) := by
  obtain ⟨own', wb, chb, vi, va', ib, ab, h, hw, hg, hfr⟩ := hR
  have c0 := cellAt (i := 1) h.gate rfl
  rw [hc] at c0
  obtain rfl : Value.slice va k cap = va' := by injection c0
  clear c0
  have kA : Keep (fun _ => True) W ((W.alloc (limO (lim k))).drewN m) := ((Keep.refl _ W).alloc _).drewN m
  have lb0 : ((W.alloc (limO (lim k))).drewN m).heap[W.heap.size]? = some (limO (lim k)) := heap_alloc_new W _
  have hsz : ((W.alloc (limO (lim k))).drewN m).heap.size = W.heap.size + 1 := World.size_alloc _ _
  generalize (W.alloc (limO (lim k))).drewN m = W' at *
  refine (accNew (own := ext own' W.heap.size 0) (τ := T + 20 + k) W' (lim k)).mono ?_
  rintro e w1 ⟨xb, rfl, hacc, hb, hx⟩
  have k1 : Keep (fun _ => True) W' w1 := Keep.ofBelow hb
  have ho1 : Same own' (ext (ext own' W.heap.size 0) W'.heap.size (T + 20 + k)) W := (Same.ext own' W 0).trans (Same.ext _ W' _) kA.size
  have m1 := h.keep (kA.trans k1) (fun _ _ _ => trivial) ho1
  obtain ⟨it, t1, t2, t3, t4⟩ := info_pacc
  obtain ⟨g3, cap3, w3, hrun, happ⟩ := ptr_append 77 88 it Tryz.underlying77 t1 t2 t3 t4 m1.arow (by omega) xb
  obtain ⟨m3, kT⟩ := m1.pushA hacc happ
  have g1 := m1.gate
  have l1 := k1.get lb0 trivial
  have gne : ∀ b cs U f, w1.heap[b]? = some (.cells cs U f) → U ≠ 88 → (Value.slice va k cap).ownBlock ≠ some b := fun b cs U f hb' hU e => by
    rcases m1.arow.2 with ⟨q, _⟩ | ⟨g', cap', cur, q, _, q1, _⟩
    · rw [q] at e; cases e
    · rw [q] at e; simp [Value.ownBlock] at e; subst e; exact block_ne q1 hb' (Ne.symm hU) rfl
  have g3' := happ.2.1.get g1 (gne _ _ _ _ g1 (by decide))
  have l3 := happ.2.1.get l1 (gne _ _ _ _ l1 (by decide))
  have cf2 := (kA.trans k1).get hw.cfg trivial
  refine ⟨xb, rfl, ⟨cellAt (i := 0) l1 rfl, cellAt (i := 1) l1 rfl, cellAt (i := 2) l1 rfl, cellAt (i := 3) l1 rfl, cellAt (i := 4) l1 rfl, cellAt (i := 5) l1 rfl⟩, cellAt (i := 1) g1 rfl, g3, cap3, w3, hrun,
    ⟨cellAt (i := 0) l3 rfl, cellAt (i := 1) l3 rfl, cellAt (i := 2) l3 rfl, cellAt (i := 3) l3 rfl, cellAt (i := 4) l3 rfl, cellAt (i := 5) l3 rfl⟩, cellAt (i := 1) g3' rfl, frozenAt g3', ?_⟩
  have hszw := hw.keep.size
  have hszk := kA.size
  have hsz1 := k1.size
  have hcl0 := block_lt hw.cfg
  refine ⟨_, wb, chb, _, _, _, _, m3, ?_, hg, fun b hb' => ?_⟩
  · have w2 : NewWay own (ext (ext own' W.heap.size 0) W'.heap.size (T + 20 + k)) w w1 (cfgO cl co ur an ch (.slice a n c)) :=
      ⟨hw.same.trans ho1 hw.keep.size, (hw.keep.trans kA).trans k1, cf2, by rw [ho1 _ (block_lt hw.cfg)]; exact hw.oc⟩
    refine w2.next hT kT (Same.ext _ _ T) (fun b hb' => ?_)
    rw [Below.heap_setCell _ _ _ _ (by show b ≠ gb; omega)]
    exact happ.2.1.block b (by omega) (fun e => by have := hfr b e; omega)
  · simp [Value.ownBlock] at hb'
    subst hb'
    rcases happ.2.2 with e | e
    · exact hfr _ e
    · omega

theorem new_lane {own own' : Nat → Nat} {T : Nat} {w W : World} {cfg : Obj} {gb wb chb : Nat} {vi va l0 l1 : Value} {an ch : Nat} {lim : Nat → Nat → Int} {ib ab : Nat → Nat} {j k : Nat} (hT : 0 < T) (h : NewMid own' T W gb wb chb vi va l0 l1 an ch lim ib ab j k) (hw : NewWay own own' w W cfg) (hg : w.heap.size < gb)
    (i : Nat) (hi : i < 2) (s : Nat) (hs : powB s = true) (m : Nat) :
    Calls Tryz.prog 37 #[.int .i64 s] (W.drewN m) fun e w1 => ∃ lb, e = .returned (.pointer (some ⟨lb, 0, none⟩)) ∧ w1.heap[w.heap.size]? = some cfg ∧ w1.heap[gb]? = some (.cells #[vi, va, l0, l1, .pointer none, .int .i64 0, .pointer (some ⟨wb, 0, none⟩)] 82 (0, 0)) ∧
      ∃ own2, Same own' own2 W ∧ Keep (fun b => own' b ≠ T) W (w1.setCell ⟨gb, 2 + i, none⟩ (.pointer (some ⟨lb, 0, none⟩))) ∧
      NewMid own2 T (w1.setCell ⟨gb, 2 + i, none⟩ (.pointer (some ⟨lb, 0, none⟩))) gb wb chb vi va (if i = 0 then .pointer (some ⟨lb, 0, none⟩) else l0) (if i = 0 then l1 else .pointer (some ⟨lb, 0, none⟩)) an ch lim ib ab j k ∧
      NewWay own own2 w (w1.setCell ⟨gb, 2 + i, none⟩ (.pointer (some ⟨lb, 0, none⟩))) cfg ∧ LaneR own2 (T + 1 + i) (w1.setCell ⟨gb, 2 + i, none⟩ (.pointer (some ⟨lb, 0, none⟩))) lb s 0 0 (fun _ => zeroPl) := by
  refine (newLane_abs s hs (W.drewN m)).mono ?_
  rintro e w1 ⟨lb, sb, rfl, hb, p, q1, q2, q3, q4⟩
  have k1 : Keep (fun _ => True) W w1 := ((Keep.refl _ W).drewN m).trans (Keep.ofBelow hb)
  obtain ⟨m1, r1, kT⟩ := h.relane i hi k1 p q1 q2
  have hszw := hw.keep.size
  refine ⟨lb, rfl, k1.get hw.cfg trivial, k1.get h.gate trivial, _, Same.ext own' W (T + 1 + i), kT, m1, hw.next hT kT (Same.ext own' W (T + 1 + i)) (fun b hb' => ?_), r1⟩
  rw [Below.heap_setCell _ _ _ _ (by show b ≠ gb; omega)]
  exact k1.block b (by omega) trivial

theorem gNew_yes {own : Nat → Nat} {T : Nat} {w : World} (hT : 0 < T) (cl co ur an ch : Nat) (a : Option Addr) (n c : Nat) (lim : Nat → Nat → Int) (ha : AccAt w a n lim) (hm : mayB cl co ur an ch n lim = true) :
    Calls Tryz.prog 14 #[.agg #[.int .i64 cl, .int .i64 co, .int .i64 ur, .int .i64 an, .int .i64 ch, .slice a n c]] w fun e w' => ∃ gb, e = .returned (.tuple #[.pointer (some ⟨gb, 0, none⟩), .int .i64 0]) ∧ NR4 own T w cl co ur an ch n lim gb w' := by
  have hm' := hm
  simp only [mayB, inB, accB, Bool.and_eq_true, decide_eq_true_eq] at hm'
  obtain ⟨⟨⟨⟨⟨m1, m2⟩, m3⟩, m4⟩, m5⟩, m6, m7⟩ := hm'
  have hcl : 1 ≤ cl ∧ cl ≤ 8 := by omega
  have hn : 1 ≤ n ∧ n ≤ 4 := by omega
  have kC : Keep (fun _ => True) w (w.alloc (cfgO cl co ur an ch (.slice a n c))) := (Keep.refl _ w).alloc _
  have cC : (w.alloc (cfgO cl co ur an ch (.slice a n c))).heap[w.heap.size]? = some (cfgO cl co ur an ch (.slice a n c)) := heap_alloc_new w _
  refine new_walk cl co ur an ch a n c lim w (fun W => Keep (fun _ => True) (w.alloc (cfgO cl co ur an ch (.slice a n c))) W) (NR1 own T w cl co ur an ch a n c lim) (NR2 own T w cl co ur an ch a n c lim) (NR3 own T w cl co ur an ch a n c lim) (NR4 own T w cl co ur an ch n lim) hcl.2 hn.2 ?_ (fun W hW => hW.get cC trivial) (fun W hW => ?_) (fun gb j W hR => ?_)
    (fun gb j W m hj hR va cap hc => new_box hT m4 hcl.2 gb j W m hj hR va cap hc) (fun gb W hR => ?_) (fun gb k W hR => ?_) (fun gb k W m hk hR va cap hc => new_acc hT hn.2 gb k W m hk hR va cap hc) (fun gb W m hR => ?_) (fun gb W hR => ?_) (fun gb W m hR => ?_)
  · refine (mayBe_any cl co ur an ch a n c lim _ (ha.keep kC (fun _ _ => trivial))).mono ?_
    rintro e w1 ⟨rfl, hb⟩
    exact ⟨by rw [hm], Keep.ofBelow hb⟩
  · refine (watchNew_any ch W).mono ?_
    rintro e w2 ⟨wb, cb, rfl, hw1, hb, h1, h2, h3, h4⟩
    have k2 : Keep (fun _ => True) W w2 := Keep.ofBelow hb
    have k3 : Keep (fun _ => True) w2 (w2.alloc (gateO wb)) := (Keep.refl _ w2).alloc _
    have hc1 := hW.get cC trivial
    have hc2 := (k2.trans k3).get hc1 trivial
    have hl := block_lt hc1
    have hsz := k2.size
    refine ⟨wb, rfl, ext (ext own w.heap.size 0) W.heap.size T, wb, cb, .slice none 0 0, fun _ => 0, ⟨heap_alloc_new w2 _, hw1.keep k3 trivial trivial, ext_ge (by omega), ext_ge h1, ext_ge h2, World.ownsRow_nil _ _ _ _, World.ownsRow_nil _ _ _ _, fun b hb' => (by cases hb'), fun b hb' => (by cases hb'), fun c hc => by omega, fun a ha => by omega⟩,
      ⟨(Same.ext own w 0).trans (Same.ext _ W T) (kC.trans hW).size, (kC.trans hW).trans (k2.trans k3), hc2, by rw [ext_lt hl, ext_ge (Nat.le_refl _)]⟩, by omega, fun b hb' => (by cases hb')⟩
  · obtain ⟨own', wb, chb, vi, ib, h, hw, hg, hfr⟩ := hR
    obtain ⟨va, cap, hv⟩ := ownsRow_slice h.irow
    exact ⟨hw.cfg, by omega, va, cap, by rw [← hv]; exact cellAt (i := 0) h.gate rfl⟩
  · obtain ⟨own', wb, chb, vi, ib, h, hw, hg, hfr⟩ := hR
    exact ⟨own', wb, chb, vi, _, ib, _, h, hw, hg, fun b hb' => (by cases hb')⟩
  · obtain ⟨own', wb, chb, vi, va', ib, ab, h, hw, hg, hfr⟩ := hR
    obtain ⟨va, cap, hv⟩ := ownsRow_slice h.arow
    exact ⟨hw.cfg, by omega, ha.keep hw.keep (fun _ _ => trivial), block_lt h.gate, va, cap, by rw [← hv]; exact cellAt (i := 1) h.gate rfl⟩
  · obtain ⟨own', wb, chb, vi, va', ib, ab, h, hw, hg, hfr⟩ := hR
    refine (new_lane hT h hw hg 0 (by omega) co m2 m).mono ?_
    rintro e w1 ⟨lb, rfl, c1, g1, own2, s2, kT, m2', w2, r2⟩
    exact ⟨lb, rfl, cellAt (i := 1) c1 rfl, ⟨none, cellAt (i := 2) g1 rfl⟩, frozenAt g1, own2, wb, chb, vi, va', ib, ab, lb, m2', w2, hg, r2⟩
  · obtain ⟨own', wb, chb, vi, va', ib, ab, lb0, h, hw, hg, hl⟩ := hR
    exact cellAt (i := 2) hw.cfg rfl
  · obtain ⟨own', wb, chb, vi, va', ib, ab, lb0, h, hw, hg, hl⟩ := hR
    refine (new_lane hT h hw hg 1 (by omega) ur m3 m).mono ?_
    rintro e w1 ⟨lb, rfl, c1, g1, own2, s2, kT, m2', w2, r2⟩
    refine ⟨lb, rfl, cellAt (i := 2) c1 rfl, ⟨none, cellAt (i := 3) g1 rfl⟩, frozenAt g1, ?_⟩
    have r0 := hl.keep kT (fun b hb e => by omega) s2
    obtain ⟨B, hB, hP⟩ := NewMid.done (lb := fun i => if i = 0 then lb0 else lb) (n := fun i => if i = 0 then co else ur) (h := m2') (by omega) (by omega) (fun i hi => by
      rcases (show i = 0 ∨ i = 1 by omega) with rfl | rfl
      · exact r0
      · exact r2)
    exact ⟨own2, B, hB, hP, w2.same, w2.keep⟩

end Go.Proofs.YtjhifhoniimfgaaGreat

/-
  The errors of a client and a lane, by the document.
-/
namespace Go.Proofs.YtjhifhoniimfgaaGreat
open Go.RowKit

set_option maxHeartbeats 400000 in
theorem refuses_nil (client lane : Int) (w : World) :
    Calls Tryz.prog 52 #[.pointer none, .int .i64 client, .int .i64 lane] w fun e w' => e = .returned (.int .i64 1) ∧ w = w' := by
  go_enter Tryz.func52, Tryz.ntmps52
  go_wp2
  go_ret
  exact ⟨rfl, rfl⟩

set_option maxHeartbeats 400000 in
theorem refuses_any (gb : Nat) (cl client lane : Int) (cs : Array Value) (w : World) (hg : w.heap[gb]? = some (.cells cs 115 (0, 0))) (h0 : cs[0]? = some (.int .i64 cl)) :
    Calls Tryz.prog 52 #[.pointer (some ⟨gb, 0, none⟩), .int .i64 client, .int .i64 lane] w fun e w' => e = .returned (.int .i64 (refuse cl client lane)) ∧ w = w' := by
  have c0 : w.cell? ⟨gb, 0, none⟩ = some (.int .i64 cl) := cellAt (i := 0) hg h0
  clear hg h0
  by_cases h1 : client < 0
  · go_enter Tryz.func52, Tryz.ntmps52
    go_wp2
    go_ret
    exact ⟨by simp [refuse, h1], rfl⟩
  by_cases h2 : cl ≤ client
  · go_enter Tryz.func52, Tryz.ntmps52
    go_wp2
    go_ret
    exact ⟨by simp [refuse, h2], rfl⟩
  by_cases h3 : lane = 0
  · have hl : (lane != 0) = false := by simp [h3]
    have HL : Hid (lane = 0) := h3
    clear h3
    go_enter Tryz.func52, Tryz.ntmps52
    go_wp2
    go_ret
    exact ⟨by have := HL.out; rw [refuse, if_neg (by omega), if_pos (by omega)]; rfl, rfl⟩
  by_cases h4 : lane = 1
  · have hl : (lane != 0) = true := by simp [h4]
    have hl1 : (lane != 1) = false := by simp [h4]
    have HL : Hid (lane = 1) := h4
    clear h3 h4
    go_enter Tryz.func52, Tryz.ntmps52
    go_wp2
    go_ret
    exact ⟨by have := HL.out; rw [refuse, if_neg (by omega), if_pos (by omega)]; rfl, rfl⟩
  · have hl : (lane != 0) = true := by simp [h3]
    have hl1 : (lane != 1) = true := by simp [h4]
    have HL : Hid (¬ (lane = 0 ∨ lane = 1)) := by show ¬ _; omega
    clear h3 h4
    go_enter Tryz.func52, Tryz.ntmps52
    go_wp2
    go_ret
    exact ⟨by rw [refuse, if_neg (by omega), if_neg HL.out]; rfl, rfl⟩

end Go.Proofs.YtjhifhoniimfgaaGreat

