import Derived.Test.YtjhifhoniimfgaaG26
import Derived.Laws.BytesArg
/-
  A gate is made, in memory.
-/
namespace Go.Proofs.Ytjhifhoniimfgaa
open Go.RowKit

set_option maxHeartbeats 400000 in
theorem gNew_no (cl co ur an ch : Int) (a : Option Addr) (n c : Nat) (lim : Nat → Nat → Int) (w : World) (ha : AccAt w a n lim) (hm : mayB cl co ur an ch n lim = false) :
    Calls Try.prog 28 #[.agg #[.int .i64 cl, .int .i64 co, .int .i64 ur, .int .i64 an, .int .i64 ch, .slice a n c]] w
      fun e w' => e = .returned (.tuple #[.pointer none, .int .i64 2]) ∧ Below w.heap.size w w' := by
  have HA : Hid (AccAt (w.alloc (.cells #[.int .i64 cl, .int .i64 co, .int .i64 ur, .int .i64 an, .int .i64 ch, .slice a n c] 31)) a n lim) :=
    ha.below ((Below.refl _ _).alloc (Nat.le_refl _) _)
  clear ha
  go_enter Try.func28, Try.ntmps28
  go_wp2_with (go_at_call 43; refine (mayBe_any cl co ur an ch a n c lim _ HA.out).mono ?_; rintro e w' ⟨rfl, hb⟩; rw [hm])
  go_ret2
  exact ⟨rfl, ((Below.refl _ _).alloc (Nat.le_refl _) _).trans (hb.mono (by simp))⟩

theorem info_pbox : ∃ i, Try.prog.info? 91 = some i ∧ i.bytes = 8 ∧ i.size = 1 ∧ i.zero = some (.pointer none) := by
  have e : (Try.prog.info? 91).map (fun i => (i.bytes, i.size, i.zero)) = some (8, 1, some (.pointer none)) := by kernel_rfl
  obtain ⟨i, hi, he⟩ := Option.map_eq_some_iff.1 e
  simp only [Prod.mk.injEq] at he
  exact ⟨i, hi, he.1, he.2.1, he.2.2⟩

theorem info_pacc : ∃ i, Try.prog.info? 97 = some i ∧ i.bytes = 8 ∧ i.size = 1 ∧ i.zero = some (.pointer none) := by
  have e : (Try.prog.info? 97).map (fun i => (i.bytes, i.size, i.zero)) = some (8, 1, some (.pointer none)) := by kernel_rfl
  obtain ⟨i, hi, he⟩ := Option.map_eq_some_iff.1 e
  simp only [Prod.mk.injEq] at he
  exact ⟨i, hi, he.1, he.2.1, he.2.2⟩

theorem ownsRow_slice {w : World} {e : TypeId} {k : Nat} {v : Value} {n : Nat} {xs : List Value} (h : w.ownsRow 0 e k v n xs) : ∃ a cap, v = .slice a n cap := by
  rcases h.2 with ⟨rfl, q⟩ | ⟨g, cap, cur, rfl, _⟩
  · exact ⟨none, 0, by rw [q]⟩
  · exact ⟨_, cap, rfl⟩

/-- What stays all the while a gate is made in w: the config's box; nothing old turned. -/
structure NewWay (own own' : Nat → Nat) (w W : World) (cfg : Obj) : Prop where
  same : Same own own' w
  keep : Keep (fun _ => True) w W
  cfg : W.heap[w.heap.size]? = some cfg
  oc : own' w.heap.size = 0

theorem NewWay.next {own own1 own2 : Nat → Nat} {T : Nat} {w W W' : World} {cfg : Obj} (h : NewWay own own1 w W cfg) (hT : 0 < T) (hk : Keep (fun b => own1 b ≠ T) W W') (ho : Same own1 own2 W) (hold : ∀ b, b < w.heap.size → W'.heap[b]? = W.heap[b]?) : NewWay own own2 w W' cfg :=
  ⟨h.same.trans ho h.keep.size, ⟨hk.os.trans h.keep.os, hk.tape.trans h.keep.tape, hk.output.trans h.keep.output, Nat.le_trans h.keep.size hk.size, fun k hk' _ => (hold k hk').trans (h.keep.block k hk' trivial)⟩,
    hk.get h.cfg (by rw [h.oc]; omega), by rw [ho _ (block_lt h.cfg)]; exact h.oc⟩

section
variable (own : Nat → Nat) (T : Nat) (w : World) (cl co ur an ch : Nat) (a : Option Addr) (n c : Nat) (lim : Nat → Nat → Int)

def NR1 (gb j : Nat) (W : World) : Prop := ∃ own' wb chb vi ib, NewMid own' T W gb wb chb vi (.slice none 0 0) (.pointer none) (.pointer none) an ch lim ib (fun _ => 0) j 0 ∧ NewWay own own' w W (cfgO cl co ur an ch (.slice a n c)) ∧ w.heap.size < gb ∧ (∀ b, vi.ownBlock = some b → w.heap.size < b)
def NR2 (gb k : Nat) (W : World) : Prop := ∃ own' wb chb vi va ib ab, NewMid own' T W gb wb chb vi va (.pointer none) (.pointer none) an ch lim ib ab cl k ∧ NewWay own own' w W (cfgO cl co ur an ch (.slice a n c)) ∧ w.heap.size < gb ∧ (∀ b, va.ownBlock = some b → w.heap.size < b)
def NR3 (gb : Nat) (W : World) : Prop := ∃ own' wb chb vi va ib ab lb0, NewMid own' T W gb wb chb vi va (.pointer (some ⟨lb0, 0, none⟩)) (.pointer none) an ch lim ib ab cl n ∧ NewWay own own' w W (cfgO cl co ur an ch (.slice a n c)) ∧ w.heap.size < gb ∧ LaneR own' (T + 1) W lb0 co 0 0 (fun _ => zeroPl)
def NR4 (gb : Nat) (W : World) : Prop := ∃ own' B, B.gb = gb ∧ PG own' T W B (newS cl an ch n lim (fun i => if i = 0 then co else ur)) 0 ∧ Same own own' w ∧ Keep (fun _ => True) w W

end

theorem new_box {own : Nat → Nat} {T : Nat} {w : World} {cl co ur an ch : Nat} {a : Option Addr} {n c : Nat} {lim : Nat → Nat → Int} (hT : 0 < T) (han : powB an = true) (hcl : cl ≤ 8) (gb j : Nat) (W : World) (m : Nat) (hj : j < cl) (hR : NR1 own T w cl co ur an ch a n c lim gb j W) (va : Option Addr) (cap : Nat) (hc : W.cell? ⟨gb, 0, none⟩ = some (.slice va j cap)) :
    Calls Try.prog 45 #[.int .i64 an] (W.drewN m) fun e w1 => ∃ lb, e = .returned (.pointer (some ⟨lb, 0, none⟩)) ∧ After1 w.heap.size an gb j cap va lb w1 (NR1 own T w cl co ur an ch a n c lim gb (j + 1)) := by
  obtain ⟨own', wb, chb, vi, ib, h, hw, hg, hfr⟩ := hR
  have c0 := cellAt (i := 0) h.gate rfl
  rw [hc] at c0
  obtain rfl : Value.slice va j cap = vi := by injection c0
  clear c0
  refine (newAnswers_abs an han (W.drewN m)).mono ?_
  rintro e w1 ⟨lb, sb, rfl, hb, p, q1, q2, q3, q4⟩
  have k1 : Keep (fun _ => True) W w1 := ((Keep.refl _ W).drewN m).trans (Keep.ofBelow hb)
  obtain ⟨m1, bx⟩ := h.boxed k1 p q1 q2
  obtain ⟨it, t1, t2, t3, t4⟩ := info_pbox
  obtain ⟨g3, cap3, w3, hrun, happ⟩ := ptr_append 73 91 it Try.underlying73 t1 t2 t3 t4 m1.irow (by omega) w1.heap.size
  obtain ⟨m3, kT⟩ := m1.pushI bx happ
  have kA : Keep (fun _ => True) w1 (w1.alloc (inboxO lb)) := (Keep.refl _ w1).alloc _
  have g1 := k1.get h.gate trivial
  have cf1 := k1.get hw.cfg trivial
  have cf2 := kA.get cf1 trivial
  have gne : ∀ b cs U f, (w1.alloc (inboxO lb)).heap[b]? = some (.cells cs U f) → U ≠ 91 → (Value.slice va j cap).ownBlock ≠ some b := fun b cs U f hb' hU e => by
    rcases m1.irow.2 with ⟨q, _⟩ | ⟨g', cap', cur, q, _, q1, _⟩
    · rw [q] at e; cases e
    · rw [q] at e; simp [Value.ownBlock] at e; subst e; exact block_ne q1 hb' (Ne.symm hU) rfl
  have g3' := happ.2.1.get m1.gate (gne _ _ _ _ m1.gate (by decide))
  have cf3 := happ.2.1.get cf2 (gne _ _ _ _ cf2 (by decide))
  refine ⟨lb, rfl, cellAt (i := 3) cf1 rfl, cellAt (i := 0) g1 rfl, g3, cap3, w3, ?_, cellAt (i := 3) cf3 rfl, cellAt (i := 0) g3' rfl, frozenAt g3', ?_⟩
  · intro ty
    have := hrun ty
    rw [World.size_alloc] at this
    exact this
  · have hszw := hw.keep.size
    have hszk := k1.size
    have hsa : (w1.alloc (inboxO lb)).heap.size = w1.heap.size + 1 := World.size_alloc _ _
    have hcl0 := block_lt hw.cfg
    refine ⟨_, wb, chb, _, _, m3, ?_, hg, fun b hb' => ?_⟩
    · have ho1 : Same own' (ext own' W.heap.size (T + 10 + j)) W := Same.ext _ _ _
      have w2 : NewWay own (ext own' W.heap.size (T + 10 + j)) w (w1.alloc (inboxO lb)) (cfgO cl co ur an ch (.slice a n c)) :=
        ⟨hw.same.trans ho1 hw.keep.size, (hw.keep.trans k1).trans kA, cf2, by rw [ho1 _ (block_lt hw.cfg)]; exact hw.oc⟩
      refine w2.next hT kT (Same.ext _ _ T) (fun b hb' => ?_)
      rw [Below.heap_setCell _ _ _ _ (by show b ≠ gb; omega)]
      exact happ.2.1.block b (by omega) (fun e => by have := hfr b e; omega)
    · simp [Value.ownBlock] at hb'
      subst hb'
      rcases happ.2.2 with e | e
      · exact hfr _ e
      · omega

theorem new_acc {own : Nat → Nat} {T : Nat} {w : World} {cl co ur an ch : Nat} {a : Option Addr} {n c : Nat} {lim : Nat → Nat → Int} (hT : 0 < T) (hn : n ≤ 4) (gb k : Nat) (W : World) (m : Nat) (hk : k < n) (hR : NR2 own T w cl co ur an ch a n c lim gb k W) (va : Option Addr) (cap : Nat) (hc : W.cell? ⟨gb, 1, none⟩ = some (.slice va k cap)) :
    Calls Try.prog 46 #[.agg #[.int .i64 (lim k 0), .int .i64 (lim k 1), .int .i64 (lim k 2), .int .i64 (lim k 3), .int .i64 (lim k 4), .int .i64 (lim k 5)]] ((W.alloc (limO (lim k))).drewN m) fun e w1 => ∃ xb, e = .returned (.pointer (some ⟨xb, 0, none⟩)) ∧ After2 W.heap.size (lim k) gb k cap va xb w1 (NR2 own T w cl co ur an ch a n c lim gb (k + 1)) := by
  obtain ⟨own', wb, chb, vi, va', ib, ab, h, hw, hg, hfr⟩ := hR
  have c0 := cellAt (i := 1) h.gate rfl
  rw [hc] at c0
  obtain rfl : Value.slice va k cap = va' := by injection c0
  clear c0
  have kA : Keep (fun _ => True) W ((W.alloc (limO (lim k))).drewN m) := ((Keep.refl _ W).alloc _).drewN m
  have lb0 : ((W.alloc (limO (lim k))).drewN m).heap[W.heap.size]? = some (limO (lim k)) := heap_alloc_new W _
  have hsz : ((W.alloc (limO (lim k))).drewN m).heap.size = W.heap.size + 1 := World.size_alloc _ _
  generalize (W.alloc (limO (lim k))).drewN m = W' at *
  refine (accNew (own := ext own' W.heap.size 0) (τ := T + 20 + k) W' (lim k)).mono ?_
  rintro e w1 ⟨xb, rfl, hacc, hb, hx⟩
  have k1 : Keep (fun _ => True) W' w1 := Keep.ofBelow hb
  have ho1 : Same own' (ext (ext own' W.heap.size 0) W'.heap.size (T + 20 + k)) W := (Same.ext own' W 0).trans (Same.ext _ W' _) kA.size
  have m1 := h.keep (kA.trans k1) (fun _ _ _ => trivial) ho1
  obtain ⟨it, t1, t2, t3, t4⟩ := info_pacc
  obtain ⟨g3, cap3, w3, hrun, happ⟩ := ptr_append 74 97 it Try.underlying74 t1 t2 t3 t4 m1.arow (by omega) xb
  obtain ⟨m3, kT⟩ := m1.pushA hacc happ
  have g1 := m1.gate
  have l1 := k1.get lb0 trivial
  have gne : ∀ b cs U f, w1.heap[b]? = some (.cells cs U f) → U ≠ 97 → (Value.slice va k cap).ownBlock ≠ some b := fun b cs U f hb' hU e => by
    rcases m1.arow.2 with ⟨q, _⟩ | ⟨g', cap', cur, q, _, q1, _⟩
    · rw [q] at e; cases e
    · rw [q] at e; simp [Value.ownBlock] at e; subst e; exact block_ne q1 hb' (Ne.symm hU) rfl
  have g3' := happ.2.1.get g1 (gne _ _ _ _ g1 (by decide))
  have l3 := happ.2.1.get l1 (gne _ _ _ _ l1 (by decide))
  have cf2 := (kA.trans k1).get hw.cfg trivial
  refine ⟨xb, rfl, ⟨cellAt (i := 0) l1 rfl, cellAt (i := 1) l1 rfl, cellAt (i := 2) l1 rfl, cellAt (i := 3) l1 rfl, cellAt (i := 4) l1 rfl, cellAt (i := 5) l1 rfl⟩, cellAt (i := 1) g1 rfl, g3, cap3, w3, hrun,
    ⟨cellAt (i := 0) l3 rfl, cellAt (i := 1) l3 rfl, cellAt (i := 2) l3 rfl, cellAt (i := 3) l3 rfl, cellAt (i := 4) l3 rfl, cellAt (i := 5) l3 rfl⟩, cellAt (i := 1) g3' rfl, frozenAt g3', ?_⟩
  have hszw := hw.keep.size
  have hszk := kA.size
  have hsz1 := k1.size
  have hcl0 := block_lt hw.cfg
  refine ⟨_, wb, chb, _, _, _, _, m3, ?_, hg, fun b hb' => ?_⟩
  · have w2 : NewWay own (ext (ext own' W.heap.size 0) W'.heap.size (T + 20 + k)) w w1 (cfgO cl co ur an ch (.slice a n c)) :=
      ⟨hw.same.trans ho1 hw.keep.size, (hw.keep.trans kA).trans k1, cf2, by rw [ho1 _ (block_lt hw.cfg)]; exact hw.oc⟩
    refine w2.next hT kT (Same.ext _ _ T) (fun b hb' => ?_)
    rw [Below.heap_setCell _ _ _ _ (by show b ≠ gb; omega)]
    exact happ.2.1.block b (by omega) (fun e => by have := hfr b e; omega)
  · simp [Value.ownBlock] at hb'
    subst hb'
    rcases happ.2.2 with e | e
    · exact hfr _ e
    · omega

theorem new_lane {own own' : Nat → Nat} {T : Nat} {w W : World} {cfg : Obj} {gb wb chb : Nat} {vi va l0 l1 : Value} {an ch : Nat} {lim : Nat → Nat → Int} {ib ab : Nat → Nat} {j k : Nat} (hT : 0 < T) (h : NewMid own' T W gb wb chb vi va l0 l1 an ch lim ib ab j k) (hw : NewWay own own' w W cfg) (hg : w.heap.size < gb)
    (i : Nat) (hi : i < 2) (s : Nat) (hs : powB s = true) (m : Nat) :
    Calls Try.prog 47 #[.int .i64 s] (W.drewN m) fun e w1 => ∃ lb, e = .returned (.pointer (some ⟨lb, 0, none⟩)) ∧ w1.heap[w.heap.size]? = some cfg ∧ w1.heap[gb]? = some (.cells #[vi, va, l0, l1, .pointer none, .int .i64 0, .pointer (some ⟨wb, 0, none⟩)] 80 (0, 0)) ∧
      ∃ own2, Same own' own2 W ∧ Keep (fun b => own' b ≠ T) W (w1.setCell ⟨gb, 2 + i, none⟩ (.pointer (some ⟨lb, 0, none⟩))) ∧
      NewMid own2 T (w1.setCell ⟨gb, 2 + i, none⟩ (.pointer (some ⟨lb, 0, none⟩))) gb wb chb vi va (if i = 0 then .pointer (some ⟨lb, 0, none⟩) else l0) (if i = 0 then l1 else .pointer (some ⟨lb, 0, none⟩)) an ch lim ib ab j k ∧
      NewWay own own2 w (w1.setCell ⟨gb, 2 + i, none⟩ (.pointer (some ⟨lb, 0, none⟩))) cfg ∧ LaneR own2 (T + 1 + i) (w1.setCell ⟨gb, 2 + i, none⟩ (.pointer (some ⟨lb, 0, none⟩))) lb s 0 0 (fun _ => zeroPl) := by
  refine (newLane_abs s hs (W.drewN m)).mono ?_
  rintro e w1 ⟨lb, sb, rfl, hb, p, q1, q2, q3, q4⟩
  have k1 : Keep (fun _ => True) W w1 := ((Keep.refl _ W).drewN m).trans (Keep.ofBelow hb)
  obtain ⟨m1, r1, kT⟩ := h.relane i hi k1 p q1 q2
  have hszw := hw.keep.size
  refine ⟨lb, rfl, k1.get hw.cfg trivial, k1.get h.gate trivial, _, Same.ext own' W (T + 1 + i), kT, m1, hw.next hT kT (Same.ext own' W (T + 1 + i)) (fun b hb' => ?_), r1⟩
  rw [Below.heap_setCell _ _ _ _ (by show b ≠ gb; omega)]
  exact k1.block b (by omega) trivial

theorem gNew_yes {own : Nat → Nat} {T : Nat} {w : World} (hT : 0 < T) (cl co ur an ch : Nat) (a : Option Addr) (n c : Nat) (lim : Nat → Nat → Int) (ha : AccAt w a n lim) (hm : mayB cl co ur an ch n lim = true) :
    Calls Try.prog 28 #[.agg #[.int .i64 cl, .int .i64 co, .int .i64 ur, .int .i64 an, .int .i64 ch, .slice a n c]] w fun e w' => ∃ gb, e = .returned (.tuple #[.pointer (some ⟨gb, 0, none⟩), .int .i64 0]) ∧ NR4 own T w cl co ur an ch n lim gb w' := by
  have hm' := hm
  simp only [mayB, inB, accB, Bool.and_eq_true, decide_eq_true_eq] at hm'
  obtain ⟨⟨⟨⟨⟨m1, m2⟩, m3⟩, m4⟩, m5⟩, m6, m7⟩ := hm'
  have hcl : 1 ≤ cl ∧ cl ≤ 8 := by omega
  have hn : 1 ≤ n ∧ n ≤ 4 := by omega
  have kC : Keep (fun _ => True) w (w.alloc (cfgO cl co ur an ch (.slice a n c))) := (Keep.refl _ w).alloc _
  have cC : (w.alloc (cfgO cl co ur an ch (.slice a n c))).heap[w.heap.size]? = some (cfgO cl co ur an ch (.slice a n c)) := heap_alloc_new w _
  refine new_walk cl co ur an ch a n c lim w (fun W => Keep (fun _ => True) (w.alloc (cfgO cl co ur an ch (.slice a n c))) W) (NR1 own T w cl co ur an ch a n c lim) (NR2 own T w cl co ur an ch a n c lim) (NR3 own T w cl co ur an ch a n c lim) (NR4 own T w cl co ur an ch n lim) hcl.2 hn.2 ?_ (fun W hW => hW.get cC trivial) (fun W hW => ?_) (fun gb j W hR => ?_)
    (fun gb j W m hj hR va cap hc => new_box hT m4 hcl.2 gb j W m hj hR va cap hc) (fun gb W hR => ?_) (fun gb k W hR => ?_) (fun gb k W m hk hR va cap hc => new_acc hT hn.2 gb k W m hk hR va cap hc) (fun gb W m hR => ?_) (fun gb W hR => ?_) (fun gb W m hR => ?_)
  · refine (mayBe_any cl co ur an ch a n c lim _ (ha.keep kC (fun _ _ => trivial))).mono ?_
    rintro e w1 ⟨rfl, hb⟩
    exact ⟨by rw [hm], Keep.ofBelow hb⟩
  · refine (watchNew_any ch W).mono ?_
    rintro e w2 ⟨wb, cb, rfl, hw1, hb, h1, h2, h3, h4⟩
    have k2 : Keep (fun _ => True) W w2 := Keep.ofBelow hb
    have k3 : Keep (fun _ => True) w2 (w2.alloc (gateO wb)) := (Keep.refl _ w2).alloc _
    have hc1 := hW.get cC trivial
    have hc2 := (k2.trans k3).get hc1 trivial
    have hl := block_lt hc1
    have hsz := k2.size
    refine ⟨wb, rfl, ext (ext own w.heap.size 0) W.heap.size T, wb, cb, .slice none 0 0, fun _ => 0, ⟨heap_alloc_new w2 _, hw1.keep k3 trivial trivial, ext_ge (by omega), ext_ge h1, ext_ge h2, World.ownsRow_nil _ _ _ _, World.ownsRow_nil _ _ _ _, fun b hb' => (by cases hb'), fun b hb' => (by cases hb'), fun c hc => by omega, fun a ha => by omega⟩,
      ⟨(Same.ext own w 0).trans (Same.ext _ W T) (kC.trans hW).size, (kC.trans hW).trans (k2.trans k3), hc2, by rw [ext_lt hl, ext_ge (Nat.le_refl _)]⟩, by omega, fun b hb' => (by cases hb')⟩
  · obtain ⟨own', wb, chb, vi, ib, h, hw, hg, hfr⟩ := hR
    obtain ⟨va, cap, hv⟩ := ownsRow_slice h.irow
    exact ⟨hw.cfg, by omega, va, cap, by rw [← hv]; exact cellAt (i := 0) h.gate rfl⟩
  · obtain ⟨own', wb, chb, vi, ib, h, hw, hg, hfr⟩ := hR
    exact ⟨own', wb, chb, vi, _, ib, _, h, hw, hg, fun b hb' => (by cases hb')⟩
  · obtain ⟨own', wb, chb, vi, va', ib, ab, h, hw, hg, hfr⟩ := hR
    obtain ⟨va, cap, hv⟩ := ownsRow_slice h.arow
    exact ⟨hw.cfg, by omega, ha.keep hw.keep (fun _ _ => trivial), block_lt h.gate, va, cap, by rw [← hv]; exact cellAt (i := 1) h.gate rfl⟩
  · obtain ⟨own', wb, chb, vi, va', ib, ab, h, hw, hg, hfr⟩ := hR
    refine (new_lane hT h hw hg 0 (by omega) co m2 m).mono ?_
    rintro e w1 ⟨lb, rfl, c1, g1, own2, s2, kT, m2', w2, r2⟩
    exact ⟨lb, rfl, cellAt (i := 1) c1 rfl, ⟨none, cellAt (i := 2) g1 rfl⟩, frozenAt g1, own2, wb, chb, vi, va', ib, ab, lb, m2', w2, hg, r2⟩
  · obtain ⟨own', wb, chb, vi, va', ib, ab, lb0, h, hw, hg, hl⟩ := hR
    exact cellAt (i := 2) hw.cfg rfl
  · obtain ⟨own', wb, chb, vi, va', ib, ab, lb0, h, hw, hg, hl⟩ := hR
    refine (new_lane hT h hw hg 1 (by omega) ur m3 m).mono ?_
    rintro e w1 ⟨lb, rfl, c1, g1, own2, s2, kT, m2', w2, r2⟩
    refine ⟨lb, rfl, cellAt (i := 2) c1 rfl, ⟨none, cellAt (i := 3) g1 rfl⟩, frozenAt g1, ?_⟩
    have r0 := hl.keep kT (fun b hb e => by omega) s2
    obtain ⟨B, hB, hP⟩ := NewMid.done (lb := fun i => if i = 0 then lb0 else lb) (n := fun i => if i = 0 then co else ur) (h := m2') (by omega) (by omega) (fun i hi => by
      rcases (show i = 0 ∨ i = 1 by omega) with rfl | rfl
      · exact r0
      · exact r2)
    exact ⟨own2, B, hB, hP, w2.same, w2.keep⟩

end Go.Proofs.Ytjhifhoniimfgaa

/-
  Numbers in bytes, and frames: as they are made for a game.
-/
namespace Go.Proofs.Ytjhifhoniimfgaa
open Go.RowKit

theorem hideE {p : Prop} (h : p) : Hid p := h

/-- Which of n things the raw number c speaks of. -/
def pickN (c : Int) (n : Nat) : Nat := ((if c < 0 then -(c + 1) else c) % (n : Int)).toNat

theorem pickN_lt (c : Int) (n : Nat) (h : 0 < n) : pickN c n < n := by
  unfold pickN
  have h1 := Int.emod_nonneg (if c < 0 then -(c + 1) else c) (show (n : Int) ≠ 0 by omega)
  have h2 := Int.emod_lt_of_pos (if c < 0 then -(c + 1) else c) (show (0 : Int) < n by omega)
  omega

theorem pickN_cast (c : Int) (n : Nat) (h : 0 < n) : (pickN c n : Int) = (if c < 0 then -(c + 1) else c) % (n : Int) := by
  unfold pickN
  have h1 := Int.emod_nonneg (if c < 0 then -(c + 1) else c) (show (n : Int) ≠ 0 by omega)
  omega

set_option maxHeartbeats 400000 in
theorem pick_any (c : Int) (n : Nat) (w : World) (h : 0 < n) (hn : n ≤ 9223372036854775807) (hc1 : -9223372036854775808 ≤ c) (hc2 : c ≤ 9223372036854775807) :
    Calls Try.prog 18 #[.int .i64 c, .int .i64 n] w fun e w' => e = .returned (.int .i64 (pickN c n)) ∧ w = w' := by
  have hp := pickN_cast c n h
  have hn0 : ((n : Int) == 0) = false := by simp; omega
  have hn1 : 1 ≤ (n : Int) := by omega
  by_cases h0 : c < 0
  · rw [if_pos h0] at hp
    have HP : Hid ((pickN c n : Int) = (-(c + 1)) % (n : Int)) := hp
    clear hp
    go_enter Try.func18, Try.ntmps18
    go_wp2
    go_ret
    exact ⟨by rw [HP.out, ← Int.tmod_eq_emod_of_nonneg (by omega), Int.neg_tmod]; rfl, rfl⟩
  · rw [if_neg h0] at hp
    have HP : Hid ((pickN c n : Int) = c % (n : Int)) := hp
    clear hp
    go_enter Try.func18, Try.ntmps18
    go_wp2
    go_ret
    exact ⟨by rw [HP.out]; rfl, rfl⟩

theorem make_bytes (n : Nat) (h : n ≤ 24) (w : World) :
    (Instr.makeSlice 121 (.int .i64 n) (.int .i64 n)).run Try.prog w = .ok (.slice (some ⟨w.heap.size, 0, none⟩) n n) (w.alloc (.cells (madeCells #[.int .u8 0] n) 5)) := by
  have e : (Try.prog.info? 5).map (fun i => (i.bytes, i.size, i.zero)) = some (1, 1, some (.int .u8 0)) := by kernel_rfl
  obtain ⟨i, hi, he⟩ := Option.map_eq_some_iff.1 e
  simp only [Prod.mk.injEq] at he
  obtain ⟨hb, hs, hz⟩ := he
  have := run_make (P := Try.prog) w 121 5 i _ Try.underlying121 hi hz .i64 .i64 (n : Int) (n : Int) (by omega) (by omega) (by rw [hb]; omega) (by omega)
  rw [this]
  simp [hs, Value.cells]

/-- Block L holds these bytes. -/
def BytesAt (w : World) (L : Nat) (xs : List Int) : Prop := w.heap[L]? = some (.cells (xs.map (Value.int .u8)).toArray 5 (0, 0))

theorem BytesAt.cell {w : World} {L : Nat} {xs : List Int} (h : BytesAt w L xs) (i : Nat) (hi : i < xs.length) : w.cell? ⟨L, i, none⟩ = some (.int .u8 (xs.getD i 0)) := by
  refine cellAt h ?_
  simp [List.getD, List.getElem?_eq_getElem hi]

theorem BytesAt.set {w : World} {L : Nat} {xs : List Int} (h : BytesAt w L xs) (i : Nat) (y : Int) : BytesAt (w.setCell ⟨L, i, none⟩ (.int .u8 y)) L (xs.set i y) := by
  show _ = _
  rw [heap_setCell_at _ h]
  simp

theorem bytes_made (n : Nat) : madeCells #[.int .u8 0] n = ((List.replicate n (0 : Int)).map (Value.int .u8)).toArray := by
  refine Array.ext (by simp [madeCells]) fun i h1 h2 => ?_
  simp [madeCells, Nat.mod_one]

/-- The bytes of a number, from the last to the first. -/
def finB : Int → List Int → Nat → List Int
  | _, xs, 0 => xs
  | y, xs, j + 1 => finB (y / 256) (xs.set j (y % 256)) j

theorem finB_len : ∀ (j : Nat) (y : Int) (xs : List Int), (finB y xs j).length = xs.length
  | 0, _, _ => rfl
  | j + 1, y, xs => by rw [finB, finB_len j]; simp

set_option maxHeartbeats 1000000 in
theorem bytes_any (n : Int) (many : Nat) (h : many ≤ 24) (w : World) :
    Calls Try.prog 38 #[.int .i64 n, .int .i64 many] w fun e w' => e = .returned (.string (strOfNums (finB n (List.replicate many 0) many))) ∧ Below w.heap.size w w' := by
  have hmk := make_bytes many h
  rw [bytes_made] at hmk
  have B0 : Hid (BytesAt (w.alloc (.cells ((List.replicate many (0 : Int)).map (Value.int .u8)).toArray 5)) w.heap.size (List.replicate many 0)) := heap_alloc_new w _
  generalize hxs : List.replicate many (0 : Int) = xs0 at *
  have hlen : xs0.length = many := by rw [← hxs]; simp
  have HLEN : Hid (xs0.length = many) := hlen
  obtain ⟨F, hF⟩ : ∃ F, F = finB n xs0 many := ⟨_, rfl⟩
  have HF := hideE hF
  rw [← hF]
  clear hF
  generalize hcs : (xs0.map (Value.int .u8)).toArray = cs0 at *
  clear hxs hlen hcs
  go_enter Try.func38, Try.ntmps38
  go_wp2
  clear hmk
  go_loopw [0, 6] (fun nv i wr => ∃ (y : Int) (xs : List Int), nv = .int .i64 y ∧ xs.length = many ∧ BytesAt wr w.heap.size xs ∧ Below w.heap.size w wr ∧ ((i = .int .i64 (-1) ∧ finB y xs 0 = F) ∨ ∃ j : Nat, j < many ∧ i = .int .i64 j ∧ finB y xs (j + 1) = F)) (fun _ i _ => (intOf i + 1).toNat)
  case atStart =>
    refine ⟨n, xs0, rfl, HLEN.out, B0.out, (Below.refl _ _).alloc (Nat.le_refl _) _, ?_⟩
    by_cases hm : many = 0
    · left; rw [hm]; exact ⟨rfl, by rw [HF.out, hm]⟩
    · right; exact ⟨many - 1, by omega, by congr 1; omega, by rw [HF.out, show many - 1 + 1 = many by omega]⟩
  case round =>
    obtain ⟨y, xs, rfl, hxl, hby, hbl, hi⟩ := hrel
    have HX : Hid (xs.length = many) := hxl
    have HBY : Hid (BytesAt wr w.heap.size xs) := hby
    clear hxl hby
    rcases hi with ⟨rfl, hfin⟩ | ⟨j, hj, rfl, hfin⟩
    · have hcv := run_convert_bytes_arg (P := Try.prog) wr 121 5 Try.underlying121 Try.underlying5 w.heap.size 0 many many xs HX.out (fun i hi => by rw [Nat.zero_add]; exact HBY.out.cell i (by rw [HX.out]; exact hi)) 9 Try.underlying9
      have HFIN := hideE hfin
      clear hfin
      go_wp2
      go_ret
      exact ⟨by rw [← HFIN.out]; rfl, hbl⟩
    · have hc := HBY.out.cell j (by rw [HX.out]; exact hj)
      have hz : wr.frozen? ⟨w.heap.size, j, none⟩ = false := frozenAt HBY.out
      have hj' : (j : Int) < (many : Int) := by omega
      have HFIN := hideE hfin
      clear hfin
      go_wp2
      go_roundw
      case rel =>
        refine ⟨_, xs.set j (y % 256), rfl, by rw [List.length_set]; exact HX.out, HBY.out.set j _, hbl.setCell (p := ⟨w.heap.size, j, none⟩) (Nat.le_refl _) _, ?_⟩
        by_cases e : j = 0
        · left; subst e; exact ⟨rfl, HFIN.out⟩
        · right
          refine ⟨j - 1, by omega, by congr 1; omega, ?_⟩
          rw [show j - 1 + 1 = j by omega]
          exact HFIN.out
      case measure => simp [intOf]

/-- A frame of an order. -/
def orderB (a sd num p q l : Int) : ByteArray :=
  ((((((((⟨#[1]⟩ : ByteArray) ++ strOfNums (finB a (List.replicate 1 0) 1)) ++ strOfNums (finB sd (List.replicate 1 0) 1)) ++ (⟨#[0]⟩ : ByteArray)) ++ strOfNums (finB num (List.replicate 4 0) 4)) ++ strOfNums (finB p (List.replicate 8 0) 8)) ++ strOfNums (finB q (List.replicate 8 0) 8)) ++ strOfNums (finB l (List.replicate 8 0) 8))

set_option maxHeartbeats 1000000 in
theorem order_any (a sd num p q l : Int) (w : World) :
    Calls Try.prog 29 #[.int .i64 a, .int .i64 sd, .int .i64 num, .int .i64 p, .int .i64 q, .int .i64 l] w fun r w' => r = .returned (.string (orderB a sd num p q l)) ∧ Below w.heap.size w w' := by
  have h0 := fun w => bytes_any a 1 (by omega) w
  have h1 := fun w => bytes_any sd 1 (by omega) w
  have h2 := fun w => bytes_any num 4 (by omega) w
  have h3 := fun w => bytes_any p 8 (by omega) w
  have h4 := fun w => bytes_any q 8 (by omega) w
  have h5 := fun w => bytes_any l 8 (by omega) w
  have z0 : (strOfNums (finB a (List.replicate 1 0) 1)).size = 1 := by rw [strOfNums_size, finB_len]; simp
  have z1 : (strOfNums (finB sd (List.replicate 1 0) 1)).size = 1 := by rw [strOfNums_size, finB_len]; simp
  have z2 : (strOfNums (finB num (List.replicate 4 0) 4)).size = 4 := by rw [strOfNums_size, finB_len]; simp
  have z3 : (strOfNums (finB p (List.replicate 8 0) 8)).size = 8 := by rw [strOfNums_size, finB_len]; simp
  have z4 : (strOfNums (finB q (List.replicate 8 0) 8)).size = 8 := by rw [strOfNums_size, finB_len]; simp
  have z5 : (strOfNums (finB l (List.replicate 8 0) 8)).size = 8 := by rw [strOfNums_size, finB_len]; simp
  unfold orderB
  generalize strOfNums (finB a (List.replicate 1 0) 1) = s0 at *
  generalize strOfNums (finB sd (List.replicate 1 0) 1) = s1 at *
  generalize strOfNums (finB num (List.replicate 4 0) 4) = s2 at *
  generalize strOfNums (finB p (List.replicate 8 0) 8) = s3 at *
  generalize strOfNums (finB q (List.replicate 8 0) 8) = s4 at *
  generalize strOfNums (finB l (List.replicate 8 0) 8) = s5 at *
  go_enter Try.func29, Try.ntmps29
  go_wp2_with fail
  refine (h0 _).mono ?_
  rintro r w0 ⟨rfl, b0⟩
  go_wp2_with fail
  refine (h1 _).mono ?_
  rintro r w1 ⟨rfl, b1⟩
  go_wp2_with fail
  refine (h2 _).mono ?_
  rintro r w2 ⟨rfl, b2⟩
  go_wp2_with fail
  refine (h3 _).mono ?_
  rintro r w3 ⟨rfl, b3⟩
  go_wp2_with fail
  refine (h4 _).mono ?_
  rintro r w4 ⟨rfl, b4⟩
  go_wp2_with fail
  refine (h5 _).mono ?_
  rintro r w5 ⟨rfl, b5⟩
  go_wp2_with fail
  go_ret
  have l0 := b0.size
  have l1 := b1.size
  have l2 := b2.size
  have l3 := b3.size
  have l4 := b4.size
  have l5 := b5.size
  exact ⟨rfl, (((((b0.trans (b1.mono (by omega))).trans (b2.mono (by omega))).trans (b3.mono (by omega))).trans (b4.mono (by omega))).trans (b5.mono (by omega)))⟩

/-- A frame of another kind. -/
def otherB (k a num : Int) : ByteArray :=
  ((((strOfNums (finB k (List.replicate 1 0) 1) ++ strOfNums (finB a (List.replicate 1 0) 1)) ++ (⟨#[0, 0]⟩ : ByteArray)) ++ strOfNums (finB num (List.replicate 4 0) 4)) ++ strOfNums (finB 0 (List.replicate 24 0) 24))

set_option maxHeartbeats 1000000 in
theorem other_any (k a num : Int) (w : World) :
    Calls Try.prog 20 #[.int .i64 k, .int .i64 a, .int .i64 num] w fun r w' => r = .returned (.string (otherB k a num)) ∧ Below w.heap.size w w' := by
  have h0 := fun w => bytes_any k 1 (by omega) w
  have h1 := fun w => bytes_any a 1 (by omega) w
  have h2 := fun w => bytes_any num 4 (by omega) w
  have h3 := fun w => bytes_any 0 24 (by omega) w
  have z0 : (strOfNums (finB k (List.replicate 1 0) 1)).size = 1 := by rw [strOfNums_size, finB_len]; simp
  have z1 : (strOfNums (finB a (List.replicate 1 0) 1)).size = 1 := by rw [strOfNums_size, finB_len]; simp
  have z2 : (strOfNums (finB num (List.replicate 4 0) 4)).size = 4 := by rw [strOfNums_size, finB_len]; simp
  have z3 : (strOfNums (finB 0 (List.replicate 24 0) 24)).size = 24 := by rw [strOfNums_size, finB_len]; simp
  unfold otherB
  generalize strOfNums (finB k (List.replicate 1 0) 1) = s0 at *
  generalize strOfNums (finB a (List.replicate 1 0) 1) = s1 at *
  generalize strOfNums (finB num (List.replicate 4 0) 4) = s2 at *
  generalize strOfNums (finB 0 (List.replicate 24 0) 24) = s3 at *
  go_enter Try.func20, Try.ntmps20
  go_wp2_with fail
  refine (h0 _).mono ?_
  rintro r w0 ⟨rfl, b0⟩
  go_wp2_with fail
  refine (h1 _).mono ?_
  rintro r w1 ⟨rfl, b1⟩
  go_wp2_with fail
  refine (h2 _).mono ?_
  rintro r w2 ⟨rfl, b2⟩
  go_wp2_with fail
  refine (h3 _).mono ?_
  rintro r w3 ⟨rfl, b3⟩
  go_wp2_with fail
  go_ret
  have l0 := b0.size
  have l1 := b1.size
  have l2 := b2.size
  have l3 := b3.size
  exact ⟨rfl, (((b0.trans (b1.mono (by omega))).trans (b2.mono (by omega))).trans (b3.mono (by omega)))⟩

end Go.Proofs.Ytjhifhoniimfgaa

