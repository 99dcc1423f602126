import Derived.Test.YtjhifhoniimfgaaG20
/-
  The core does a frame of the urgent lane, on a gate in memory.
-/
namespace Go.Proofs.Ytjhifhoniimfgaa
open Go.RowKit

/-- Behind what a frame says: the gate in its next state; what was taken lies where it lay; of the gate only accounts turned. -/
def Aft (own : Nat → Nat) (T : Nat) (w : World) (B : GB) (s' : St) (N : Nat) (place c : Int) (fr : ByteArray) (W : World) : Prop :=
  ∃ own' hb, PG own' T W { B with hb := hb } s' N ∧ Same own own' w ∧ own' w.heap.size = 0 ∧ w.heap.size < W.heap.size ∧ Keep (AccOut own T) w W ∧ W.heap[w.heap.size]? = some (takO place c fr)

theorem gAft {own : Nat → Nat} {T : Nat} {w : World} {B : GB} {s : St} {N : Nat} (h : PG own T w B s N) (hk : Ok s N) (hN : N < 1000000000000000) (hS : Sz s) (hT : 0 < T) (i : Nat) (hi : i < 2) (place c : Int) (fr : ByteArray) (n : Nat) :
    Calls Try.prog 63 #[.pointer (some ⟨B.gb, 0, none⟩), .int .i64 i, .agg #[.int .i64 place, .int .i64 c, .string fr]] ((w.alloc (takO place c fr)).drewN n) fun e w' =>
      e = .returned (.agg #[.int .i64 place, .int .i64 (doesS s i fr).1]) ∧ Aft own T w B (doesS s i fr).2 (N + 1) place c fr w' := by
  have k0 : Keep (fun _ => True) w ((w.alloc (takO place c fr)).drewN n) := ((Keep.refl _ w).alloc _).drewN n
  have hP : PG (ext own w.heap.size 0) T ((w.alloc (takO place c fr)).drewN n) B s N := h.keep hk.cl.2 hk.na.2 k0 (fun _ _ _ _ => trivial) (Same.ext own w 0)
  have t0 : ((w.alloc (takO place c fr)).drewN n).heap[w.heap.size]? = some (takO place c fr) := heap_alloc_new w _
  refine (gAnswer hP hk hN hS hT i hi place c fr).mono ?_
  rintro e w' ⟨rfl, own', B', g1, ⟨hb, rfl⟩, g3, g4⟩
  have lt0 := block_lt t0
  refine ⟨rfl, own', hb, g1, (Same.ext own w 0).trans g3 k0.size, ?_, Nat.lt_of_lt_of_le lt0 g4.size, ?_, g4.get t0 (Or.inl (by rw [ext_ge (Nat.le_refl _)]; omega))⟩
  · rw [g3 _ lt0, ext_ge (Nat.le_refl _)]
  · refine (k0.mono (T := AccOut own T) (fun _ _ _ => trivial)).trans' g4 (fun b hb hO => ?_)
    unfold AccOut at hO ⊢
    rw [ext_lt hb]; exact hO

theorem does_ring (s : St) (i : Nat) (fr : ByteArray) : (doesS s i fr).2.ring = s.ring ∧ (doesS s i fr).2.acks = s.acks ∧ (doesS s i fr).2.cl = s.cl ∧ (doesS s i fr).2.an = s.an ∧ (doesS s i fr).2.na = s.na ∧ (doesS s i fr).2.held = s.held := by
  unfold doesS
  rw [do_same]
  exact ⟨rfl, rfl, rfl, rfl, rfl, rfl⟩

theorem gRush {own : Nat → Nat} {T : Nat} {w : World} {B : GB} {s : St} {N : Nat} (h : PG own T w B s N) (hk : Ok s N) (hN : N < 1000000000000000) (hS : Sz s) (hT : 0 < T) (place : Int) (c : Nat) (hc : c < s.cl) (fr : ByteArray) :
    Calls Try.prog 50 #[.pointer (some ⟨B.gb, 0, none⟩), .agg #[.int .i64 place, .int .i64 c, .string fr]] w fun e w' =>
      e = .returned (.int .i64 1) ∧ GoesP own T w B ((doesS s 1 fr).2.ack c (place, (doesS s 1 fr).1)) (N + 1) w' := by
  have c0 := cellAt (i := 0) h.gate rfl
  have hc8 := hk.cl.2
  obtain ⟨lb, sb, tt, v, p⟩ := h.box c hc
  have hbox := h.boxAt c hc
  obtain ⟨va, vc, hv⟩ := p.ack.slice
  have b1 := cellAt (i := 1) p.box rfl
  have l1 := block_lt p.box
  have hacks := hk.acks c
  obtain ⟨e1, e2, e3, e4, e5, e6⟩ := does_ring s 1 fr
  generalize hd : doesS s 1 fr = d at *
  rw [hv] at b1
  have hrow : ∀ b, v.ownBlock = some b → b ≠ B.ib c ∧ b ≠ lb := fun b hb => by
    rcases p.ack.2 with ⟨q, _⟩ | ⟨g, cap, cur, q, _, q1, _⟩
    · rw [q] at hb; cases hb
    · rw [q] at hb
      simp [Value.ownBlock] at hb
      subst hb
      exact ⟨block_ne q1 p.box (by decide), block_ne q1 p.ans.ring (by decide)⟩
  have hout : ∀ b, own b = T + 10 + c → AccOut own T b := fun b hb => by unfold AccOut; omega
  refine (rush_walk B.gb B.ir B.ic s.cl (B.ib c) vc va (s.acks c) c place d.1 fr w c0 hc hbox b1 (hS.2 c hc) (Aft own T w B d.2 (N + 1) place c fr) (fun n => ?_) (fun W hW => ?_) (fun b hb => ?_)).mono ?_
  · have := gAft h hk hN hS hT 1 (by omega) place c fr n
    rw [hd] at this
    exact this
  · obtain ⟨own', hb', g1, g2, g3, g4, g5, g6⟩ := hW
    have hb1 := g5.get p.box (hout _ p.o1)
    refine ⟨⟨cellAt (i := 0) g6 rfl, cellAt (i := 1) g6 rfl, cellAt (i := 2) g6 rfl⟩, ?_, frozenAt hb1, ?_⟩
    · rw [← hv]; exact cellAt (i := 1) hb1 rfl
    · rw [← hv]; exact p.ack.keep g5 (fun b hb => hout _ (p.o4 b hb).1)
  · rw [← hv] at hb
    exact ⟨Nat.ne_of_lt (p.ack.lt b hb), (hrow b hb).1⟩
  · rintro e w' ⟨rfl, w1, w3, g3, cap3, ⟨own', hb', q1, q2, q3, q4, q5, q6⟩, ⟨a1, a2, a3⟩, rfl⟩
    refine ⟨rfl, ?_⟩
    rw [← hv] at a2 a3
    have l1' : B.ib c < w1.heap.size := Nat.lt_of_lt_of_le l1 q5.size
    have l2 := p.ans.lt
    have hb1 := q5.get p.box (hout _ p.o1)
    have an1 : PAns w1 lb sb s.an tt (s.ring c) := p.ans.keep q5 (hout _ p.o2) (hout _ p.o3)
    have nb : B.ib c ≠ lb := block_ne p.box p.ans.ring (by decide)
    have nb2 : B.ib c ≠ sb := by obtain ⟨cs, q, _⟩ := p.ans.slots; exact block_ne p.box q (by decide)
    have hvb : v.ownBlock ≠ some (B.ib c) := fun e => (hrow _ e).1 rfl
    have hb3 := a2.get hb1 hvb
    have an3 : PAns w3 lb sb s.an tt (s.ring c) := an1.keep a2 (fun e => (hrow _ e).2 rfl) (fun e => (p.o4 _ e).2 rfl)
    have kS : Keep (fun b => b ≠ B.ib c) w3 (w3.setCell ⟨B.ib c, 1, none⟩ (.slice (some ⟨g3, 0, none⟩) ((s.acks c).length + 1) cap3)) := (Keep.refl _ w3).setCell _ (fun _ h => h rfl) _
    have hb4 : (w3.setCell ⟨B.ib c, 1, none⟩ (.slice (some ⟨g3, 0, none⟩) ((s.acks c).length + 1) cap3)).heap[B.ib c]? = some (.cells #[.pointer (some ⟨lb, 0, none⟩), .slice (some ⟨g3, 0, none⟩) ((s.acks c).length + 1) cap3] 96 (0, 0)) := by
      rw [heap_setCell_at _ hb3]; simp
    have o1' : own' (B.ib c) = T + 10 + c := by rw [q2 _ l1]; exact p.o1
    have o2' : own' lb = T + 10 + c := by rw [q2 _ l2.1]; exact p.o2
    have o3' : own' sb = T + 10 + c := by rw [q2 _ l2.2]; exact p.o3
    have o4' : ∀ b, v.ownBlock = some b → own' b = T + 10 + c := fun b hb => by rw [q2 _ (p.ack.lt b hb)]; exact (p.o4 b hb).1
    have hg3 : g3 ≠ B.ib c ∧ g3 ≠ lb ∧ g3 ≠ sb := by
      rcases a3 with e | e
      · exact ⟨(hrow _ e).1, (hrow _ e).2, (p.o4 _ e).2⟩
      · have := q5.size; omega
    have kk : Keep (fun b => own' b ≠ T + 10 + c) w1 (w3.setCell ⟨B.ib c, 1, none⟩ (.slice (some ⟨g3, 0, none⟩) ((s.acks c).length + 1) cap3)) :=
      (a2.mono (T := fun b => own' b ≠ T + 10 + c) (fun b _ hb e => hb (o4' b e))).trans' kS (fun b _ hb e => hb (e ▸ o1'))
    have a1' : AckAt (w3.setCell ⟨B.ib c, 1, none⟩ (.slice (some ⟨g3, 0, none⟩) ((s.acks c).length + 1) cap3)) (.slice (some ⟨g3, 0, none⟩) ((s.acks c).length + 1) cap3) (s.acks c ++ [(place, d.1)]) := a1.keep kS (fun b hb => by simp [Value.ownBlock] at hb; subst hb; exact hg3.1)
    have hbox' : InboxR (ext own' w1.heap.size (T + 10 + c)) (T + 10 + c) (w3.setCell ⟨B.ib c, 1, none⟩ (.slice (some ⟨g3, 0, none⟩) ((s.acks c).length + 1) cap3)) (B.ib c) d.2.an (N + 1) (d.2.ring c) (s.acks c ++ [(place, d.1)]) := by
      rw [e1, e4]
      refine ⟨lb, sb, tt, _, ⟨hb4, an3.keep kS (Ne.symm nb) (Ne.symm nb2), a1', ?_, ?_, ?_, fun b hb => ?_, by have := p.le; omega⟩⟩
      · rw [ext_lt l1']; exact o1'
      · rw [ext_lt an1.lt.1]; exact o2'
      · rw [ext_lt an1.lt.2]; exact o3'
      · simp [Value.ownBlock] at hb
        subst hb
        refine ⟨?_, hg3.2.2⟩
        rcases a3 with e | e
        · rw [ext_lt (Nat.lt_of_lt_of_le (p.ack.lt _ e) q5.size)]; exact o4' _ e
        · exact ext_ge e
    have hfin := q1.rebox (by rw [e3]; exact hk.cl.2) c (by rw [e3]; exact hc) (d.2.ring c) (s.acks c ++ [(place, d.1)]) hbox' kk
    rw [upN_self] at hfin
    refine ⟨_, _, ?_, ⟨hb', rfl⟩, q2.trans (Same.ext own' w1 (T + 10 + c)) q5.size, ?_⟩
    · unfold St.ack
      rw [e2] at hfin ⊢
      exact hfin
    · refine (q5.mono (T := Out own T) (fun b _ hb => ?_)).trans' kk (fun b hb hO => ?_)
      · unfold Out at hb; unfold AccOut; omega
      · rw [q2 b hb]; unfold Out at hO; omega

end Go.Proofs.Ytjhifhoniimfgaa

/-
  The core does a frame of the common lane, or frees the answer with which it waits, on a gate in memory.
-/
namespace Go.Proofs.Ytjhifhoniimfgaa
open Go.RowKit

def heldV' (hb : Nat) (hd : Option (Nat × Ans)) : Value :=
  match hd with
  | none => .pointer none
  | some _ => .pointer (some ⟨hb, 0, none⟩)

def lateO (c : Nat) (a : Ans) : Obj := .cells #[.int .i64 c, .int .i64 a.1, .int .i64 a.2] 138

/-- What the core waits with has turned. -/
theorem PG.rehold {own : Nat → Nat} {T : Nat} {w w' : World} {B : GB} {s : St} {N : Nat} (h : PG own T w B s N) (hd : Option (Nat × Ans)) (hb : Nat) (hk : Keep (fun b => b ≠ B.gb) w w')
    (hg : w'.heap[B.gb]? = some (.cells (gCells B s.cl s.na (heldV' hb hd) s.time) 80 (0, 0))) (hl : ∀ c a, hd = some (c, a) → w'.heap[hb]? = some (lateO c a) ∧ w.heap.size ≤ hb) :
    PG (ext own w.heap.size T) T w' { B with hb := hb } { s with held := hd } N := by
  have ho := Same.ext own w T
  have h0 := h.core0
  have lg := block_lt h0.gate
  obtain ⟨n1, n2, n3, n4, n5, n6, n7, n8, n9, n10⟩ := GB.ne_gw h0
  obtain ⟨ci, hi1, hi2⟩ := h0.irow
  obtain ⟨ca, ha1, ha2⟩ := h0.arow
  obtain ⟨mi, ti, st, hw1, hw2⟩ := h0.watch
  have hp : ∀ b, own b ≠ T → b ≠ B.gb := fun b hb e => hb (e ▸ h0.og)
  refine Core0.pg ⟨hg, ⟨ci, hk.get hi1 (Ne.symm n3), hi2⟩, ⟨ca, hk.get ha1 (Ne.symm n4), ha2⟩, fun c a e => ?_, ⟨mi, ti, st, hw1.keep hk (Ne.symm n1) (Ne.symm n2), hw2⟩, ?_, ?_, ?_, ?_, ?_⟩
    (fun i hi => (h.lane i hi).keep hk (fun b hb e => hp b (by omega)) ho) (fun c hc => (h.box c hc).keep hk (fun b hb e => hp b (by omega)) ho) (fun a ha => (h.acc a ha).keep hk (fun b hb e => hp b (by omega)) ho)
  · obtain ⟨q1, q2⟩ := hl c a e
    exact ⟨q1, ext_ge q2⟩
  · show ext own w.heap.size T B.gb = T
    rw [ext_lt lg]; exact h0.og
  · show ext own w.heap.size T B.ir = T
    rw [ext_lt (block_lt hi1)]; exact h0.oi
  · show ext own w.heap.size T B.ar = T
    rw [ext_lt (block_lt ha1)]; exact h0.oa
  · show ext own w.heap.size T B.wb = T
    rw [ext_lt (block_lt hw1.watch)]; exact h0.ow
  · show ext own w.heap.size T B.cb = T
    rw [ext_lt (block_lt hw1.chan)]; exact h0.oc

/-- A ring of answers has turned. -/
theorem PG.rering {own : Nat → Nat} {T : Nat} {w w' : World} {B : GB} {s : St} {N : Nat} (h : PG own T w B s N) (hcl : s.cl ≤ 8) (c : Nat) (hc : c < s.cl) {lb sb tt : Nat} {v : Value} (p : InboxP own (T + 10 + c) w (B.ib c) lb sb tt v s.an N (s.ring c) (s.acks c)) (tt' : Nat) (l : List Ans) (hle : tt' + l.length ≤ N)
    (hk : Keep (fun b => b ≠ lb ∧ b ≠ sb) w w') (ha : PAns w' lb sb s.an tt' l) :
    PG (ext own w.heap.size (T + 10 + c)) T w' B { s with ring := upN s.ring c l } N ∧ Keep (fun b => own b ≠ T + 10 + c) w w' := by
  have l1 := block_lt p.box
  have l2 := p.ans.lt
  have nb : B.ib c ≠ lb := block_ne p.box p.ans.ring (by decide)
  have nb2 : B.ib c ≠ sb := by obtain ⟨cs, q, _⟩ := p.ans.slots; exact block_ne p.box q (by decide)
  have hrow : ∀ b, v.ownBlock = some b → b ≠ lb := fun b hb => by
    rcases p.ack.2 with ⟨q, _⟩ | ⟨g, cap, cur, q, _, q1, _⟩
    · rw [q] at hb; cases hb
    · rw [q] at hb
      simp [Value.ownBlock] at hb
      subst hb
      exact block_ne q1 p.ans.ring (by decide)
  have k2 : Keep (fun b => own b ≠ T + 10 + c) w w' := hk.mono (fun b _ hb => ⟨fun e => hb (e ▸ p.o2), fun e => hb (e ▸ p.o3)⟩)
  have := h.rebox hcl c hc l (s.acks c) ⟨lb, sb, tt', v, ⟨hk.get p.box ⟨nb, nb2⟩, ha, p.ack.keep hk (fun b hb => ⟨hrow b hb, (p.o4 b hb).2⟩), by rw [ext_lt l1]; exact p.o1, by rw [ext_lt l2.1]; exact p.o2, by rw [ext_lt l2.2]; exact p.o3, fun b hb => by rw [ext_lt (p.ack.lt b hb)]; exact p.o4 b hb, hle⟩⟩ k2
  rw [upN_self] at this
  exact ⟨this, k2⟩

def ansB (a : Ans) : Obj := .cells #[.int .i64 a.1, .int .i64 a.2] 66

/-- Behind Lay. -/
def Laid (lb sb an tt : Nat) (l : List Ans) (a : Ans) (w1 w2 : World) : Prop :=
  Keep (fun b => b ≠ lb ∧ b ≠ sb) w1 w2 ∧ w2.heap[w1.heap.size]? = some (ansB a) ∧ PAns w2 lb sb an tt l

theorem gServe {own : Nat → Nat} {T : Nat} {w : World} {B : GB} {s : St} {N : Nat} (h : PG own T w B s N) (hk : Ok s N) (hN : N < 1000000000000000) (hS : Sz s) (hT : 0 < T) (hheld : s.held = none) (place : Int) (c : Nat) (hc : c < s.cl) (fr : ByteArray) :
    Calls Try.prog 52 #[.pointer (some ⟨B.gb, 0, none⟩), .agg #[.int .i64 place, .int .i64 c, .string fr]] w fun e w' =>
      e = .returned (.int .i64 (if (s.ring c).length < s.an then 2 else 3)) ∧
      GoesP own T w B (if (s.ring c).length < s.an then (doesS s 0 fr).2.lay c (place, (doesS s 0 fr).1) else { (doesS s 0 fr).2 with held := some (c, (place, (doesS s 0 fr).1)) }) (N + 1) w' := by
  have c0 := cellAt (i := 0) h.gate rfl
  have hc8 := hk.cl.2
  obtain ⟨lb, sb, tt, v, p⟩ := h.box c hc
  have hle := p.le
  obtain ⟨e1, e2, e3, e4, e5, e6⟩ := does_ring s 0 fr
  have haft := gAft h hk hN hS hT 0 (by omega) place c fr 0
  have hfull := hk.ring c
  generalize hd : doesS s 0 fr = d at *
  have hout : ∀ b, own b = T + 10 + c → AccOut own T b := fun b hb => by unfold AccOut; omega
  -- the cells that are read behind the answer
  have hcells : ∀ w1 W, Aft own T w B d.2 (N + 1) place c fr w1 → Keep (fun b => b ≠ lb ∧ b ≠ sb) w1 W → W.heap[w1.heap.size]? = some (ansB (place, d.1)) →
      SrvS B.gb B.ir B.ic s.cl (B.ib c) lb w.heap.size w1.heap.size c place d.1 W ∧ W.cell? ⟨B.gb, 4, none⟩ = some (.pointer none) ∧ W.frozen? ⟨B.gb, 4, none⟩ = false ∧ W.heap[B.gb]? = some (.cells (gCells B s.cl s.na (.pointer none) d.2.time) 80 (0, 0)) := by
    rintro w1 W ⟨own', hb', q1, q2, q3, q4, q5, q6⟩ hkW ho
    have g1 := q1.gate
    have an1 : PAns w1 lb sb s.an tt (s.ring c) := p.ans.keep q5 (hout _ p.o2) (hout _ p.o3)
    obtain ⟨cs, asl, _⟩ := an1.slots
    have gg := hkW.get g1 ⟨block_ne g1 an1.ring (by decide), block_ne g1 asl (by decide)⟩
    obtain ⟨ci, i1, i2⟩ := q1.irow
    have ii := hkW.get i1 ⟨block_ne i1 an1.ring (by decide), block_ne i1 asl (by decide)⟩
    have bb1 := q5.get p.box (hout _ p.o1)
    have bb := hkW.get bb1 ⟨block_ne bb1 an1.ring (by decide), block_ne bb1 asl (by decide)⟩
    have tt1 := hkW.get q6 ⟨block_ne q6 an1.ring (by decide), block_ne q6 asl (by decide)⟩
    have hv : heldV { B with hb := hb' } d.2 = .pointer none := by unfold heldV; rw [e6, hheld]
    rw [hv, e3, e5] at gg
    exact ⟨⟨cellAt (i := 0) gg rfl, cellAt (i := 1) tt1 rfl, cellAt ii (i2 c (by rw [e3]; exact hc)), cellAt (i := 0) bb rfl, cellAt (i := 0) ho rfl, cellAt (i := 1) ho rfl⟩, cellAt (i := 4) gg rfl, frozenAt gg, gg⟩
  have hK1 : ∀ (w1 : World) (n : Nat), Keep (fun _ => True) w1 ((w1.alloc (ansB (place, d.1))).drewN n) := fun w1 n => ((Keep.refl _ w1).alloc _).drewN n
  have hO1 : ∀ (w1 : World) (n : Nat), ((w1.alloc (ansB (place, d.1))).drewN n).heap[w1.heap.size]? = some (ansB (place, d.1)) := fun w1 n => heap_alloc_new w1 _
  have hA1 : ∀ (w1 : World) (n : Nat), Aft own T w B d.2 (N + 1) place c fr w1 → PAns ((w1.alloc (ansB (place, d.1))).drewN n) lb sb s.an tt (s.ring c) := fun w1 n ⟨own', hb', q1, q2, q3, q4, q5, q6⟩ =>
    (p.ans.keep q5 (hout _ p.o2) (hout _ p.o3)).keep (hK1 w1 n) trivial trivial
  -- how a laid answer is told
  have hend : ∀ own' hb' w1 w2 l, PG own' T w1 { B with hb := hb' } d.2 (N + 1) → Same own own' w → Keep (AccOut own T) w w1 → Laid lb sb s.an tt l (place, d.1) w1 w2 → tt + l.length ≤ N + 1 →
      PG (ext own' w1.heap.size (T + 10 + c)) T w2 { B with hb := hb' } { d.2 with ring := upN d.2.ring c l } (N + 1) ∧ Keep (Out own T) w w2 := by
    rintro own' hb' w1 w2 l q1 q2 q5 ⟨y1, y2, y3⟩ hl
    have l1 := block_lt p.box
    have l2 := p.ans.lt
    have P1 : InboxP own' (T + 10 + c) w1 (B.ib c) lb sb tt v d.2.an (N + 1) (d.2.ring c) (d.2.acks c) := by
      rw [e1, e2, e4]
      exact ⟨q5.get p.box (hout _ p.o1), p.ans.keep q5 (hout _ p.o2) (hout _ p.o3), p.ack.keep q5 (fun b hb => hout _ (p.o4 b hb).1), by rw [q2 _ l1]; exact p.o1, by rw [q2 _ l2.1]; exact p.o2, by rw [q2 _ l2.2]; exact p.o3, fun b hb => by rw [q2 _ (p.ack.lt b hb)]; exact p.o4 b hb, by omega⟩
    obtain ⟨f1, f2⟩ := q1.rering (by rw [e3]; exact hc8) c (by rw [e3]; exact hc) P1 tt l hl y1 (by rw [e4]; exact y3)
    refine ⟨f1, (q5.mono (T := Out own T) (fun b _ hb => ?_)).trans' f2 (fun b hb hO => ?_)⟩
    · unfold Out at hb; unfold AccOut; omega
    · rw [q2 b hb]; unfold Out at hO; omega
  by_cases hroom : (s.ring c).length < s.an
  · rw [if_pos hroom, if_pos hroom]
    refine (serve_walk B.gb B.ir B.ic s.cl (B.ib c) lb c place d.1 fr none w c0 hc true (Aft own T w B d.2 (N + 1) place c fr) (Laid lb sb s.an tt (s.ring c ++ [(place, d.1)]) (place, d.1)) haft
      (fun w1 n hz => (hcells w1 _ hz ((hK1 w1 n).mono (fun _ _ _ => trivial)) (hO1 w1 n)).1) (fun w1 n hz => ?_) (fun w1 w2 hz hy => ?_)).mono ?_
    · refine (lay_room (place, d.1) (hA1 w1 n hz) hroom (by omega)).mono ?_
      rintro e w2 ⟨rfl, y1, y2⟩
      refine ⟨rfl, ((hK1 w1 n).mono (T := fun b => b ≠ lb ∧ b ≠ sb) (fun _ _ _ => trivial)).trans y2, ?_, y1⟩
      have l2 := (hA1 w1 n hz).lt
      obtain ⟨own', hb', q1, q2, q3, q4, q5, q6⟩ := hz
      have an1 := (p.ans.keep q5 (hout _ p.o2) (hout _ p.o3)).lt
      exact y2.get (hO1 w1 n) ⟨fun e => by omega, fun e => by omega⟩
    · obtain ⟨r1, r2, r3, _⟩ := hcells w1 w2 hz hy.1 hy.2.1
      exact ⟨r1, r2, r3⟩
    · rintro e w' ⟨rfl, w1, w2, ⟨own', hb', q1, q2, q3, q4, q5, q6⟩, hy, hw⟩
      obtain ⟨_, rfl⟩ : true = true ∧ w' = w2 := by
        rcases hw with h | h
        · exact h
        · cases h.1
      obtain ⟨f1, f2⟩ := hend own' hb' w1 w' _ q1 q2 q5 hy (by simp; omega)
      refine ⟨rfl, _, _, ?_, ⟨hb', rfl⟩, q2.trans (Same.ext own' w1 (T + 10 + c)) q5.size, f2⟩
      unfold St.lay
      rw [e1] at f1 ⊢
      exact f1
  · rw [if_neg hroom, if_neg hroom]
    have hlen : (s.ring c).length = s.an := by omega
    refine (serve_walk B.gb B.ir B.ic s.cl (B.ib c) lb c place d.1 fr none w c0 hc false (Aft own T w B d.2 (N + 1) place c fr) (Laid lb sb s.an tt (s.ring c) (place, d.1)) haft
      (fun w1 n hz => (hcells w1 _ hz ((hK1 w1 n).mono (fun _ _ _ => trivial)) (hO1 w1 n)).1) (fun w1 n hz => ?_) (fun w1 w2 hz hy => ?_)).mono ?_
    · refine (lay_full (place, d.1) (hA1 w1 n hz) hlen (by omega)).mono ?_
      rintro e w2 ⟨rfl, y1⟩
      have hb2 : Keep (fun _ => True) ((w1.alloc (ansB (place, d.1))).drewN n) w2 := Keep.ofBelow y1
      exact ⟨rfl, ((hK1 w1 n).trans hb2).mono (fun _ _ _ => trivial), hb2.get (hO1 w1 n) trivial, (hA1 w1 n hz).keep hb2 trivial trivial⟩
    · obtain ⟨r1, r2, r3, _⟩ := hcells w1 w2 hz hy.1 hy.2.1
      exact ⟨r1, r2, r3⟩
    · rintro e w' ⟨rfl, w1, w2, hz, hy, hw⟩
      obtain ⟨_, rfl⟩ : false = false ∧ w' = (w2.setCell ⟨B.gb, 4, none⟩ (.pointer (some ⟨w2.heap.size, 0, none⟩))).alloc (.cells #[.int .i64 c, .int .i64 place, .int .i64 d.1] 138) := by
        rcases hw with h | h
        · cases h.1
        · exact h
      obtain ⟨_, _, _, hgate⟩ := hcells w1 w2 hz hy.1 hy.2.1
      obtain ⟨own', hb', q1, q2, q3, q4, q5, q6⟩ := hz
      obtain ⟨f1, f2⟩ := hend own' hb' w1 w2 _ q1 q2 q5 hy (by omega)
      have hS : Keep (fun b => b ≠ B.gb) w2 ((w2.setCell ⟨B.gb, 4, none⟩ (.pointer (some ⟨w2.heap.size, 0, none⟩))).alloc (.cells #[.int .i64 c, .int .i64 place, .int .i64 d.1] 138)) := ((Keep.refl _ w2).setCell _ (fun _ h => h rfl) _).alloc _
      have lg := block_lt hgate
      have hg' : ((w2.setCell ⟨B.gb, 4, none⟩ (.pointer (some ⟨w2.heap.size, 0, none⟩))).alloc (.cells #[.int .i64 c, .int .i64 place, .int .i64 d.1] 138)).heap[B.gb]? = some (.cells (gCells B s.cl s.na (.pointer (some ⟨w2.heap.size, 0, none⟩)) d.2.time) 80 (0, 0)) := by
        rw [Below.heap_alloc _ _ _ (by rw [size_setCell]; exact lg), heap_setCell_at _ hgate]
        simp [gCells]
      have hl' : ((w2.setCell ⟨B.gb, 4, none⟩ (.pointer (some ⟨w2.heap.size, 0, none⟩))).alloc (.cells #[.int .i64 c, .int .i64 place, .int .i64 d.1] 138)).heap[w2.heap.size]? = some (lateO c (place, d.1)) := by
        have := heap_alloc_new (w2.setCell ⟨B.gb, 4, none⟩ (.pointer (some ⟨w2.heap.size, 0, none⟩))) (.cells #[.int .i64 c, .int .i64 place, .int .i64 d.1] 138)
        rw [size_setCell] at this
        exact this
      have f3 := f1.rehold (some (c, (place, d.1))) w2.heap.size hS (by show _ = some (Obj.cells (gCells B d.2.cl d.2.na _ d.2.time) _ _); rw [e3, e5]; exact hg') (fun c' a' e => by
        injection e with e
        injection e with ea eb
        subst ea; subst eb
        exact ⟨hl', Nat.le_refl _⟩)
      refine ⟨rfl, _, _, ?_, ⟨w2.heap.size, rfl⟩, (q2.trans (Same.ext own' w1 (T + 10 + c)) q5.size).trans (Same.ext _ w2 T) (Nat.le_trans q5.size hy.1.size), f2.trans' hS (fun b hb hO e => ?_)⟩
      · have hu : upN d.2.ring c (s.ring c) = d.2.ring := by rw [e1]; exact upN_self _ _
        rw [hu] at f3
        exact f3
      · subst e
        unfold Out at hO
        have := h.og
        omega

theorem gFree {own : Nat → Nat} {T : Nat} {w : World} {B : GB} {s : St} {N : Nat} (h : PG own T w B s N) (hk : Ok s N) (hN : N < 1000000000000000) (c : Nat) (a : Ans) (hheld : s.held = some (c, a)) :
    Calls Try.prog 51 #[.pointer (some ⟨B.gb, 0, none⟩)] w fun e w' => e = .returned (.int .i64 (freeS s c a).1) ∧ GoesP own T w B (freeS s c a).2 (N + 1) w' := by
  have hc := hk.held c a hheld
  have hc8 := hk.cl.2
  obtain ⟨lb, sb, tt, v, p⟩ := h.box c hc
  have hle := p.le
  have hfull := hk.ring c
  have hV : heldV B s = .pointer (some ⟨B.hb, 0, none⟩) := by unfold heldV; rw [hheld]
  obtain ⟨hlate, hol⟩ := h.late c a hheld
  obtain ⟨asl, sl, _⟩ := p.ans.slots
  have g0 := h.gate
  rw [hV] at g0
  have hcells : ∀ W, Keep (fun b => b ≠ lb ∧ b ≠ sb) w W → FreS B.gb B.ir B.ic s.cl (B.ib c) lb B.hb c a.1 a.2 W ∧ W.frozen? ⟨B.gb, 4, none⟩ = false ∧ W.heap[B.gb]? = some (.cells (gCells B s.cl s.na (.pointer (some ⟨B.hb, 0, none⟩)) s.time) 80 (0, 0)) := by
    intro W hkW
    have gg := hkW.get g0 ⟨block_ne g0 p.ans.ring (by decide), block_ne g0 sl (by decide)⟩
    obtain ⟨ci, i1, i2⟩ := h.irow
    have ii := hkW.get i1 ⟨block_ne i1 p.ans.ring (by decide), block_ne i1 sl (by decide)⟩
    have bb := hkW.get p.box ⟨block_ne p.box p.ans.ring (by decide), block_ne p.box sl (by decide)⟩
    have ll := hkW.get hlate ⟨block_ne hlate p.ans.ring (by decide), block_ne hlate sl (by decide)⟩
    exact ⟨⟨cellAt (i := 0) gg rfl, cellAt (i := 4) gg rfl, cellAt (i := 0) ll rfl, cellAt (i := 1) ll rfl, cellAt (i := 2) ll rfl, cellAt ii (i2 c hc), cellAt (i := 0) bb rfl⟩, frozenAt gg, gg⟩
  unfold freeS
  by_cases hroom : (s.ring c).length < s.an
  · rw [if_pos hroom]
    refine (free_walk B.gb B.ir B.ic s.cl (B.ib c) lb B.hb c a.1 a.2 w hc true (fun w2 => PAns w2 lb sb s.an tt (s.ring c ++ [a]) ∧ Keep (fun b => b ≠ lb ∧ b ≠ sb) w w2) (fun n => (hcells _ ((Keep.refl _ w).drewN n)).1) (fun n => ?_) (fun w2 hy => ?_)).mono ?_
    · refine (lay_room a (p.ans.keep ((Keep.refl (fun _ => True) w).drewN n) trivial trivial) hroom (by omega)).mono ?_
      rintro e w2 ⟨rfl, y1, y2⟩
      exact ⟨rfl, y1, ((Keep.refl _ w).drewN n).trans y2⟩
    · obtain ⟨r1, r2, _⟩ := hcells w2 hy.2
      exact ⟨r1, r2⟩
    · rintro e w' ⟨rfl, w2, ⟨y1, y2⟩, hw⟩
      obtain ⟨_, rfl⟩ : true = true ∧ w' = w2.setCell ⟨B.gb, 4, none⟩ (.pointer none) := by
        rcases hw with h | h
        · cases h.1
        · exact h
      obtain ⟨_, _, hgate⟩ := hcells w2 y2
      obtain ⟨f1, f2⟩ := (h.more (Nat.le_succ N)).rering hc8 c hc (show InboxP own (T + 10 + c) w (B.ib c) lb sb tt v s.an (N + 1) (s.ring c) (s.acks c) from { p with le := by omega }) tt (s.ring c ++ [a]) (by simp; omega) y2 y1
      have hS : Keep (fun b => b ≠ B.gb) w2 (w2.setCell ⟨B.gb, 4, none⟩ (.pointer none)) := (Keep.refl _ w2).setCell _ (fun _ h => h rfl) _
      have hg' : (w2.setCell ⟨B.gb, 4, none⟩ (.pointer none)).heap[B.gb]? = some (.cells (gCells B s.cl s.na (.pointer none) s.time) 80 (0, 0)) := by
        rw [heap_setCell_at _ hgate]
        simp [gCells]
      have f3 := f1.rehold none B.hb hS hg' (fun c' a' e => by cases e)
      refine ⟨rfl, _, _, f3, ⟨B.hb, rfl⟩, (Same.ext own w (T + 10 + c)).trans (Same.ext _ w2 T) y2.size, ?_⟩
      refine (f2.out (by omega) (by omega)).trans' hS (fun b hb hO e => ?_)
      subst e
      unfold Out at hO
      have := h.og
      omega
  · rw [if_neg hroom]
    have hlen : (s.ring c).length = s.an := by omega
    refine (free_walk B.gb B.ir B.ic s.cl (B.ib c) lb B.hb c a.1 a.2 w hc false (fun w2 => Keep (fun _ => True) w w2) (fun n => (hcells _ ((Keep.refl _ w).drewN n)).1) (fun n => ?_) (fun w2 hy => ?_)).mono ?_
    · refine (lay_full a (p.ans.keep ((Keep.refl (fun _ => True) w).drewN n) trivial trivial) hlen (by omega)).mono ?_
      rintro e w2 ⟨rfl, y1⟩
      exact ⟨rfl, ((Keep.refl _ w).drewN n).trans (Keep.ofBelow y1)⟩
    · obtain ⟨r1, r2, _⟩ := hcells w2 (hy.mono (fun _ _ _ => trivial))
      exact ⟨r1, r2⟩
    · rintro e w' ⟨rfl, w2, hy, hw⟩
      obtain ⟨_, rfl⟩ : false = false ∧ w' = w2 := by
        rcases hw with h | h
        · exact h
        · cases h.1
      exact ⟨rfl, GoesP.same (h.more (Nat.le_succ N)) hc8 hk.na.2 hy⟩

end Go.Proofs.Ytjhifhoniimfgaa

/-
  A step of the core: the walk.
-/
namespace Go.Proofs.Ytjhifhoniimfgaa
open Go.RowKit

set_option maxHeartbeats 400000 in
theorem gCore_nil (w : World) : Calls Try.prog 30 #[.pointer none] w fun e w' => e = .returned (.tuple #[.int .i64 0, .int .i64 1]) ∧ w = w' := by
  go_enter Try.func30, Try.ntmps30
  go_wp2
  go_ret2
  exact ⟨rfl, rfl⟩

set_option maxHeartbeats 1000000 in
theorem core_rush (gb wb lb : Nat) (place c n : Int) (fr : ByteArray) (w : World) (Z1 Z2 Z3 : World → Prop) (h6 : w.cell? ⟨gb, 6, none⟩ = some (.pointer (some ⟨wb, 0, none⟩)))
    (hs : Calls Try.prog 48 #[.pointer (some ⟨wb, 0, none⟩)] w fun e w' => e = .returned (.tuple #[]) ∧ Z1 w')
    (h1 : ∀ W, Z1 W → W.cell? ⟨gb, 3, none⟩ = some (.pointer (some ⟨lb, 0, none⟩)))
    (ht : ∀ W, Z1 W → Calls Try.prog 49 #[.pointer (some ⟨lb, 0, none⟩)] W fun e w' => e = .returned (.tuple #[.agg #[.int .i64 place, .int .i64 c, .string fr], .bool true]) ∧ Z2 w')
    (hr : ∀ W, Z2 W → Calls Try.prog 50 #[.pointer (some ⟨gb, 0, none⟩), .agg #[.int .i64 place, .int .i64 c, .string fr]] (W.alloc (takO place c fr)) fun e w' => e = .returned (.int .i64 n) ∧ Z3 w') :
    Calls Try.prog 30 #[.pointer (some ⟨gb, 0, none⟩)] w fun e w' => e = .returned (.tuple #[.int .i64 n, .int .i64 0]) ∧ Z3 w' := by
  have H1 : Hid (∀ W, Z1 W → W.cell? ⟨gb, 3, none⟩ = some (.pointer (some ⟨lb, 0, none⟩))) := h1
  clear h1
  unfold takO at hr
  go_enter Try.func30, Try.ntmps30
  go_wp2_with fail
  refine hs.mono ?_
  rintro e w1 ⟨rfl, z1⟩
  have g3 := H1.out w1 z1
  go_wp2_with fail
  refine (ht w1 z1).mono ?_
  rintro e w2 ⟨rfl, z2⟩
  go_wp2_with fail
  refine (hr w2 z2).mono ?_
  rintro e w3 ⟨rfl, z3⟩
  go_wp2_with fail
  go_ret2
  exact ⟨rfl, z3⟩

set_option maxHeartbeats 1000000 in
theorem core_free (gb wb lb hb : Nat) (n : Int) (w : World) (Z1 Z2 Z3 : World → Prop) (h6 : w.cell? ⟨gb, 6, none⟩ = some (.pointer (some ⟨wb, 0, none⟩)))
    (hs : Calls Try.prog 48 #[.pointer (some ⟨wb, 0, none⟩)] w fun e w' => e = .returned (.tuple #[]) ∧ Z1 w')
    (h1 : ∀ W, Z1 W → W.cell? ⟨gb, 3, none⟩ = some (.pointer (some ⟨lb, 0, none⟩)))
    (ht : ∀ W, Z1 W → Calls Try.prog 49 #[.pointer (some ⟨lb, 0, none⟩)] W fun e w' => e = .returned (.tuple #[.agg #[.int .i64 0, .int .i64 0, .string ByteArray.empty], .bool false]) ∧ Z2 w')
    (h2 : ∀ W, Z2 W → W.cell? ⟨gb, 4, none⟩ = some (.pointer (some ⟨hb, 0, none⟩)))
    (hr : ∀ W, Z2 W → Calls Try.prog 51 #[.pointer (some ⟨gb, 0, none⟩)] (W.alloc (takO 0 0 ByteArray.empty)) fun e w' => e = .returned (.int .i64 n) ∧ Z3 w') :
    Calls Try.prog 30 #[.pointer (some ⟨gb, 0, none⟩)] w fun e w' => e = .returned (.tuple #[.int .i64 n, .int .i64 0]) ∧ Z3 w' := by
  have H1 : Hid (∀ W, Z1 W → W.cell? ⟨gb, 3, none⟩ = some (.pointer (some ⟨lb, 0, none⟩))) := h1
  have H2 : Hid (∀ W, Z2 W → W.cell? ⟨gb, 4, none⟩ = some (.pointer (some ⟨hb, 0, none⟩))) := h2
  clear h1 h2
  unfold takO at hr
  go_enter Try.func30, Try.ntmps30
  go_wp2_with fail
  refine hs.mono ?_
  rintro e w1 ⟨rfl, z1⟩
  have g3 := H1.out w1 z1
  go_wp2_with fail
  refine (ht w1 z1).mono ?_
  rintro e w2 ⟨rfl, z2⟩
  have g4 := H2.out w2 z2
  have hlt := World.block_lt_of_cell? w2 _ g4
  go_wp2_with fail
  refine (hr w2 z2).mono ?_
  rintro e w3 ⟨rfl, z3⟩
  go_wp2_with fail
  go_ret2
  exact ⟨rfl, z3⟩

set_option maxHeartbeats 1000000 in
theorem core_serve (gb wb lb lc : Nat) (place c n : Int) (fr : ByteArray) (w : World) (Z1 Z2 Z3 Z4 : World → Prop) (h6 : w.cell? ⟨gb, 6, none⟩ = some (.pointer (some ⟨wb, 0, none⟩)))
    (hs : Calls Try.prog 48 #[.pointer (some ⟨wb, 0, none⟩)] w fun e w' => e = .returned (.tuple #[]) ∧ Z1 w')
    (h1 : ∀ W, Z1 W → W.cell? ⟨gb, 3, none⟩ = some (.pointer (some ⟨lb, 0, none⟩)))
    (ht : ∀ W, Z1 W → Calls Try.prog 49 #[.pointer (some ⟨lb, 0, none⟩)] W fun e w' => e = .returned (.tuple #[.agg #[.int .i64 0, .int .i64 0, .string ByteArray.empty], .bool false]) ∧ Z2 w')
    (h2 : ∀ W, Z2 W → W.cell? ⟨gb, 4, none⟩ = some (.pointer none) ∧ W.cell? ⟨gb, 2, none⟩ = some (.pointer (some ⟨lc, 0, none⟩)))
    (hc : ∀ W, Z2 W → Calls Try.prog 49 #[.pointer (some ⟨lc, 0, none⟩)] (W.alloc (takO 0 0 ByteArray.empty)) fun e w' => e = .returned (.tuple #[.agg #[.int .i64 place, .int .i64 c, .string fr], .bool true]) ∧ Z3 w')
    (hr : ∀ W, Z3 W → Calls Try.prog 52 #[.pointer (some ⟨gb, 0, none⟩), .agg #[.int .i64 place, .int .i64 c, .string fr]] (W.alloc (takO place c fr)) fun e w' => e = .returned (.int .i64 n) ∧ Z4 w') :
    Calls Try.prog 30 #[.pointer (some ⟨gb, 0, none⟩)] w fun e w' => e = .returned (.tuple #[.int .i64 n, .int .i64 0]) ∧ Z4 w' := by
  have H1 : Hid (∀ W, Z1 W → W.cell? ⟨gb, 3, none⟩ = some (.pointer (some ⟨lb, 0, none⟩))) := h1
  have H2 : Hid (∀ W, Z2 W → W.cell? ⟨gb, 4, none⟩ = some (.pointer none) ∧ W.cell? ⟨gb, 2, none⟩ = some (.pointer (some ⟨lc, 0, none⟩))) := h2
  clear h1 h2
  unfold takO at hr hc
  go_enter Try.func30, Try.ntmps30
  go_wp2_with fail
  refine hs.mono ?_
  rintro e w1 ⟨rfl, z1⟩
  have g3 := H1.out w1 z1
  go_wp2_with fail
  refine (ht w1 z1).mono ?_
  rintro e w2 ⟨rfl, z2⟩
  obtain ⟨g4, g2⟩ := H2.out w2 z2
  have hlt := World.block_lt_of_cell? w2 _ g4
  go_wp2_with fail
  refine (hc w2 z2).mono ?_
  rintro e w3 ⟨rfl, z3⟩
  go_wp2_with fail
  refine (hr w3 z3).mono ?_
  rintro e w4 ⟨rfl, z4⟩
  go_wp2_with fail
  go_ret2
  exact ⟨rfl, z4⟩

set_option maxHeartbeats 1000000 in
theorem core_idle (gb wb lb lc : Nat) (w : World) (Z1 Z2 Z3 : World → Prop) (h6 : w.cell? ⟨gb, 6, none⟩ = some (.pointer (some ⟨wb, 0, none⟩)))
    (hs : Calls Try.prog 48 #[.pointer (some ⟨wb, 0, none⟩)] w fun e w' => e = .returned (.tuple #[]) ∧ Z1 w')
    (h1 : ∀ W, Z1 W → W.cell? ⟨gb, 3, none⟩ = some (.pointer (some ⟨lb, 0, none⟩)))
    (ht : ∀ W, Z1 W → Calls Try.prog 49 #[.pointer (some ⟨lb, 0, none⟩)] W fun e w' => e = .returned (.tuple #[.agg #[.int .i64 0, .int .i64 0, .string ByteArray.empty], .bool false]) ∧ Z2 w')
    (h2 : ∀ W, Z2 W → W.cell? ⟨gb, 4, none⟩ = some (.pointer none) ∧ W.cell? ⟨gb, 2, none⟩ = some (.pointer (some ⟨lc, 0, none⟩)))
    (hc : ∀ W, Z2 W → Calls Try.prog 49 #[.pointer (some ⟨lc, 0, none⟩)] (W.alloc (takO 0 0 ByteArray.empty)) fun e w' => e = .returned (.tuple #[.agg #[.int .i64 0, .int .i64 0, .string ByteArray.empty], .bool false]) ∧ Z3 w') :
    Calls Try.prog 30 #[.pointer (some ⟨gb, 0, none⟩)] w fun e w' => e = .returned (.tuple #[.int .i64 0, .int .i64 0]) ∧ ∃ W, Z3 W ∧ W.alloc (takO 0 0 ByteArray.empty) = w' := by
  have H1 : Hid (∀ W, Z1 W → W.cell? ⟨gb, 3, none⟩ = some (.pointer (some ⟨lb, 0, none⟩))) := h1
  have H2 : Hid (∀ W, Z2 W → W.cell? ⟨gb, 4, none⟩ = some (.pointer none) ∧ W.cell? ⟨gb, 2, none⟩ = some (.pointer (some ⟨lc, 0, none⟩))) := h2
  clear h1 h2
  unfold takO at hc
  go_enter Try.func30, Try.ntmps30
  go_wp2_with fail
  refine hs.mono ?_
  rintro e w1 ⟨rfl, z1⟩
  have g3 := H1.out w1 z1
  go_wp2_with fail
  refine (ht w1 z1).mono ?_
  rintro e w2 ⟨rfl, z2⟩
  obtain ⟨g4, g2⟩ := H2.out w2 z2
  have hlt := World.block_lt_of_cell? w2 _ g4
  go_wp2_with fail
  refine (hc w2 z2).mono ?_
  rintro e w3 ⟨rfl, z3⟩
  go_wp2_with fail
  go_ret2
  exact ⟨rfl, w3, z3, rfl⟩

end Go.Proofs.Ytjhifhoniimfgaa

