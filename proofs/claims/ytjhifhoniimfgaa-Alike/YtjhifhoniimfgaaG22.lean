import Derived.Test.YtjhifhoniimfgaaG21
import Derived.Test.YtjhifhoniimfgaaG16
/-
  A step of the core, on a gate in memory.
-/
namespace Go.Proofs.Ytjhifhoniimfgaa
open Go.RowKit

/-- On the way: the gate in a state; nothing else turned; the blocks' names are as they were. -/
def Way (own : Nat → Nat) (T : Nat) (w : World) (B : GB) (s' : St) (N : Nat) (W : World) : Prop :=
  ∃ own', PG own' T W B s' N ∧ Same own own' w ∧ Keep (Out own T) w W

theorem Way.refl {own : Nat → Nat} {T : Nat} {w : World} {B : GB} {s : St} {N : Nat} (h : PG own T w B s N) : Way own T w B s N w := ⟨own, h, Same.refl _ _, Keep.refl _ _⟩

theorem Way.more {own : Nat → Nat} {T : Nat} {w : World} {B : GB} {s : St} {N M : Nat} {W : World} (h : Way own T w B s N W) (hM : N ≤ M) : Way own T w B s M W := by
  obtain ⟨o, h1, h2, h3⟩ := h
  exact ⟨o, h1.more hM, h2, h3⟩

theorem Way.keep {own : Nat → Nat} {T : Nat} {w : World} {B : GB} {s : St} {N : Nat} {W W' : World} (h : Way own T w B s N W) (hcl : s.cl ≤ 8) (hna : s.na ≤ 4) (hk : Keep (fun _ => True) W W') : Way own T w B s N W' := by
  obtain ⟨o, h1, h2, h3⟩ := h
  exact ⟨o, h1.keep hcl hna hk (fun _ _ _ _ => trivial) (Same.refl _ _), h2, h3.trans' hk (fun _ _ _ => trivial)⟩

theorem Way.goes {own : Nat → Nat} {T : Nat} {w : World} {B : GB} {s : St} {N : Nat} {W : World} (h : Way own T w B s N W) : GoesP own T w B s N W := by
  obtain ⟨o, h1, h2, h3⟩ := h
  exact ⟨o, B, h1, .refl _, h2, h3⟩

theorem Way.trans {own : Nat → Nat} {T : Nat} {w : World} {B : GB} {s2 : St} {N : Nat} {W W2 : World} {own1 : Nat → Nat} (h2 : Same own own1 w) (h3 : Keep (Out own T) w W) (k : GoesP own1 T W B s2 N W2) : GoesP own T w B s2 N W2 :=
  GoesP.trans h3 h2 (.refl _) k

theorem step_cells (s : St) : s.step.cl = s.cl ∧ s.step.na = s.na ∧ s.step.held = s.held := ⟨rfl, rfl, rfl⟩

theorem gStep {own : Nat → Nat} {T : Nat} {w : World} {B : GB} {s : St} {N : Nat} (h : PG own T w B s N) :
    Calls Try.prog 48 #[.pointer (some ⟨B.wb, 0, none⟩)] w fun e w' => e = .returned (.tuple #[]) ∧ Way own T w B s.step N w' := by
  obtain ⟨mi, ti, st, hw1, hw2⟩ := h.watch
  refine (stepped_any hw1).mono ?_
  rintro e w' ⟨rfl, k1, k2⟩
  have k3 : Keep (fun b => b ≠ B.wb ∧ b ≠ B.cb) w w' := k2.mono (fun _ _ hb => hb.1)
  refine ⟨rfl, _, h.rewatch k3 s.ticked true s.misses s.shut ⟨mi, ti, true, k1, fun e => ⟨(hw2 e).1, (hw2 e).2.1, rfl⟩⟩, Same.ext own w T, k3.mono (fun b _ hb => ?_)⟩
  have ow := h.ow
  have oc := h.oc
  unfold Out at hb
  exact ⟨fun e => by subst e; omega, fun e => by subst e; omega⟩

theorem gTake_no {own : Nat → Nat} {T : Nat} {w : World} {B : GB} {s : St} {N : Nat} (hk : Ok s N) (hN : N < 1000000000000000) (i : Nat) (hi : i < 2) (hn : s.hasNext i = false) {W : World} (h : Way own T w B s N W) :
    Calls Try.prog 49 #[.pointer (some ⟨B.lb i, 0, none⟩)] W fun e w' => e = .returned (.tuple #[.agg #[.int .i64 0, .int .i64 0, .string ByteArray.empty], .bool false]) ∧ Way own T w B s N w' := by
  have h' := h
  obtain ⟨o, h1, h2, h3⟩ := h
  obtain ⟨sb, hp, o1, o2⟩ := h1.lane i hi
  have hmt := hk.mt i hi
  refine (take_no hp (by omega) hn).mono ?_
  rintro e w' ⟨rfl, hb⟩
  exact ⟨rfl, h'.keep hk.cl.2 hk.na.2 (Keep.ofBelow hb)⟩

theorem gTake_yes {own : Nat → Nat} {T : Nat} {w : World} {B : GB} {s : St} {N : Nat} (hk : Ok s N) (hN : N < 1000000000000000) (i : Nat) (hi : i < 2) (hn : s.hasNext i = true) {W : World} (h : Way own T w B s N W) :
    Calls Try.prog 49 #[.pointer (some ⟨B.lb i, 0, none⟩)] W fun e w' => e = .returned (.tuple #[.agg #[.int .i64 (s.t i), .int .i64 (s.whose i), .string (s.f i (s.t i)).2.2], .bool true]) ∧ Way own T w B (s.took i) N w' := by
  obtain ⟨o, h1, h2, h3⟩ := h
  obtain ⟨sb, hp, o1, o2⟩ := h1.lane i hi
  have hmt := hk.mt i hi
  have hw := (whose_lt hk hi hn).2
  refine (take_yes hp (by omega) hn).mono ?_
  rintro e w' ⟨rfl, hp', hk'⟩
  obtain ⟨r1, r2⟩ := LaneR.new hp o1 o2 hp' hk'
  have := h1.relane i hi _ _ _ r1 r2
  rw [upN_self, upN_self] at this
  refine ⟨by rw [hw], _, this, h2.trans (Same.ext o W (T + 1 + i)) h3.size, h3.trans' (r2.out (T := T) (by omega) (by omega)) (fun b hb hO => ?_)⟩
  unfold Out at hO ⊢
  rw [h2 b hb]; exact hO

theorem gCoreS {own : Nat → Nat} {T : Nat} {w : World} {B : GB} {s : St} {N : Nat} (h : PG own T w B s N) (hk : Ok s N) (hN : N < 1000000000000000) (hS : Sz s) (hT : 0 < T) :
    Calls Try.prog 30 #[.pointer (some ⟨B.gb, 0, none⟩)] w fun e w' => e = .returned (.tuple #[.int .i64 (coreS s).1, .int .i64 0]) ∧ GoesP own T w B (coreS s).2 (N + 1) w' := by
  have c6 := cellAt (i := 6) h.gate rfl
  have hk1 := step_ok hk
  have hst := gStep h
  replace hS : Sz s.step := hS
  unfold coreS
  generalize s.step = s1 at *
  have hcl := hk1.cl.2
  have hna := hk1.na.2
  have cell3 : ∀ {s' : St} {W : World}, Way own T w B s' N W → W.cell? ⟨B.gb, 3, none⟩ = some (.pointer (some ⟨B.lb 1, 0, none⟩)) := fun ⟨o, h1, _, _⟩ => cellAt (i := 3) h1.gate rfl
  have cell2 : ∀ {s' : St} {W : World}, Way own T w B s' N W → W.cell? ⟨B.gb, 2, none⟩ = some (.pointer (some ⟨B.lb 0, 0, none⟩)) := fun ⟨o, h1, _, _⟩ => cellAt (i := 2) h1.gate rfl
  have cell4 : ∀ {s' : St} {W : World}, Way own T w B s' N W → W.cell? ⟨B.gb, 4, none⟩ = some (heldV B s') := fun ⟨o, h1, _, _⟩ => cellAt (i := 4) h1.gate rfl
  have hal : ∀ {s' : St} {W : World} (O : Obj), s'.cl ≤ 8 → s'.na ≤ 4 → Way own T w B s' N W → Way own T w B s' N (W.alloc O) := fun O q1 q2 hW => hW.keep q1 q2 ((Keep.refl _ _).alloc O)
  unfold coreS'
  cases hn1 : s1.hasNext 1 with
  | true =>
    have hw := whose_lt hk1 (by omega) hn1
    have ht := took_ok hk1 1 (by omega) hn1
    refine (core_rush B.gb B.wb (B.lb 1) (s1.t 1) (s1.whose 1) 1 (s1.f 1 (s1.t 1)).2.2 w (Way own T w B s1 N) (Way own T w B (s1.took 1) N) (GoesP own T w B (rushS s1).2 (N + 1)) c6 hst (fun W hW => cell3 hW) (fun W hW => gTake_yes hk1 hN 1 (by omega) hn1 hW) (fun W hW => ?_)).mono ?_
    · obtain ⟨o, g1, g2, g3⟩ := hal (takO (s1.t 1) (s1.whose 1) (s1.f 1 (s1.t 1)).2.2) ht.cl.2 ht.na.2 hW
      refine (gRush g1 ht hN (show Sz _ from hS) hT (s1.t 1) (s1.whose 1) hw.1 _).mono ?_
      rintro e w' ⟨rfl, hg⟩
      exact ⟨rfl, Way.trans g2 g3 hg⟩
    · rintro e w' ⟨rfl, hg⟩
      exact ⟨rfl, hg⟩
  | false =>
    have hz1 := fun W (hW : Way own T w B s1 N W) => gTake_no hk1 hN 1 (by omega) hn1 hW
    cases hh : s1.held with
    | some ca =>
      obtain ⟨c, a⟩ := ca
      have hv : heldV B s1 = .pointer (some ⟨B.hb, 0, none⟩) := by unfold heldV; rw [hh]
      refine (core_free B.gb B.wb (B.lb 1) B.hb (freeS s1 c a).1 w (Way own T w B s1 N) (Way own T w B s1 N) (GoesP own T w B (freeS s1 c a).2 (N + 1)) c6 hst (fun W hW => cell3 hW) hz1 (fun W hW => by rw [← hv]; exact cell4 hW) (fun W hW => ?_)).mono ?_
      · obtain ⟨o, g1, g2, g3⟩ := hal (takO 0 0 ByteArray.empty) hcl hna hW
        refine (gFree g1 hk1 hN c a hh).mono ?_
        rintro e w' ⟨rfl, hg⟩
        exact ⟨rfl, Way.trans g2 g3 hg⟩
      · rintro e w' ⟨rfl, hg⟩
        exact ⟨rfl, hg⟩
    | none =>
      have hv : heldV B s1 = .pointer none := by unfold heldV; rw [hh]
      have hal0 := fun W (hW : Way own T w B s1 N W) => hal (takO 0 0 ByteArray.empty) hcl hna hW
      cases hn0 : s1.hasNext 0 with
      | true =>
        have hw := whose_lt hk1 (i := 0) (by omega) hn0
        have ht := took_ok hk1 0 (by omega) hn0
        refine (core_serve B.gb B.wb (B.lb 1) (B.lb 0) (s1.t 0) (s1.whose 0) (serveS s1).1 (s1.f 0 (s1.t 0)).2.2 w (Way own T w B s1 N) (Way own T w B s1 N) (Way own T w B (s1.took 0) N) (GoesP own T w B (serveS s1).2 (N + 1)) c6 hst (fun W hW => cell3 hW) hz1
          (fun W hW => ⟨by rw [← hv]; exact cell4 hW, cell2 hW⟩) (fun W hW => gTake_yes hk1 hN 0 (by omega) hn0 (hal0 W hW)) (fun W hW => ?_)).mono ?_
        · obtain ⟨o, g1, g2, g3⟩ := hal (takO (s1.t 0) (s1.whose 0) (s1.f 0 (s1.t 0)).2.2) ht.cl.2 ht.na.2 hW
          refine (gServe g1 ht hN (show Sz _ from hS) hT hh (s1.t 0) (s1.whose 0) hw.1 _).mono ?_
          rintro e w' ⟨rfl, hg⟩
          have hg' := Way.trans g2 g3 hg
          have er := (does_ring (s1.took 0) 0 (s1.f 0 (s1.t 0)).2.2).1
          unfold serveS
          rw [er]
          by_cases hroom : ((s1.took 0).ring (s1.whose 0)).length < (s1.took 0).an
          · rw [if_pos hroom] at hg' ⊢
            have hroom' : ((s1.took 0).ring (s1.whose 0)).length < s1.an := hroom
            rw [if_pos hroom']
            exact ⟨rfl, hg'⟩
          · rw [if_neg hroom] at hg' ⊢
            have hroom' : ¬ ((s1.took 0).ring (s1.whose 0)).length < s1.an := hroom
            rw [if_neg hroom']
            exact ⟨rfl, hg'⟩
        · rintro e w' ⟨rfl, hg⟩
          exact ⟨rfl, hg⟩
      | false =>
        refine (core_idle B.gb B.wb (B.lb 1) (B.lb 0) w (Way own T w B s1 N) (Way own T w B s1 N) (Way own T w B s1 N) c6 hst (fun W hW => cell3 hW) hz1
          (fun W hW => ⟨by rw [← hv]; exact cell4 hW, cell2 hW⟩) (fun W hW => gTake_no hk1 hN 0 (by omega) hn0 (hal0 W hW))).mono ?_
        rintro e w' ⟨rfl, W, hW, rfl⟩
        exact ⟨rfl, ((hal0 W hW).more (Nat.le_succ N)).goes⟩

theorem gCore {own : Nat → Nat} {T : Nat} {w : World} {B : GB} {s : St} {N : Nat} (h : PG own T w B s N) (hk : Ok s N) (hN : N < 1099511627776) (hT : 0 < T) :
    Calls Try.prog 30 #[.pointer (some ⟨B.gb, 0, none⟩)] w fun e w' => e = .returned (.tuple #[.int .i64 (coreS s).1, .int .i64 0]) ∧ GoesP own T w B (coreS s).2 (N + 1) w' :=
  gCoreS h hk (by omega) (hk.sz (by omega)) hT

end Go.Proofs.Ytjhifhoniimfgaa

/-
  Time goes on, on a gate in memory.
-/
namespace Go.Proofs.Ytjhifhoniimfgaa
open Go.RowKit

set_option maxHeartbeats 400000 in
theorem gTick_nil (w : World) : Calls Try.prog 40 #[.pointer none] w fun e w' => e = .returned (.int .i64 1) ∧ w = w' := by
  go_enter Try.func40, Try.ntmps40
  go_wp2
  go_ret
  exact ⟨rfl, rfl⟩

/-- Time goes on: the orders of the first j accounts have ended. -/
structure TickMid (own : Nat → Nat) (T : Nat) (w : World) (B : GB) (s : St) (N j : Nat) : Prop where
  core : Core0 own T w B { s with time := s.time + 1 }
  lane : ∀ i, i < 2 → LaneR own (T + 1 + i) w (B.lb i) (s.n i) (s.m i) (s.t i) (s.f i)
  box : ∀ c, c < s.cl → InboxR own (T + 10 + c) w (B.ib c) s.an N (s.ring c) (s.acks c)
  acc : ∀ a, a < s.na → AccR own (T + 20 + a) w (B.ab a) (s.lim a) (s.stop a) (s.book a) (if a < j then s.time + 1 else s.time) N

theorem TickMid.start {own : Nat → Nat} {T : Nat} {w : World} {B : GB} {s : St} {N : Nat} (h : PG own T w B s N) :
    TickMid own T (w.setCell ⟨B.gb, 5, none⟩ (.int .i64 ((s.time : Int) + 1))) B s N 0 ∧ Keep (Out own T) w (w.setCell ⟨B.gb, 5, none⟩ (.int .i64 ((s.time : Int) + 1))) := by
  have h0 := h.core0
  obtain ⟨n1, n2, n3, n4, n5, n6, n7, n8, n9, n10⟩ := GB.ne_gw h0
  obtain ⟨ci, hi1, hi2⟩ := h0.irow
  obtain ⟨ca, ha1, ha2⟩ := h0.arow
  obtain ⟨mi, ti, st, hw1, hw2⟩ := h0.watch
  have hk : Keep (fun b => b ≠ B.gb) w (w.setCell ⟨B.gb, 5, none⟩ (.int .i64 ((s.time : Int) + 1))) := (Keep.refl _ w).setCell _ (fun _ h => h rfl) _
  have hp : ∀ b, own b ≠ T → b ≠ B.gb := fun b hb e => hb (e ▸ h0.og)
  have ho := Same.refl own w
  refine ⟨⟨⟨?_, ⟨ci, hk.get hi1 (Ne.symm n3), hi2⟩, ⟨ca, hk.get ha1 (Ne.symm n4), ha2⟩, fun c a e => ?_, ⟨mi, ti, st, hw1.keep hk (Ne.symm n1) (Ne.symm n2), hw2⟩, h0.og, h0.oi, h0.oa, h0.ow, h0.oc⟩,
    fun i hi => (h.lane i hi).keep hk (fun b hb e => hp b (by omega)) ho, fun c hc => (h.box c hc).keep hk (fun b hb e => hp b (by omega)) ho, fun a ha => ?_⟩, hk.mono (fun b _ hb e => ?_)⟩
  · rw [heap_setCell_at _ h0.gate]
    simp [gCells, heldV]
  · obtain ⟨q1, q2⟩ := h0.late c a e
    exact ⟨hk.get q1 (Ne.symm (n5 c a e)), q2⟩
  · rw [if_neg (by omega)]
    exact (h.acc a ha).keep hk (fun b hb e => hp b (by omega)) ho
  · subst e
    unfold Out at hb
    have := h0.og
    omega

theorem TickMid.next {own : Nat → Nat} {T : Nat} {w w' : World} {B : GB} {s : St} {N j : Nat} (h : TickMid own T w B s N j) (hcl : s.cl ≤ 8) (hj : j < s.na)
    (ha : AccR (ext own w.heap.size (T + 20 + j)) (T + 20 + j) w' (B.ab j) (s.lim j) (s.stop j) (s.book j) (s.time + 1) N) (hk : Keep (fun b => own b ≠ T + 20 + j) w w') : TickMid (ext own w.heap.size (T + 20 + j)) T w' B s N (j + 1) := by
  have ho := Same.ext own w (T + 20 + j)
  refine ⟨h.core.keep hk (fun b hb e => by omega) ho, fun i hi => (h.lane i hi).keep hk (fun b hb e => by omega) ho, fun c hc => (h.box c hc).keep hk (fun b hb e => by omega) ho, fun a ha' => ?_⟩
  by_cases e : a = j
  · subst e; rw [if_pos (by omega)]; exact ha
  · have := (h.acc a ha').keep hk (fun b hb e => by omega) ho
    by_cases e2 : a < j
    · rw [if_pos e2] at this; rw [if_pos (by omega)]; exact this
    · rw [if_neg e2] at this; rw [if_neg (by omega)]; exact this

theorem TickMid.last {own : Nat → Nat} {T : Nat} {w : World} {B : GB} {s : St} {N : Nat} (h : TickMid own T w B s N s.na) : PG own T w B { s with time := s.time + 1 } N :=
  h.core.pg h.lane h.box (fun a ha => by have := h.acc a ha; rw [if_pos ha] at this; exact this)

theorem gTicked {own : Nat → Nat} {T : Nat} {w : World} {B : GB} {s : St} {N : Nat} (h : PG own T w B s N) :
    Calls Try.prog 58 #[.pointer (some ⟨B.wb, 0, none⟩)] w fun e w' => e = .returned (.tuple #[]) ∧ Way own T w B { s with ticked := true } N w' := by
  obtain ⟨mi, ti, st, hw1, hw2⟩ := h.watch
  refine (ticked_any hw1).mono ?_
  rintro e w' ⟨rfl, k1, k2⟩
  have k3 : Keep (fun b => b ≠ B.wb ∧ b ≠ B.cb) w w' := k2.mono (fun _ _ hb => hb.1)
  refine ⟨rfl, _, h.rewatch k3 true s.stepped s.misses s.shut ⟨mi, true, st, k1, fun e => ⟨(hw2 e).1, rfl, (hw2 e).2.2⟩⟩, Same.ext own w T, k3.mono (fun b _ hb => ?_)⟩
  have ow := h.ow
  have oc := h.oc
  unfold Out at hb
  exact ⟨fun e => by subst e; omega, fun e => by subst e; omega⟩

/-- What the loop over the accounts keeps. -/
def TickRel (own : Nat → Nat) (T : Nat) (w : World) (B : GB) (s : St) (N j : Nat) (wr : World) : Prop :=
  ∃ own', TickMid own' T wr B s N j ∧ Same own own' w ∧ Keep (Out own T) w wr

theorem TickRel.cells {own : Nat → Nat} {T : Nat} {w : World} {B : GB} {s : St} {N j : Nat} {wr : World} (h : TickRel own T w B s N j wr) :
    wr.cell? ⟨B.gb, 5, none⟩ = some (.int .i64 ((s.time : Int) + 1)) ∧ wr.cell? ⟨B.gb, 6, none⟩ = some (.pointer (some ⟨B.wb, 0, none⟩)) ∧ ∀ a, a < s.na → wr.cell? ⟨B.ar, a, none⟩ = some (.pointer (some ⟨B.ab a, 0, none⟩)) := by
  obtain ⟨o, h1, _, _⟩ := h
  obtain ⟨cs, r1, r2⟩ := h1.core.arow
  exact ⟨cellAt (i := 5) h1.core.gate rfl, cellAt (i := 6) h1.core.gate rfl, fun a ha => cellAt r1 (r2 a ha)⟩

theorem TickRel.step {own : Nat → Nat} {T : Nat} {w : World} {B : GB} {s : St} {N j : Nat} {wr : World} (h : TickRel own T w B s N j wr) (hk : Ok s N) (hN : N < 1000000000000000) (hS : Sz s) (hj : j < s.na) :
    Calls Try.prog 57 #[.pointer (some ⟨B.ab j, 0, none⟩), .int .i64 ((s.time : Int) + 1)] wr fun e w' => e = .returned (.tuple #[]) ∧ TickRel own T w B s N (j + 1) w' := by
  obtain ⟨o, h1, h2, h3⟩ := h
  have ha := h1.acc j hj
  rw [if_neg (by omega)] at ha
  have hna := hk.na.2
  have key := accEnd ha (hk.acc hN hS j hj)
  rw [show (((s.time + 1 : Nat)) : Int) = (s.time : Int) + 1 by omega] at key
  refine key.mono ?_
  rintro e w' ⟨rfl, k1, k2⟩
  refine ⟨rfl, _, h1.next hk.cl.2 hj k1 k2, h2.trans (Same.ext o wr (T + 20 + j)) h3.size, h3.trans' (k2.out (T := T) (by omega) (by omega)) (fun b hb hO => ?_)⟩
  unfold Out at hO ⊢
  rw [h2 b hb]; exact hO

set_option maxHeartbeats 1000000 in
theorem tick_walk (gb wb ar ac na : Nat) (ab : Nat → Nat) (time : Int) (w : World) (hna : na ≤ 4) (ht : 0 ≤ time) (ht2 : time < 1000000000000001) (h5 : w.cell? ⟨gb, 5, none⟩ = some (.int .i64 time)) (z5 : w.frozen? ⟨gb, 5, none⟩ = false) (h1 : w.cell? ⟨gb, 1, none⟩ = some (.slice (some ⟨ar, 0, none⟩) na ac)) (R : Nat → World → Prop) (Z : World → Prop)
    (h0 : R 0 (w.setCell ⟨gb, 5, none⟩ (.int .i64 (time + 1))))
    (hc : ∀ j W, R j W → W.cell? ⟨gb, 5, none⟩ = some (.int .i64 (time + 1)) ∧ W.cell? ⟨gb, 6, none⟩ = some (.pointer (some ⟨wb, 0, none⟩)) ∧ ∀ a, a < na → W.cell? ⟨ar, a, none⟩ = some (.pointer (some ⟨ab a, 0, none⟩)))
    (hs : ∀ j W, j < na → R j W → Calls Try.prog 57 #[.pointer (some ⟨ab j, 0, none⟩), .int .i64 (time + 1)] W fun e w' => e = .returned (.tuple #[]) ∧ R (j + 1) w')
    (hw : ∀ W, R na W → Calls Try.prog 58 #[.pointer (some ⟨wb, 0, none⟩)] W fun e w' => e = .returned (.tuple #[]) ∧ Z w') :
    Calls Try.prog 40 #[.pointer (some ⟨gb, 0, none⟩)] w fun e w' => e = .returned (.int .i64 0) ∧ Z w' := by
  have HC : Hid (∀ j W, R j W → W.cell? ⟨gb, 5, none⟩ = some (.int .i64 (time + 1)) ∧ W.cell? ⟨gb, 6, none⟩ = some (.pointer (some ⟨wb, 0, none⟩)) ∧ ∀ a, a < na → W.cell? ⟨ar, a, none⟩ = some (.pointer (some ⟨ab a, 0, none⟩))) := hc
  have H0 : Hid (R 0 (w.setCell ⟨gb, 5, none⟩ (.int .i64 (time + 1)))) := h0
  clear hc h0
  go_enter Try.func40, Try.ntmps40
  go_wp2
  go_loopw [19] (fun i wr => ∃ j : Nat, j ≤ na ∧ i = .int .i64 j ∧ R j wr) (fun i _ => na - (intOf i).toNat)
  case atStart => exact ⟨0, Nat.zero_le _, rfl, H0.out⟩
  case round =>
    obtain ⟨j, hj, rfl, hr⟩ := hrel
    obtain ⟨c5, c6, ca⟩ := HC.out j wr hr
    by_cases hlt : j < na
    · have hlt' : (j : Int) < (na : Int) := by omega
      have c7 := ca j hlt
      clear ca h5 z5 h1
      go_wp2_with fail
      refine (hs j wr hlt hr).mono ?_
      rintro e w' ⟨rfl, hr'⟩
      go_wp2_with fail
      go_roundw
      case rel => exact ⟨j + 1, by omega, by go_num, hr'⟩
      case measure => simp [intOf]; omega
    · obtain rfl : j = na := by omega
      have hge : ¬ (j : Int) < (j : Int) := by omega
      clear ca h5 z5 h1
      go_wp2_with fail
      refine (hw wr hr).mono ?_
      rintro e w' ⟨rfl, hz⟩
      go_wp2_with fail
      go_ret
      exact ⟨rfl, hz⟩

theorem gTickS {own : Nat → Nat} {T : Nat} {w : World} {B : GB} {s : St} {N : Nat} (h : PG own T w B s N) (hk : Ok s N) (hN : N < 1000000000000000) (hS : Sz s) :
    Calls Try.prog 40 #[.pointer (some ⟨B.gb, 0, none⟩)] w fun e w' => e = .returned (.int .i64 0) ∧ GoesP own T w B (tickS s) (N + 1) w' := by
  have c5 := cellAt (i := 5) h.gate rfl
  have z5 := frozenAt (i := 5) h.gate
  have c1 := cellAt (i := 1) h.gate rfl
  have htm := hk.time
  obtain ⟨t1, t2⟩ := TickMid.start h
  refine (tick_walk B.gb B.wb B.ar B.ac s.na B.ab s.time w hk.na.2 (by omega) (by omega) c5 z5 c1 (TickRel own T w B s N) (Way own T w B (tickS s) N) ⟨own, t1, Same.refl _ _, t2⟩ (fun j W hW => hW.cells) (fun j W hj hW => hW.step hk hN hS hj) (fun W hW => ?_)).mono ?_
  · obtain ⟨o, h1, h2, h3⟩ := hW
    refine (gTicked h1.last).mono ?_
    rintro e w' ⟨rfl, o2, g1, g2, g3⟩
    refine ⟨rfl, o2, g1, h2.trans g2 h3.size, h3.trans' g3 (fun b hb hO => ?_)⟩
    unfold Out at hO ⊢
    rw [h2 b hb]; exact hO
  · rintro e w' ⟨rfl, hw⟩
    exact ⟨rfl, (hw.more (Nat.le_succ N)).goes⟩

theorem gTick {own : Nat → Nat} {T : Nat} {w : World} {B : GB} {s : St} {N : Nat} (h : PG own T w B s N) (hk : Ok s N) (hN : N < 1099511627776) :
    Calls Try.prog 40 #[.pointer (some ⟨B.gb, 0, none⟩)] w fun e w' => e = .returned (.int .i64 0) ∧ GoesP own T w B (tickS s) (N + 1) w' :=
  gTickS h hk (by omega) (hk.sz (by omega))

end Go.Proofs.Ytjhifhoniimfgaa

