import Derived.Test.YtjhifhoniimfgaaGreatG37
import Derived.Test.YtjhifhoniimfgaaGreatG31
/-
  A gate on both sides: the program's, the document's.
-/
namespace Go.Proofs.YtjhifhoniimfgaaGreat
open Go.RowKit

/-- The blocks that are not of the pair i. -/
def OutT (own : Nat → Nat) (i : Nat) : Nat → Prop := fun b => own b < 200 * (i + 1) ∨ 200 * (i + 1) + 200 ≤ own b

def TwinAt (own : Nat → Nat) (i : Nat) (w : World) (px pw : Option Addr) (N : Nat) : Prop :=
  (px = none ∧ pw = none) ∨ ∃ B R s, px = some ⟨B.gb, 0, none⟩ ∧ pw = some ⟨R.rb, 0, none⟩ ∧ PG own (200 * (i + 1)) w B s N ∧ RG own (200 * (i + 1) + 100) w R s ∧ Ok s N

theorem TwinAt.more {own : Nat → Nat} {i : Nat} {w : World} {px pw : Option Addr} {N M : Nat} (h : TwinAt own i w px pw N) (hM : N ≤ M) : TwinAt own i w px pw M := by
  rcases h with h | ⟨B, R, s, h1, h2, h3, h4, h5⟩
  · exact .inl h
  · exact .inr ⟨B, R, s, h1, h2, h3.more hM, h4, h5.more hM⟩

theorem TwinAt.keep {own own' : Nat → Nat} {i : Nat} {S : Nat → Prop} {w w' : World} {px pw : Option Addr} {N : Nat} (h : TwinAt own i w px pw N) (hk : Keep S w w') (hs : ∀ b, b < w.heap.size → 200 * (i + 1) ≤ own b → own b < 200 * (i + 1) + 200 → S b) (ho : Same own own' w) : TwinAt own' i w' px pw N := by
  rcases h with h | ⟨B, R, s, h1, h2, h3, h4, h5⟩
  · exact .inl h
  · exact .inr ⟨B, R, s, h1, h2, h3.keep h5.cl.2 h5.na.2 hk (fun b hb q1 q2 => hs b hb q1 (by omega)) ho, h4.keep h5.cl.2 hk (fun b hb q1 q2 => hs b hb (by omega) (by omega)) ho, h5⟩

/-- What a step on the pair leaves. -/
def TwinGo (own : Nat → Nat) (i : Nat) (w : World) (px pw : Option Addr) (N : Nat) (w' : World) : Prop := ∃ own', Same own own' w ∧ TwinAt own' i w' px pw N ∧ Keep (OutT own i) w w'

theorem twin_both {own : Nat → Nat} {i : Nat} {w : World} {B : GB} {R : RB} {s s' : St} {N : Nat} (hr : RG own (200 * (i + 1) + 100) w R s) (hk : Ok s N) (hk' : Ok s' (N + 1)) {fw : FuncId} {argsw : Array Value} {E : Ending}
    (hw : ∀ own1 w1, RG own1 (200 * (i + 1) + 100) w1 R s → Calls Tryz.prog fw argsw w1 fun e w2 => e = E ∧ GoesR own1 (200 * (i + 1) + 100) w1 R.rb s' w2) (W W' : World) (hW : GoesP own (200 * (i + 1)) w B s' (N + 1) W) (hKW : Keep (fun _ => True) W W') :
    Keep (OutT own i) w W' ∧ Calls Tryz.prog fw argsw W' fun e w2 => e = E ∧ TwinGo own i w (some ⟨B.gb, 0, none⟩) (some ⟨R.rb, 0, none⟩) (N + 1) w2 ∧ Keep (fun b => W.heap.size ≤ b) W' w2 := by
  obtain ⟨own0, B1, p1, ⟨hb, rfl⟩, p3, p4⟩ := hW
  have r3 : Same own0 (ext own0 W.heap.size 0) W := fun b hb => ext_lt hb
  have p1' : PG (ext own0 W.heap.size 0) (200 * (i + 1)) W' { B with hb := hb } s' (N + 1) := p1.keep hk'.cl.2 hk'.na.2 hKW (fun _ _ _ _ => trivial) r3
  have p3' : Same own (ext own0 W.heap.size 0) w := p3.trans r3 p4.size
  have p4' : Keep (Out own (200 * (i + 1))) w W' := p4.trans' hKW (fun _ _ _ => trivial)
  have hnew : ∀ b, W.heap.size ≤ b → ext own0 W.heap.size 0 b = 0 := fun b hb => ext_ge hb
  generalize ext own0 W.heap.size 0 = own1 at p1' p3' hnew
  refine ⟨p4'.mono (T := OutT own i) (fun b _ hb => by unfold OutT at hb; unfold Out; omega), ?_⟩
  have hr1 : RG own1 (200 * (i + 1) + 100) W' R s := hr.keep hk.cl.2 p4' (fun b hb q1 q2 => by unfold Out; omega) p3'
  refine (hw own1 W' hr1).mono ?_
  rintro e w2 ⟨rfl, own2, R2, q1, q2, q3, q4⟩
  have p5 := p1'.keep hk'.cl.2 hk'.na.2 q4 (fun b hb h1 h2 => by unfold Out; omega) q3
  refine ⟨rfl, ⟨own2, p3'.trans q3 p4'.size, .inr ⟨{ B with hb := hb }, R2, s', rfl, by rw [q2], p5, q1, hk'⟩, ?_⟩, q4.mono (fun b _ hb => by unfold Out; rw [hnew b hb]; omega)⟩
  refine (p4'.mono (T := OutT own i) (fun b _ hb => ?_)).trans' q4 (fun b hb hO => ?_)
  · unfold OutT at hb; unfold Out; omega
  · unfold OutT at hO; unfold Out; rw [p3' b hb]; omega

/-- A call on both sides: it answers alike. -/
def Both (own : Nat → Nat) (i : Nat) (w : World) (px pw : Option Addr) (N : Nat) (fx fw : FuncId) (ax aw : Array Value) (E : Ending) : Prop :=
  ∃ Z : World → Prop, (Calls Tryz.prog fx ax w fun e w1 => e = E ∧ Z w1) ∧ ∀ W W', Z W → Keep (fun _ => True) W W' → Keep (OutT own i) w W' ∧ Calls Tryz.prog fw aw W' fun e w2 => e = E ∧ TwinGo own i w px pw (N + 1) w2 ∧ Keep (fun b => W.heap.size ≤ b) W' w2

theorem TwinGo.same {own : Nat → Nat} {i : Nat} {w w' : World} {px pw : Option Addr} {N : Nat} (h : TwinAt own i w px pw N) (hk : Keep (fun _ => True) w w') : TwinGo own i w px pw (N + 1) w' :=
  ⟨own, Same.refl _ _, (h.keep hk (fun _ _ _ _ => trivial) (Same.refl _ _)).more (Nat.le_succ N), hk.mono (fun _ _ _ => trivial)⟩

theorem tclaim {own : Nat → Nat} {i : Nat} {w : World} {px pw : Option Addr} {N : Nat} (h : TwinAt own i w px pw N) (hN : N < 1099511627775) (client lane : Int) :
    ∃ n er : Int, Both own i w px pw N 16 22 #[.pointer px, .int .i64 client, .int .i64 lane] #[.pointer pw, .int .i64 client, .int .i64 lane] (.returned (.tuple #[.int .i64 n, .int .i64 er])) := by
  have h0 := h
  rcases h with ⟨rfl, rfl⟩ | ⟨B, R, s, rfl, rfl, h3, h4, h5⟩
  · refine ⟨0, 1, fun w1 => w = w1, gClaim_nil client lane w, fun W W' hW hKW => ⟨by subst hW; exact hKW.mono (fun _ _ _ => trivial), (rClaim_nil client lane W').mono ?_⟩⟩
    rintro e w2 ⟨rfl, rfl⟩
    subst hW
    exact ⟨rfl, TwinGo.same h0 hKW, Keep.refl _ _⟩
  · exact ⟨_, _, _, gClaim h3 h5 (by omega) client lane, twin_both h4 h5 (claim_ok h5 client lane) (fun own1 w1 g => rClaim g h5 (by omega) client lane)⟩

theorem tpub {own : Nat → Nat} {i : Nat} {w : World} {px pw : Option Addr} {N : Nat} (h : TwinAt own i w px pw N) (hN : N < 1099511627775) (client lane place : Int) (b : ByteArray) :
    ∃ er : Int, Both own i w px pw N 17 53 #[.pointer px, .int .i64 client, .int .i64 lane, .int .i64 place, .string b] #[.pointer pw, .int .i64 client, .int .i64 lane, .int .i64 place, .string b] (.returned (.int .i64 er)) := by
  have h0 := h
  rcases h with ⟨rfl, rfl⟩ | ⟨B, R, s, rfl, rfl, h3, h4, h5⟩
  · refine ⟨1, fun w1 => w = w1, gPublish_nil client lane place b w, fun W W' hW hKW => ⟨by subst hW; exact hKW.mono (fun _ _ _ => trivial), (rPublish_nil client lane place b W').mono ?_⟩⟩
    rintro e w2 ⟨rfl, rfl⟩
    subst hW
    exact ⟨rfl, TwinGo.same h0 hKW, Keep.refl _ _⟩
  · exact ⟨_, _, gPublish h3 h5 (by omega) client lane place b, twin_both h4 h5 (pub_ok h5 client lane place b) (fun own1 w1 g => rPublish g h5 client lane place b)⟩

theorem tcore {own : Nat → Nat} {i : Nat} {w : World} {px pw : Option Addr} {N : Nat} (h : TwinAt own i w px pw N) (hN : N < 1099511627775) :
    ∃ n er : Int, Both own i w px pw N 19 24 #[.pointer px] #[.pointer pw] (.returned (.tuple #[.int .i64 n, .int .i64 er])) := by
  have h0 := h
  rcases h with ⟨rfl, rfl⟩ | ⟨B, R, s, rfl, rfl, h3, h4, h5⟩
  · refine ⟨0, 1, fun w1 => w = w1, gCore_nil w, fun W W' hW hKW => ⟨by subst hW; exact hKW.mono (fun _ _ _ => trivial), (rCore_nil W').mono ?_⟩⟩
    rintro e w2 ⟨rfl, rfl⟩
    subst hW
    exact ⟨rfl, TwinGo.same h0 hKW, Keep.refl _ _⟩
  · exact ⟨_, _, _, gCore h3 h5 (by omega) (by omega), twin_both h4 h5 (core_ok h5) (fun own1 w1 g => rCore g h5 (by omega))⟩

theorem tpoll {own : Nat → Nat} {i : Nat} {w : World} {px pw : Option Addr} {N : Nat} (h : TwinAt own i w px pw N) (hN : N < 1099511627775) (client : Int) :
    ∃ p q er : Int, Both own i w px pw N 20 25 #[.pointer px, .int .i64 client] #[.pointer pw, .int .i64 client] (.returned (.tuple #[.agg #[.int .i64 p, .int .i64 q], .int .i64 er])) := by
  have h0 := h
  rcases h with ⟨rfl, rfl⟩ | ⟨B, R, s, rfl, rfl, h3, h4, h5⟩
  · refine ⟨0, 0, 1, fun w1 => Below w.heap.size w w1, gPoll_nil client w, fun W W' hW hKW => ⟨(Keep.ofBelow (S := fun _ => True) hW).trans hKW |>.mono (fun _ _ _ => trivial), (rPoll_nil client W').mono ?_⟩⟩
    rintro e w2 ⟨rfl, hb⟩
    exact ⟨rfl, TwinGo.same h0 (((Keep.ofBelow hW).trans hKW).trans (Keep.ofBelow hb)), Keep.ofBelow hb⟩
  · exact ⟨_, _, _, _, gPoll h3 h5 (by omega) client, twin_both h4 h5 (poll_ok h5 client) (fun own1 w1 g => rPoll g h5 client)⟩

theorem ttick {own : Nat → Nat} {i : Nat} {w : World} {px pw : Option Addr} {N : Nat} (h : TwinAt own i w px pw N) (hN : N < 1099511627775) :
    ∃ er : Int, Both own i w px pw N 29 30 #[.pointer px] #[.pointer pw] (.returned (.int .i64 er)) := by
  have h0 := h
  rcases h with ⟨rfl, rfl⟩ | ⟨B, R, s, rfl, rfl, h3, h4, h5⟩
  · refine ⟨1, fun w1 => w = w1, gTick_nil w, fun W W' hW hKW => ⟨by subst hW; exact hKW.mono (fun _ _ _ => trivial), (rTick_nil W').mono ?_⟩⟩
    rintro e w2 ⟨rfl, rfl⟩
    subst hW
    exact ⟨rfl, TwinGo.same h0 hKW, Keep.refl _ _⟩
  · exact ⟨_, _, gTick h3 h5 (by omega), twin_both h4 h5 (tick_ok h5) (fun own1 w1 g => rTick g h5 (by omega))⟩

theorem twatch {own : Nat → Nat} {i : Nat} {w : World} {px pw : Option Addr} {N : Nat} (h : TwinAt own i w px pw N) (hN : N < 1099511627775) :
    ∃ (y : Bool) (er : Int), Both own i w px pw N 31 32 #[.pointer px] #[.pointer pw] (.returned (.tuple #[.bool y, .int .i64 er])) := by
  have h0 := h
  rcases h with ⟨rfl, rfl⟩ | ⟨B, R, s, rfl, rfl, h3, h4, h5⟩
  · refine ⟨false, 1, fun w1 => w = w1, gWatch_nil w, fun W W' hW hKW => ⟨by subst hW; exact hKW.mono (fun _ _ _ => trivial), (rWatch_nil W').mono ?_⟩⟩
    rintro e w2 ⟨rfl, rfl⟩
    subst hW
    exact ⟨rfl, TwinGo.same h0 hKW, Keep.refl _ _⟩
  · exact ⟨_, _, _, gWatch h3 h5 (by omega), twin_both h4 h5 (watch_ok h5) (fun own1 w1 g => rWatch g h5 (by omega))⟩

/-! What is told of tags alone. -/

theorem LaneR.reown {own own' : Nat → Nat} {τ : Nat} {w : World} {lb n m t : Nat} {f : Nat → Pl} (h : LaneR own τ w lb n m t f) (ho : ∀ b, own b = τ → own' b = τ) : LaneR own' τ w lb n m t f := by
  obtain ⟨sb, p, o1, o2⟩ := h
  exact ⟨sb, p, ho _ o1, ho _ o2⟩

theorem InboxR.reown {own own' : Nat → Nat} {τ : Nat} {w : World} {ib an N : Nat} {ring acks : List Ans} (h : InboxR own τ w ib an N ring acks) (ho : ∀ b, own b = τ → own' b = τ) : InboxR own' τ w ib an N ring acks := by
  obtain ⟨lb, sb, tt, v, p⟩ := h
  exact ⟨lb, sb, tt, v, ⟨p.box, p.ans, p.ack, ho _ p.o1, ho _ p.o2, ho _ p.o3, fun b hb => ⟨ho _ (p.o4 b hb).1, (p.o4 b hb).2⟩, p.le⟩⟩

theorem AccR.reown {own own' : Nat → Nat} {τ : Nat} {w : World} {ab : Nat} {lim : Nat → Int} {st : Bool} {es : List Ent} {time N : Nat} (h : AccR own τ w ab lim st es time N) (ho : ∀ b, own b = τ → own' b = τ) : AccR own' τ w ab lim st es time N := by
  obtain ⟨v, mb, l, dat, cv, c, q⟩ := h
  exact ⟨v, mb, l, dat, cv, c, ⟨q.acc, ho _ q.o1, ho _ q.o2, fun b hb => ho _ (q.o3 b hb), fun b hb => ho _ (q.o4 b hb), fun b hb => ho _ (q.o5 b hb), q.rel, q.cnt, q.clen, q.cpos⟩⟩

theorem PG.reown {own own' : Nat → Nat} {T : Nat} {w : World} {B : GB} {s : St} {N : Nat} (h : PG own T w B s N) (hcl : s.cl ≤ 8) (hna : s.na ≤ 4) (ho : ∀ b, T ≤ own b → own b < T + 100 → own' b = own b) : PG own' T w B s N := by
  have hT : ∀ τ, T ≤ τ → τ < T + 100 → ∀ b, own b = τ → own' b = τ := fun τ h1 h2 b e => by rw [ho b (by omega) (by omega)]; exact e
  have h0 := hT T (Nat.le_refl _) (by omega)
  exact ⟨h.gate, h.irow, h.arow, fun c a e => ⟨(h.late c a e).1, h0 _ (h.late c a e).2⟩, h.watch, h0 _ h.og, h0 _ h.oi, h0 _ h.oa, h0 _ h.ow, h0 _ h.oc, fun i hi => (h.lane i hi).reown (hT _ (by omega) (by omega)), fun c hc => (h.box c hc).reown (hT _ (by omega) (by omega)), fun a ha => (h.acc a ha).reown (hT _ (by omega) (by omega))⟩

theorem RG.reown {own own' : Nat → Nat} {T : Nat} {w : World} {R : RB} {s : St} (h : RG own T w R s) (hcl : s.cl ≤ 8) (ho : ∀ b, T ≤ own b → own b < T + 100 → own' b = own b) : RG own' T w R s := by
  have hT : ∀ τ, T ≤ τ → τ < T + 100 → ∀ b, own b = τ → own' b = τ := fun τ h1 h2 b e => by rw [ho b (by omega) (by omega)]; exact e
  have h0 := hT T (Nat.le_refl _) (by omega)
  exact ⟨h.gate, h.lims, h.cli, h.lane, h.ring, h.acks, h.book, h.held, h0 _ h.og, h0 _ h.ol, h0 _ h.ok, fun i b hi hb => hT _ (by omega) (by omega) b (h.oln i b hi hb), fun c b hc hb => hT _ (by omega) (by omega) b (h.ori c b hc hb), fun c b hc hb => hT _ (by omega) (by omega) b (h.oac c b hc hb), fun a b ha hb => hT _ (by omega) (by omega) b (h.obk a b ha hb)⟩

theorem TwinAt.reown {own own' : Nat → Nat} {i : Nat} {w : World} {px pw : Option Addr} {N : Nat} (h : TwinAt own i w px pw N) (ho : ∀ b, 200 * (i + 1) ≤ own b → own b < 200 * (i + 1) + 200 → own' b = own b) : TwinAt own' i w px pw N := by
  rcases h with h | ⟨B, R, s, h1, h2, h3, h4, h5⟩
  · exact .inl h
  · exact .inr ⟨B, R, s, h1, h2, h3.reown h5.cl.2 h5.na.2 (fun b q1 q2 => ho b q1 (by omega)), h4.reown h5.cl.2 (fun b q1 q2 => ho b (by omega) (by omega)), h5⟩

theorem TwinAt.keep2 {own own' : Nat → Nat} {i : Nat} {S : Nat → Prop} {w w' : World} {px pw : Option Addr} {N : Nat} (h : TwinAt own i w px pw N) (hk : Keep S w w') (hs : ∀ b, b < w.heap.size → 200 * (i + 1) ≤ own b → own b < 200 * (i + 1) + 200 → S b) (ho : ∀ b, b < w.heap.size → 200 * (i + 1) ≤ own b → own b < 200 * (i + 1) + 200 → own' b = own b) : TwinAt own' i w' px pw N := by
  refine (h.keep (own' := fun b => if b < w.heap.size then own b else own' b) hk hs (fun b hb => if_pos hb)).reown (fun b q1 q2 => ?_)
  by_cases hb : b < w.heap.size
  · simp only [if_pos hb] at q1 q2 ⊢
    exact ho b hb q1 q2
  · simp only [if_neg hb]

/-- Acks on both sides: the program's list goes over to the caller, with the tag g. -/
def AcksGo (own : Nat → Nat) (i : Nat) (w : World) (px pw : Option Addr) (N g : Nat) (v : Value) (w' : World) : Prop :=
  ∃ own', (∀ b, b < w.heap.size → v.ownBlock ≠ some b → own' b = own b) ∧ (∀ b, v.ownBlock = some b → own' b = g ∧ b < w.heap.size ∧ 200 * (i + 1) ≤ own b ∧ own b < 200 * (i + 1) + 200) ∧ TwinAt own' i w' px pw N ∧ Keep (OutT own i) w w'

theorem tacks {own : Nat → Nat} {i : Nat} {w : World} {px pw : Option Addr} {N : Nat} (h : TwinAt own i w px pw N) (g : Nat) (hg : g < 200) (client : Int) :
    ∃ (l : List Ans) (er : Int), l.length ≤ N ∧ ∃ Z : Value → World → Prop, (Calls Tryz.prog 26 #[.pointer px, .int .i64 client] w fun e w1 => ∃ v, e = .returned (.tuple #[v, .int .i64 er]) ∧ Z v w1) ∧
      ∀ v W, Z v W → (∃ a cap, v = .slice a l.length cap) ∧ Keep (OutT own i) w W ∧ Calls Tryz.prog 27 #[.pointer pw, .int .i64 client] W fun e w2 => ∃ v2, e = .returned (.tuple #[v2, .int .i64 er]) ∧ AckAt w2 v l ∧ AckAt w2 v2 l ∧ AcksGo own i w px pw (N + 1) g v w2 := by
  have h0 := h
  rcases h with ⟨rfl, rfl⟩ | ⟨B, R, s, rfl, rfl, h3, h4, h5⟩
  · refine ⟨[], 1, by simp, fun v w1 => v = .slice none 0 0 ∧ w = w1, (gAcks_nil client w).mono ?_, fun v W hZ => ?_⟩
    · rintro e w1 ⟨rfl, rfl⟩
      exact ⟨_, rfl, rfl, rfl⟩
    · obtain ⟨rfl, rfl⟩ := hZ
      refine ⟨⟨none, 0, rfl⟩, Keep.refl _ _, (rAcks_nil client w).mono ?_⟩
      rintro e w2 ⟨rfl, rfl⟩
      exact ⟨_, rfl, AckAt.nil _, AckAt.nil _, own, fun _ _ _ => rfl, fun b hb => (by cases hb), h0.more (Nat.le_succ N), Keep.refl _ _⟩
  · have hlen : (acksS s client).1.length ≤ N := by
      unfold acksS
      by_cases h1 : refuse s.cl client 0 ≠ 0
      · rw [if_pos h1]; simp
      · rw [if_neg h1]; exact h5.acks _
    refine ⟨(acksS s client).1, (acksS s client).2.1, hlen, fun v w1 => AckAt w1 v (acksS s client).1 ∧ (∀ b, v.ownBlock = some b → 200 * (i + 1) ≤ own b ∧ own b < 200 * (i + 1) + 100) ∧ PG (retag own v g) (200 * (i + 1)) w1 B (acksS s client).2.2 (N + 1) ∧ w1.heap.size = w.heap.size ∧ Keep (Out own (200 * (i + 1))) w w1, (gAcks h3 h5 g client).mono ?_, fun v W hZ => ?_⟩
    · rintro e w1 ⟨v, rfl, q1, q2, q3, q4, q5⟩
      exact ⟨v, rfl, q1, q2, q3, q4, q5⟩
    · obtain ⟨q1, q2, q3, q4, q5⟩ := hZ
      have hk' := acks_ok h5 client
      have hr1 : RG (retag own v g) (200 * (i + 1) + 100) W R s := (h4.keep h5.cl.2 q5 (fun b hb h1 h2 => by unfold Out; omega) (Same.refl own w)).reown h5.cl.2 (fun b h1 h2 => retag_ne (fun e => by have := q2 b e; omega))
      refine ⟨q1.slice, q5.mono (T := OutT own i) (fun b _ hb => by unfold OutT at hb; unfold Out; omega), (rAcks hr1 h5 client).mono ?_⟩
      rintro e w2 ⟨v2, rfl, a1, a2, own2, R2, r1, r2, r3, r4⟩
      have hvo : ∀ b, v.ownBlock = some b → Out (retag own v g) (200 * (i + 1) + 100) b := fun b hb => by unfold Out; rw [retag_eq hb]; omega
      have p5 := q3.keep hk'.cl.2 hk'.na.2 r4 (fun b hb h1 h2 => by unfold Out; omega) r3
      refine ⟨v2, rfl, q1.keep r4 hvo, a1, own2, fun b hb hne => ?_, fun b hb => ?_, .inr ⟨B, R2, _, rfl, by rw [r2], p5, r1, hk'⟩, ?_⟩
      · rw [r3 b (by omega), retag_ne hne]
      · have hlt := q1.lt b hb
        rw [r3 b hlt, retag_eq hb]
        have := q2 b hb
        exact ⟨rfl, by omega, this.1, by omega⟩
      · refine (q5.mono (T := OutT own i) (fun b _ hb => ?_)).trans' r4 (fun b hb hO => ?_)
        · unfold OutT at hb; unfold Out; omega
        · unfold OutT at hO
          by_cases e : v.ownBlock = some b
          · exact hvo b e
          · unfold Out; rw [retag_ne e]; omega

end Go.Proofs.YtjhifhoniimfgaaGreat

