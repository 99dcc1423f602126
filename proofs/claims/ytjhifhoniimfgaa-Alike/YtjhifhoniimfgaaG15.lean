import Derived.Test.YtjhifhoniimfgaaG14
import Derived.Test.YtjhifhoniimfgaaG12
/-
  Whose a block is; lanes, inboxes and accounts of the program, with the blocks that are theirs.
-/
namespace Go.Proofs.Ytjhifhoniimfgaa
open Go.RowKit

/-- What is new from block n on is of the tag g. -/
def ext (own : Nat → Nat) (n g : Nat) : Nat → Nat := fun b => if b < n then own b else g

theorem ext_lt {own : Nat → Nat} {n g b : Nat} (h : b < n) : ext own n g b = own b := if_pos h
theorem ext_ge {own : Nat → Nat} {n g b : Nat} (h : n ≤ b) : ext own n g b = g := if_neg (by omega)

/-- Of the blocks of w own' tells what own tells. -/
def Same (own own' : Nat → Nat) (w : World) : Prop := ∀ b, b < w.heap.size → own' b = own b

theorem Same.refl (own : Nat → Nat) (w : World) : Same own own w := fun _ _ => rfl
theorem Same.ext (own : Nat → Nat) (w : World) (g : Nat) : Same own (ext own w.heap.size g) w := fun _ h => ext_lt h
theorem Same.trans {own own' own'' : Nat → Nat} {w w' : World} (h : Same own own' w) (k : Same own' own'' w') (hs : w.heap.size ≤ w'.heap.size) : Same own own'' w := fun b hb => (k b (Nat.lt_of_lt_of_le hb hs)).trans (h b hb)

/-- Two blocks with cells of unlike types are two. -/
theorem block_ne {w : World} {a b : Nat} {cs cs' : Array Value} {T T' : TypeId} {f f' : Nat × Nat} (ha : w.heap[a]? = some (.cells cs T f)) (hb : w.heap[b]? = some (.cells cs' T' f')) (hT : T ≠ T') : a ≠ b := by
  intro e
  subst e
  rw [ha] at hb
  injection hb with hb
  injection hb with _ h2
  exact hT h2

def LaneR (own : Nat → Nat) (τ : Nat) (w : World) (lb n m t : Nat) (f : Nat → Pl) : Prop := ∃ sb, PLane w lb sb n m t f ∧ own lb = τ ∧ own sb = τ

theorem PLane.lt {w : World} {lb sb n m t : Nat} {f : Nat → Pl} (h : PLane w lb sb n m t f) : lb < w.heap.size ∧ sb < w.heap.size := by
  obtain ⟨cs, b, _⟩ := h.slots
  exact ⟨block_lt h.lane, block_lt b⟩

theorem LaneR.keep {own own' : Nat → Nat} {τ : Nat} {S : Nat → Prop} {w w' : World} {lb n m t : Nat} {f : Nat → Pl} (h : LaneR own τ w lb n m t f) (hk : Keep S w w') (hs : ∀ b, b < w.heap.size → own b = τ → S b) (ho : Same own own' w) : LaneR own' τ w' lb n m t f := by
  obtain ⟨sb, p, o1, o2⟩ := h
  exact ⟨sb, p.keep hk (hs _ p.lt.1 o1) (hs _ p.lt.2 o2), by rw [ho _ p.lt.1]; exact o1, by rw [ho _ p.lt.2]; exact o2⟩

theorem LaneR.new {own : Nat → Nat} {τ : Nat} {w w' : World} {lb sb n m t m' t' : Nat} {f f' : Nat → Pl} (h : PLane w lb sb n m t f) (o1 : own lb = τ) (o2 : own sb = τ) (h' : PLane w' lb sb n m' t' f') (hk : Keep (fun b => b ≠ lb ∧ b ≠ sb) w w') :
    LaneR (ext own w.heap.size τ) τ w' lb n m' t' f' ∧ Keep (fun b => own b ≠ τ) w w' :=
  ⟨⟨sb, h', by rw [ext_lt h.lt.1]; exact o1, by rw [ext_lt h.lt.2]; exact o2⟩, hk.mono (fun b _ hb => ⟨fun e => hb (e ▸ o1), fun e => hb (e ▸ o2)⟩)⟩

def ansFlat : List Ans → List Value
  | [] => []
  | a :: r => .int .i64 a.1 :: .int .i64 a.2 :: ansFlat r

theorem ansFlat_append : ∀ l r, ansFlat (l ++ r) = ansFlat l ++ ansFlat r
  | [], r => rfl
  | a :: l, r => by simp [ansFlat, ansFlat_append l r]

theorem ansFlat_len : ∀ l, (ansFlat l).length = l.length * 2
  | [] => rfl
  | a :: l => by simp [ansFlat, ansFlat_len l]; omega

/-- A list of answers in a row of its own. -/
def AckAt (w : World) (v : Value) (l : List Ans) : Prop := w.ownsRow 0 66 2 v l.length (ansFlat l)

theorem AckAt.lt {w : World} {v : Value} {l : List Ans} (h : AckAt w v l) (b : Nat) (hb : v.ownBlock = some b) : b < w.heap.size := by
  rcases h.2 with ⟨rfl, _⟩ | ⟨g, cap, cur, rfl, _, h1, _⟩
  · simp [Value.ownBlock] at hb
  · simp [Value.ownBlock] at hb; subst hb; exact block_lt h1

theorem AckAt.keep {S : Nat → Prop} {w w' : World} {v : Value} {l : List Ans} (h : AckAt w v l) (hk : Keep S w w') (hs : ∀ b, v.ownBlock = some b → S b) : AckAt w' v l := by
  refine ⟨h.1, ?_⟩
  rcases h.2 with h0 | ⟨g, cap, cur, rfl, h0, h1, h2⟩
  · exact .inl h0
  · exact .inr ⟨g, cap, cur, rfl, h0, hk.get h1 (hs g rfl), h2⟩

theorem AckAt.nil (w : World) : AckAt w (.slice none 0 0) [] := World.ownsRow_nil _ _ _ _

theorem PAns.lt {w : World} {lb sb n t : Nat} {l : List Ans} (h : PAns w lb sb n t l) : lb < w.heap.size ∧ sb < w.heap.size := by
  obtain ⟨cs, b, _⟩ := h.slots
  exact ⟨block_lt h.ring, block_lt b⟩

/-- A client's inbox: its ring of answers, its acks. -/
structure InboxP (own : Nat → Nat) (τ : Nat) (w : World) (ib lb sb tt : Nat) (v : Value) (an N : Nat) (ring acks : List Ans) : Prop where
  box : w.heap[ib]? = some (.cells #[.pointer (some ⟨lb, 0, none⟩), v] 96 (0, 0))
  ans : PAns w lb sb an tt ring
  ack : AckAt w v acks
  o1 : own ib = τ
  o2 : own lb = τ
  o3 : own sb = τ
  o4 : ∀ b, v.ownBlock = some b → own b = τ ∧ b ≠ sb
  le : tt + ring.length ≤ N

def InboxR (own : Nat → Nat) (τ : Nat) (w : World) (ib an N : Nat) (ring acks : List Ans) : Prop := ∃ lb sb tt v, InboxP own τ w ib lb sb tt v an N ring acks

theorem InboxR.more {own : Nat → Nat} {τ : Nat} {w : World} {ib an N M : Nat} {ring acks : List Ans} (h : InboxR own τ w ib an N ring acks) (hM : N ≤ M) : InboxR own τ w ib an M ring acks := by
  obtain ⟨lb, sb, tt, v, p⟩ := h
  exact ⟨lb, sb, tt, v, { p with le := Nat.le_trans p.le hM }⟩

theorem InboxR.keep {own own' : Nat → Nat} {τ : Nat} {S : Nat → Prop} {w w' : World} {ib an N : Nat} {ring acks : List Ans} (h : InboxR own τ w ib an N ring acks) (hk : Keep S w w') (hs : ∀ b, b < w.heap.size → own b = τ → S b) (ho : Same own own' w) : InboxR own' τ w' ib an N ring acks := by
  obtain ⟨lb, sb, tt, v, p⟩ := h
  have l1 := block_lt p.box
  have l2 := p.ans.lt
  refine ⟨lb, sb, tt, v, ⟨hk.get p.box (hs _ l1 p.o1), p.ans.keep hk (hs _ l2.1 p.o2) (hs _ l2.2 p.o3), p.ack.keep hk (fun b hb => hs _ (p.ack.lt b hb) (p.o4 b hb).1), ?_, ?_, ?_, fun b hb => ?_, p.le⟩⟩
  · rw [ho _ l1]; exact p.o1
  · rw [ho _ l2.1]; exact p.o2
  · rw [ho _ l2.2]; exact p.o3
  · rw [ho _ (p.ack.lt b hb)]; exact p.o4 b hb

/-- An account: its limits, whether it is stopped, all orders that were let through. -/
structure AccQ (own : Nat → Nat) (τ : Nat) (w : World) (ab : Nat) (v : Value) (mb : Nat) (l : List Nat) (dat : Nat → Odr) (cv : Value) (c : List Cnt) (lim : Nat → Int) (st : Bool) (es : List Ent) (time N : Nat) : Prop where
  acc : AccP w ab lim st v mb l dat cv c
  o1 : own ab = τ
  o2 : own mb = τ
  o3 : ∀ b, v.ownBlock = some b → own b = τ
  o4 : ∀ b, b ∈ l → own b = τ
  o5 : ∀ b, cv.ownBlock = some b → own b = τ
  rel : OpenRel dat l (es.filter (isOpen time))
  cnt : CntRel c es (time - lim 5)
  clen : c.length ≤ es.length
  cpos : ∀ x, x ∈ c → 0 ≤ x.2 ∧ x.2 ≤ es.length

def AccR (own : Nat → Nat) (τ : Nat) (w : World) (ab : Nat) (lim : Nat → Int) (st : Bool) (es : List Ent) (time N : Nat) : Prop := ∃ v mb l dat cv c, AccQ own τ w ab v mb l dat cv c lim st es time N

theorem AccP.lts {w : World} {ab : Nat} {lim : Nat → Int} {st : Bool} {v : Value} {mb : Nat} {l : List Nat} {dat : Nat → Odr} {cv : Value} {c : List Cnt} (h : AccP w ab lim st v mb l dat cv c) :
    ab < w.heap.size ∧ mb < w.heap.size ∧ (∀ b, v.ownBlock = some b → b < w.heap.size) ∧ (∀ b, b ∈ l → b < w.heap.size) ∧ (∀ b, cv.ownBlock = some b → b < w.heap.size) := by
  obtain ⟨cs, a, _⟩ := h.cells
  exact ⟨block_lt a, h.ords.ltm.2, h.ords.heap.lt, h.ords.heap.ltl, h.cnt.lt⟩

theorem AccR.more {own : Nat → Nat} {τ : Nat} {w : World} {ab : Nat} {lim : Nat → Int} {st : Bool} {es : List Ent} {time N M : Nat} (h : AccR own τ w ab lim st es time N) (_hM : N ≤ M) : AccR own τ w ab lim st es time M := by
  obtain ⟨v, mb, l, dat, cv, c, q⟩ := h
  exact ⟨v, mb, l, dat, cv, c, ⟨q.acc, q.o1, q.o2, q.o3, q.o4, q.o5, q.rel, q.cnt, q.clen, q.cpos⟩⟩

theorem AccR.keep {own own' : Nat → Nat} {τ : Nat} {S : Nat → Prop} {w w' : World} {ab : Nat} {lim : Nat → Int} {st : Bool} {es : List Ent} {time N : Nat} (h : AccR own τ w ab lim st es time N) (hk : Keep S w w') (hs : ∀ b, b < w.heap.size → own b = τ → S b) (ho : Same own own' w) : AccR own' τ w' ab lim st es time N := by
  obtain ⟨v, mb, l, dat, cv, c, q⟩ := h
  obtain ⟨l1, l2, l3, l4, l5⟩ := q.acc.lts
  refine ⟨v, mb, l, dat, cv, c, { q with acc := q.acc.keep hk (hs _ l1 q.o1) (hs _ l2 q.o2) (fun b hb => hs _ (l3 b hb) (q.o3 b hb)) (fun b hb => hs _ (l4 b hb) (q.o4 b hb)) (fun b hb => hs _ (l5 b hb) (q.o5 b hb)), o1 := ?_, o2 := ?_, o3 := fun b hb => ?_, o4 := fun b hb => ?_, o5 := fun b hb => ?_ }⟩
  · rw [ho _ l1]; exact q.o1
  · rw [ho _ l2]; exact q.o2
  · rw [ho _ (l3 b hb)]; exact q.o3 b hb
  · rw [ho _ (l4 b hb)]; exact q.o4 b hb
  · rw [ho _ (l5 b hb)]; exact q.o5 b hb

theorem good_of {dat : Nat → Odr} {l : List Nat} {os : List Ent} {time : Nat} (h : OpenRel dat l os) (he : ∀ x, x ∈ os → EntOk x time) (ho : OpenOk os) : GoodL dat l := by
  refine ⟨fun b hb => ?_, by rw [h.qty]; exact ho.q 0, by rw [h.qty]; exact ho.q 1, by rw [h.worth]; exact ho.w⟩
  have h1 : dat b ∈ os.map ordOf := h.mem_iff.1 (List.mem_map_of_mem hb)
  obtain ⟨x, hx, e⟩ := List.mem_map.1 h1
  have := he x hx
  rw [← e]
  exact ⟨this.side, this.pos.2, this.pos.1⟩

theorem rel_len {dat : Nat → Odr} {l : List Nat} {os : List Ent} (h : OpenRel dat l os) : l.length = os.length := by
  have := h.length_eq
  simpa using this

end Go.Proofs.Ytjhifhoniimfgaa

/-
  An account of the program, with the blocks that are its own: Open, Cancel, Stop, GoOn.
-/
namespace Go.Proofs.Ytjhifhoniimfgaa
open Go.RowKit

/-- The code of a New for an account, but for Shut. -/
def accCode (lim : Nat → Int) (st : Bool) (es : List Ent) (time : Nat) (S num : Int) (p q : Nat) : Int :=
  jCode lim st ((es.filter (isOpen time)).any (fun x => x.order == num)) S p q (wSum (es.filter (isOpen time))) (qSum S (es.filter (isOpen time))) (cntGt (time - lim 5) es)

/-- What an account needs to be as it may be. -/
structure AccOk (lim : Nat → Int) (es : List Ent) (time N : Nat) : Prop where
  ents : ∀ x, x ∈ es → EntOk x time
  opens : OpenOk (es.filter (isOpen time))
  len : es.length < 8796093022208
  time : time ≤ 1000000000000000
  lim : 1 ≤ lim 5 ∧ lim 5 ≤ 1000

theorem AccOk.good {lim : Nat → Int} {es : List Ent} {time N : Nat} (h : AccOk lim es time N) {dat : Nat → Odr} {l : List Nat} (hr : OpenRel dat l (es.filter (isOpen time))) : GoodL dat l :=
  good_of (time := time) hr (fun x hx => h.ents x (List.mem_filter.1 hx).1) h.opens

theorem addC_len (c : List Cnt) (now : Int) : (addC c now).length ≤ c.length + 1 := by
  by_cases hs : ∃ d m, c = d ++ [(now, m)]
  · obtain ⟨d, m, rfl⟩ := hs
    rw [addC_same]; simp
  · have hl : ∀ x, c.getLast? = some x → x.1 ≠ now := fun x hx e => hs (by
      obtain ⟨d, hd⟩ := List.getLast?_eq_some_iff.1 hx
      obtain ⟨x1, x2⟩ := x
      simp at e
      exact ⟨d, x2, by rw [hd, e]⟩)
    rw [addC_new c now hl]; simp

theorem addC_pos (c : List Cnt) (now : Int) (N : Nat) (h : ∀ x, x ∈ c → 0 ≤ x.2 ∧ x.2 ≤ (N : Int)) : ∀ x, x ∈ addC c now → 0 ≤ x.2 ∧ x.2 ≤ ((N + 1 : Nat) : Int) := by
  by_cases hs : ∃ d m, c = d ++ [(now, m)]
  · obtain ⟨d, m, rfl⟩ := hs
    rw [addC_same]
    intro x hx
    rcases List.mem_append.1 hx with hx | hx
    · have := h x (List.mem_append_left _ hx); omega
    · simp at hx
      have := h (now, m) (by simp)
      subst hx
      simp at this ⊢
      omega
  · have hl : ∀ x, c.getLast? = some x → x.1 ≠ now := fun x hx e => hs (by
      obtain ⟨d, hd⟩ := List.getLast?_eq_some_iff.1 hx
      obtain ⟨x1, x2⟩ := x
      simp at e
      exact ⟨d, x2, by rw [hd, e]⟩)
    rw [addC_new c now hl]
    intro x hx
    rcases List.mem_append.1 hx with hx | hx
    · have := h x hx; omega
    · simp at hx; subst hx; simp; omega

theorem nodup_inj {α : Type} (f : α → Int) : ∀ l : List α, (l.map f).Nodup → ∀ x y, x ∈ l → y ∈ l → f x = f y → x = y
  | [], _, x, _, hx, _, _ => by cases hx
  | a :: l, h, x, y, hx, hy, e => by
    rw [List.map_cons, List.nodup_cons] at h
    cases List.mem_cons.1 hx with
    | inl h1 =>
      cases List.mem_cons.1 hy with
      | inl h2 => rw [h1, h2]
      | inr h2 => exact absurd (by rw [← h1, e]; exact List.mem_map_of_mem h2) h.1
    | inr h1 =>
      cases List.mem_cons.1 hy with
      | inl h2 => exact absurd (by rw [← h2, ← e]; exact List.mem_map_of_mem h1) h.1
      | inr h2 => exact nodup_inj f l h.2 x y h1 h2 e

theorem accOpen {own : Nat → Nat} {τ : Nat} {w : World} {ab : Nat} {lim : Nat → Int} {st : Bool} {es : List Ent} {time N : Nat} (h : AccR own τ w ab lim st es time N) (hk : AccOk lim es time N)
    (A S num L : Int) (p q : Nat) (hs : S = 0 ∨ S = 1) (hp : p ≤ 9223372036854775807) (hq : q ≤ 9223372036854775807) (hL : 1 ≤ L ∧ L ≤ 1000000) :
    Calls Try.prog 75 #[.pointer (some ⟨ab, 0, none⟩), .agg #[.int .i64 A, .int .i64 S, .int .i64 num, .int .i64 p, .int .i64 q, .int .i64 L], .int .i64 time] w fun e w' =>
      e = .returned (.int .i64 (accCode lim st es time S num p q)) ∧
      AccR (ext own w.heap.size τ) τ w' ab lim st (if accCode lim st es time S num p q = 0 then es ++ [⟨num, S, p, q, time, time + L, false⟩] else es) time (N + 1) ∧ Keep (fun b => own b ≠ τ) w w' := by
  obtain ⟨v, mb, l, dat, cv, c, a⟩ := h
  have hg := hk.good a.rel
  have e1 := a.rel.worth
  have e2 := a.rel.qty S
  have e3 := a.rel.has num
  have e4 := a.cnt (time - lim 5) (Int.le_refl _)
  have hll := rel_len a.rel
  have hle : l.length ≤ es.length := by rw [hll]; exact List.length_filter_le _ _
  have hN := hk.len
  have hT := hk.time
  have hlim := hk.lim
  have hcp : ∀ x, x ∈ c → 0 ≤ x.2 ∧ x.2 < 8796093022208 := fun x hx => by have := a.cpos x hx; omega
  have hcs : sumM (c.filter (keepP (time - lim 5))) ≤ 8796093022208 := by
    rw [e4]
    have := cntGt_le (time - lim 5) es
    have := hk.len
    omega
  have hcl := a.clen
  obtain ⟨l1, l2, l3, l4, l5⟩ := a.acc.lts
  by_cases hz : accCode lim st es time S num p q = 0
  · rw [if_pos hz, hz]
    have hj : jCode lim st (hasN dat l num) S p q (tot (worthF dat) l) (tot (qtyF dat S) l) (sumM (c.filter (keepP (time - lim 5)))) = 0 := by
      rw [e1, e2, e3, e4]; exact hz
    refine (open_yes w ab lim st v mb l dat cv c a.acc hg A S num L p q time hs hp hq (by omega) hL.2 (by omega) (by omega) (by omega) hlim.2 (by omega) (by omega) hcp hcs hj).mono ?_
    rintro e w' ⟨rfl, ob, dat', v', l', cv', c', hc', hacc, hperm, hob, hdob, hdat, hv', hcv', hkeep⟩
    have hpq : p * q ≤ 9223372036854775807 := of_decide_eq_true (jCode_zero hj).2.1
    have hml : ∀ b, b ∈ l' → b ∈ l ∨ b = ob := fun b hb => by
      rcases List.mem_append.1 (hperm.mem_iff.1 hb) with q | q
      · exact .inl q
      · simp at q; exact .inr q
    refine ⟨rfl, ⟨v', mb, l', dat', cv', addC c' time, ⟨hacc, by rw [ext_lt l1]; exact a.o1, by rw [ext_lt l2]; exact a.o2, fun b hb => ?_, fun b hb => ?_, fun b hb => ?_, ?_, ?_, ?_, ?_⟩⟩, ?_⟩
    · rcases hv' with q | ⟨y, q, hy⟩
      · rw [q] at hb; rw [ext_lt (l3 b hb)]; exact a.o3 b hb
      · rw [q] at hb; cases hb; rw [ext_ge hy]
    · rcases hml b hb with q | q
      · rw [ext_lt (l4 b q)]; exact a.o4 b q
      · rw [q, ext_ge hob]
    · rcases hcv' with q | ⟨y, q, hy⟩
      · rw [q] at hb; rw [ext_lt (l5 b hb)]; exact a.o5 b hb
      · rw [q] at hb; cases hb; rw [ext_ge hy]
    · rw [List.filter_append, List.filter_cons_of_pos (by simp [isOpen]; omega)]
      refine a.rel.add (x := ⟨num, S, p, q, time, time + L, false⟩) hperm ?_ (fun b hb => hdat b (fun e => by have := l4 b hb; omega))
      rw [hdob]
      simp [ordOf]
    · refine CntRel.add ?_ time _ rfl
      rcases hc' with e | e
      · rw [e]; exact a.cnt
      · rw [e]; exact a.cnt.cut _ (Int.le_refl _)
    · have h1 := addC_len c' time
      have h2 : c'.length ≤ c.length := by
        rcases hc' with e | e
        · rw [e]; exact Nat.le_refl _
        · rw [e]; exact List.length_filter_le _ _
      rw [List.length_append]
      simp only [List.length_cons, List.length_nil]
      omega
    · rw [List.length_append]
      refine addC_pos c' time es.length (fun x hx => ?_)
      rcases hc' with e | e
      · rw [e] at hx; exact a.cpos x hx
      · rw [e] at hx; exact a.cpos x (List.mem_filter.1 hx).1
    · exact hkeep.mono (fun b hb hne => ⟨fun e => hne (e ▸ a.o1), fun e => hne (e ▸ a.o2), fun e => hne (a.o3 b e), fun e => hne (a.o5 b e), fun e => hne (a.o4 b e)⟩)
  · rw [if_neg hz]
    obtain ⟨O, hO⟩ : ∃ O : Obj, O = .cells #[.int .i64 A, .int .i64 S, .int .i64 num, .int .i64 p, .int .i64 q, .int .i64 L] 160 := ⟨_, rfl⟩
    have h0 : AccP (w.alloc O) ab lim st v mb l dat cv c := a.acc.keep (S := fun _ => True) ((Keep.refl _ w).alloc _) trivial trivial (fun _ _ => trivial) (fun _ _ => trivial) (fun _ _ => trivial)
    have hjd := judge_any (w.alloc O) ab lim st v mb l dat cv c h0 A S num L p q time hs hp hq hg.worthPos hg.w (hg.qtyPos S) (by rw [e2]; exact hk.opens.q S) (by omega) (by omega) (by omega) hlim.2 (by omega) (fun x hx => (hcp x hx).1) hcs
    rw [e1, e2, e3, e4] at hjd
    rw [hO] at hjd
    refine (open_no w ab A S num L p q time _ _ hz hjd).mono ?_
    rintro e w' ⟨rfl, cv', c', hc', hacc, hcvo, hkeep⟩
    rw [← hO] at hkeep
    have hk2 : Keep (fun b => b ≠ ab ∧ cv.ownBlock ≠ some b) w w' := ((Keep.refl _ w).alloc O).trans hkeep
    refine ⟨rfl, ⟨v, mb, l, dat, cv', c', ⟨hacc, by rw [ext_lt l1]; exact a.o1, by rw [ext_lt l2]; exact a.o2, fun b hb => by rw [ext_lt (l3 b hb)]; exact a.o3 b hb, fun b hb => by rw [ext_lt (l4 b hb)]; exact a.o4 b hb, fun b hb => by rw [hcvo] at hb; rw [ext_lt (l5 b hb)]; exact a.o5 b hb, a.rel, ?_, ?_, ?_⟩⟩, hk2.mono (fun b hb hne => ⟨fun e => hne (e ▸ a.o1), fun e => hne (a.o5 b e)⟩)⟩
    · rcases hc' with e | e
      · rw [e]; exact a.cnt
      · rw [e]; exact a.cnt.cut _ (Int.le_refl _)
    · rcases hc' with e | e
      · rw [e]; omega
      · rw [e]; have := List.length_filter_le (keepP (time - lim 5)) c; omega
    · intro x hx
      have hx : x ∈ c := by
        rcases hc' with e | e
        · rw [e] at hx; exact hx
        · rw [e] at hx; exact (List.mem_filter.1 hx).1
      have := a.cpos x hx
      omega

theorem accCancel {own : Nat → Nat} {τ : Nat} {w : World} {ab : Nat} {lim : Nat → Int} {st : Bool} {es : List Ent} {time N : Nat} (h : AccR own τ w ab lim st es time N) (hk : AccOk lim es time N) (num : Int) :
    Calls Try.prog 76 #[.pointer (some ⟨ab, 0, none⟩), .int .i64 num] w fun e w' =>
      e = .returned (.int .i64 (if (es.filter (isOpen time)).any (fun x => x.order == num) then 0 else 18)) ∧
      AccR (ext own w.heap.size τ) τ w' ab lim st (if (es.filter (isOpen time)).any (fun x => x.order == num) then goneL time num es else es) time (N + 1) ∧ Keep (fun b => own b ≠ τ) w w' := by
  have hN := hk.len
  cases hany : (es.filter (isOpen time)).any (fun x => x.order == num)
  · have h' := h
    obtain ⟨v, mb, l, dat, cv, c, a⟩ := h
    have e3 := a.rel.has num
    refine (cancel_no w ab lim st v mb l dat cv c a.acc num (by rw [e3, hany])).mono ?_
    rintro e w' ⟨rfl, rfl⟩
    exact ⟨rfl, (h'.keep (S := fun _ => True) (Keep.refl _ w) (fun _ _ _ => trivial) (Same.ext own w τ)).more (Nat.le_succ _), Keep.refl _ _⟩
  · obtain ⟨v, mb, l, dat, cv, c, a⟩ := h
    have e3 := a.rel.has num
    rw [hany] at e3
    obtain ⟨ob, hob, hnum⟩ := hasN_true e3
    obtain ⟨pre, x, post, q1, q2, q3⟩ := goneL_open time num es hany
    have hg := hk.good a.rel
    have hle : l.length ≤ es.length := by rw [rel_len a.rel]; exact List.length_filter_le _ _
    obtain ⟨l1, l2, l3, l4, l5⟩ := a.acc.lts
    have hc := cancel_yes w ab lim st v mb l dat cv c a.acc ob hob hg (by omega)
    rw [hnum] at hc
    refine hc.mono ?_
    rintro e w' ⟨rfl, v', l', hacc, hperm, hv', hkeep⟩
    have hml : ∀ b, b ∈ l' → b ∈ l := fun b hb => hperm.mem_iff.2 (List.mem_append_left _ hb)
    have hx : dat ob = ordOf x := by
      have h1 : dat ob ∈ (es.filter (isOpen time)).map ordOf := a.rel.mem_iff.1 (List.mem_map_of_mem hob)
      obtain ⟨y, hy, e⟩ := List.mem_map.1 h1
      have hn := hk.opens.num
      have hyo : y.order = x.order := by
        have : (dat ob).num = y.order := by rw [← e]; rfl
        rw [q2, ← this, hnum]
      have hxm : x ∈ es.filter (isOpen time) := by rw [q1]; simp
      have : y = x := nodup_inj _ _ hn y x hy hxm hyo
      rw [← e, this]
    refine ⟨rfl, ⟨v', mb, l', dat, cv, c, ⟨hacc, by rw [ext_lt l1]; exact a.o1, by rw [ext_lt l2]; exact a.o2, fun b hb => by rw [hv'] at hb; rw [ext_lt (l3 b hb)]; exact a.o3 b hb, fun b hb => by rw [ext_lt (l4 b (hml b hb))]; exact a.o4 b (hml b hb), fun b hb => by rw [ext_lt (l5 b hb)]; exact a.o5 b hb, ?_, ?_, ?_, ?_⟩⟩, hkeep.mono (fun b hb hne => ⟨fun e => hne (e ▸ a.o1), fun e => hne (e ▸ a.o2), fun e => hne (a.o3 b e), fun e => hne (a.o4 b e)⟩)⟩
    · rw [if_pos rfl, q3]
      refine a.rel.rem hperm ?_ hx
      rw [q1, List.append_assoc]
      exact List.Perm.append_left _ (List.perm_append_comm (l₁ := [x]) (l₂ := post))
    · intro T hT
      rw [if_pos rfl, goneL_cnt]
      exact a.cnt T hT
    · rw [if_pos rfl, goneL_len]; exact a.clen
    · rw [if_pos rfl, goneL_len]; exact a.cpos

theorem AccP.stopped {w : World} {ab : Nat} {lim : Nat → Int} {st : Bool} {v : Value} {mb : Nat} {l : List Nat} {dat : Nat → Odr} {cv : Value} {c : List Cnt} (h : AccP w ab lim st v mb l dat cv c) (b : Bool) :
    AccP (w.setCell ⟨ab, 6, none⟩ (.bool b)) ab lim b v mb l dat cv c := by
  have hk : Keep (fun k => k ≠ ab) w (w.setCell ⟨ab, 6, none⟩ (.bool b)) := (Keep.refl _ w).setCell _ (fun _ h => h rfl) _
  obtain ⟨cs, a, b1, b2, b3, b4⟩ := h.cells
  obtain ⟨cs2, q1, q2, q3, q4, q5, q6, q7⟩ := h.ords.cells
  rw [a] at q1
  cases q1
  have a' := heap_setCell_at (i := 6) (.bool b) a
  have g : ∀ i, i ≠ 6 → (cs.setIfInBounds 6 (.bool b))[i]? = cs[i]? := fun i hi => by rw [Array.getElem?_setIfInBounds, if_neg (Ne.symm hi)]
  obtain ⟨ks, m1, m2⟩ := h.ords.map
  refine ⟨{ h.ords with cells := ⟨_, a', by simpa using q2, by rw [g 7 (by omega)]; exact q3, by rw [g 8 (by omega)]; exact q4, by rw [g 9 (by omega)]; exact q5, by rw [g 10 (by omega)]; exact q6, by rw [g 11 (by omega)]; exact q7⟩,
                            heap := h.ords.heap.keep hk (fun b hb e => h.ords.vab (e ▸ hb)) (fun b hb e => h.ords.abl (e ▸ hb)),
                            map := ⟨ks, m1.keep hk (Ne.symm h.ords.abm), m2⟩ }, ⟨_, a', by simpa using b1, fun i hi => by rw [g i (by omega)]; exact b2 i hi, by rw [Array.getElem?_setIfInBounds, if_pos rfl, if_pos (by omega)], by rw [g 12 (by omega)]; exact b4⟩, h.cnt.keep hk (fun b hb e => h.cvab (e ▸ hb)), h.cvab, h.cvmb, h.cvl, h.cvv⟩

theorem AccR.stopped {own : Nat → Nat} {τ : Nat} {w : World} {ab : Nat} {lim : Nat → Int} {st : Bool} {es : List Ent} {time N : Nat} (h : AccR own τ w ab lim st es time N) (b : Bool) :
    AccR (ext own w.heap.size τ) τ (w.setCell ⟨ab, 6, none⟩ (.bool b)) ab lim b es time (N + 1) ∧ Keep (fun b => own b ≠ τ) w (w.setCell ⟨ab, 6, none⟩ (.bool b)) := by
  obtain ⟨v, mb, l, dat, cv, c, a⟩ := h
  obtain ⟨l1, l2, l3, l4, l5⟩ := a.acc.lts
  exact ⟨⟨v, mb, l, dat, cv, c, ⟨a.acc.stopped b, by rw [ext_lt l1]; exact a.o1, by rw [ext_lt l2]; exact a.o2, fun b hb => by rw [ext_lt (l3 b hb)]; exact a.o3 b hb, fun b hb => by rw [ext_lt (l4 b hb)]; exact a.o4 b hb, fun b hb => by rw [ext_lt (l5 b hb)]; exact a.o5 b hb, a.rel, a.cnt, by have := a.clen; omega, fun x hx => by have := a.cpos x hx; omega⟩⟩,
    (Keep.refl _ w).setCell _ (fun _ h => h a.o1) _⟩

theorem accStop {own : Nat → Nat} {τ : Nat} {w : World} {ab : Nat} {lim : Nat → Int} {st : Bool} {es : List Ent} {time N : Nat} (h : AccR own τ w ab lim st es time N) :
    Calls Try.prog 77 #[.pointer (some ⟨ab, 0, none⟩)] w fun e w' => e = .returned (.tuple #[]) ∧ AccR (ext own w.heap.size τ) τ w' ab lim true es time (N + 1) ∧ Keep (fun b => own b ≠ τ) w w' := by
  have h2 := h.stopped true
  obtain ⟨v, mb, l, dat, cv, c, a⟩ := h
  obtain ⟨cs, q, b1, b2, b3, b4⟩ := a.acc.cells
  refine (stop_any w ab st (cellAt q b3) (frozenAt q)).mono ?_
  rintro e w' ⟨rfl, rfl⟩
  exact ⟨rfl, h2⟩

theorem accGoOn {own : Nat → Nat} {τ : Nat} {w : World} {ab : Nat} {lim : Nat → Int} {st : Bool} {es : List Ent} {time N : Nat} (h : AccR own τ w ab lim st es time N) :
    Calls Try.prog 78 #[.pointer (some ⟨ab, 0, none⟩)] w fun e w' => e = .returned (.tuple #[]) ∧ AccR (ext own w.heap.size τ) τ w' ab lim false es time (N + 1) ∧ Keep (fun b => own b ≠ τ) w w' := by
  have h2 := h.stopped false
  obtain ⟨v, mb, l, dat, cv, c, a⟩ := h
  obtain ⟨cs, q, b1, b2, b3, b4⟩ := a.acc.cells
  refine (goOn_any w ab st (cellAt q b3) (frozenAt q)).mono ?_
  rintro e w' ⟨rfl, rfl⟩
  exact ⟨rfl, h2⟩

theorem accNew {own : Nat → Nat} {τ : Nat} (w : World) (lim : Nat → Int) :
    Calls Try.prog 46 #[.agg #[.int .i64 (lim 0), .int .i64 (lim 1), .int .i64 (lim 2), .int .i64 (lim 3), .int .i64 (lim 4), .int .i64 (lim 5)]] w fun r w' => ∃ ab, r = .returned (.pointer (some ⟨ab, 0, none⟩)) ∧
      AccR (ext own w.heap.size τ) τ w' ab lim false [] 0 0 ∧ Below w.heap.size w w' ∧ w.heap.size ≤ ab := by
  refine (accNew_any w lim (fun _ => ⟨0, 0, 0, 0, 0⟩)).mono ?_
  rintro e w' ⟨ab, mb, rfl, hacc, hb, h1, h2, h3, h4⟩
  refine ⟨ab, rfl, ⟨_, mb, [], _, _, [], ⟨hacc, ext_ge h1, ext_ge h2, fun b hb => ?_, fun b hb => ?_, fun b hb => ?_, ?_, fun T _ => rfl, Nat.le_refl _, fun x hx => by cases hx⟩⟩, hb, h1⟩
  · simp [Value.ownBlock] at hb
  · cases hb
  · simp [Value.ownBlock] at hb
  · exact List.Perm.nil

end Go.Proofs.Ytjhifhoniimfgaa

