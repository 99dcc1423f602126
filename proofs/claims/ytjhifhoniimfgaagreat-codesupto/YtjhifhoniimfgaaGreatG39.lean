import Derived.Test.YtjhifhoniimfgaaGreatG38
/-
  The book: lists of acks that came out, each full of a mark of its owner's.
-/
namespace Go.Proofs.YtjhifhoniimfgaaGreat
open Go.RowKit

theorem wpList_append_run {P : Program} {ops : Array Oper} {rest : List Oper} {o : Oper} {a : Act} {w : World} {Q : Exit → Act → World → Prop} (hgd : o.guard = none) (s x : Operand) (t : TypeId)
    (ho : o.op = .call { callee := .builtin .append, args := #[s, x], argTypes := #[t, t] }) (v u v' : Value) (w' : World) (hs : a.eval s = v) (hx : a.eval x = u)
    (hrun : ∀ ty, (Builtin.append_ #[t, t] ty #[v, u]).run P w = .ok v' w') (h : wpList P ops Q rest (a.put o.dst v') w') : wpList P ops Q (o :: rest) a w := by
  refine wpList_plain hgd fun K hK => ?_
  have hr := hrun o.type
  unfold Oper.wp execOp
  simp only [ho, resolve, invoke, builtin, Sem.run_bind, Sem.run_pure, Result.andThen_ok, List.map_toArray, List.map_cons, List.map_nil, hs, hx, hr]
  exact hK _ _ h

/-- A row of values of one cell each, that grows by one. -/
theorem row_append (t e : TypeId) (i : TypeInfo) (z : Value) (bytes : Nat) (ht : Tryz.prog.underlying t = some (.slice e)) (hi : Tryz.prog.info? e = some i) (hb : i.bytes = bytes) (hb2 : bytes ≤ 24) (hs : i.size = 1) (hz : i.zero = some z) (hzc : z.cells.size = 1)
    {w : World} {v : Value} {xs : List Value} {n : Nat} (h : w.ownsRow 0 e 1 v n xs) (hn : n < 4398046511104) (x : Value) (hx : x.oneCell' = true) :
    ∃ g cap w', (∀ ty, (Builtin.append_ #[t, t] ty #[v, .slice (some ⟨w.heap.size, 0, none⟩) 1 1]).run Tryz.prog (w.alloc (.cells #[x] e)) = .ok (.slice (some ⟨g, 0, none⟩) (n + 1) cap) w') ∧ w'.ownsRow 0 e 1 (.slice (some ⟨g, 0, none⟩) (n + 1) cap) (n + 1) (xs ++ [x]) ∧ Keep (fun b => v.ownBlock ≠ some b) w w' ∧ (v.ownBlock = some g ∨ w.heap.size ≤ g) := by
  have h2 : (w.alloc (.cells #[x] e)).ownsRow 0 e 1 v n xs := World.ownsRow.alloc h _
  have key := fun ty => run_append_own_at (P := Tryz.prog) (w.alloc (.cells #[x] e)) 0 t ty e i z 1 bytes ht hi hz hs hb hzc (by decide) v n xs h2
    ⟨w.heap.size, 0, none⟩ 1 1 [x] rfl (cell_one_at w _ _) (fun u hu => by simp at hu; subst hu; exact hx) (by unfold maxLen; omega) (Nat.le_trans (Nat.mul_le_mul_left _ hb2) (by omega)) (Nat.zero_le _)
  obtain ⟨v', w', hrun, hown, hg, _, hbb⟩ := key 0
  have hrun2 : ∀ ty, (Builtin.append_ #[t, t] ty #[v, .slice (some ⟨w.heap.size, 0, none⟩) 1 1]).run Tryz.prog (w.alloc (.cells #[x] e)) = .ok v' w' := fun ty => hrun
  have hv : ∃ g cap, v' = .slice (some ⟨g, 0, none⟩) (n + 1) cap := by
    rcases hown.2 with ⟨_, hx⟩ | ⟨g, cap, cur, hx, _⟩
    · omega
    · exact ⟨g, cap, hx⟩
  obtain ⟨g, cap, rfl⟩ := hv
  refine ⟨g, cap, w', hrun2, hown, ⟨hg.os, hg.tape, hg.output, Nat.le_trans (by simp) hg.size, fun b hb1 hb2 => ?_⟩, ?_⟩
  · rw [hg.block b (by simp; omega) (fun e => hb2 e.symm)]
    exact Below.heap_alloc _ _ _ hb1
  · rcases hbb with e | e
    · exact .inl e.symm
    · right
      simp [Value.ownBlock] at e
      omega

theorem info_list : ∃ i, Tryz.prog.info? 66 = some i ∧ i.bytes = 24 ∧ i.size = 1 ∧ i.zero = some (.slice none 0 0) := by
  have e : (Tryz.prog.info? 66).map (fun i => (i.bytes, i.size, i.zero)) = some (24, 1, some (.slice none 0 0)) := by kernel_rfl
  obtain ⟨i, hi, he⟩ := Option.map_eq_some_iff.1 e
  simp only [Prod.mk.injEq] at he
  exact ⟨i, hi, he.1, he.2.1, he.2.2⟩

theorem info_int : ∃ i, Tryz.prog.info? 3 = some i ∧ i.bytes = 8 ∧ i.size = 1 ∧ i.zero = some (.int .i64 0) := by
  have e : (Tryz.prog.info? 3).map (fun i => (i.bytes, i.size, i.zero)) = some (8, 1, some (.int .i64 0)) := by kernel_rfl
  obtain ⟨i, hi, he⟩ := Option.map_eq_some_iff.1 e
  simp only [Prod.mk.injEq] at he
  exact ⟨i, hi, he.1, he.2.1, he.2.2⟩

/-- One answer more at the end of a list: in its own block, or all that was there is as it was. -/
theorem ack_append2 {w : World} {v : Value} {l : List Ans} (h : AckAt w v l) (hl : l.length < 1099511627776) (p q : Int) :
    ∃ g cap w', (∀ ty, (Builtin.append_ #[66, 66] ty #[v, .slice (some ⟨w.heap.size, 0, none⟩) 1 1]).run Tryz.prog (w.alloc (.cells #[.int .i64 p, .int .i64 q] 58)) = .ok (.slice (some ⟨g, 0, none⟩) (l.length + 1) cap) w') ∧
      AckAt w' (.slice (some ⟨g, 0, none⟩) (l.length + 1) cap) (l ++ [(p, q)]) ∧ ((v.ownBlock = some g ∧ Keep (fun b => b ≠ g) w w') ∨ (w.heap.size ≤ g ∧ Keep (fun _ => True) w w')) := by
  obtain ⟨g, cap, w', hrun, ha, hk, hg⟩ := ack_append h hl p q
  refine ⟨g, cap, w', hrun, ha, ?_⟩
  rcases hg with e | e
  · left
    refine ⟨e, hk.mono (fun b _ hb e2 => hb ?_)⟩
    rw [e] at e2
    injection e2 with e2
    exact e2.symm
  · right
    refine ⟨e, ?_⟩
    rcases h.2 with ⟨rfl, _⟩ | ⟨g0, cap0, cur, rfl, _, c1, c2, c3, c4, c5⟩
    · exact hk.mono (fun b _ _ e => by cases e)
    · obtain ⟨it, t1, t2, t3, t4⟩ := info_ans
      have hc1 : (w.alloc (.cells #[.int .i64 p, .int .i64 q] 58)).heap[g0]? = some (.cells cur 58 (0, 0)) := (Below.heap_alloc _ _ _ (block_lt c1)).trans c1
      by_cases hroom : l.length + 1 ≤ cap0
      · exfalso
        have hr := run_append_room (P := Tryz.prog) (w.alloc (.cells #[.int .i64 p, .int .i64 q] 58)) 66 0 58 it Tryz.underlying66 t1 g0 l.length cap0 cur hc1 ⟨w.heap.size, 0, none⟩ 1 1 [.int .i64 p, .int .i64 q] (by rw [t3]; rfl) (cell_two_new w _ _ _) (fun u hu => by simp at hu; rcases hu with rfl | rfl <;> rfl) hroom (by rw [t3]; simp; omega)
        rw [hrun 0] at hr
        injection hr with hr
        simp only [Value.slice.injEq, Option.some.injEq, Addr.mk.injEq] at hr
        have := block_lt c1
        omega
      · have hlen := h.1
        have hold : ∀ (j : Nat) (u : Value), (ansFlat l)[j]? = some u → (w.alloc (.cells #[.int .i64 p, .int .i64 q] 58)).cell? ((⟨g0, 0, none⟩ : Addr).add j) = some u := fun j u hu => by
          rw [Addr.add_lit, Nat.zero_add]
          refine cellAt hc1 ?_
          have hj := (List.getElem?_eq_some_iff.1 hu).1
          rw [← c5, List.getElem?_take_of_lt (by omega)] at hu
          simpa using hu
        obtain ⟨v2, w2, hr, _, hg2⟩ := run_append_arg_grows (P := Tryz.prog) (w.alloc (.cells #[.int .i64 p, .int .i64 q] 58)) 66 0 58 it (.agg #[.int .i64 0, .int .i64 0]) 2 16 Tryz.underlying66 t1 t4 t3 t2 rfl (by decide) ⟨g0, 0, none⟩ l.length cap0 (ansFlat l) hlen hold ⟨w.heap.size, 0, none⟩ 1 1 [.int .i64 p, .int .i64 q] rfl (cell_two_new w _ _ _) (by omega) (by unfold maxLen; omega) (by omega)
        rw [hrun 0] at hr
        injection hr with _ hr
        subst hr
        exact ((Keep.refl _ w).alloc _).trans ⟨hg2.os, hg2.tape, hg2.output, hg2.size, fun k hk _ => hg2.block k hk (by simp)⟩

def marks (n j : Nat) : List Ans := List.replicate j (-(n : Int), 0)

theorem marks_len (n j : Nat) : (marks n j).length = j := by simp [marks]

theorem marks_succ (n j : Nat) : marks n j ++ [(-(n : Int), 0)] = marks n (j + 1) := by
  unfold marks
  exact List.replicate_succ'.symm

/-- A list that is full of the mark n; its length. -/
def MarkAt (w : World) (v : Value) (n len : Nat) : Prop :=
  (v = .slice none 0 0 ∧ len = 0) ∨ ∃ g cap cs, v = .slice (some ⟨g, 0, none⟩) len cap ∧ w.heap[g]? = some (.cells cs 58 (0, 0)) ∧ ∀ e : Nat, e < len → cs[e * 2]? = some (.int .i64 (-(n : Int))) ∧ cs[e * 2 + 1]? = some (.int .i64 0)

theorem MarkAt.keep {S : Nat → Prop} {w w' : World} {v : Value} {n len : Nat} (h : MarkAt w v n len) (hk : Keep S w w') (hs : ∀ b, v.ownBlock = some b → S b) : MarkAt w' v n len := by
  rcases h with h | ⟨g, cap, cs, rfl, h1, h2⟩
  · exact .inl h
  · exact .inr ⟨g, cap, cs, rfl, hk.get h1 (hs g rfl), h2⟩

theorem MarkAt.lt {w : World} {v : Value} {n len : Nat} (h : MarkAt w v n len) (b : Nat) (hb : v.ownBlock = some b) : b < w.heap.size := by
  rcases h with ⟨rfl, _⟩ | ⟨g, cap, cs, rfl, h1, h2⟩
  · cases hb
  · simp [Value.ownBlock] at hb; subst hb; exact block_lt h1

/-- Out of a list of marks that is longer, in the same block. -/
theorem MarkAt.of {w w0 : World} {v u : Value} {n n0 j len : Nat} (h : AckAt w v (marks n j)) (hl : len ≤ j) (hu : MarkAt w0 u n0 len) (hb : u.ownBlock = v.ownBlock) : MarkAt w u n len := by
  rcases hu with hu | ⟨g, cap, cs, rfl, _, _⟩
  · exact .inl hu
  · rcases h.2 with ⟨rfl, q⟩ | ⟨g', cap', cur, rfl, _, q1, q2, _, q4, q5⟩
    · cases hb
    · simp [Value.ownBlock] at hb
      subst hb
      refine .inr ⟨g, cap, cur, rfl, q1, fun e he => ?_⟩
      have hm : (marks n j)[e]? = some (-(n : Int), 0) := by unfold marks; rw [List.getElem?_replicate, if_pos (by omega)]
      obtain ⟨f0, f1⟩ := ansFlat_get _ _ _ hm
      rw [marks_len] at q5
      rw [← q5, List.getElem?_take_of_lt (by omega)] at f0 f1
      exact ⟨by simpa using f0, by simpa using f1⟩

theorem MarkAt.ofAck {w : World} {v : Value} {n j : Nat} (h : AckAt w v (marks n j)) : MarkAt w v n j := by
  rcases h.2 with ⟨rfl, q⟩ | ⟨g, cap, cur, rfl, _, q1, q2, _, q4, q5⟩
  · rw [marks_len] at q; exact .inl ⟨rfl, q⟩
  · refine .inr ⟨g, cap, cur, by rw [marks_len], q1, fun e he => ?_⟩
    have hm : (marks n j)[e]? = some (-(n : Int), 0) := by unfold marks; rw [List.getElem?_replicate, if_pos (by omega)]
    obtain ⟨f0, f1⟩ := ansFlat_get _ _ _ hm
    rw [marks_len] at q5
    rw [← q5, List.getElem?_take_of_lt (by omega)] at f0 f1
    exact ⟨by simpa using f0, by simpa using f1⟩

/-- The book, while a list (cur, of J marks) is being made its owner's: lists of the tag 1 are old, those of the tag 3 are this one's. -/
structure BookMid (own : Nat → Nat) (w : World) (bb : Nat) (n : Nat) (Lv Ov : Value) (ls : List Value) (os : List Nat) (lens : Nat → Nat) (M : Nat) (cur : Value) (J : Nat) : Prop where
  book : w.heap[bb]? = some (.cells #[Lv, Ov, .int .i64 n] 41 (0, 0))
  lrow : w.ownsRow 0 66 1 Lv ls.length ls
  orow : w.ownsRow 0 3 1 Ov os.length (os.map (fun o : Nat => Value.int .i64 (o : Int)))
  len : ls.length = os.length
  mark : ∀ (i : Nat) (v : Value) (o : Nat), ls[i]? = some v → os[i]? = some o → MarkAt w v o (lens i) ∧ lens i ≤ 1099511627780 ∧ (∀ b, v.ownBlock = some b → own b = 1 ∨ (own b = 3 ∧ o = n ∧ (cur.ownBlock = some b → lens i ≤ J)))
  ob : own bb = 2
  ol : ∀ b, Lv.ownBlock = some b → own b = 2
  oo : ∀ b, Ov.ownBlock = some b → own b = 2

theorem BookMid.keep {own own' : Nat → Nat} {S : Nat → Prop} {w w' : World} {bb n : Nat} {Lv Ov : Value} {ls : List Value} {os : List Nat} {lens : Nat → Nat} {M : Nat} {cur : Value} {J : Nat} (h : BookMid own w bb n Lv Ov ls os lens M cur J) (hk : Keep S w w') (hs : ∀ b, b < w.heap.size → own b = 1 ∨ own b = 2 ∨ own b = 3 → S b) (ho : Same own own' w) : BookMid own' w' bb n Lv Ov ls os lens M cur J := by
  have l1 := block_lt h.book
  refine ⟨hk.get h.book (hs _ l1 (.inr (.inl h.ob))), ownsRow_keep h.lrow hk (fun b hb => hs _ (ownsRow_lt h.lrow b hb) (.inr (.inl (h.ol b hb)))), ownsRow_keep h.orow hk (fun b hb => hs _ (ownsRow_lt h.orow b hb) (.inr (.inl (h.oo b hb)))), h.len, fun i v o hv hoo => ?_, by rw [ho _ l1]; exact h.ob, fun b hb => by rw [ho _ (ownsRow_lt h.lrow b hb)]; exact h.ol b hb, fun b hb => by rw [ho _ (ownsRow_lt h.orow b hb)]; exact h.oo b hb⟩
  obtain ⟨m1, m2, m3⟩ := h.mark i v o hv hoo
  refine ⟨m1.keep hk (fun b hb => hs b (m1.lt b hb) ?_), m2, fun b hb => ?_⟩
  · rcases m3 b hb with q | q
    · exact .inl q
    · exact .inr (.inr q.1)
  · rw [ho b (m1.lt b hb)]; exact m3 b hb

/-- What the three appends of a round leave. -/
structure OwnRound (own : Nat → Nat) (W : World) (bb n : Nat) (Lv Ov : Value) (ls : List Value) (os : List Nat) (lens : Nat → Nat) (M : Nat) (cur : Value) (J : Nat) (g1 c1 : Nat) (w3 : World) (g2 c2 : Nat) (w5 : World) (g3 c3 : Nat) (w6 : World) : Prop where
  lrun : ∀ ty, (Builtin.append_ #[39, 39] ty #[Lv, .slice (some ⟨W.heap.size, 0, none⟩) 1 1]).run Tryz.prog (W.alloc (.cells #[cur] 66)) = .ok (.slice (some ⟨g1, 0, none⟩) (ls.length + 1) c1) w3
  b3 : w3.heap[bb]? = some (.cells #[Lv, Ov, .int .i64 n] 41 (0, 0))
  orun : ∀ ty, (Builtin.append_ #[32, 32] ty #[Ov, .slice (some ⟨(w3.setCell ⟨bb, 0, none⟩ (.slice (some ⟨g1, 0, none⟩) (ls.length + 1) c1)).heap.size, 0, none⟩) 1 1]).run Tryz.prog (((w3.setCell ⟨bb, 0, none⟩ (.slice (some ⟨g1, 0, none⟩) (ls.length + 1) c1)).drewN 1).alloc (.cells #[.int .i64 n] 3)) = .ok (.slice (some ⟨g2, 0, none⟩) (os.length + 1) c2) w5
  b5 : w5.heap[bb]? = some (.cells #[.slice (some ⟨g1, 0, none⟩) (ls.length + 1) c1, Ov, .int .i64 n] 41 (0, 0))
  arun : ∀ ty, (Builtin.append_ #[66, 66] ty #[cur, .slice (some ⟨(w5.setCell ⟨bb, 1, none⟩ (.slice (some ⟨g2, 0, none⟩) (os.length + 1) c2)).heap.size, 0, none⟩) 1 1]).run Tryz.prog ((w5.setCell ⟨bb, 1, none⟩ (.slice (some ⟨g2, 0, none⟩) (os.length + 1) c2)).alloc (.cells #[.int .i64 (-(n : Int)), .int .i64 0] 58)) = .ok (.slice (some ⟨g3, 0, none⟩) (J + 1) c3) w6
  keep4 : Keep (fun b => own b ≠ 2) W (w5.setCell ⟨bb, 1, none⟩ (.slice (some ⟨g2, 0, none⟩) (os.length + 1) c2))
  fin : ∃ own', Same own own' W ∧ Keep (fun b => own b ≠ 2 ∧ own b ≠ 3) W w6 ∧ BookMid own' w6 bb n (.slice (some ⟨g1, 0, none⟩) (ls.length + 1) c1) (.slice (some ⟨g2, 0, none⟩) (os.length + 1) c2) (ls ++ [cur]) (os ++ [n]) (upN lens ls.length J) M (.slice (some ⟨g3, 0, none⟩) (J + 1) c3) (J + 1) ∧ AckAt w6 (.slice (some ⟨g3, 0, none⟩) (J + 1) c3) (marks n (J + 1)) ∧ own' g3 = 3

theorem own_round {own : Nat → Nat} {W : World} {bb n : Nat} {Lv Ov : Value} {ls : List Value} {os : List Nat} {lens : Nat → Nat} {M : Nat} {cur : Value} {J : Nat} (h : BookMid own W bb n Lv Ov ls os lens M cur J) (ha : AckAt W cur (marks n J)) (ho : ∀ b, cur.ownBlock = some b → own b = 3) (hJ : J < 1099511627776) (hk : ls.length < 4398046511104) :
    ∃ g1 c1 w3 g2 c2 w5 g3 c3 w6, OwnRound own W bb n Lv Ov ls os lens M cur J g1 c1 w3 g2 c2 w5 g3 c3 w6 := by
  obtain ⟨ia, ta1, ta2, ta3, ta4⟩ := info_list
  obtain ⟨ii, ti1, ti2, ti3, ti4⟩ := info_int
  have hcs : ∃ a cap, cur = .slice a J cap := by
    obtain ⟨a, cap, q⟩ := ha.slice
    exact ⟨a, cap, by rw [q, marks_len]⟩
  have hcur1 : cur.oneCell' = true := by obtain ⟨a, cap, rfl⟩ := hcs; rfl
  obtain ⟨g1, c1, w3, lrun, l1, l2, l3⟩ := row_append 39 66 ia (.slice none 0 0) 24 Tryz.underlying39 ta1 ta2 (by omega) ta3 ta4 rfl h.lrow hk cur hcur1
  have lbb := block_lt h.book
  have rne : ∀ {v : Value} {e k n : Nat} {xs : List Value} {b : Nat} {cs : Array Value} {U : TypeId} {f : Nat × Nat} {w : World}, w.ownsRow 0 e k v n xs → w.heap[b]? = some (.cells cs U f) → U ≠ e → v.ownBlock ≠ some b := by
    intro v e k n xs b cs U f w hr hb hU q
    rcases hr.2 with ⟨q0, _⟩ | ⟨g', cap', cur', q0, _, q1, _⟩
    · rw [q0] at q; cases q
    · rw [q0] at q; simp [Value.ownBlock] at q; subst q; exact block_ne q1 hb (Ne.symm hU) rfl
  have b3 := l2.get h.book (rne h.lrow h.book (by decide))
  obtain ⟨W2, hW2⟩ : ∃ W2, W2 = w3.setCell ⟨bb, 0, none⟩ (.slice (some ⟨g1, 0, none⟩) (ls.length + 1) c1) := ⟨_, rfl⟩
  have k2 : Keep (fun b => b ≠ bb) w3 W2 := by rw [hW2]; exact (Keep.refl _ w3).setCell _ (fun _ h => h rfl) _
  have bW2 : W2.heap[bb]? = some (.cells #[.slice (some ⟨g1, 0, none⟩) (ls.length + 1) c1, Ov, .int .i64 n] 41 (0, 0)) := by rw [hW2, heap_setCell_at _ b3]; simp
  -- the rows of unlike types lie apart
  have dlo : ∀ b, Ov.ownBlock = some b → Lv.ownBlock ≠ some b := fun b hb => by
    rcases h.orow.2 with ⟨q0, _⟩ | ⟨g', cap', cur', q0, _, q1, _⟩
    · rw [q0] at hb; cases hb
    · rw [q0] at hb; simp [Value.ownBlock] at hb; subst hb; exact rne h.lrow q1 (by decide)
  have dob : ∀ b, Ov.ownBlock = some b → b ≠ bb := fun b hb e => rne h.orow h.book (by decide) (e ▸ hb)
  have orow2 : (W2.drewN 1).ownsRow 0 3 1 Ov os.length (os.map (fun o : Nat => Value.int .i64 (o : Int))) := ownsRow_keep (ownsRow_keep (ownsRow_keep h.orow l2 dlo) k2 dob) ((Keep.refl (fun _ => True) W2).drewN 1) (fun _ _ => trivial)
  obtain ⟨g2, c2, w5, orun, o1, o2, o3⟩ := row_append 32 3 ii (.int .i64 0) 8 Tryz.underlying32 ti1 ti2 (by omega) ti3 ti4 rfl orow2 (by rw [← h.len]; exact hk) (.int .i64 n) rfl
  have b5 := o2.get (show (W2.drewN 1).heap[bb]? = _ from bW2) (rne orow2 (show (W2.drewN 1).heap[bb]? = _ from bW2) (by decide))
  obtain ⟨W4, hW4⟩ : ∃ W4, W4 = w5.setCell ⟨bb, 1, none⟩ (.slice (some ⟨g2, 0, none⟩) (os.length + 1) c2) := ⟨_, rfl⟩
  have k4 : Keep (fun b => b ≠ bb) w5 W4 := by rw [hW4]; exact (Keep.refl _ w5).setCell _ (fun _ h => h rfl) _
  have bW4 : W4.heap[bb]? = some (.cells #[.slice (some ⟨g1, 0, none⟩) (ls.length + 1) c1, .slice (some ⟨g2, 0, none⟩) (os.length + 1) c2, .int .i64 n] 41 (0, 0)) := by rw [hW4, heap_setCell_at _ b5]; simp
  have kA : Keep (fun b => own b ≠ 2) W W4 := by
    refine (((l2.mono (T := fun b => own b ≠ 2) (fun b _ hb e => hb (h.ol b e))).trans' k2 (fun b _ hb e => hb (e ▸ h.ob))).drewN 1).trans' (o2.mono (T := fun b => own b ≠ 2) (fun b _ hb e => hb (h.oo b e))) (fun _ _ hb => hb) |>.trans' k4 (fun b _ hb e => hb (e ▸ h.ob))
  have ha4 : AckAt W4 cur (marks n J) := ha.keep kA (fun b hb => by rw [ho b hb]; omega)
  obtain ⟨g3, c3, w6, arun, a1, a2⟩ := ack_append2 ha4 (by rw [marks_len]; omega) (-(n : Int)) 0
  rw [marks_len] at arun a1
  rw [marks_succ] at a1
  have hsz2 := l2.size
  have hs22 : W2.heap.size = w3.heap.size := by rw [hW2]; exact size_setCell _ _ _
  have hsz5 : W2.heap.size ≤ w5.heap.size := o2.size
  have hs44 : W4.heap.size = w5.heap.size := by rw [hW4]; exact size_setCell _ _ _
  have kfin : Keep (fun b => own b ≠ 2 ∧ own b ≠ 3) W w6 := by
    rcases a2 with ⟨q1, q2⟩ | ⟨_, q2⟩
    · exact (kA.mono (T := fun b => own b ≠ 2 ∧ own b ≠ 3) (fun b _ hb => hb.1)).trans' q2 (fun b _ hb e => hb.2 (by subst e; exact ho _ q1))
    · exact (kA.mono (T := fun b => own b ≠ 2 ∧ own b ≠ 3) (fun b _ hb => hb.1)).trans' q2 (fun _ _ _ => trivial)
  -- behind W4 only lists' blocks turned
  have k6 : Keep (fun b => cur.ownBlock ≠ some b) W4 w6 := by
    rcases a2 with ⟨q1, q2⟩ | ⟨_, q2⟩
    · exact q2.mono (fun b _ hb e => hb (by rw [q1, e]))
    · exact q2.mono (fun _ _ _ => trivial)
  have cne : ∀ b, own b = 2 ∨ W.heap.size ≤ b → cur.ownBlock ≠ some b := fun b hb e => by
    rcases hb with hb | hb
    · have := ho b e; omega
    · have := ha.lt b e; omega
  refine ⟨g1, c1, w3, g2, c2, w5, g3, c3, w6, lrun, b3, by rw [← hW2]; exact orun, b5, by rw [← hW4]; exact arun, by rw [← hW4]; exact kA, ?_⟩
  -- the tags: what is new up to W4 is the book's, behind it a list's
  obtain ⟨own', hown'⟩ : ∃ own', own' = ext (ext own W.heap.size 2) W4.heap.size 3 := ⟨_, rfl⟩
  have hs : Same own own' W := by rw [hown']; exact (Same.ext own W 2).trans (Same.ext _ W4 3) (by omega)
  have hg1 : own' g1 = 2 := by
    rw [hown']
    rcases l3 with e | e
    · have := ownsRow_lt h.lrow _ e
      rw [ext_lt (by omega), ext_lt this]; exact h.ol _ e
    · have : g1 < W4.heap.size := by
        have := ownsRow_lt l1 g1 rfl
        omega
      rw [ext_lt this, ext_ge e]
  have hg2 : own' g2 = 2 := by
    rw [hown']
    rcases o3 with e | e
    · have := ownsRow_lt h.orow _ e
      rw [ext_lt (by omega), ext_lt this]; exact h.oo _ e
    · have h1 : g2 < W4.heap.size := by
        have := ownsRow_lt o1 g2 rfl
        omega
      have h2 : W.heap.size ≤ g2 := by have : W2.heap.size ≤ g2 := e; omega
      rw [ext_lt h1, ext_ge h2]
  have hg3 : own' g3 = 3 := by
    rw [hown']
    rcases a2 with ⟨q1, _⟩ | ⟨q1, _⟩
    · have := ha.lt _ q1
      rw [ext_lt (by omega), ext_lt this]; exact ho _ q1
    · exact ext_ge q1
  have cg1 : cur.ownBlock ≠ some g1 := fun e => by have := ho _ e; rw [hs _ (ha.lt _ e)] at hg1; omega
  have cg2 : cur.ownBlock ≠ some g2 := fun e => by have := ho _ e; rw [hs _ (ha.lt _ e)] at hg2; omega
  have hb1 : g1 ≠ bb := by
    rcases l3 with e | e
    · intro q; subst q; exact rne h.lrow h.book (by decide) e
    · omega
  have hb2 : g2 ≠ bb := by
    rcases o3 with e | e
    · exact dob _ e
    · have : W2.heap.size ≤ g2 := e; omega
  have lrow4 : W4.ownsRow 0 66 1 (.slice (some ⟨g1, 0, none⟩) (ls.length + 1) c1) (ls.length + 1) (ls ++ [cur]) := by
    have q2 := ownsRow_keep (ownsRow_keep l1 k2 (fun b hb => by simp [Value.ownBlock] at hb; subst hb; exact hb1)) ((Keep.refl (fun _ => True) W2).drewN 1) (fun _ _ => trivial)
    refine ownsRow_keep (ownsRow_keep q2 o2 (fun b hb => ?_)) k4 (fun b hb => by simp [Value.ownBlock] at hb; subst hb; exact hb1)
    rcases q2.2 with ⟨q0, _⟩ | ⟨g', cap', cur', q0, _, q1, _⟩
    · cases q0
    · rw [q0] at hb; simp [Value.ownBlock] at hb; subst hb
      exact rne orow2 q1 (by decide)
  have orow4 : W4.ownsRow 0 3 1 (.slice (some ⟨g2, 0, none⟩) (os.length + 1) c2) (os.length + 1) (os.map (fun o : Nat => Value.int .i64 (o : Int)) ++ [.int .i64 n]) := ownsRow_keep o1 k4 (fun b hb => by simp [Value.ownBlock] at hb; subst hb; exact hb2)
  refine ⟨own', hs, kfin, ⟨k6.get bW4 (cne _ (.inl h.ob)), ?_, ?_, by simp [h.len], fun i v o hv hoo => ?_, by rw [hs _ lbb]; exact h.ob, fun b hb => by simp [Value.ownBlock] at hb; subst hb; exact hg1, fun b hb => by simp [Value.ownBlock] at hb; subst hb; exact hg2⟩, a1, hg3⟩
  · rw [List.length_append]
    exact ownsRow_keep lrow4 k6 (fun b hb => by simp [Value.ownBlock] at hb; subst hb; exact cg1)
  · rw [List.length_append, List.map_append]
    exact ownsRow_keep orow4 k6 (fun b hb => by simp [Value.ownBlock] at hb; subst hb; exact cg2)
  · by_cases hi : i < ls.length
    · rw [List.getElem?_append_left hi] at hv
      rw [List.getElem?_append_left (by rw [← h.len]; exact hi)] at hoo
      rw [upN_ne _ _ _ _ (by omega)]
      obtain ⟨m1, m2, m3⟩ := h.mark i v o hv hoo
      have m4 : MarkAt W4 v o (lens i) := m1.keep kA (fun b hb => by rcases m3 b hb with q | q <;> omega)
      have hoth : ∀ b, v.ownBlock = some b → own' b = own b := fun b hb => hs b (m1.lt b hb)
      by_cases hsame : cur.ownBlock = v.ownBlock ∧ v.ownBlock ≠ none
      · obtain ⟨q1, q2⟩ := hsame
        obtain ⟨b, hb⟩ := Option.ne_none_iff_exists'.1 q2
        have h3 := ho b (by rw [q1]; exact hb)
        rcases m3 b hb with q | ⟨q, rfl, qJ⟩
        · omega
        have hle := qJ (by rw [q1]; exact hb)
        refine ⟨?_, m2, fun b' hb' => ?_⟩
        · rcases a2 with ⟨q3, q4⟩ | ⟨_, q4⟩
          · exact MarkAt.of a1 (by omega) m4 (by rw [← q1, q3]; rfl)
          · exact m4.keep q4 (fun _ _ => trivial)
        · rw [hoth b' hb']
          right
          rw [hb] at hb'
          injection hb' with hb'
          subst hb'
          exact ⟨q, rfl, fun _ => by omega⟩
      · refine ⟨m4.keep k6 (fun b hb e => hsame ⟨by rw [e, hb], by rw [hb]; simp⟩), m2, fun b hb => ?_⟩
        rw [hoth b hb]
        rcases m3 b hb with q | ⟨q, r1, _⟩
        · exact .inl q
        · refine .inr ⟨q, r1, fun e => ?_⟩
          exfalso
          have hbg : g3 = b := by simpa [Value.ownBlock] using e
          subst hbg
          rcases a2 with ⟨q3, _⟩ | ⟨q3, _⟩
          · exact hsame ⟨by rw [q3, hb], by rw [hb]; simp⟩
          · have := m1.lt _ hb; omega
    · have hil : i = ls.length := by
        have := (List.getElem?_eq_some_iff.1 hv).1
        simp at this
        omega
      subst hil
      rw [List.getElem?_append_right (Nat.le_refl _)] at hv
      rw [List.getElem?_append_right (by rw [h.len]; exact Nat.le_refl _)] at hoo
      simp at hv
      simp [h.len] at hoo
      subst hv
      subst hoo
      rw [upN_same]
      refine ⟨?_, by omega, fun b hb => ?_⟩
      · rcases a2 with ⟨q3, q4⟩ | ⟨_, q4⟩
        · exact MarkAt.of a1 (by omega) (MarkAt.ofAck ha4) (by rw [q3]; rfl)
        · exact (MarkAt.ofAck ha4).keep q4 (fun _ _ => trivial)
      · rw [hs b (ha.lt b hb)]
        exact .inr ⟨ho b hb, rfl, fun _ => by omega⟩

end Go.Proofs.YtjhifhoniimfgaaGreat

