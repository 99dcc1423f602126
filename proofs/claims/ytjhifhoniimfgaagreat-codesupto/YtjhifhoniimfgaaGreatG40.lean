import Derived.Test.YtjhifhoniimfgaaGreatG39
/-
  The book: a list becomes its owner's; every list is as its owner made it.
-/
namespace Go.Proofs.YtjhifhoniimfgaaGreat
open Go.RowKit

theorem ansFlat_set : ∀ (l : List Ans) (j : Nat) (a : Ans), ansFlat (l.set j a) = ((ansFlat l).set (j * 2) (.int .i64 a.1)).set (j * 2 + 1) (.int .i64 a.2)
  | [], j, a => by simp [ansFlat]
  | b :: r, 0, a => by simp [ansFlat]
  | b :: r, j + 1, a => by
    have ih := ansFlat_set r j a
    rw [show (j + 1) * 2 = j * 2 + 1 + 1 by omega]
    simp [ansFlat, ih]

theorem AckAt.set {w : World} {g n cap : Nat} {l : List Ans} (h : AckAt w (.slice (some ⟨g, 0, none⟩) n cap) l) (j : Nat) (a : Ans) :
    AckAt ((w.setCell ⟨g, j * 2, none⟩ (.int .i64 a.1)).setCell ⟨g, j * 2 + 1, none⟩ (.int .i64 a.2)) (.slice (some ⟨g, 0, none⟩) n cap) (l.set j a) := by
  refine ⟨by rw [ansFlat_len, List.length_set], ?_⟩
  rcases h.2 with ⟨q, _⟩ | ⟨g', cap', cur, q, _, q1, q2, q3, q4, q5⟩
  · cases q
  · simp only [Value.slice.injEq, Option.some.injEq, Addr.mk.injEq, and_true] at q
    obtain ⟨rfl, rfl, rfl⟩ := q
    refine .inr ⟨g, cap, _, by rw [List.length_set], Nat.zero_le _, heap_setCell_at _ (heap_setCell_at _ q1), by rw [List.length_set]; exact q2, q3, by simpa using q4, ?_⟩
    rw [List.length_set, ansFlat_set, ← q5, Array.toList_setIfInBounds, Array.toList_setIfInBounds, List.take_set, List.take_set]

theorem fill_list (n j : Nat) (acks : List Ans) (hj : j < acks.length) : (marks n j ++ acks.drop j).set j (-(n : Int), 0) = marks n (j + 1) ++ acks.drop (j + 1) := by
  have hl : (marks n j).length = j := marks_len n j
  rw [List.set_append_right _ _ (by omega), hl, Nat.sub_self, ← marks_succ, List.append_assoc]
  congr 1
  rw [List.drop_eq_getElem_cons hj]
  rfl

/-- In the rounds of own: the book with k lists of this call; the list that is in hand. -/
def OwnRel (own : Nat → Nat) (w : World) (bb N1 : Nat) (ls0 : List Value) (os0 : List Nat) (J0 k : Nat) (cur : Value) (wr : World) : Prop :=
  ∃ own' Lv Ov ls os lens, BookMid own' wr bb N1 Lv Ov ls os lens 0 cur (J0 + k) ∧ AckAt wr cur (marks N1 (J0 + k)) ∧ (∀ b, cur.ownBlock = some b → own' b = 3) ∧ Same own own' w ∧ Keep (fun b => own b ≠ 2 ∧ own b ≠ 3) w wr ∧ ls.length = ls0.length + k ∧ (∀ o, o ∈ os → o ∈ os0 ∨ o = N1) ∧ own' w.heap.size = 0 ∧ wr.heap[w.heap.size]? = some (.cells #[.int .i64 (-(N1 : Int)), .int .i64 0] 58 (0, 0))

theorem OwnRel.next {own own' : Nat → Nat} {w wr : World} {bb N1 : Nat} {ls0 : List Value} {os0 : List Nat} {J0 k : Nat} {cur Lv Ov : Value} {ls : List Value} {os : List Nat} {lens : Nat → Nat} {g1 c1 : Nat} {w3 : World} {g2 c2 : Nat} {w5 : World} {g3 c3 : Nat} {w6 : World}
    (hr : OwnRound own' wr bb N1 Lv Ov ls os lens 0 cur (J0 + k) g1 c1 w3 g2 c2 w5 g3 c3 w6) (hs : Same own own' w) (hk : Keep (fun b => own b ≠ 2 ∧ own b ≠ 3) w wr) (hl : ls.length = ls0.length + k) (ho : ∀ o, o ∈ os → o ∈ os0 ∨ o = N1) (hm : own' w.heap.size = 0) (hb : wr.heap[w.heap.size]? = some (.cells #[.int .i64 (-(N1 : Int)), .int .i64 0] 58 (0, 0))) :
    OwnRel own w bb N1 ls0 os0 J0 (k + 1) (.slice (some ⟨g3, 0, none⟩) (J0 + k + 1) c3) w6 := by
  obtain ⟨own2, f1, f2, f3, f4, f5⟩ := hr.fin
  refine ⟨own2, _, _, _, _, _, f3, f4, fun b hb => by simp [Value.ownBlock] at hb; subst hb; exact f5, hs.trans f1 hk.size, hk.trans' f2 (fun b hb hO => ?_), by simp; omega, fun o h => ?_, by rw [f1 _ (block_lt hb)]; exact hm, f2.get hb (by rw [hm]; omega)⟩
  · show own' b ≠ 2 ∧ own' b ≠ 3
    rw [hs b hb]; exact hO
  · rcases List.mem_append.1 h with h | h
    · exact ho o h
    · simp at h; exact .inr h

set_option maxRecDepth 100000 in
set_option maxHeartbeats 4000000 in
theorem own_walk {own : Nat → Nat} {w : World} {bb n0 : Nat} {Lv0 Ov0 : Value} {ls0 : List Value} {os0 : List Nat} {lens0 : Nat → Nat} {v : Value} (h : BookMid own w bb n0 Lv0 Ov0 ls0 os0 lens0 0 (.slice none 0 0) 0) (acks : List Ans) (ha : AckAt w v acks) (hv : ∀ b, v.ownBlock = some b → own b = 3)
    (h1 : ∀ (i : Nat) (u : Value), ls0[i]? = some u → ∀ b, u.ownBlock = some b → own b = 1) (hn : n0 < 1099511627776) (hk : ls0.length < 4398046511000) (hJ : acks.length < 1099511627770) :
    Calls Tryz.prog 28 #[.pointer (some ⟨bb, 0, none⟩), v] w fun e w' => e = .returned (.tuple #[]) ∧ ∃ cur, OwnRel own w bb (n0 + 1) ls0 os0 acks.length 4 cur w' := by
  obtain ⟨va, vc, hvv⟩ := ha.slice
  obtain ⟨N1, hN1⟩ : ∃ N1, N1 = n0 + 1 := ⟨_, rfl⟩
  have c2 := cellAt (i := 2) h.book rfl
  have z2 := frozenAt (i := 2) h.book
  have lbb := block_lt h.book
  -- behind the mark's box
  obtain ⟨w1, hw1⟩ : ∃ w1, w1 = (w.setCell ⟨bb, 2, none⟩ (.int .i64 ((n0 : Int) + 1))).alloc (.cells #[.int .i64 (-(N1 : Int)), .int .i64 0] 58) := ⟨_, rfl⟩
  have kS : Keep (fun b => b ≠ bb) w w1 := by rw [hw1]; exact ((Keep.refl _ w).setCell _ (fun _ h => h rfl) _).alloc _
  have hsz1 : w1.heap.size = w.heap.size + 1 := by rw [hw1, World.size_alloc, size_setCell]
  have bm : w1.heap[w.heap.size]? = some (.cells #[.int .i64 (-(N1 : Int)), .int .i64 0] 58 (0, 0)) := by
    rw [hw1]
    have := heap_alloc_new (w.setCell ⟨bb, 2, none⟩ (.int .i64 ((n0 : Int) + 1))) (.cells #[.int .i64 (-(N1 : Int)), .int .i64 0] 58)
    rw [size_setCell] at this
    exact this
  have hb1 : BookMid (ext own w.heap.size 0) w1 bb N1 Lv0 Ov0 ls0 os0 lens0 0 (.slice none 0 0) 0 := by
    have q1 : w1.heap[bb]? = some (.cells #[Lv0, Ov0, .int .i64 N1] 41 (0, 0)) := by
      rw [hw1, Below.heap_alloc _ _ _ (by rw [size_setCell]; exact lbb), heap_setCell_at _ h.book, hN1]
      simp
    have rne : ∀ {v : Value} {e k n : Nat} {xs : List Value}, w.ownsRow 0 e k v n xs → 41 ≠ e → v.ownBlock ≠ some bb := by
      intro v e k n xs hr hU q
      rcases hr.2 with ⟨q0, _⟩ | ⟨g', cap', cur', q0, _, qq, _⟩
      · rw [q0] at q; cases q
      · rw [q0] at q
        have q' : g' = bb := by simpa [Value.ownBlock] using q
        exact block_ne h.book qq hU q'.symm
    refine ⟨q1, ownsRow_keep h.lrow kS (fun b hb e => rne h.lrow (by decide) (e ▸ hb)), ownsRow_keep h.orow kS (fun b hb e => rne h.orow (by decide) (e ▸ hb)), h.len, fun i u o hu ho => ?_, by rw [ext_lt lbb]; exact h.ob, fun b hb => by rw [ext_lt (ownsRow_lt h.lrow b hb)]; exact h.ol b hb, fun b hb => by rw [ext_lt (ownsRow_lt h.orow b hb)]; exact h.oo b hb⟩
    obtain ⟨m1, m2, _⟩ := h.mark i u o hu ho
    have h11 := h1 i u hu
    exact ⟨m1.keep kS (fun b hb e => by have q1 := h11 b hb; have q2 := h.ob; rw [e] at q1; omega), m2, fun b hb => .inl (by rw [ext_lt (m1.lt b hb)]; exact h11 b hb)⟩
  have hv1 : ∀ b, v.ownBlock = some b → ext own w.heap.size 0 b = 3 := fun b hb => by rw [ext_lt (ha.lt b hb)]; exact hv b hb
  have ha1 : AckAt w1 v acks := ha.keep kS (fun b hb e => by have q1 := hv b hb; have q2 := h.ob; rw [e] at q1; omega)
  have hs1 : Same own (ext own w.heap.size 0) w := Same.ext own w 0
  have k1 : Keep (fun b => own b ≠ 2 ∧ own b ≠ 3) w w1 := kS.mono (fun b _ hb e => by have := h.ob; rw [← e] at this; omega)
  -- what the first loop leaves
  have hfill : ∀ wr, AckAt wr v (marks N1 acks.length) → Keep (fun b => v.ownBlock ≠ some b) w1 wr → OwnRel own w bb N1 ls0 os0 acks.length 0 v wr := fun wr q1 q2 => by
    refine ⟨ext own w.heap.size 0, Lv0, Ov0, ls0, os0, lens0, ?_, q1, hv1, hs1, k1.trans' q2 (fun b hb hO e => ?_), by simp, fun o ho => .inl ho, ext_ge (Nat.le_refl _), q2.get bm (fun e => by have := ha.lt _ e; omega)⟩
    · have lb1 := block_lt hb1.book
      have hne : ∀ b, ext own w.heap.size 0 b = 1 ∨ ext own w.heap.size 0 b = 2 → v.ownBlock ≠ some b := fun b hb e => by have := hv1 b e; omega
      refine ⟨q2.get hb1.book (hne _ (.inr hb1.ob)), ownsRow_keep hb1.lrow q2 (fun b hb => hne b (.inr (hb1.ol b hb))), ownsRow_keep hb1.orow q2 (fun b hb => hne b (.inr (hb1.oo b hb))), hb1.len, fun i u o hu ho => ?_, hb1.ob, hb1.ol, hb1.oo⟩
      obtain ⟨m1, m2, _⟩ := h.mark i u o hu ho
      obtain ⟨m1', m2', _⟩ := hb1.mark i u o hu ho
      have h11 : ∀ b, u.ownBlock = some b → ext own w.heap.size 0 b = 1 := fun b hb => by rw [ext_lt (m1.lt b hb)]; exact h1 i u hu b hb
      exact ⟨m1'.keep q2 (fun b hb => hne b (.inl (h11 b hb))), m2', fun b hb => .inl (h11 b hb)⟩
    · have := hv b e; omega
  have HFILL := hide' hfill
  have HA1 := hide' ha1
  have HBM := hide' bm
  have HBB := hide' h.ob
  have hneg : IntKind.i64.wrap (-((n0 : Int) + 1)) = -((n0 : Int) + 1) := by rw [IntKind.wrap_i64]; omega
  have hN1c : (N1 : Int) = (n0 : Int) + 1 := by rw [hN1]; simp
  have m0 : w1.cell? ⟨w.heap.size, 0, none⟩ = some (.int .i64 (-((n0 : Int) + 1))) := by rw [← hN1c]; exact cellAt (i := 0) bm rfl
  rw [hN1c] at hw1
  have HN1c := hide' hN1c
  have m1 : w1.cell? ⟨w.heap.size, 1, none⟩ = some (.int .i64 0) := cellAt (i := 1) bm rfl
  have HW1 := hide' hw1
  have HN1 := hide' hN1
  have hvl : ∀ b, v.ownBlock = some b → b < w1.heap.size := fun b hb => by have := ha.lt b hb; omega
  have HVL := hide' hvl
  have HVN : Hid (v.ownBlock ≠ some w.heap.size) := fun e => by have := ha.lt _ e; omega
  rw [← hN1]
  clear h h1 hv ha hs1 k1 hv1 ha1 hb1 bm kS hN1 hfill hvl hN1c
  subst hvv
  go_enter Tryz.func28, Tryz.ntmps28
  go_wp2_with fail
  rw [← hw1]
  clear hw1
  go_loopw [5] (fun i wr => ∃ j : Nat, j ≤ acks.length ∧ i = .int .i64 j ∧ AckAt wr (.slice va acks.length vc) (marks N1 j ++ acks.drop j) ∧ Keep (fun b => (Value.slice va acks.length vc).ownBlock ≠ some b) w1 wr) (fun i _ => acks.length - (intOf i).toNat)
  case atStart => exact ⟨0, Nat.zero_le _, rfl, HA1.out, Keep.refl _ _⟩
  case round =>
    obtain ⟨j, hj, rfl, hack, hkp⟩ := hrel
    have HK := hide' hkp
    have HC := hide' hack
    by_cases hlt : j < acks.length
    · have hlt' : (j : Int) < (acks.length : Int) := by omega
      have y0 : wr.cell? ⟨w.heap.size, 0, none⟩ = some (.int .i64 (-((n0 : Int) + 1))) := by rw [World.cell?_of_block (w := w1) (hkp.block _ (World.block_lt_of_cell? w1 _ m0) HVN.out)]; exact m0
      have y1 : wr.cell? ⟨w.heap.size, 1, none⟩ = some (.int .i64 0) := by rw [World.cell?_of_block (w := w1) (hkp.block _ (World.block_lt_of_cell? w1 _ m1) HVN.out)]; exact m1
      obtain ⟨g, rfl, x0, x1, z0, z1⟩ : ∃ g, va = some ⟨g, 0, none⟩ ∧ (∃ x, wr.cell? ⟨g, j * 2, none⟩ = some (.int .i64 x)) ∧ (∃ x, wr.cell? ⟨g, j * 2 + 1, none⟩ = some (.int .i64 x)) ∧ wr.frozen? ⟨g, j * 2, none⟩ = false ∧ wr.frozen? ⟨g, j * 2 + 1, none⟩ = false := by
        rcases hack.2 with ⟨q, q0⟩ | ⟨g, cap, cur, q, _, q1, q2, _, q4, q5⟩
        · simp [marks_len] at q0; omega
        · simp only [Value.slice.injEq] at q
          have hl : (marks N1 j ++ acks.drop j).length = acks.length := by simp [marks_len]; omega
          have hjl : j < (marks N1 j ++ acks.drop j).length := by omega
          obtain ⟨f0, f1⟩ := ansFlat_get _ j _ (List.getElem?_eq_getElem hjl)
          rw [← q5, List.getElem?_take_of_lt (by omega)] at f0 f1
          exact ⟨g, q.1, ⟨_, cellAt q1 (by simpa using f0)⟩, ⟨_, cellAt q1 (by simpa using f1)⟩, frozenAt q1, frozenAt q1⟩
      obtain ⟨x0, d0⟩ := x0
      obtain ⟨x1, d1⟩ := x1
      have hgne : g ≠ w.heap.size := fun e => HVN.out (by rw [← e]; rfl)
      have HS : Hid (AckAt ((wr.setCell ⟨g, j * 2, none⟩ (.int .i64 (-((n0 : Int) + 1)))).setCell ⟨g, j * 2 + 1, none⟩ (.int .i64 0)) (.slice (some ⟨g, 0, none⟩) acks.length vc) (marks N1 (j + 1) ++ acks.drop (j + 1))) := by
        show AckAt _ _ _
        rw [← fill_list _ _ _ hlt, ← HN1c.out]
        exact HC.out.set j (-(N1 : Int), 0)
      have HKS : Hid (Keep (fun b => (Value.slice (some ⟨g, 0, none⟩) acks.length vc).ownBlock ≠ some b) w1 ((wr.setCell ⟨g, j * 2, none⟩ (.int .i64 (-((n0 : Int) + 1)))).setCell ⟨g, j * 2 + 1, none⟩ (.int .i64 0))) := (HK.out.setCell ⟨g, j * 2, none⟩ (fun _ h => h rfl) _).setCell ⟨g, j * 2 + 1, none⟩ (fun _ h => h rfl) _
      clear hack hkp m0 m1
      go_wp2_with fail
      go_roundw
      case rel => exact ⟨j + 1, by omega, by go_num, HS.out, HKS.out⟩
      case measure => simp [intOf]; omega
    · obtain rfl : j = acks.length := by omega
      have hge : ¬ (acks.length : Int) < (acks.length : Int) := by omega
      rw [List.drop_length, List.append_nil] at hack
      have HR0 := hide' (HFILL.out wr hack hkp)
      clear hack hkp m0 m1 HC HK HFILL HA1
      go_wp2_with fail
      rename World => wq
      go_loopw [1, 6] (fun cv i wr => ∃ k : Nat, k ≤ 4 ∧ i = .int .i64 k ∧ OwnRel own w bb N1 ls0 os0 acks.length k cv wr) (fun _ i _ => 4 - (intOf i).toNat)
      case atStart => exact ⟨0, by omega, rfl, HR0.out⟩
      case round =>
        obtain ⟨k, hk4, rfl, own', Lv, Ov, ls, os, lens, hmid, hack, hcur, hsame, hkeep, hlen, hos, hm, hbx⟩ := hrel
        by_cases hlt : k < 4
        · have hlt' : (k : Int) < 4 := by omega
          obtain ⟨J, hJJ⟩ : ∃ J, J = acks.length + k := ⟨_, rfl⟩
          rw [← hJJ] at hmid hack
          obtain ⟨g1, c1, w3, g2, c2', w5, g3, c3, w6, hr⟩ := own_round hmid hack hcur (by omega) (by omega)
          have HEND : Hid (OwnRel own w bb N1 ls0 os0 acks.length (k + 1) (.slice (some ⟨g3, 0, none⟩) (J + 1) c3) w6) := by
            rw [hJJ] at hr ⊢
            exact OwnRel.next hr hsame hkeep hlen hos hm hbx
          obtain ⟨ca, cc, hcs⟩ := hack.slice
          rw [marks_len] at hcs
          subst hcs
          obtain ⟨la, lc, hls⟩ := ownsRow_slice hmid.lrow
          obtain ⟨oa, oc, hoss⟩ := ownsRow_slice hmid.orow
          subst hls
          subst hoss
          have lrun := hr.lrun
          have orun := hr.orun
          have arun := hr.arun
          have r0 := cellAt (i := 0) hmid.book rfl
          have r3 := cellAt (i := 0) hr.b3 rfl
          have rz := frozenAt (i := 0) hr.b3
          have t0 := cellAt (i := 1) hr.b3 rfl
          have t2 := cellAt (i := 2) hr.b3 rfl
          have b4 : (w3.setCell ⟨bb, 0, none⟩ (.slice (some ⟨g1, 0, none⟩) (ls.length + 1) c1)).heap[bb]? = some (.cells #[.slice (some ⟨g1, 0, none⟩) (ls.length + 1) c1, .slice oa os.length oc, .int .i64 N1] 41 (0, 0)) := by rw [heap_setCell_at _ hr.b3]; simp
          have s2 : ((w3.setCell ⟨bb, 0, none⟩ (.slice (some ⟨g1, 0, none⟩) (ls.length + 1) c1)).drewN 1).cell? ⟨bb, 2, none⟩ = some (.int .i64 N1) := cellAt (i := 2) (show ((w3.setCell ⟨bb, 0, none⟩ (.slice (some ⟨g1, 0, none⟩) (ls.length + 1) c1)).drewN 1).heap[bb]? = _ from b4) rfl
          have s1 : ((w3.setCell ⟨bb, 0, none⟩ (.slice (some ⟨g1, 0, none⟩) (ls.length + 1) c1)).drewN 1).cell? ⟨bb, 1, none⟩ = some (.slice oa os.length oc) := cellAt (i := 1) (show ((w3.setCell ⟨bb, 0, none⟩ (.slice (some ⟨g1, 0, none⟩) (ls.length + 1) c1)).drewN 1).heap[bb]? = _ from b4) rfl
          have b4a : (((w3.setCell ⟨bb, 0, none⟩ (.slice (some ⟨g1, 0, none⟩) (ls.length + 1) c1)).drewN 1).alloc (.cells #[.int .i64 N1] 3)).heap[bb]? = some (.cells #[.slice (some ⟨g1, 0, none⟩) (ls.length + 1) c1, .slice oa os.length oc, .int .i64 N1] 41 (0, 0)) := (Below.heap_alloc _ _ _ (block_lt b4)).trans b4
          have s3 := cellAt (i := 2) b4a rfl
          have s31 := cellAt (i := 1) b4a rfl
          have s32 : ((w3.setCell ⟨bb, 0, none⟩ (.slice (some ⟨g1, 0, none⟩) (ls.length + 1) c1)).alloc (.cells #[.int .i64 N1] 3)).cell? ⟨bb, 1, none⟩ = some (.slice oa os.length oc) := cellAt (i := 1) ((Below.heap_alloc _ _ _ (block_lt b4)).trans b4) rfl
          have s5 := cellAt (i := 2) hr.b5 rfl
          have s51 := cellAt (i := 1) hr.b5 rfl
          have s5z := frozenAt (i := 1) hr.b5
          have b6 : (w5.setCell ⟨bb, 1, none⟩ (.slice (some ⟨g2, 0, none⟩) (os.length + 1) c2')).heap[bb]? = some (.cells #[.slice (some ⟨g1, 0, none⟩) (ls.length + 1) c1, .slice (some ⟨g2, 0, none⟩) (os.length + 1) c2', .int .i64 N1] 41 (0, 0)) := by rw [heap_setCell_at _ hr.b5]; simp
          have s6 := cellAt (i := 2) b6 rfl
          have bx4 := hr.keep4.get hbx (by rw [hm]; omega)
          have mb0 := cellAt (i := 0) bx4 rfl
          have mb1 := cellAt (i := 1) bx4 rfl
          clear hmid hack hcur hsame hkeep hlen hos hm hbx hr b4 b4a b6 bx4 hJJ
          go_wp2_with (at_builtin; go_must (refine wpList_append_run rfl _ _ 39 rfl (.slice la ls.length lc) (.slice (some ⟨wr.heap.size, 0, none⟩) 1 1) _ _ rfl rfl lrun ?_))
          refine wp_region_noPanic ?_
          refine wp_region_held_drew (S := (fun W => W.cell? ⟨bb, 2, none⟩ = some (.int .i64 N1))) (by kernel_rfl) s2 (fun _ => ?_)
          refine wpAnyH_take (i := 0) (v := ?_) rfl (by kernel_rfl) (by kernel_rfl) (by kernel_rfl) (fun _ _ _ h => h) (Or.inl ⟨by rfl, ?_⟩) s2 ?_
          rotate_left
          (intro w hSw; go_simp)
          try with_reducible rfl
          simp only [Act.put]
          refine wpAnyH_take (i := 1) (v := ?_) rfl (by kernel_rfl) (by kernel_rfl) (by kernel_rfl) (fun _ _ _ h => h) (Or.inl ⟨by rfl, ?_⟩) s2 ?_
          rotate_left
          (intro w hSw; go_simp)
          try with_reducible rfl
          simp only [Act.put]
          refine wpAnyH_take (i := 2) (v := ?_) rfl (by kernel_rfl) (by kernel_rfl) (by kernel_rfl) (fun _ _ _ h => h) (Or.inl ⟨by rfl, ?_⟩) s2 ?_
          rotate_left
          (intro w hSw; go_simp)
          try with_reducible rfl
          simp only [Act.put]
          refine wpAnyH_take (i := 3) (v := ?_) rfl (by kernel_rfl) (by kernel_rfl) (by kernel_rfl) (fun _ _ _ h => h) (Or.inl ⟨by rfl, ?_⟩) s2 ?_
          rotate_left
          (intro w hSw; go_simp)
          try with_reducible rfl
          simp only [Act.put]
          refine wpAnyH_take (i := 5) (v := ?_) rfl (by kernel_rfl) (by kernel_rfl) (by kernel_rfl) (fun _ _ _ h => h) (Or.inl ⟨by rfl, ?_⟩) s2 ?_
          rotate_left
          (intro w hSw; go_simp)
          try with_reducible rfl
          simp only [Act.put]
          refine wpAnyH_take (i := 6) (v := ?_) rfl (by kernel_rfl) (by kernel_rfl) (by kernel_rfl) (fun _ _ _ h => h) (Or.inl ⟨by rfl, ?_⟩) s2 ?_
          rotate_left
          (intro w hSw; go_simp)
          try with_reducible rfl
          simp only [Act.put]
          refine wpAnyH_take (i := 7) (v := ?_) rfl (by kernel_rfl) (by kernel_rfl) (by kernel_rfl) (fun _ _ _ h => h) (Or.inl ⟨by rfl, ?_⟩) s2 ?_
          rotate_left
          (intro w hSw; go_simp)
          try with_reducible rfl
          simp only [Act.put]
          refine wpAnyH_take (i := 8) (v := ?_) rfl (by kernel_rfl) (by kernel_rfl) (by kernel_rfl) (fun _ _ _ h => h) (Or.inl ⟨by rfl, ?_⟩) s2 ?_
          rotate_left
          (intro w hSw; go_simp)
          try with_reducible rfl
          simp only [Act.put]
          refine wpAnyH_ready (rs := [4, 9]) (by kernel_rfl) (by simp) ?_
          refine AllReadyH.cons rfl (fun K hK => ?_) (AllReadyH.cons rfl (fun K hK => ?_) AllReadyH.nil)
          · go_simp
            refine hK.out _ _ s2 (fun _ => ?_)
            clear hK K
            refine wpAnyH_ready (rs := [9]) (by kernel_rfl) (by simp) ?_
            refine AllReadyH.cons rfl (fun K hK => ?_) AllReadyH.nil
            go_simp
            refine hK.out _ _ s3 (fun _ => ?_)
            clear hK K
            refine wpAnyH_ready (rs := [10]) (by kernel_rfl) (by simp) ?_
            refine AllReadyH.cons rfl (fun K hK => ?_) AllReadyH.nil
            refine append_op rfl (.tmp 48) (.tmp 53) 32 rfl (.slice oa os.length oc) (.slice (some ⟨(w3.setCell ⟨bb, 0, none⟩ (.slice (some ⟨g1, 0, none⟩) (ls.length + 1) c1)).heap.size, 0, none⟩) 1 1) _ _ (by simp [Act.eval]) (by simp [Act.eval]) orun ?_
            simp only [Act.put]
            refine hK.out _ _ s5 (fun _ => ?_)
            clear hK K
            refine wpAnyH_take (i := 11) (v := ?_) rfl (by kernel_rfl) (by kernel_rfl) (by kernel_rfl) (fun _ _ _ h => h) (Or.inl ⟨by rfl, ?_⟩) s5 ?_
            rotate_left
            (intro w hSw; go_simp)
            try with_reducible rfl
            simp only [Act.put]
            refine wpAnyH_take (i := 12) (v := ?_) rfl (by kernel_rfl) (by kernel_rfl) (by kernel_rfl) (fun _ _ _ h => h) (Or.inl ⟨by rfl, ?_⟩) s5 ?_
            rotate_left
            (intro w hSw; go_simp)
            try with_reducible rfl
            simp only [Act.put]
            refine wpAnyH_ready (rs := [13]) (by kernel_rfl) (by simp) ?_
            refine AllReadyH.cons rfl (fun K hK => ?_) AllReadyH.nil
            go_simp
            refine hK.out _ _ s6 (fun _ => ?_)
            clear hK K
            refine wpAnyH_done (by kernel_rfl) (NoPanic.normal ?_) _
            obtain ⟨W4, hW4⟩ : ∃ W4, W4 = w5.setCell ⟨bb, 1, none⟩ (.slice (some ⟨g2, 0, none⟩) (os.length + 1) c2') := ⟨_, rfl⟩
            rw [← hW4]
            rw [← hW4] at mb0 mb1 arun
            clear hW4
            go_wp2_with (at_builtin; go_must (refine wpList_append_run rfl _ _ 66 rfl (.slice ca J cc) (.slice (some ⟨W4.heap.size, 0, none⟩) 1 1) _ _ rfl rfl arun ?_))
            go_wp2_with fail
            go_roundw
            case rel => exact ⟨k + 1, by omega, by go_num, HEND.out⟩
            case measure => simp [intOf]; omega
          · go_simp
            refine hK.out _ _ s3 (fun _ => ?_)
            clear hK K
            refine wpAnyH_ready (rs := [4]) (by kernel_rfl) (by simp) ?_
            refine AllReadyH.cons rfl (fun K hK => ?_) AllReadyH.nil
            go_simp
            refine hK.out _ _ s3 (fun _ => ?_)
            clear hK K
            refine wpAnyH_ready (rs := [10]) (by kernel_rfl) (by simp) ?_
            refine AllReadyH.cons rfl (fun K hK => ?_) AllReadyH.nil
            refine append_op rfl (.tmp 48) (.tmp 53) 32 rfl (.slice oa os.length oc) (.slice (some ⟨(w3.setCell ⟨bb, 0, none⟩ (.slice (some ⟨g1, 0, none⟩) (ls.length + 1) c1)).heap.size, 0, none⟩) 1 1) _ _ (by simp [Act.eval]) (by simp [Act.eval]) orun ?_
            simp only [Act.put]
            refine hK.out _ _ s5 (fun _ => ?_)
            clear hK K
            refine wpAnyH_take (i := 11) (v := ?_) rfl (by kernel_rfl) (by kernel_rfl) (by kernel_rfl) (fun _ _ _ h => h) (Or.inl ⟨by rfl, ?_⟩) s5 ?_
            rotate_left
            (intro w hSw; go_simp)
            try with_reducible rfl
            simp only [Act.put]
            refine wpAnyH_take (i := 12) (v := ?_) rfl (by kernel_rfl) (by kernel_rfl) (by kernel_rfl) (fun _ _ _ h => h) (Or.inl ⟨by rfl, ?_⟩) s5 ?_
            rotate_left
            (intro w hSw; go_simp)
            try with_reducible rfl
            simp only [Act.put]
            refine wpAnyH_ready (rs := [13]) (by kernel_rfl) (by simp) ?_
            refine AllReadyH.cons rfl (fun K hK => ?_) AllReadyH.nil
            go_simp
            refine hK.out _ _ s6 (fun _ => ?_)
            clear hK K
            refine wpAnyH_done (by kernel_rfl) (NoPanic.normal ?_) _
            obtain ⟨W4, hW4⟩ : ∃ W4, W4 = w5.setCell ⟨bb, 1, none⟩ (.slice (some ⟨g2, 0, none⟩) (os.length + 1) c2') := ⟨_, rfl⟩
            rw [← hW4]
            rw [← hW4] at mb0 mb1 arun
            clear hW4
            go_wp2_with (at_builtin; go_must (refine wpList_append_run rfl _ _ 66 rfl (.slice ca J cc) (.slice (some ⟨W4.heap.size, 0, none⟩) 1 1) _ _ rfl rfl arun ?_))
            go_wp2_with fail
            go_roundw
            case rel => exact ⟨k + 1, by omega, by go_num, HEND.out⟩
            case measure => simp [intOf]; omega

        · obtain rfl : k = 4 := by omega
          have HEND : Hid (OwnRel own w bb N1 ls0 os0 acks.length 4 u1 wr) := ⟨own', Lv, Ov, ls, os, lens, hmid, hack, hcur, hsame, hkeep, hlen, hos, hm, hbx⟩
          clear hmid hack hcur hsame hkeep hlen hos hm hbx
          go_wp2_with fail
          go_end0
          exact ⟨rfl, _, HEND.out⟩

end Go.Proofs.YtjhifhoniimfgaaGreat

/-
  The book at rest: every list is as its owner made it.
-/
namespace Go.Proofs.YtjhifhoniimfgaaGreat
open Go.RowKit

def BookAt (own : Nat → Nat) (w : World) (bb M : Nat) : Prop :=
  ∃ n Lv Ov ls os lens, BookMid own w bb n Lv Ov ls os lens 0 (.slice none 0 0) 0 ∧ (∀ (i : Nat) (u : Value), ls[i]? = some u → ∀ b, u.ownBlock = some b → own b = 1) ∧ n ≤ M ∧ (∀ o, o ∈ os → o ≤ M) ∧ ls.length ≤ 4 * M

theorem BookAt.more {own : Nat → Nat} {w : World} {bb M K : Nat} (h : BookAt own w bb M) (hK : M ≤ K) : BookAt own w bb K := by
  obtain ⟨n, Lv, Ov, ls, os, lens, h1, h2, h3, h4, h5⟩ := h
  exact ⟨n, Lv, Ov, ls, os, lens, h1, h2, by omega, fun o ho => by have := h4 o ho; omega, by omega⟩

theorem BookAt.keep {own own' : Nat → Nat} {S : Nat → Prop} {w w' : World} {bb M : Nat} (h : BookAt own w bb M) (hk : Keep S w w') (hs : ∀ b, b < w.heap.size → own b = 1 ∨ own b = 2 → S b) (ho : ∀ b, b < w.heap.size → own b = 1 ∨ own b = 2 → own' b = own b) : BookAt own' w' bb M := by
  obtain ⟨n, Lv, Ov, ls, os, lens, h1, h2, h3, h4, h5⟩ := h
  have l1 := block_lt h1.book
  refine ⟨n, Lv, Ov, ls, os, lens, ⟨hk.get h1.book (hs _ l1 (.inr h1.ob)), ownsRow_keep h1.lrow hk (fun b hb => hs _ (ownsRow_lt h1.lrow b hb) (.inr (h1.ol b hb))), ownsRow_keep h1.orow hk (fun b hb => hs _ (ownsRow_lt h1.orow b hb) (.inr (h1.oo b hb))), h1.len, fun i v o hv hoo => ?_, by rw [ho _ l1 (.inr h1.ob)]; exact h1.ob, fun b hb => by rw [ho _ (ownsRow_lt h1.lrow b hb) (.inr (h1.ol b hb))]; exact h1.ol b hb, fun b hb => by rw [ho _ (ownsRow_lt h1.orow b hb) (.inr (h1.oo b hb))]; exact h1.oo b hb⟩, fun i u hu b hb => ?_, h3, h4, h5⟩
  · obtain ⟨m1, m2, m3⟩ := h1.mark i v o hv hoo
    have q := h2 i v hv
    exact ⟨m1.keep hk (fun b hb => hs b (m1.lt b hb) (.inl (q b hb))), m2, fun b hb => .inl (by rw [ho b (m1.lt b hb) (.inl (q b hb))]; exact q b hb)⟩
  · have hi := (List.getElem?_eq_some_iff.1 hu).1
    obtain ⟨m1, _, _⟩ := h1.mark i u (os[i]'(by rw [← h1.len]; exact hi)) hu (List.getElem?_eq_getElem (by rw [← h1.len]; exact hi))
    rw [ho b (m1.lt b hb) (.inl (h2 i u hu b hb))]
    exact h2 i u hu b hb

theorem bOwn {own : Nat → Nat} {w : World} {bb M : Nat} {v : Value} (h : BookAt own w bb M) (acks : List Ans) (ha : AckAt w v acks) (hv : ∀ b, v.ownBlock = some b → own b = 3) (hM : M < 1099511627745) (hJ : acks.length < 1099511627770) :
    Calls Tryz.prog 28 #[.pointer (some ⟨bb, 0, none⟩), v] w fun e w' => e = .returned (.tuple #[]) ∧ ∃ own', BookAt own' w' bb (M + 1) ∧ (∀ b, b < w.heap.size → own b ≠ 3 → own' b = own b) ∧ (∀ b, own' b ≠ 3) ∧ Keep (fun b => own b ≠ 2 ∧ own b ≠ 3) w w' := by
  obtain ⟨n, Lv, Ov, ls, os, lens, h1, h2, h3, h4, h5⟩ := h
  refine (own_walk h1 acks ha hv h2 (by omega) (by omega) hJ).mono ?_
  rintro e w' ⟨rfl, cur, own', Lv', Ov', ls', os', lens', m, _, _, hs, hk, hl, ho, _, _⟩
  refine ⟨rfl, fun b => if own' b = 3 then 1 else own' b, ⟨n + 1, Lv', Ov', ls', os', lens', ⟨m.book, m.lrow, m.orow, m.len, fun i u o hu hoo => ?_, by show (if own' bb = 3 then 1 else own' bb) = 2; rw [m.ob]; rfl, fun b hb => by show (if own' b = 3 then 1 else own' b) = 2; rw [m.ol b hb]; rfl, fun b hb => by show (if own' b = 3 then 1 else own' b) = 2; rw [m.oo b hb]; rfl⟩, fun i u hu b hb => ?_, by omega, fun o h => ?_, by omega⟩, fun b hb hne => ?_, fun b => ?_, hk⟩
  · obtain ⟨m1, m2, m3⟩ := m.mark i u o hu hoo
    refine ⟨m1, m2, fun b hb => .inl ?_⟩
    show (if own' b = 3 then 1 else own' b) = 1
    rcases m3 b hb with q | ⟨q, _⟩
    · rw [q]; rfl
    · rw [q]; rfl
  · have hi := (List.getElem?_eq_some_iff.1 hu).1
    obtain ⟨m1, m2, m3⟩ := m.mark i u (os'[i]'(by rw [← m.len]; exact hi)) hu (List.getElem?_eq_getElem (by rw [← m.len]; exact hi))
    show (if own' b = 3 then 1 else own' b) = 1
    rcases m3 b hb with q | ⟨q, _⟩
    · rw [q]; rfl
    · rw [q]; rfl
  · rcases ho o h with q | q
    · have := h4 o q; omega
    · omega
  · have q := hs b hb
    show (if own' b = 3 then 1 else own' b) = own b
    rw [q, if_neg hne]
  · show (if own' b = 3 then 1 else own' b) ≠ 3
    split
    · omega
    · assumption

set_option maxRecDepth 100000 in
set_option maxHeartbeats 2000000 in
theorem still_walk (w : World) (bb : Nat) (la oa : Option Addr) (lc oc : Nat) (ls : List Value) (os : List Nat) (lens : Nat → Nat) (hlen : ls.length = os.length) (hk : ls.length < 4398046511104)
    (c0 : w.cell? ⟨bb, 0, none⟩ = some (.slice la ls.length lc)) (c1 : w.cell? ⟨bb, 1, none⟩ = some (.slice oa os.length oc))
    (hL : ∀ (i : Nat) (v : Value), ls[i]? = some v → ∃ g, la = some ⟨g, 0, none⟩ ∧ w.cell? ⟨g, i, none⟩ = some v) (hO : ∀ (i : Nat) (o : Nat), os[i]? = some o → ∃ g, oa = some ⟨g, 0, none⟩ ∧ w.cell? ⟨g, i, none⟩ = some (.int .i64 o))
    (hM : ∀ (i : Nat) (v : Value) (o : Nat), ls[i]? = some v → os[i]? = some o → MarkAt w v o (lens i) ∧ lens i ≤ 1099511627780 ∧ o ≤ 1099511627776) :
    Calls Tryz.prog 13 #[.pointer (some ⟨bb, 0, none⟩)] w fun e w' => e = .returned (.bool true) ∧ ∃ q, w' = w.drewN q := by
  have HL := hide' hL
  have HO := hide' hO
  have HM := hide' hM
  clear hL hO hM
  go_enter Tryz.func13, Tryz.ntmps13
  go_wp2_with fail
  go_loopw [3] (fun i wr => ∃ j : Nat, j ≤ ls.length ∧ i = .int .i64 j ∧ ∃ q, wr = w.drewN q) (fun i _ => ls.length - (intOf i).toNat)
  case atStart => exact ⟨0, Nat.zero_le _, rfl, 0, rfl⟩
  case round =>
    obtain ⟨j, hj, rfl, q, rfl⟩ := hrel
    by_cases hlt : j < ls.length
    · have hlt' : (j : Int) < (ls.length : Int) := by omega
      have hlo : (j : Int) < (os.length : Int) := by omega
      have hv := List.getElem?_eq_getElem hlt
      have ho := List.getElem?_eq_getElem (l := os) (i := j) (by omega)
      obtain ⟨u, hu⟩ : ∃ u, u = ls[j] := ⟨_, rfl⟩
      obtain ⟨o, hoo⟩ : ∃ o, o = os[j]'(by omega) := ⟨_, rfl⟩
      rw [← hu] at hv
      rw [← hoo] at ho
      obtain ⟨lg, rfl, d0⟩ := HL.out j u hv
      obtain ⟨og, rfl, d1⟩ := HO.out j o ho
      obtain ⟨hm, hm2, hm3⟩ := HM.out j u o hv ho
      have HMM := hide' hm
      obtain ⟨ua, uc, hus⟩ : ∃ ua uc, u = .slice ua (lens j) uc := by
        rcases hm with ⟨q, q0⟩ | ⟨g, cap, cs, q, _⟩
        · exact ⟨none, 0, by rw [q, q0]⟩
        · exact ⟨_, cap, q⟩
      subst hus
      have hng : IntKind.i64.wrap (-(o : Int)) = -(o : Int) := by rw [IntKind.wrap_i64]; omega
      obtain ⟨len, hln⟩ : ∃ len, len = lens j := ⟨_, rfl⟩
      rw [← hln] at d0 HMM hm2
      clear hv ho hu hoo hm hln hm3
      go_wp2_with fail
      go_loopw [4] (fun i wr => ∃ e : Nat, e ≤ len ∧ i = .int .i64 e ∧ ∃ q, wr = w.drewN q) (fun i _ => len - (intOf i).toNat)
      case atStart => exact ⟨0, Nat.zero_le _, rfl, _, rfl⟩
      case round =>
        obtain ⟨e, he, rfl, q2, rfl⟩ := hrel
        by_cases hle : e < len
        · have hle' : (e : Int) < (len : Int) := by omega
          obtain ⟨g, f0, f1, rfl⟩ : ∃ g, w.cell? ⟨g, e * 2, none⟩ = some (.int .i64 (-(o : Int))) ∧ w.cell? ⟨g, e * 2 + 1, none⟩ = some (.int .i64 0) ∧ ua = some ⟨g, 0, none⟩ := by
            rcases HMM.out with ⟨_, q0⟩ | ⟨g, cap, cs, q, q1, q2⟩
            · omega
            · simp only [Value.slice.injEq] at q
              obtain ⟨a0, a1⟩ := q2 e hle
              exact ⟨g, cellAt q1 a0, cellAt q1 a1, q.1⟩
          go_wp2_with fail
          go_quiet (fail)
          go_wp2_with fail
          go_roundw
          case rel => exact ⟨e + 1, by omega, by go_num, by first | exact ⟨_, rfl⟩ | exact ⟨_, World.drewN_drewN _ _ _⟩⟩
          case measure => simp [intOf]; omega
        · have hge : ¬ (e : Int) < (len : Int) := by omega
          go_wp2_with fail
          go_roundw
          case rel => exact ⟨j + 1, by omega, by go_num, _, rfl⟩
          case measure => simp [intOf]; omega
    · have hge : ¬ (j : Int) < (ls.length : Int) := by omega
      go_wp2_with fail
      go_ret
      exact ⟨rfl, _, rfl⟩

theorem bStill {own : Nat → Nat} {w : World} {bb M : Nat} (h : BookAt own w bb M) (hM : M < 1099511627776) :
    Calls Tryz.prog 13 #[.pointer (some ⟨bb, 0, none⟩)] w fun e w' => e = .returned (.bool true) ∧ ∃ q, w' = w.drewN q := by
  obtain ⟨n, Lv, Ov, ls, os, lens, h1, h2, h3, h4, h5⟩ := h
  obtain ⟨la, lc, hl⟩ := ownsRow_slice h1.lrow
  obtain ⟨oa, oc, ho⟩ := ownsRow_slice h1.orow
  refine still_walk w bb la oa lc oc ls os lens h1.len (by omega) (by rw [← hl]; exact cellAt (i := 0) h1.book rfl) (by rw [← ho]; exact cellAt (i := 1) h1.book rfl) (fun i v hv => ?_) (fun i o hoo => ?_) (fun i v o hv hoo => ?_)
  · have hi := (List.getElem?_eq_some_iff.1 hv).1
    obtain ⟨g, cap, cs, q1, q2, q3⟩ := ownsRow_cells h1.lrow (by omega)
    rw [hl] at q1
    simp only [Value.slice.injEq] at q1
    exact ⟨g, q1.1, cellAt q2 (q3 i v hv)⟩
  · have hi := (List.getElem?_eq_some_iff.1 hoo).1
    obtain ⟨g, cap, cs, q1, q2, q3⟩ := ownsRow_cells h1.orow (by omega)
    rw [ho] at q1
    simp only [Value.slice.injEq] at q1
    exact ⟨g, q1.1, cellAt q2 (q3 i _ (by rw [List.getElem?_map, hoo]; rfl))⟩
  · obtain ⟨m1, m2, _⟩ := h1.mark i v o hv hoo
    have := h4 o (List.mem_of_getElem? hoo)
    exact ⟨m1, m2, by omega⟩

end Go.Proofs.YtjhifhoniimfgaaGreat

