import Derived.Test.YtjhifhoniimfgaaGreatG33
import Derived.Test.YtjhifhoniimfgaaGreatG19
import Derived.Test.YtjhifhoniimfgaaGreatG29
/-
  The document's Poll and Acks on a gate in memory.
-/
namespace Go.Proofs.YtjhifhoniimfgaaGreat
open Go.RowKit

theorem RG.cliAt {own : Nat → Nat} {T : Nat} {w : World} {R : RB} {s : St} (h : RG own T w R s) (c : Nat) (hc : c < s.cl) : w.cell? ⟨R.kb, c * 2, none⟩ = some (R.rv c) ∧ w.cell? ⟨R.kb, c * 2 + 1, none⟩ = some (R.av c) ∧ (∀ i, w.frozen? ⟨R.kb, i, none⟩ = false) := by
  obtain ⟨cs, k1, k2, k3⟩ := h.cli
  exact ⟨cellAt k1 (k3 c hc).1, cellAt k1 (k3 c hc).2, fun i => frozenAt k1⟩

theorem RG.ringNe {own : Nat → Nat} {T : Nat} {w : World} {R : RB} {s : St} (h : RG own T w R s) (c : Nat) (hc : c < s.cl) (g : Nat) (hg : sBlock (R.rv c) = some g) : g ≠ R.kb ∧ g ≠ R.rb := by
  have h1 := h.ori c g hc hg
  exact ⟨fun e => by subst e; rw [h.ok] at h1; omega, fun e => by subst e; rw [h.og] at h1; omega⟩

theorem RG.ackNe {own : Nat → Nat} {T : Nat} {w : World} {R : RB} {s : St} (h : RG own T w R s) (c : Nat) (hc : c < s.cl) (g : Nat) (hg : (R.av c).ownBlock = some g) : g ≠ R.kb ∧ g ≠ R.rb := by
  have h1 := h.oac c g hc hg
  exact ⟨fun e => by subst e; rw [h.ok] at h1; omega, fun e => by subst e; rw [h.og] at h1; omega⟩

theorem kb_set {w : World} {kb i : Nat} {v : Value} (cs : Array Value) (f : Nat × Nat) (h : w.heap[kb]? = some (.cells cs 122 f)) : (w.setCell ⟨kb, i, none⟩ v).heap[kb]? = some (.cells (cs.setIfInBounds i v) 122 f) :=
  heap_setCell_at _ h

theorem rAcks {own : Nat → Nat} {T : Nat} {w : World} {R : RB} {s : St} {N : Nat} (h : RG own T w R s) (hk : Ok s N) (client : Int) :
    Calls Tryz.prog 27 #[.pointer (some ⟨R.rb, 0, none⟩), .int .i64 client] w fun e w' =>
      ∃ v, e = .returned (.tuple #[v, .int .i64 (acksS s client).2.1]) ∧ AckAt w' v (acksS s client).1 ∧ (∀ b, v.ownBlock = some b → T ≤ own b ∧ own b < T + 100) ∧ GoesR own T w R.rb (acksS s client).2.2 w' := by
  unfold acksS
  by_cases h1 : refuse s.cl client 0 ≠ 0
  · rw [if_pos h1]
    refine (rAcks_no R.rb s.cl client _ w h.gate rfl (by simpa using h1)).mono ?_
    rintro e w' ⟨rfl, rfl⟩
    exact ⟨_, rfl, AckAt.nil _, fun b hb => (by cases hb), GoesR.same h hk.cl.2 (Keep.refl _ _)⟩
  rw [if_neg h1]
  have hr : refuse s.cl client 0 = 0 := Classical.not_not.1 h1
  obtain ⟨q1, q2, _⟩ := refuse_lane hr
  obtain ⟨c, rfl⟩ := Int.eq_ofNat_of_zero_le q1
  rw [Int.toNat_natCast]
  have hc : c < s.cl := by omega
  have hc8 := hk.cl.2
  obtain ⟨k0, k1, kz⟩ := h.cliAt c hc
  refine (rAcks_yes R.rb R.kb s.cl c s.cl _ (R.av c) w h.gate rfl rfl hc hr k1 (kz _)).mono ?_
  rintro e w' ⟨rfl, rfl⟩
  have kS : Keep (fun b => b ≠ R.kb) w (w.setCell ⟨R.kb, c * 2 + 1, none⟩ (.slice none 0 0)) := (Keep.refl _ w).setCell _ (fun _ h => h rfl) _
  obtain ⟨r1, r2⟩ := h.reacks hk.cl.2 c hc (.slice none 0 0) [] (kS.mono (fun b _ hb => hb.1)) (fun cs f hh => kb_set cs f hh) (AckAt.nil _) (fun b hb => (by cases hb))
  refine ⟨R.av c, rfl, (h.acks c hc).keep kS (fun b hb => (h.ackNe c hc b hb).1), fun b hb => ?_, _, _, r1, rfl, Same.ext own w _, r2⟩
  have := h.oac c b hc hb
  omega

theorem rPoll {own : Nat → Nat} {T : Nat} {w : World} {R : RB} {s : St} {N : Nat} (h : RG own T w R s) (hk : Ok s N) (client : Int) :
    Calls Tryz.prog 25 #[.pointer (some ⟨R.rb, 0, none⟩), .int .i64 client] w fun e w' =>
      e = .returned (.tuple #[.agg #[.int .i64 (pollS s client).1.1, .int .i64 (pollS s client).1.2], .int .i64 (pollS s client).2.1]) ∧ GoesR own T w R.rb (pollS s client).2.2 w' := by
  unfold pollS
  by_cases h1 : refuse s.cl client 0 ≠ 0
  · rw [if_pos h1]
    refine (rPoll_no R.rb s.cl client _ w h.gate rfl (by simpa using h1)).mono ?_
    rintro e w' ⟨rfl, hb⟩
    exact ⟨rfl, GoesR.same h hk.cl.2 (Keep.ofBelow hb)⟩
  rw [if_neg h1]
  have hr : refuse s.cl client 0 = 0 := Classical.not_not.1 h1
  obtain ⟨q1, q2, _⟩ := refuse_lane hr
  obtain ⟨c, rfl⟩ := Int.eq_ofNat_of_zero_le q1
  rw [Int.toNat_natCast]
  have hc : c < s.cl := by omega
  have hc8 := hk.cl.2
  obtain ⟨k0, k1, kz⟩ := h.cliAt c hc
  have hring := h.ring c hc
  cases hl : s.ring c with
  | nil =>
    rw [hl] at hring
    obtain ⟨a, cap, hv⟩ : ∃ a cap, R.rv c = .slice a 0 cap := by
      rcases hring with ⟨q, _⟩ | ⟨g, off, cap, cs, q, _⟩
      · exact ⟨none, 0, q⟩
      · exact ⟨_, cap, q⟩
    rw [hv] at k0
    refine (rPoll_empty R.rb R.kb s.cl c cap a s.cl _ w h.gate rfl rfl hc hr k0).mono ?_
    rintro e w' ⟨rfl, hb⟩
    exact ⟨rfl, GoesR.same h hk.cl.2 (Keep.ofBelow hb)⟩
  | cons a r =>
    rw [hl] at hring
    rcases hring with ⟨_, q⟩ | ⟨g, off, cap, cs, hv, g1, g2, g3, g4⟩
    · cases q
    · obtain ⟨cap, rfl⟩ : ∃ cap', cap = cap' + 1 := ⟨cap - 1, by simp at g2; omega⟩
      have hv' : R.rv c = .slice (some ⟨g, off, none⟩) (r.length + 1) (cap + 1) := hv
      rw [hv'] at k0
      obtain ⟨a0, a1⟩ := g4 0 a rfl
      obtain ⟨gn1, gn2⟩ := h.ringNe c hc g (by rw [hv]; rfl)
      have gfit : off + (cap + 1) * 2 ≤ cs.size := by
        rcases g3 with q | q
        · exact q
        · omega
      refine (rPoll_take R.rb R.kb s.cl c cap g off r.length a.1 a.2 s.cl _ w h.gate rfl rfl hc hr k0 (kz _) (by simp at g2; omega) (cellAt g1 (by simpa using a0)) (cellAt g1 (by simpa using a1))).mono ?_
      rintro e w' ⟨rfl, off', hoff, rfl⟩
      have kS : Keep (fun b => b ≠ R.kb) w (((w.setCell ⟨R.kb, c * 2, none⟩ (.slice (some ⟨g, off', none⟩) r.length cap)).alloc (.cells #[.int .i64 a.1, .int .i64 a.2] 58)).alloc (.cells #[.int .i64 a.1, .int .i64 a.2] 58)) :=
        (((Keep.refl _ w).setCell _ (fun _ h => h rfl) _).alloc _).alloc _
      obtain ⟨n1, n2, n3⟩ := h.ne
      have hlk : R.kb < w.heap.size := by obtain ⟨ck, q1, _⟩ := h.cli; exact block_lt q1
      obtain ⟨r1, r2⟩ := h.rering hk.cl.2 c hc (.slice (some ⟨g, off', none⟩) r.length cap) r s.held h.held (kS.mono (fun b _ hb => hb.2.1)) (by
          have := kS.get h.gate (Ne.symm n2)
          exact this) (fun cs f hh => by
          rw [Below.heap_alloc _ _ _ (by rw [World.size_alloc, size_setCell]; omega), Below.heap_alloc _ _ _ (by rw [size_setCell]; omega)]
          exact kb_set cs f hh) (by
          refine .inr ⟨g, off', cap, cs, rfl, kS.get g1 gn1, by simp at g2; omega, ?_, fun j b hb => ?_⟩
          · rcases hoff with q | q
            · exact .inr q
            · left; omega
          · have hj := (List.getElem?_eq_some_iff.1 hb).1
            have hcap : cap ≠ 0 := by simp at g2; omega
            have ho : off' = off + 2 := by
              rcases hoff with q | q
              · exact absurd q hcap
              · exact q
            obtain ⟨b0, b1⟩ := g4 (j + 1) b (by simpa using hb)
            rw [ho, show off + 2 + j * 2 = off + (j + 1) * 2 by omega]
            exact ⟨b0, b1⟩) (fun b hb => .inl (by rw [hv']; exact hb))
      exact ⟨rfl, _, _, r1, rfl, Same.ext own w _, r2⟩

end Go.Proofs.YtjhifhoniimfgaaGreat

/-
  What a frame says is done, by the document, on a gate in memory.
-/
namespace Go.Proofs.YtjhifhoniimfgaaGreat
open Go.RowKit

theorem wrong_zero {na : Nat} {lane : Int} {s : ByteArray} (h : wrongV na lane s = 0) : s.size = 32 ∧ 1 ≤ byteAt s 0 ∧ byteAt s 0 ≤ 4 ∧ byteAt s 1 < na := by
  unfold wrongV at h
  by_cases h1 : s.size ≠ 32
  · rw [if_pos h1] at h; omega
  rw [if_neg h1] at h
  by_cases h2 : byteAt s 0 < 1 ∨ 4 < byteAt s 0 ∨ (if byteAt s 0 ≤ 2 then (0 : Int) else 1) ≠ lane
  · rw [if_pos h2] at h; omega
  rw [if_neg h2] at h
  by_cases h3 : na ≤ byteAt s 1
  · rw [if_pos h3] at h; omega
  omega

theorem entFlat_get : ∀ (l : List Ent) (j : Nat) (x : Ent), l[j]? = some x → ∀ (i : Nat) (u : Value), x.cells[i]? = some u → (entFlat l)[j * 7 + i]? = some u := by
  intro l
  induction l with
  | nil => intro j x hx; simp at hx
  | cons y r ih =>
    intro j x hx i u hu
    have hi : i < 7 := by have := (List.getElem?_eq_some_iff.1 hu).1; simpa [Ent.cells] using this
    have h7 : y.cells.length = 7 := rfl
    cases j with
    | zero =>
      simp at hx
      subst hx
      simp only [entFlat]
      rw [List.getElem?_append_left (by omega)]
      simpa using hu
    | succ j =>
      simp only [List.getElem?_cons_succ] at hx
      simp only [entFlat]
      rw [List.getElem?_append_right (by omega), h7, show (j + 1) * 7 + i - 7 = j * 7 + i by omega]
      exact ih j x hx i u hu

theorem entFlat_gone : ∀ (l : List Ent) (j : Nat) (x : Ent), l[j]? = some x → entFlat (l.set j { x with gone := true }) = (entFlat l).set (j * 7 + 6) (.bool true)
  | [], j, x, h => by simp at h
  | y :: r, 0, x, h => by
    simp at h
    subst h
    simp [entFlat, Ent.cells]
  | y :: r, j + 1, x, h => by
    simp only [List.getElem?_cons_succ] at h
    have ih := entFlat_gone r j x h
    have h7 : y.cells.length = 7 := rfl
    simp only [List.set_cons_succ, entFlat]
    rw [ih, List.set_append_right _ _ (by omega), h7, show (j + 1) * 7 + 6 - 7 = j * 7 + 6 by omega]

theorem goneL_at (time num : Int) : ∀ (l : List Ent) (j : Nat) (x : Ent), l[j]? = some x → (∀ y, y ∈ l.take j → hits time num y = false) → hits time num x = true →
    goneL time num l = l.set j { x with gone := true } ∧ (l.filter (isOpen time)).any (fun x => x.order == num) = true
  | [], j, x, h, _, _ => by simp at h
  | y :: r, 0, x, h, _, hx => by
    simp at h
    subst h
    have h1 : isOpen time y = true := by unfold hits at hx; simp at hx; exact hx.2
    have h2 : (y.order == num) = true := by unfold hits at hx; simp at hx; simpa using hx.1
    refine ⟨?_, ?_⟩
    · unfold goneL
      rw [if_pos (by rw [h1, h2]; rfl)]
      rfl
    · rw [List.filter_cons_of_pos h1, List.any_cons, h2]
      rfl
  | y :: r, j + 1, x, h, hf, hx => by
    simp only [List.getElem?_cons_succ] at h
    have hy : hits time num y = false := hf y (by simp)
    obtain ⟨i1, i2⟩ := goneL_at time num r j x h (fun z hz => hf z (by simp [hz])) hx
    refine ⟨?_, ?_⟩
    · unfold goneL
      rw [if_neg (by unfold hits at hy; rw [hy]; decide), i1]
      rfl
    · by_cases ho : isOpen time y = true
      · rw [List.filter_cons_of_pos ho, List.any_cons, i2, Bool.or_true]
      · rw [List.filter_cons_of_neg ho]; exact i2

theorem goneL_none (time num : Int) (l : List Ent) (h : ∀ y, y ∈ l → hits time num y = false) : (l.filter (isOpen time)).any (fun x => x.order == num) = false := by
  rw [List.any_eq_false]
  intro x hx
  obtain ⟨h1, h2⟩ := List.mem_filter.1 hx
  have := h x h1
  unfold hits at this
  rw [h2, Bool.and_true] at this
  rw [this]
  decide

theorem ownsRow_zero {w : World} {b : Nat} {e : TypeId} {k : Nat} {v : Value} {n : Nat} {xs : List Value} (h : w.ownsRow b e k v n xs) : w.ownsRow 0 e k v n xs := by
  refine ⟨h.1, ?_⟩
  rcases h.2 with h0 | ⟨g, cap, cur, q, _, h1⟩
  · exact .inl h0
  · exact .inr ⟨g, cap, cur, q, Nat.zero_le _, h1⟩

theorem RG.bookAt {own : Nat → Nat} {T : Nat} {w : World} {R : RB} {s : St} (h : RG own T w R s) (k : Nat) (hk : k < 4) : w.cell? ⟨R.rb, 18 + k, none⟩ = some (R.bv k) ∧ w.cell? ⟨R.rb, 22 + k, none⟩ = some (.bool (s.stop k)) ∧ (∀ i, w.frozen? ⟨R.rb, i, none⟩ = false) := by
  refine ⟨?_, ?_, fun i => frozenAt h.gate⟩
  · rcases (show k = 0 ∨ k = 1 ∨ k = 2 ∨ k = 3 by omega) with rfl | rfl | rfl | rfl
    · exact cellAt (i := 18) h.gate rfl
    · exact cellAt (i := 19) h.gate rfl
    · exact cellAt (i := 20) h.gate rfl
    · exact cellAt (i := 21) h.gate rfl
  · rcases (show k = 0 ∨ k = 1 ∨ k = 2 ∨ k = 3 by omega) with rfl | rfl | rfl | rfl
    · exact cellAt (i := 22) h.gate rfl
    · exact cellAt (i := 23) h.gate rfl
    · exact cellAt (i := 24) h.gate rfl
    · exact cellAt (i := 25) h.gate rfl

theorem RG.bookNe {own : Nat → Nat} {T : Nat} {w : World} {R : RB} {s : St} (h : RG own T w R s) (k : Nat) (hk : k < 4) : (R.bv k).ownBlock ≠ some R.rb := fun e => by
  have := h.obk k _ hk e
  rw [h.og] at this
  omega

/-- On the way behind w: nothing old has turned yet. -/
theorem RG.on {own : Nat → Nat} {T : Nat} {w w1 : World} {R : RB} {s : St} (h : RG own T w R s) (hcl : s.cl ≤ 8) (hk : Keep (fun _ => True) w w1) : RG own T w1 R s := h.keep hcl hk (fun _ _ _ _ => trivial) (Same.refl _ _)

theorem GoesR.on {own : Nat → Nat} {T : Nat} {w w1 w2 : World} {rb : Nat} {s2 : St} (hk : Keep (fun _ => True) w w1) (h : GoesR own T w1 rb s2 w2) : GoesR own T w rb s2 w2 :=
  GoesR.trans (hk.mono (fun _ _ _ => trivial)) (Same.refl _ _) h

/-- An account is stopped, or goes on. -/
theorem RG.restop {own : Nat → Nat} {T : Nat} {w : World} {R : RB} {s : St} (h : RG own T w R s) (k : Nat) (hk : k < 4) (b : Bool) : GoesR own T w R.rb { s with stop := upN s.stop k b } (w.setCell ⟨R.rb, 22 + k, none⟩ (.bool b)) := by
  have kS : Keep (fun b => b ≠ R.rb) w (w.setCell ⟨R.rb, 22 + k, none⟩ (.bool b)) := (Keep.refl _ w).setCell _ (fun _ h => h rfl) _
  obtain ⟨r1, r2⟩ := h.recell (R' := R) (s' := { s with stop := upN s.stop k b }) kS (by
    rw [heap_setCell_at _ h.gate]
    rcases (show k = 0 ∨ k = 1 ∨ k = 2 ∨ k = 3 by omega) with rfl | rfl | rfl | rfl
    all_goals simp [rCells, upN]) rfl ⟨rfl, rfl, rfl, rfl, rfl, rfl, rfl, rfl⟩ h.held
  exact ⟨_, _, r1, rfl, Same.ext own w T, r2.outT⟩

/-- An order is gone. -/
theorem RG.gone {own : Nat → Nat} {T : Nat} {w : World} {R : RB} {s : St} (h : RG own T w R s) (hcl : s.cl ≤ 8) (k : Nat) (hk : k < 4) (j : Nat) (x : Ent) (hx : (s.book k)[j]? = some x) {g n cap : Nat} (hv : R.bv k = .slice (some ⟨g, 0, none⟩) n cap) :
    GoesR own T w R.rb { s with book := upN s.book k ((s.book k).set j { x with gone := true }) } (w.setCell ⟨g, j * 7 + 6, none⟩ (.bool true)) := by
  have hrow := h.book k hk
  have hj := (List.getElem?_eq_some_iff.1 hx).1
  have hgr : g ≠ R.rb := fun e => h.bookNe k hk (by rw [hv, e]; rfl)
  obtain ⟨g2, cap2, cur, hv2, hg, q2, q3, q4, q5⟩ : ∃ g2 cap2 cur, R.bv k = .slice (some ⟨g2, 0, none⟩) (s.book k).length cap2 ∧ w.heap[g2]? = some (.cells cur 160 (0, 0)) ∧ (s.book k).length ≤ cap2 ∧ cap2 ≤ maxLen ∧ cur.size = cap2 * 7 ∧ cur.toList.take ((s.book k).length * 7) = entFlat (s.book k) := by
    rcases hrow.2 with ⟨q, q0⟩ | ⟨g2, cap2, cur, q, _, q1, q2, q3, q4, q5⟩
    · omega
    · exact ⟨g2, cap2, cur, q, q1, q2, q3, q4, q5⟩
  rw [hv] at hv2
  simp only [Value.slice.injEq, Option.some.injEq, Addr.mk.injEq, and_true] at hv2
  obtain ⟨rfl, rfl, rfl⟩ := hv2
  have kS : Keep (fun b => b ≠ g) w (w.setCell ⟨g, j * 7 + 6, none⟩ (.bool true)) := (Keep.refl _ w).setCell _ (fun _ h => h rfl) _
  have hnew := heap_setCell_at (i := j * 7 + 6) (.bool true) hg
  obtain ⟨r1, r2⟩ := h.rebook hcl k hk (R.bv k) ((s.book k).set j { x with gone := true }) (kS.mono (fun c _ hb e => by rw [hv] at hb; exact hb.2 (by rw [e]; rfl))) (by
    rw [kS.get h.gate (Ne.symm hgr)]
    simp [rCells, upN_self]) (by
      rw [hv, List.length_set]
      refine ⟨by rw [entFlat_len, List.length_set], .inr ⟨g, cap, _, rfl, Nat.zero_le _, hnew, q2, q3, by simpa using q4, ?_⟩⟩
      rw [entFlat_gone _ _ _ hx, ← q5, Array.toList_setIfInBounds, List.take_set]) (fun b hb => .inl hb)
  rw [upN_self] at r1
  exact ⟨_, _, r1, rfl, Same.ext own w _, r2⟩

theorem info_entry' : ∃ i, Tryz.prog.info? 160 = some i ∧ i.bytes = 56 ∧ i.size = 7 ∧ i.zero = some (.agg #[.int .i64 0, .int .i64 0, .int .i64 0, .int .i64 0, .int .i64 0, .int .i64 0, .bool false]) := info_entry

/-- One order more in a book. -/
theorem ent_append {w : World} {v : Value} {es : List Ent} (h : w.ownsRow 0 160 7 v es.length (entFlat es)) (hl : es.length < 1099511627776) (num sd p q frm till : Int) :
    ∃ g cap w', (∀ ty, (Builtin.append_ #[111, 111] ty #[v, .slice (some ⟨w.heap.size, 0, none⟩) 1 1]).run Tryz.prog (w.alloc (entO num sd p q frm till)) = .ok (.slice (some ⟨g, 0, none⟩) (es.length + 1) cap) w') ∧
      w'.ownsRow 0 160 7 (.slice (some ⟨g, 0, none⟩) (es.length + 1) cap) (es ++ [(⟨num, sd, p, q, frm, till, false⟩ : Ent)]).length (entFlat (es ++ [(⟨num, sd, p, q, frm, till, false⟩ : Ent)])) ∧ Keep (fun b => v.ownBlock ≠ some b) w w' ∧ (v.ownBlock = some g ∨ w.heap.size ≤ g) := by
  obtain ⟨it, t1, t2, t3, t4⟩ := info_entry
  have h2 : (w.alloc (entO num sd p q frm till)).ownsRow 0 160 7 v es.length (entFlat es) := World.ownsRow.alloc h _
  have hce := cell_ent_at w (⟨num, sd, p, q, frm, till, false⟩ : Ent) 160 w.heap.size rfl
  have key := fun ty => run_append_own_at (P := Tryz.prog) (w.alloc (entO num sd p q frm till)) 0 111 ty 160 it (.agg #[.int .i64 0, .int .i64 0, .int .i64 0, .int .i64 0, .int .i64 0, .int .i64 0, .bool false]) 7 56 Tryz.underlying111 t1 t4 t3 t2 rfl (by decide) v es.length (entFlat es) h2
    ⟨w.heap.size, 0, none⟩ 1 1 (⟨num, sd, p, q, frm, till, false⟩ : Ent).cells rfl hce (fun u hu => by simp [Ent.cells] at hu; rcases hu with rfl | rfl | rfl | rfl | rfl | rfl | rfl <;> rfl) (by unfold maxLen; omega) (by omega) (Nat.zero_le _)
  obtain ⟨v', w', hrun, hown, hg, _, hb⟩ := key 0
  have hrun2 : ∀ ty, (Builtin.append_ #[111, 111] ty #[v, .slice (some ⟨w.heap.size, 0, none⟩) 1 1]).run Tryz.prog (w.alloc (entO num sd p q frm till)) = .ok v' w' := fun ty => hrun
  have hv : ∃ g cap, v' = .slice (some ⟨g, 0, none⟩) (es.length + 1) cap := by
    rcases hown.2 with ⟨_, hx⟩ | ⟨g, cap, cur, hx, _⟩
    · omega
    · exact ⟨g, cap, hx⟩
  obtain ⟨g, cap, rfl⟩ := hv
  refine ⟨g, cap, w', hrun2, ?_, ⟨hg.os, hg.tape, hg.output, Nat.le_trans (by simp) hg.size, fun b hb1 hb2 => ?_⟩, ?_⟩
  · rw [entFlat_append, List.length_append]
    exact hown
  · rw [hg.block b (by simp; omega) (fun e => hb2 e.symm)]
    exact Below.heap_alloc _ _ _ hb1
  · rcases hb with e | e
    · exact .inl e.symm
    · right
      simp [Value.ownBlock] at e
      omega

theorem rNews {own : Nat → Nat} {T : Nat} {w : World} {R : RB} {s : St} {N : Nat} (h : RG own T w R s) (hk : Ok s N) (hN : N < 1099511627776) (k : Nat) (hka : k < s.na) (num sd l : Int) (p q : Nat) (hsd : sd = 0 ∨ sd = 1) (hq : 1 ≤ q) (hq2 : q ≤ 9223372036854775807) :
    Calls Tryz.prog 69 #[.pointer (some ⟨R.rb, 0, none⟩), .int .i64 k, .agg #[.int .i64 num, .int .i64 sd, .int .i64 p, .int .i64 q, .int .i64 s.time, .int .i64 (s.time + l), .bool false]] w fun e w' =>
      e = .returned (.int .i64 (newsV s k sd num p q)) ∧ GoesR own T w R.rb (if newsV s k sd num p q = 0 then { s with book := upN s.book k (s.book k ++ [⟨num, sd, p, q, s.time, s.time + l, false⟩]) } else s) w' ∧ w'.cell? ⟨R.rb, 6, none⟩ = some (.int .i64 s.time) := by
  have hcl := hk.cl.2
  have hna := hk.na.2
  have hk4 : k < 4 := by omega
  have htm := hk.time
  have hbl := hk.len k
  obtain ⟨cs, l1, l2⟩ := h.lims
  have hlimcells : ∀ j, j < 6 → w.cell? ⟨R.lb, k * 6 + j, none⟩ = some (.int .i64 (s.lim k j)) := fun j hj => cellAt l1 (l2 k j hka hj)
  obtain ⟨m1, m2, m3⟩ := hk.lim k hka
  have d : Ent := ⟨0, 0, 0, 0, 0, 0, false⟩
  have kA : Keep (fun _ => True) w ((w.alloc (entO num sd p q s.time (s.time + l))).alloc (limR (s.lim k))) := ((Keep.refl _ w).alloc _).alloc _
  have hR := h.on hcl kA
  obtain ⟨b18, b22, bz⟩ := hR.bookAt k hk4
  have hrow := hR.book k hk4
  obtain ⟨a, cap, hbv, hents⟩ := entsAt_of hrow d
  have bE : ((w.alloc (entO num sd p q s.time (s.time + l))).alloc (limR (s.lim k))).heap[w.heap.size]? = some (entO num sd p q s.time (s.time + l)) := by
    rw [Below.heap_alloc _ _ _ (by simp)]; exact heap_alloc_new w _
  have bL : ((w.alloc (entO num sd p q s.time (s.time + l))).alloc (limR (s.lim k))).heap[w.heap.size + 1]? = some (limR (s.lim k)) := by
    have := heap_alloc_new (w.alloc (entO num sd p q s.time (s.time + l))) (limR (s.lim k))
    rw [World.size_alloc] at this
    exact this
  have hpos : PosL (s.opens k) := hk.pos k
  have hfold := fold_code (s.lim k) s.shut (s.stop k) (⟨num, sd, p, q, s.time, s.time + l, false⟩ : Ent) p q hq hq2 (s.opens k) hpos (cntGt (s.time - s.lim k 5) (s.book k))
  have hcode : refCode (s.lim k) s.shut (s.stop k) ((s.opens k).foldl (nStep ⟨num, sd, p, q, s.time, s.time + l, false⟩) (ns0 p q)).twice ((s.opens k).foldl (nStep ⟨num, sd, p, q, s.time, s.time + l, false⟩) (ns0 p q)).over sd q ((s.opens k).foldl (nStep ⟨num, sd, p, q, s.time, s.time + l, false⟩) (ns0 p q)).side ((s.opens k).foldl (nStep ⟨num, sd, p, q, s.time, s.time + l, false⟩) (ns0 p q)).worth (cntGt (s.time - s.lim k 5) (s.book k)) = newsV s k sd num p q := hfold
  have hopl : (s.opens k).length ≤ (s.book k).length := List.length_filter_le _ _
  refine (news_walk R.rb R.lb k s.na R.ac num sd s.time (s.time + l) s.time p q (s.lim k) s.shut (s.stop k) (R.bv k) (s.book k) (s.opens k) w hk4 hka hsd hq hq2 (by omega) (by omega) m2 m3 (by omega) (by omega) (fun x hx => ?_) (cellAt (i := 5) h.gate rfl)
    ⟨hlimcells 0 (by omega), hlimcells 1 (by omega), hlimcells 2 (by omega), hlimcells 3 (by omega), hlimcells 4 (by omega), hlimcells 5 (by omega)⟩
    (fun w1 => Keep (fun _ => True) ((w.alloc (entO num sd p q s.time (s.time + l))).alloc (limR (s.lim k))) w1)
    (fun W => GoesR own T w R.rb s W ∧ W.cell? ⟨R.rb, 6, none⟩ = some (.int .i64 s.time)) (fun W => GoesR own T w R.rb { s with book := upN s.book k (s.book k ++ [⟨num, sd, p, q, s.time, s.time + l, false⟩]) } W ∧ W.cell? ⟨R.rb, 6, none⟩ = some (.int .i64 s.time)) ?_ (fun w1 hz => ?_) (fun w1 n hz => ?_) (fun w1 n hz => ?_)).mono ?_
  · have := (hk.ents k x (List.mem_filter.1 hx).1)
    have hqs : x.qty ≤ x.price * x.qty := by
      have h1 : 1 * x.qty ≤ x.price * x.qty := Int.mul_le_mul_of_nonneg_right this.price (by have := this.qty; omega)
      omega
    exact ⟨this.pos.1, this.worth, this.pos.2, by have := this.worth; omega⟩
  · have hop := open_any R.rb k (s.book k).length cap hk4 a s.time (fun i => (s.book k)[i]?.getD d) ((w.alloc (entO num sd p q s.time (s.time + l))).alloc (limR (s.lim k))) (by omega) (by rw [← hbv]; exact b18) (cellAt (i := 6) hR.gate rfl) hents
    refine hop.mono ?_
    rintro e w1 ⟨v, rfl, hv, hb⟩
    rw [openOf_list] at hv
    exact ⟨v, rfl, ownsRow_zero hv, Keep.ofBelow hb⟩
  · have hR1 := hR.on hcl hz
    obtain ⟨c18, c22, cz⟩ := hR1.bookAt k hk4
    exact ⟨⟨hz.get bE trivial, hz.get bL trivial, cellAt (i := 6) hR1.gate rfl, cellAt (i := 29) hR1.gate rfl, c22, c18⟩, hR1.book k hk4⟩
  · have hR1 := hR.on hcl (hz.drewN n)
    exact ⟨GoesR.same h hcl ((kA.trans hz).drewN n), cellAt (i := 6) hR1.gate rfl⟩
  · have hR1 := hR.on hcl (hz.drewN n)
    have hrow1 := hR1.book k hk4
    obtain ⟨g3, cap3, w3, hrun, ho3, hk3, hb3⟩ := ent_append hrow1 (by omega) num sd p q s.time (s.time + l)
    have hbk := hR1.bookNe k hk4
    have gg := hk3.get hR1.gate hbk
    have hEnt : (w1.drewN n).heap[w.heap.size]? = some (entO num sd p q s.time (s.time + l)) := (hz.drewN n).get bE trivial
    have hEb : (R.bv k).ownBlock ≠ some w.heap.size := fun e => by
      have hlt := ownsRow_lt (h.book k hk4) _ e
      omega
    refine ⟨g3, cap3, w3, hrun, hk3.get hEnt hEb, ?_, frozenAt gg, ?_⟩
    · rcases (show k = 0 ∨ k = 1 ∨ k = 2 ∨ k = 3 by omega) with rfl | rfl | rfl | rfl
      · exact cellAt (i := 18) gg rfl
      · exact cellAt (i := 19) gg rfl
      · exact cellAt (i := 20) gg rfl
      · exact cellAt (i := 21) gg rfl
    · have kS : Keep (fun b => b ≠ R.rb) w3 (w3.setCell ⟨R.rb, 18 + k, none⟩ (.slice (some ⟨g3, 0, none⟩) ((s.book k).length + 1) cap3)) := (Keep.refl _ w3).setCell _ (fun _ h => h rfl) _
      have hgr : g3 ≠ R.rb := by
        rcases hb3 with e | e
        · intro e2; subst e2; exact hbk e
        · have := block_lt hR1.gate; omega
      have hg' : (w3.setCell ⟨R.rb, 18 + k, none⟩ (.slice (some ⟨g3, 0, none⟩) ((s.book k).length + 1) cap3)).heap[R.rb]? = some (.cells (rCells { R with bv := upN R.bv k (.slice (some ⟨g3, 0, none⟩) ((s.book k).length + 1) cap3) } { s with book := upN s.book k (s.book k ++ [⟨num, sd, p, q, s.time, s.time + l, false⟩]) }) 115 (0, 0)) := by
        rw [heap_setCell_at _ gg]
        rcases (show k = 0 ∨ k = 1 ∨ k = 2 ∨ k = 3 by omega) with rfl | rfl | rfl | rfl
        all_goals simp [rCells, upN]
      obtain ⟨r1, r2⟩ := hR1.rebook hcl k hk4 (.slice (some ⟨g3, 0, none⟩) ((s.book k).length + 1) cap3) (s.book k ++ [⟨num, sd, p, q, s.time, s.time + l, false⟩]) ((hk3.mono (T := fun b => b ≠ R.rb ∧ (R.bv k).ownBlock ≠ some b) (fun b _ hb => hb.2)).trans' kS (fun b _ hb => hb.1)) hg' (ownsRow_keep ho3 kS (fun b hb => by simp [Value.ownBlock] at hb; subst hb; exact hgr)) (fun b hb => by simp [Value.ownBlock] at hb; subst hb; exact hb3)
      exact ⟨GoesR.on ((kA.trans hz).drewN n) ⟨_, _, r1, rfl, Same.ext own _ _, r2⟩, cellAt (i := 6) hg' rfl⟩
  · rintro e w' ⟨c, rfl, hc, hq⟩
    rw [hcode] at hc
    subst hc
    rcases hq with ⟨h0, h1, h2⟩ | ⟨h0, h1, h2⟩
    · rw [if_neg h0]; exact ⟨rfl, h1, h2⟩
    · rw [if_pos h0]; exact ⟨rfl, h1, h2⟩

theorem rDoes {own : Nat → Nat} {T : Nat} {w : World} {R : RB} {s : St} {N : Nat} (h : RG own T w R s) (hk : Ok s N) (hN : N < 1099511627776) (i : Nat) (fr : ByteArray) :
    Calls Tryz.prog 55 #[.pointer (some ⟨R.rb, 0, none⟩), .int .i64 i, .string fr] w fun e w' => e = .returned (.int .i64 (doesS s i fr).1) ∧ GoesR own T w R.rb (doesS s i fr).2 w' := by
  have hcl := hk.cl.2
  have hna := hk.na.2
  have htm := hk.time
  have hw := wrong_any R.rb (some ⟨R.lb, 0, none⟩) s.na R.ac i fr w (cellAt (i := 5) h.gate rfl)
  have hsaid := said_ok s.na i fr
  unfold doesS
  by_cases hz : wrongV s.na i fr = 0
  rotate_left
  · have e : saidOf s.na i fr = .wrong (wrongV s.na i fr) := by unfold saidOf; rw [if_pos hz]
    rw [e]
    refine (does_wrong R.rb i (wrongV s.na i fr) fr w (by simpa using hz) (fun w' => Keep (fun _ => True) w w') (hw.mono ?_)).mono ?_
    · rintro e w' ⟨rfl, hb⟩
      exact ⟨rfl, Keep.ofBelow hb⟩
    · rintro e w' ⟨rfl, hb⟩
      exact ⟨rfl, GoesR.same h hcl hb⟩
  obtain ⟨z1, z2, z3, z4⟩ := wrong_zero hz
  rw [hz] at hw
  have hw' : Calls Tryz.prog 67 #[.pointer (some ⟨R.rb, 0, none⟩), .int .i64 i, .string fr] w fun e w' => e = .returned (.int .i64 0) ∧ Keep (fun _ => True) w w' := hw.mono (fun e w' ⟨h1, h2⟩ => ⟨h1, Keep.ofBelow h2⟩)
  have hs0 : saidOf s.na i fr = if byteAt fr 0 = 1 then .new (byteAt fr 1) (byteAt fr 2) (numV (fr.extract 4 8)) (numV (fr.extract 8 16)) (numV (fr.extract 16 24)) (numV (fr.extract 24 32)) else if byteAt fr 0 = 2 then .cancel (byteAt fr 1) (numV (fr.extract 4 8)) else if byteAt fr 0 = 3 then .kill (byteAt fr 1) else .unkill (byteAt fr 1) := by
    unfold saidOf
    rw [if_neg (by simpa using hz)]
  rcases (show byteAt fr 0 = 1 ∨ byteAt fr 0 = 2 ∨ byteAt fr 0 = 3 ∨ byteAt fr 0 = 4 by omega) with hb | hb | hb | hb
  · rw [hs0, if_pos hb] at hsaid ⊢
    obtain ⟨a1, a2, hsd, p1, p2, q1, q2, l1, l2⟩ := hsaid
    rw [doS_new, Int.toNat_natCast]
    obtain ⟨p, hp⟩ := Int.eq_ofNat_of_zero_le (show 0 ≤ numV (fr.extract 8 16) by omega)
    obtain ⟨q, hq⟩ := Int.eq_ofNat_of_zero_le (show 0 ≤ numV (fr.extract 16 24) by omega)
    refine does_new R.rb (byteAt fr 1) s.time (newsV s (byteAt fr 1) (byteAt fr 2) (numV (fr.extract 4 8)) (numV (fr.extract 8 16)).toNat (numV (fr.extract 16 24)).toNat) i fr w z1 hb rfl (by omega) (by omega) l2 (fun w' => Keep (fun _ => True) w w') (GoesR own T w R.rb _) hw' (fun W hW => cellAt (i := 6) (h.on hcl hW).gate rfl) (fun W n hW => ?_)
    · have hR := h.on hcl (hW.drewN n)
      rw [hp, hq, Int.toNat_natCast, Int.toNat_natCast]
      refine (rNews hR hk hN (byteAt fr 1) z4 (numV (fr.extract 4 8)) (byteAt fr 2) (numV (fr.extract 24 32)) p q hsd (by omega) (by omega)).mono ?_
      rintro e w' ⟨rfl, hg, hc⟩
      exact ⟨rfl, GoesR.on (hW.drewN n) hg, hc⟩
  · rw [hs0, if_neg (by omega), if_pos hb]
    rw [doS_cancel, Int.toNat_natCast]
    have hk4 : byteAt fr 1 < 4 := by omega
    have hbl := hk.len (byteAt fr 1)
    refine does_cancel R.rb (byteAt fr 1) s.time i fr (s.book (byteAt fr 1)) (R.bv (byteAt fr 1)) w z1 hb rfl hk4 (by omega) (fun w' => Keep (fun _ => True) w w') (GoesR own T w R.rb _) hw' (fun W hW => ?_) _ (fun W W' hW hb' hno => ?_) (fun W W' j x g n cap hW hb' hx hfirst hhit hbv => ?_)
    · have hR := h.on hcl hW
      exact ⟨cellAt (i := 6) hR.gate rfl, (hR.bookAt _ hk4).1, hR.book _ hk4⟩
    · have e := goneL_none s.time (numV (fr.extract 4 8)) _ hno
      have e' : (s.opens (byteAt fr 1)).any (fun x => x.order == numV (fr.extract 4 8)) = false := e
      rw [e', if_neg (by decide)]
      exact ⟨GoesR.same h hcl (hW.trans (Keep.ofBelow hb')), rfl⟩
    · obtain ⟨e1, e2⟩ := goneL_at s.time (numV (fr.extract 4 8)) _ j x hx hfirst hhit
      have e' : (s.opens (byteAt fr 1)).any (fun x => x.order == numV (fr.extract 4 8)) = true := e2
      rw [e', if_pos rfl, e1]
      have hR := h.on hcl (hW.trans (Keep.ofBelow hb'))
      exact ⟨GoesR.on (hW.trans (Keep.ofBelow hb')) (hR.gone hcl _ hk4 j x hx hbv), rfl⟩
  · rw [hs0, if_neg (by omega), if_neg (by omega), if_pos hb]
    have hk4 : byteAt fr 1 < 4 := by omega
    refine (does_kill R.rb (byteAt fr 1) (s.stop (byteAt fr 1)) i fr w z1 hb rfl hk4 (fun w' => Keep (fun _ => True) w w') hw' (fun W hW => ?_)).mono ?_
    · obtain ⟨_, c2, c3⟩ := (h.on hcl hW).bookAt _ hk4
      exact ⟨c2, c3 _⟩
    · rintro e w' ⟨rfl, w1, hW, rfl⟩
      exact ⟨rfl, GoesR.on hW ((h.on hcl hW).restop _ hk4 true)⟩
  · rw [hs0, if_neg (by omega), if_neg (by omega), if_neg (by omega)]
    have hk4 : byteAt fr 1 < 4 := by omega
    refine (does_unkill R.rb (byteAt fr 1) (s.stop (byteAt fr 1)) i fr w z1 hb rfl hk4 (fun w' => Keep (fun _ => True) w w') hw' (fun W hW => ?_)).mono ?_
    · obtain ⟨_, c2, c3⟩ := (h.on hcl hW).bookAt _ hk4
      exact ⟨c2, c3 _⟩
    · rintro e w' ⟨rfl, w1, hW, rfl⟩
      exact ⟨rfl, GoesR.on hW ((h.on hcl hW).restop _ hk4 false)⟩

end Go.Proofs.YtjhifhoniimfgaaGreat

