import Derived.Test.YtjhifhoniimfgaaGreatG16
import Derived.Test.YtjhifhoniimfgaaGreatG15
/-
  An account of the program, with the blocks that are its own: Open, Cancel, Stop, GoOn.
-/
namespace Go.Proofs.YtjhifhoniimfgaaGreat
open Go.RowKit

/-- The code of a New for an account, but for Shut. -/
def accCode (lim : Nat → Int) (st : Bool) (es : List Ent) (time : Nat) (S num : Int) (p q : Nat) : Int :=
  jCode lim st ((es.filter (isOpen time)).any (fun x => x.order == num)) S p q (wSum (es.filter (isOpen time))) (qSum S (es.filter (isOpen time))) (cntGt (time - lim 5) es)

/-- What an account needs to be as it may be. -/
structure AccOk (lim : Nat → Int) (es : List Ent) (time N : Nat) : Prop where
  ents : ∀ x, x ∈ es → EntOk x time
  opens : OpenOk (es.filter (isOpen time))
  len : es.length ≤ N
  time : time ≤ N
  lim : 1 ≤ lim 5 ∧ lim 5 ≤ 1000
  N : N < 1099511627776

theorem AccOk.good {lim : Nat → Int} {es : List Ent} {time N : Nat} (h : AccOk lim es time N) {dat : Nat → Odr} {l : List Nat} (hr : OpenRel dat l (es.filter (isOpen time))) : GoodL dat l :=
  good_of (time := time) hr (fun x hx => h.ents x (List.mem_filter.1 hx).1) h.opens

theorem addC_len (c : List Cnt) (now : Int) : (addC c now).length ≤ c.length + 1 := by
  by_cases hs : ∃ d m, c = d ++ [(now, m)]
  · obtain ⟨d, m, rfl⟩ := hs
    rw [addC_same]; simp
  · have hl : ∀ x, c.getLast? = some x → x.1 ≠ now := fun x hx e => hs (by
      obtain ⟨d, hd⟩ := List.getLast?_eq_some_iff.1 hx
      obtain ⟨x1, x2⟩ := x
      simp at e
      exact ⟨d, x2, by rw [hd, e]⟩)
    rw [addC_new c now hl]; simp

theorem addC_pos (c : List Cnt) (now : Int) (N : Nat) (h : ∀ x, x ∈ c → 0 ≤ x.2 ∧ x.2 ≤ (N : Int)) : ∀ x, x ∈ addC c now → 0 ≤ x.2 ∧ x.2 ≤ ((N + 1 : Nat) : Int) := by
  by_cases hs : ∃ d m, c = d ++ [(now, m)]
  · obtain ⟨d, m, rfl⟩ := hs
    rw [addC_same]
    intro x hx
    rcases List.mem_append.1 hx with hx | hx
    · have := h x (List.mem_append_left _ hx); omega
    · simp at hx
      have := h (now, m) (by simp)
      subst hx
      simp at this ⊢
      omega
  · have hl : ∀ x, c.getLast? = some x → x.1 ≠ now := fun x hx e => hs (by
      obtain ⟨d, hd⟩ := List.getLast?_eq_some_iff.1 hx
      obtain ⟨x1, x2⟩ := x
      simp at e
      exact ⟨d, x2, by rw [hd, e]⟩)
    rw [addC_new c now hl]
    intro x hx
    rcases List.mem_append.1 hx with hx | hx
    · have := h x hx; omega
    · simp at hx; subst hx; simp; omega

theorem nodup_inj {α : Type} (f : α → Int) : ∀ l : List α, (l.map f).Nodup → ∀ x y, x ∈ l → y ∈ l → f x = f y → x = y
  | [], _, x, _, hx, _, _ => by cases hx
  | a :: l, h, x, y, hx, hy, e => by
    rw [List.map_cons, List.nodup_cons] at h
    cases List.mem_cons.1 hx with
    | inl h1 =>
      cases List.mem_cons.1 hy with
      | inl h2 => rw [h1, h2]
      | inr h2 => exact absurd (by rw [← h1, e]; exact List.mem_map_of_mem h2) h.1
    | inr h1 =>
      cases List.mem_cons.1 hy with
      | inl h2 => exact absurd (by rw [← h2, ← e]; exact List.mem_map_of_mem h1) h.1
      | inr h2 => exact nodup_inj f l h.2 x y h1 h2 e

theorem accOpen {own : Nat → Nat} {τ : Nat} {w : World} {ab : Nat} {lim : Nat → Int} {st : Bool} {es : List Ent} {time N : Nat} (h : AccR own τ w ab lim st es time N) (hk : AccOk lim es time N)
    (A S num L : Int) (p q : Nat) (hs : S = 0 ∨ S = 1) (hp : p ≤ 9223372036854775807) (hq : q ≤ 9223372036854775807) (hL : 1 ≤ L ∧ L ≤ 1000000) :
    Calls Tryz.prog 82 #[.pointer (some ⟨ab, 0, none⟩), .agg #[.int .i64 A, .int .i64 S, .int .i64 num, .int .i64 p, .int .i64 q, .int .i64 L], .int .i64 time] w fun e w' =>
      e = .returned (.int .i64 (accCode lim st es time S num p q)) ∧
      AccR (ext own w.heap.size τ) τ w' ab lim st (if accCode lim st es time S num p q = 0 then es ++ [⟨num, S, p, q, time, time + L, false⟩] else es) time (N + 1) ∧ Keep (fun b => own b ≠ τ) w w' := by
  obtain ⟨v, mb, l, dat, cv, c, a⟩ := h
  have hg := hk.good a.rel
  have e1 := a.rel.worth
  have e2 := a.rel.qty S
  have e3 := a.rel.has num
  have e4 := a.cnt (time - lim 5) (Int.le_refl _)
  have hll := rel_len a.rel
  have hle : l.length ≤ N := by rw [hll]; exact Nat.le_trans (List.length_filter_le _ _) hk.len
  have hN := hk.N
  have hT := hk.time
  have hlim := hk.lim
  have hcp : ∀ x, x ∈ c → 0 ≤ x.2 ∧ x.2 < 1099511627776 := fun x hx => by have := a.cpos x hx; omega
  have hcs : sumM (c.filter (keepP (time - lim 5))) ≤ 1099511627776 := by
    rw [e4]
    have := cntGt_le (time - lim 5) es
    have := hk.len
    omega
  have hcl := a.clen
  obtain ⟨l1, l2, l3, l4, l5⟩ := a.acc.lts
  by_cases hz : accCode lim st es time S num p q = 0
  · rw [if_pos hz, hz]
    have hj : jCode lim st (hasN dat l num) S p q (tot (worthF dat) l) (tot (qtyF dat S) l) (sumM (c.filter (keepP (time - lim 5)))) = 0 := by
      rw [e1, e2, e3, e4]; exact hz
    refine (open_yes w ab lim st v mb l dat cv c a.acc hg A S num L p q time hs hp hq (by omega) hL.2 (by omega) (by omega) (by omega) hlim.2 (by omega) (by omega) hcp hcs hj).mono ?_
    rintro e w' ⟨rfl, ob, dat', v', l', cv', c', hc', hacc, hperm, hob, hdob, hdat, hv', hcv', hkeep⟩
    have hpq : p * q ≤ 9223372036854775807 := of_decide_eq_true (jCode_zero hj).2.1
    have hml : ∀ b, b ∈ l' → b ∈ l ∨ b = ob := fun b hb => by
      rcases List.mem_append.1 (hperm.mem_iff.1 hb) with q | q
      · exact .inl q
      · simp at q; exact .inr q
    refine ⟨rfl, ⟨v', mb, l', dat', cv', addC c' time, ⟨hacc, by rw [ext_lt l1]; exact a.o1, by rw [ext_lt l2]; exact a.o2, fun b hb => ?_, fun b hb => ?_, fun b hb => ?_, ?_, ?_, ?_, ?_⟩⟩, ?_⟩
    · rcases hv' with q | ⟨y, q, hy⟩
      · rw [q] at hb; rw [ext_lt (l3 b hb)]; exact a.o3 b hb
      · rw [q] at hb; cases hb; rw [ext_ge hy]
    · rcases hml b hb with q | q
      · rw [ext_lt (l4 b q)]; exact a.o4 b q
      · rw [q, ext_ge hob]
    · rcases hcv' with q | ⟨y, q, hy⟩
      · rw [q] at hb; rw [ext_lt (l5 b hb)]; exact a.o5 b hb
      · rw [q] at hb; cases hb; rw [ext_ge hy]
    · rw [List.filter_append, List.filter_cons_of_pos (by simp [isOpen]; omega)]
      refine a.rel.add (x := ⟨num, S, p, q, time, time + L, false⟩) hperm ?_ (fun b hb => hdat b (fun e => by have := l4 b hb; omega))
      rw [hdob]
      simp [ordOf]
    · refine CntRel.add ?_ time _ rfl
      rcases hc' with e | e
      · rw [e]; exact a.cnt
      · rw [e]; exact a.cnt.cut _ (Int.le_refl _)
    · have h1 := addC_len c' time
      have h2 : c'.length ≤ c.length := by
        rcases hc' with e | e
        · rw [e]; exact Nat.le_refl _
        · rw [e]; exact List.length_filter_le _ _
      omega
    · refine addC_pos c' time N (fun x hx => ?_)
      rcases hc' with e | e
      · rw [e] at hx; exact a.cpos x hx
      · rw [e] at hx; exact a.cpos x (List.mem_filter.1 hx).1
    · exact hkeep.mono (fun b hb hne => ⟨fun e => hne (e ▸ a.o1), fun e => hne (e ▸ a.o2), fun e => hne (a.o3 b e), fun e => hne (a.o5 b e), fun e => hne (a.o4 b e)⟩)
  · rw [if_neg hz]
    obtain ⟨O, hO⟩ : ∃ O : Obj, O = .cells #[.int .i64 A, .int .i64 S, .int .i64 num, .int .i64 p, .int .i64 q, .int .i64 L] 182 := ⟨_, rfl⟩
    have h0 : AccP (w.alloc O) ab lim st v mb l dat cv c := a.acc.keep (S := fun _ => True) ((Keep.refl _ w).alloc _) trivial trivial (fun _ _ => trivial) (fun _ _ => trivial) (fun _ _ => trivial)
    have hjd := judge_any (w.alloc O) ab lim st v mb l dat cv c h0 A S num L p q time hs hp hq hg.worthPos hg.w (hg.qtyPos S) (by rw [e2]; exact hk.opens.q S) (by omega) (by omega) (by omega) hlim.2 (by omega) (fun x hx => (hcp x hx).1) hcs
    rw [e1, e2, e3, e4] at hjd
    rw [hO] at hjd
    refine (open_no w ab A S num L p q time _ _ hz hjd).mono ?_
    rintro e w' ⟨rfl, cv', c', hc', hacc, hcvo, hkeep⟩
    rw [← hO] at hkeep
    have hk2 : Keep (fun b => b ≠ ab ∧ cv.ownBlock ≠ some b) w w' := ((Keep.refl _ w).alloc O).trans hkeep
    refine ⟨rfl, ⟨v, mb, l, dat, cv', c', ⟨hacc, by rw [ext_lt l1]; exact a.o1, by rw [ext_lt l2]; exact a.o2, fun b hb => by rw [ext_lt (l3 b hb)]; exact a.o3 b hb, fun b hb => by rw [ext_lt (l4 b hb)]; exact a.o4 b hb, fun b hb => by rw [hcvo] at hb; rw [ext_lt (l5 b hb)]; exact a.o5 b hb, a.rel, ?_, ?_, ?_⟩⟩, hk2.mono (fun b hb hne => ⟨fun e => hne (e ▸ a.o1), fun e => hne (a.o5 b e)⟩)⟩
    · rcases hc' with e | e
      · rw [e]; exact a.cnt
      · rw [e]; exact a.cnt.cut _ (Int.le_refl _)
    · rcases hc' with e | e
      · rw [e]; omega
      · rw [e]; have := List.length_filter_le (keepP (time - lim 5)) c; omega
    · intro x hx
      have hx : x ∈ c := by
        rcases hc' with e | e
        · rw [e] at hx; exact hx
        · rw [e] at hx; exact (List.mem_filter.1 hx).1
      have := a.cpos x hx
      omega

theorem accCancel {own : Nat → Nat} {τ : Nat} {w : World} {ab : Nat} {lim : Nat → Int} {st : Bool} {es : List Ent} {time N : Nat} (h : AccR own τ w ab lim st es time N) (hk : AccOk lim es time N) (num : Int) :
    Calls Tryz.prog 83 #[.pointer (some ⟨ab, 0, none⟩), .int .i64 num] w fun e w' =>
      e = .returned (.int .i64 (if (es.filter (isOpen time)).any (fun x => x.order == num) then 0 else 18)) ∧
      AccR (ext own w.heap.size τ) τ w' ab lim st (if (es.filter (isOpen time)).any (fun x => x.order == num) then goneL time num es else es) time (N + 1) ∧ Keep (fun b => own b ≠ τ) w w' := by
  have hN := hk.N
  cases hany : (es.filter (isOpen time)).any (fun x => x.order == num)
  · have h' := h
    obtain ⟨v, mb, l, dat, cv, c, a⟩ := h
    have e3 := a.rel.has num
    refine (cancel_no w ab lim st v mb l dat cv c a.acc num (by rw [e3, hany])).mono ?_
    rintro e w' ⟨rfl, rfl⟩
    exact ⟨rfl, (h'.keep (S := fun _ => True) (Keep.refl _ w) (fun _ _ _ => trivial) (Same.ext own w τ)).more (Nat.le_succ _), Keep.refl _ _⟩
  · obtain ⟨v, mb, l, dat, cv, c, a⟩ := h
    have e3 := a.rel.has num
    rw [hany] at e3
    obtain ⟨ob, hob, hnum⟩ := hasN_true e3
    obtain ⟨pre, x, post, q1, q2, q3⟩ := goneL_open time num es hany
    have hg := hk.good a.rel
    have hle : l.length ≤ N := by rw [rel_len a.rel]; exact Nat.le_trans (List.length_filter_le _ _) hk.len
    obtain ⟨l1, l2, l3, l4, l5⟩ := a.acc.lts
    have hc := cancel_yes w ab lim st v mb l dat cv c a.acc ob hob hg (by omega)
    rw [hnum] at hc
    refine hc.mono ?_
    rintro e w' ⟨rfl, v', l', hacc, hperm, hv', hkeep⟩
    have hml : ∀ b, b ∈ l' → b ∈ l := fun b hb => hperm.mem_iff.2 (List.mem_append_left _ hb)
    have hx : dat ob = ordOf x := by
      have h1 : dat ob ∈ (es.filter (isOpen time)).map ordOf := a.rel.mem_iff.1 (List.mem_map_of_mem hob)
      obtain ⟨y, hy, e⟩ := List.mem_map.1 h1
      have hn := hk.opens.num
      have hyo : y.order = x.order := by
        have : (dat ob).num = y.order := by rw [← e]; rfl
        rw [q2, ← this, hnum]
      have hxm : x ∈ es.filter (isOpen time) := by rw [q1]; simp
      have : y = x := nodup_inj _ _ hn y x hy hxm hyo
      rw [← e, this]
    refine ⟨rfl, ⟨v', mb, l', dat, cv, c, ⟨hacc, by rw [ext_lt l1]; exact a.o1, by rw [ext_lt l2]; exact a.o2, fun b hb => by rw [hv'] at hb; rw [ext_lt (l3 b hb)]; exact a.o3 b hb, fun b hb => by rw [ext_lt (l4 b (hml b hb))]; exact a.o4 b (hml b hb), fun b hb => by rw [ext_lt (l5 b hb)]; exact a.o5 b hb, ?_, ?_, ?_, ?_⟩⟩, hkeep.mono (fun b hb hne => ⟨fun e => hne (e ▸ a.o1), fun e => hne (e ▸ a.o2), fun e => hne (a.o3 b e), fun e => hne (a.o4 b e)⟩)⟩
    · rw [if_pos rfl, q3]
      refine a.rel.rem hperm ?_ hx
      rw [q1, List.append_assoc]
      exact List.Perm.append_left _ (List.perm_append_comm (l₁ := [x]) (l₂ := post))
    · intro T hT
      rw [if_pos rfl, goneL_cnt]
      exact a.cnt T hT
    · have := a.clen; omega
    · intro y hy; have := a.cpos y hy; omega

theorem AccP.stopped {w : World} {ab : Nat} {lim : Nat → Int} {st : Bool} {v : Value} {mb : Nat} {l : List Nat} {dat : Nat → Odr} {cv : Value} {c : List Cnt} (h : AccP w ab lim st v mb l dat cv c) (b : Bool) :
    AccP (w.setCell ⟨ab, 6, none⟩ (.bool b)) ab lim b v mb l dat cv c := by
  have hk : Keep (fun k => k ≠ ab) w (w.setCell ⟨ab, 6, none⟩ (.bool b)) := (Keep.refl _ w).setCell _ (fun _ h => h rfl) _
  obtain ⟨cs, a, b1, b2, b3, b4⟩ := h.cells
  obtain ⟨cs2, q1, q2, q3, q4, q5, q6, q7⟩ := h.ords.cells
  rw [a] at q1
  cases q1
  have a' := heap_setCell_at (i := 6) (.bool b) a
  have g : ∀ i, i ≠ 6 → (cs.setIfInBounds 6 (.bool b))[i]? = cs[i]? := fun i hi => by rw [Array.getElem?_setIfInBounds, if_neg (Ne.symm hi)]
  obtain ⟨ks, m1, m2⟩ := h.ords.map
  refine ⟨{ h.ords with cells := ⟨_, a', by simpa using q2, by rw [g 7 (by omega)]; exact q3, by rw [g 8 (by omega)]; exact q4, by rw [g 9 (by omega)]; exact q5, by rw [g 10 (by omega)]; exact q6, by rw [g 11 (by omega)]; exact q7⟩,
                            heap := h.ords.heap.keep hk (fun b hb e => h.ords.vab (e ▸ hb)) (fun b hb e => h.ords.abl (e ▸ hb)),
                            map := ⟨ks, m1.keep hk (Ne.symm h.ords.abm), m2⟩ }, ⟨_, a', by simpa using b1, fun i hi => by rw [g i (by omega)]; exact b2 i hi, by rw [Array.getElem?_setIfInBounds, if_pos rfl, if_pos (by omega)], by rw [g 12 (by omega)]; exact b4⟩, h.cnt.keep hk (fun b hb e => h.cvab (e ▸ hb)), h.cvab, h.cvmb, h.cvl, h.cvv⟩

theorem AccR.stopped {own : Nat → Nat} {τ : Nat} {w : World} {ab : Nat} {lim : Nat → Int} {st : Bool} {es : List Ent} {time N : Nat} (h : AccR own τ w ab lim st es time N) (b : Bool) :
    AccR (ext own w.heap.size τ) τ (w.setCell ⟨ab, 6, none⟩ (.bool b)) ab lim b es time (N + 1) ∧ Keep (fun b => own b ≠ τ) w (w.setCell ⟨ab, 6, none⟩ (.bool b)) := by
  obtain ⟨v, mb, l, dat, cv, c, a⟩ := h
  obtain ⟨l1, l2, l3, l4, l5⟩ := a.acc.lts
  exact ⟨⟨v, mb, l, dat, cv, c, ⟨a.acc.stopped b, by rw [ext_lt l1]; exact a.o1, by rw [ext_lt l2]; exact a.o2, fun b hb => by rw [ext_lt (l3 b hb)]; exact a.o3 b hb, fun b hb => by rw [ext_lt (l4 b hb)]; exact a.o4 b hb, fun b hb => by rw [ext_lt (l5 b hb)]; exact a.o5 b hb, a.rel, a.cnt, by have := a.clen; omega, fun x hx => by have := a.cpos x hx; omega⟩⟩,
    (Keep.refl _ w).setCell _ (fun _ h => h a.o1) _⟩

theorem accStop {own : Nat → Nat} {τ : Nat} {w : World} {ab : Nat} {lim : Nat → Int} {st : Bool} {es : List Ent} {time N : Nat} (h : AccR own τ w ab lim st es time N) :
    Calls Tryz.prog 84 #[.pointer (some ⟨ab, 0, none⟩)] w fun e w' => e = .returned (.tuple #[]) ∧ AccR (ext own w.heap.size τ) τ w' ab lim true es time (N + 1) ∧ Keep (fun b => own b ≠ τ) w w' := by
  have h2 := h.stopped true
  obtain ⟨v, mb, l, dat, cv, c, a⟩ := h
  obtain ⟨cs, q, b1, b2, b3, b4⟩ := a.acc.cells
  refine (stop_any w ab st (cellAt q b3) (frozenAt q)).mono ?_
  rintro e w' ⟨rfl, rfl⟩
  exact ⟨rfl, h2⟩

theorem accGoOn {own : Nat → Nat} {τ : Nat} {w : World} {ab : Nat} {lim : Nat → Int} {st : Bool} {es : List Ent} {time N : Nat} (h : AccR own τ w ab lim st es time N) :
    Calls Tryz.prog 85 #[.pointer (some ⟨ab, 0, none⟩)] w fun e w' => e = .returned (.tuple #[]) ∧ AccR (ext own w.heap.size τ) τ w' ab lim false es time (N + 1) ∧ Keep (fun b => own b ≠ τ) w w' := by
  have h2 := h.stopped false
  obtain ⟨v, mb, l, dat, cv, c, a⟩ := h
  obtain ⟨cs, q, b1, b2, b3, b4⟩ := a.acc.cells
  refine (goOn_any w ab st (cellAt q b3) (frozenAt q)).mono ?_
  rintro e w' ⟨rfl, rfl⟩
  exact ⟨rfl, h2⟩

theorem accNew {own : Nat → Nat} {τ : Nat} (w : World) (lim : Nat → Int) :
    Calls Tryz.prog 36 #[.agg #[.int .i64 (lim 0), .int .i64 (lim 1), .int .i64 (lim 2), .int .i64 (lim 3), .int .i64 (lim 4), .int .i64 (lim 5)]] w fun r w' => ∃ ab, r = .returned (.pointer (some ⟨ab, 0, none⟩)) ∧
      AccR (ext own w.heap.size τ) τ w' ab lim false [] 0 0 ∧ Below w.heap.size w w' ∧ w.heap.size ≤ ab := by
  refine (accNew_any w lim (fun _ => ⟨0, 0, 0, 0, 0⟩)).mono ?_
  rintro e w' ⟨ab, mb, rfl, hacc, hb, h1, h2, h3, h4⟩
  refine ⟨ab, rfl, ⟨_, mb, [], _, _, [], ⟨hacc, ext_ge h1, ext_ge h2, fun b hb => ?_, fun b hb => ?_, fun b hb => ?_, ?_, fun T _ => rfl, Nat.le_refl _, fun x hx => by cases hx⟩⟩, hb, h1⟩
  · simp [Value.ownBlock] at hb
  · cases hb
  · simp [Value.ownBlock] at hb
  · exact List.Perm.nil

end Go.Proofs.YtjhifhoniimfgaaGreat

/-
  The program's gate in memory.
-/
namespace Go.Proofs.YtjhifhoniimfgaaGreat
open Go.RowKit

/-- The blocks of a gate: its own; the rows of inboxes and accounts; those of each client, account, lane; of the answer with which the core waits; of the watch and its channel. -/
structure GB where
  gb : Nat
  ir : Nat
  ic : Nat
  ar : Nat
  ac : Nat
  ib : Nat → Nat
  ab : Nat → Nat
  lb : Nat → Nat
  hb : Nat
  wb : Nat
  cb : Nat

def heldV (B : GB) (s : St) : Value :=
  match s.held with
  | none => .pointer none
  | some _ => .pointer (some ⟨B.hb, 0, none⟩)

/-- The cells of the gate's own block. -/
def gCells (B : GB) (cl na : Nat) (hv : Value) (time : Int) : Array Value :=
  #[.slice (some ⟨B.ir, 0, none⟩) cl B.ic, .slice (some ⟨B.ar, 0, none⟩) na B.ac, .pointer (some ⟨B.lb 0, 0, none⟩), .pointer (some ⟨B.lb 1, 0, none⟩), hv, .int .i64 time, .pointer (some ⟨B.wb, 0, none⟩)]

structure PG (own : Nat → Nat) (T : Nat) (w : World) (B : GB) (s : St) (N : Nat) : Prop where
  gate : w.heap[B.gb]? = some (.cells (gCells B s.cl s.na (heldV B s) s.time) 82 (0, 0))
  irow : ∃ cs, w.heap[B.ir]? = some (.cells cs 83 (0, 0)) ∧ ∀ i : Nat, i < s.cl → cs[i]? = some (.pointer (some ⟨B.ib i, 0, none⟩))
  arow : ∃ cs, w.heap[B.ar]? = some (.cells cs 88 (0, 0)) ∧ ∀ i : Nat, i < s.na → cs[i]? = some (.pointer (some ⟨B.ab i, 0, none⟩))
  late : ∀ c a, s.held = some (c, a) → w.heap[B.hb]? = some (.cells #[.int .i64 c, .int .i64 a.1, .int .i64 a.2] 153 (0, 0)) ∧ own B.hb = T
  watch : ∃ mi ti st, WatchAt w B.wb B.cb s.ch mi ti st s.shut ∧ (s.shut = false → mi = s.misses ∧ ti = s.ticked ∧ st = s.stepped)
  og : own B.gb = T
  oi : own B.ir = T
  oa : own B.ar = T
  ow : own B.wb = T
  oc : own B.cb = T
  lane : ∀ i, i < 2 → LaneR own (T + 1 + i) w (B.lb i) (s.n i) (s.m i) (s.t i) (s.f i)
  box : ∀ c, c < s.cl → InboxR own (T + 10 + c) w (B.ib c) s.an N (s.ring c) (s.acks c)
  acc : ∀ a, a < s.na → AccR own (T + 20 + a) w (B.ab a) (s.lim a) (s.stop a) (s.book a) s.time N

/-- The blocks that are not of the gate with the tags from T on. -/
def Out (own : Nat → Nat) (T : Nat) : Nat → Prop := fun b => own b < T ∨ T + 100 ≤ own b

theorem PG.more {own : Nat → Nat} {T : Nat} {w : World} {B : GB} {s : St} {N M : Nat} (h : PG own T w B s N) (hM : N ≤ M) : PG own T w B s M :=
  { h with box := fun c hc => (h.box c hc).more hM, acc := fun a ha => (h.acc a ha).more hM }

/-- All that is tagged by T itself stays: the gate's own block, rows, watch. -/
structure Core0 (own : Nat → Nat) (T : Nat) (w : World) (B : GB) (s : St) : Prop where
  gate : w.heap[B.gb]? = some (.cells (gCells B s.cl s.na (heldV B s) s.time) 82 (0, 0))
  irow : ∃ cs, w.heap[B.ir]? = some (.cells cs 83 (0, 0)) ∧ ∀ i : Nat, i < s.cl → cs[i]? = some (.pointer (some ⟨B.ib i, 0, none⟩))
  arow : ∃ cs, w.heap[B.ar]? = some (.cells cs 88 (0, 0)) ∧ ∀ i : Nat, i < s.na → cs[i]? = some (.pointer (some ⟨B.ab i, 0, none⟩))
  late : ∀ c a, s.held = some (c, a) → w.heap[B.hb]? = some (.cells #[.int .i64 c, .int .i64 a.1, .int .i64 a.2] 153 (0, 0)) ∧ own B.hb = T
  watch : ∃ mi ti st, WatchAt w B.wb B.cb s.ch mi ti st s.shut ∧ (s.shut = false → mi = s.misses ∧ ti = s.ticked ∧ st = s.stepped)
  og : own B.gb = T
  oi : own B.ir = T
  oa : own B.ar = T
  ow : own B.wb = T
  oc : own B.cb = T

theorem PG.core0 {own : Nat → Nat} {T : Nat} {w : World} {B : GB} {s : St} {N : Nat} (h : PG own T w B s N) : Core0 own T w B s :=
  ⟨h.gate, h.irow, h.arow, h.late, h.watch, h.og, h.oi, h.oa, h.ow, h.oc⟩

theorem Core0.keep {own own' : Nat → Nat} {T : Nat} {S : Nat → Prop} {w w' : World} {B : GB} {s : St} (h : Core0 own T w B s) (hk : Keep S w w') (hs : ∀ b, b < w.heap.size → own b = T → S b) (ho : Same own own' w) : Core0 own' T w' B s := by
  obtain ⟨ci, hi1, hi2⟩ := h.irow
  obtain ⟨ca, ha1, ha2⟩ := h.arow
  obtain ⟨mi, ti, st, hw1, hw2⟩ := h.watch
  have lg := block_lt h.gate
  have li := block_lt hi1
  have la := block_lt ha1
  have lw := block_lt hw1.watch
  have lc := block_lt hw1.chan
  refine ⟨hk.get h.gate (hs _ lg h.og), ⟨ci, hk.get hi1 (hs _ li h.oi), hi2⟩, ⟨ca, hk.get ha1 (hs _ la h.oa), ha2⟩, fun c a e => ?_, ⟨mi, ti, st, hw1.keep hk (hs _ lw h.ow) (hs _ lc h.oc), hw2⟩, ?_, ?_, ?_, ?_, ?_⟩
  · obtain ⟨q1, q2⟩ := h.late c a e
    exact ⟨hk.get q1 (hs _ (block_lt q1) q2), by rw [ho _ (block_lt q1)]; exact q2⟩
  · rw [ho _ lg]; exact h.og
  · rw [ho _ li]; exact h.oi
  · rw [ho _ la]; exact h.oa
  · rw [ho _ lw]; exact h.ow
  · rw [ho _ lc]; exact h.oc

theorem Core0.pg {own : Nat → Nat} {T : Nat} {w : World} {B : GB} {s : St} {N : Nat} (h : Core0 own T w B s) (h1 : ∀ i, i < 2 → LaneR own (T + 1 + i) w (B.lb i) (s.n i) (s.m i) (s.t i) (s.f i))
    (h2 : ∀ c, c < s.cl → InboxR own (T + 10 + c) w (B.ib c) s.an N (s.ring c) (s.acks c)) (h3 : ∀ a, a < s.na → AccR own (T + 20 + a) w (B.ab a) (s.lim a) (s.stop a) (s.book a) s.time N) : PG own T w B s N :=
  ⟨h.gate, h.irow, h.arow, h.late, h.watch, h.og, h.oi, h.oa, h.ow, h.oc, h1, h2, h3⟩

theorem PG.keep {own own' : Nat → Nat} {T : Nat} {S : Nat → Prop} {w w' : World} {B : GB} {s : St} {N : Nat} (h : PG own T w B s N) (hcl : s.cl ≤ 8) (hna : s.na ≤ 4) (hk : Keep S w w') (hs : ∀ b, b < w.heap.size → T ≤ own b → own b < T + 100 → S b) (ho : Same own own' w) : PG own' T w' B s N :=
  (h.core0.keep hk (fun b hb e => hs b hb (by omega) (by omega)) ho).pg
    (fun i hi => (h.lane i hi).keep hk (fun b hb e => hs b hb (by omega) (by omega)) ho)
    (fun c hc => (h.box c hc).keep hk (fun b hb e => hs b hb (by omega) (by omega)) ho)
    (fun a ha => (h.acc a ha).keep hk (fun b hb e => hs b hb (by omega) (by omega)) ho)

/-- A lane has turned. -/
theorem PG.relane {own : Nat → Nat} {T : Nat} {w w' : World} {B : GB} {s : St} {N : Nat} (h : PG own T w B s N) (i : Nat) (hi : i < 2) (m t : Nat) (f : Nat → Pl)
    (hl : LaneR (ext own w.heap.size (T + 1 + i)) (T + 1 + i) w' (B.lb i) (s.n i) m t f) (hk : Keep (fun b => own b ≠ T + 1 + i) w w') :
    PG (ext own w.heap.size (T + 1 + i)) T w' B { s with m := upN s.m i m, t := upN s.t i t, f := upN s.f i f } N := by
  have ho := Same.ext own w (T + 1 + i)
  have h0 : Core0 (ext own w.heap.size (T + 1 + i)) T w' B s := h.core0.keep hk (fun b hb e => by omega) ho
  refine Core0.pg ⟨h0.gate, h0.irow, h0.arow, h0.late, h0.watch, h0.og, h0.oi, h0.oa, h0.ow, h0.oc⟩ (fun j hj => ?_) (fun c hc => (h.box c hc).keep hk (fun b hb e => by omega) ho) (fun a ha => (h.acc a ha).keep hk (fun b hb e => by omega) ho)
  show LaneR _ _ _ _ (s.n j) (upN s.m i m j) (upN s.t i t j) (upN s.f i f j)
  by_cases e : j = i
  · subst e; rw [upN_same, upN_same, upN_same]; exact hl
  · rw [upN_ne _ _ _ _ e, upN_ne _ _ _ _ e, upN_ne _ _ _ _ e]
    exact (h.lane j hj).keep hk (fun b hb e => by omega) ho

/-- An inbox has turned. -/
theorem PG.rebox {own : Nat → Nat} {T : Nat} {w w' : World} {B : GB} {s : St} {N : Nat} (h : PG own T w B s N) (hcl : s.cl ≤ 8) (c : Nat) (hc : c < s.cl) (ring acks : List Ans)
    (hl : InboxR (ext own w.heap.size (T + 10 + c)) (T + 10 + c) w' (B.ib c) s.an N ring acks) (hk : Keep (fun b => own b ≠ T + 10 + c) w w') :
    PG (ext own w.heap.size (T + 10 + c)) T w' B { s with ring := upN s.ring c ring, acks := upN s.acks c acks } N := by
  have ho := Same.ext own w (T + 10 + c)
  have h0 : Core0 (ext own w.heap.size (T + 10 + c)) T w' B s := h.core0.keep hk (fun b hb e => by omega) ho
  refine Core0.pg ⟨h0.gate, h0.irow, h0.arow, h0.late, h0.watch, h0.og, h0.oi, h0.oa, h0.ow, h0.oc⟩ (fun j hj => (h.lane j hj).keep hk (fun b hb e => by omega) ho) (fun j hj => ?_) (fun a ha => (h.acc a ha).keep hk (fun b hb e => by omega) ho)
  show InboxR _ _ _ _ s.an N (upN s.ring c ring j) (upN s.acks c acks j)
  by_cases e : j = c
  · subst e; rw [upN_same, upN_same]; exact hl
  · rw [upN_ne _ _ _ _ e, upN_ne _ _ _ _ e]
    have hj : j < s.cl := hj
    exact (h.box j hj).keep hk (fun b hb e => by omega) ho

/-- An account has turned. -/
theorem PG.reacc {own : Nat → Nat} {T : Nat} {w w' : World} {B : GB} {s : St} {N : Nat} (h : PG own T w B s N) (hcl : s.cl ≤ 8) (a : Nat) (ha : a < s.na) (st : Bool) (es : List Ent)
    (hl : AccR (ext own w.heap.size (T + 20 + a)) (T + 20 + a) w' (B.ab a) (s.lim a) st es s.time N) (hk : Keep (fun b => own b ≠ T + 20 + a) w w') :
    PG (ext own w.heap.size (T + 20 + a)) T w' B { s with stop := upN s.stop a st, book := upN s.book a es } N := by
  have ho := Same.ext own w (T + 20 + a)
  have h0 : Core0 (ext own w.heap.size (T + 20 + a)) T w' B s := h.core0.keep hk (fun b hb e => by omega) ho
  refine Core0.pg ⟨h0.gate, h0.irow, h0.arow, h0.late, h0.watch, h0.og, h0.oi, h0.oa, h0.ow, h0.oc⟩ (fun j hj => (h.lane j hj).keep hk (fun b hb e => by omega) ho) (fun c hc => (h.box c hc).keep hk (fun b hb e => by have hc : c < s.cl := hc; omega) ho) (fun j hj => ?_)
  show AccR _ _ _ _ (s.lim j) (upN s.stop a st j) (upN s.book a es j) s.time N
  by_cases e : j = a
  · subst e; rw [upN_same, upN_same]; exact hl
  · rw [upN_ne _ _ _ _ e, upN_ne _ _ _ _ e]
    have hj : j < s.na := hj
    exact (h.acc j hj).keep hk (fun b hb e => by omega) ho

theorem GB.ne_gw {own : Nat → Nat} {T : Nat} {w : World} {B : GB} {s : St} (h : Core0 own T w B s) : B.gb ≠ B.wb ∧ B.gb ≠ B.cb ∧ B.gb ≠ B.ir ∧ B.gb ≠ B.ar ∧ (∀ c a, s.held = some (c, a) → B.gb ≠ B.hb) ∧ B.wb ≠ B.ir ∧ B.wb ≠ B.ar ∧ B.cb ≠ B.ir ∧ B.cb ≠ B.ar ∧ (∀ c a, s.held = some (c, a) → B.wb ≠ B.hb ∧ B.cb ≠ B.hb) := by
  obtain ⟨ci, hi1, hi2⟩ := h.irow
  obtain ⟨ca, ha1, ha2⟩ := h.arow
  obtain ⟨mi, ti, st, hw1, hw2⟩ := h.watch
  have hch : ∀ b cs U f, w.heap[b]? = some (.cells cs U f) → B.cb ≠ b := fun b cs U f hb e => by
    have := hw1.chan; rw [e, hb] at this; cases this
  exact ⟨block_ne h.gate hw1.watch (by decide), Ne.symm (hch _ _ _ _ h.gate), block_ne h.gate hi1 (by decide), block_ne h.gate ha1 (by decide), fun c a e => block_ne h.gate (h.late c a e).1 (by decide), block_ne hw1.watch hi1 (by decide), block_ne hw1.watch ha1 (by decide), hch _ _ _ _ hi1, hch _ _ _ _ ha1, fun c a e => ⟨block_ne hw1.watch (h.late c a e).1 (by decide), hch _ _ _ _ (h.late c a e).1⟩⟩

/-- The watch has turned. -/
theorem PG.rewatch {own : Nat → Nat} {T : Nat} {w w' : World} {B : GB} {s : St} {N : Nat} (h : PG own T w B s N) (hk : Keep (fun b => b ≠ B.wb ∧ b ≠ B.cb) w w') (ti st : Bool) (mi : Nat) (sh : Bool)
    (hw : ∃ mi' ti' st', WatchAt w' B.wb B.cb s.ch mi' ti' st' sh ∧ (sh = false → mi' = mi ∧ ti' = ti ∧ st' = st)) : PG (ext own w.heap.size T) T w' B { s with ticked := ti, stepped := st, misses := mi, shut := sh } N := by
  have ho := Same.ext own w T
  have h0 := h.core0
  have lg := block_lt h0.gate
  obtain ⟨n1, n2, n3, n4, n5, n6, n7, n8, n9, n10⟩ := GB.ne_gw h0
  obtain ⟨ci, hi1, hi2⟩ := h0.irow
  obtain ⟨ca, ha1, ha2⟩ := h0.arow
  obtain ⟨mi', ti', st', hw1, hw2⟩ := h0.watch
  have hp : ∀ b, own b ≠ T → b ≠ B.wb ∧ b ≠ B.cb := fun b hb => ⟨fun e => hb (e ▸ h0.ow), fun e => hb (e ▸ h0.oc)⟩
  refine Core0.pg ⟨hk.get h0.gate ⟨n1, n2⟩, ⟨ci, hk.get hi1 ⟨Ne.symm n6, Ne.symm n8⟩, hi2⟩, ⟨ca, hk.get ha1 ⟨Ne.symm n7, Ne.symm n9⟩, ha2⟩, fun c a e => ?_, hw, ?_, ?_, ?_, ?_, ?_⟩
    (fun i hi => (h.lane i hi).keep hk (fun b hb e => hp b (by omega)) ho) (fun c hc => (h.box c hc).keep hk (fun b hb e => hp b (by omega)) ho) (fun a ha => (h.acc a ha).keep hk (fun b hb e => hp b (by omega)) ho)
  · obtain ⟨q1, q2⟩ := h0.late c a e
    exact ⟨hk.get q1 ⟨Ne.symm (n10 c a e).1, Ne.symm (n10 c a e).2⟩, by rw [ext_lt (block_lt q1)]; exact q2⟩
  · rw [ext_lt lg]; exact h0.og
  · rw [ext_lt (block_lt hi1)]; exact h0.oi
  · rw [ext_lt (block_lt ha1)]; exact h0.oa
  · rw [ext_lt (block_lt hw1.watch)]; exact h0.ow
  · rw [ext_lt (block_lt hw1.chan)]; exact h0.oc

theorem Keep.out {own : Nat → Nat} {T p : Nat} {w w' : World} (h : Keep (fun b => own b ≠ p) w w') (h1 : T ≤ p) (h2 : p < T + 100) : Keep (Out own T) w w' :=
  h.mono (fun b _ hb e => by rcases hb with hb | hb <;> omega)

/-- The blocks are the same, but for the answer with which the core waits. -/
def GB.Like (B B' : GB) : Prop := ∃ hb, B' = { B with hb := hb }

theorem GB.Like.refl (B : GB) : B.Like B := ⟨B.hb, rfl⟩
theorem GB.Like.trans {B C D : GB} (h : B.Like C) (k : C.Like D) : B.Like D := by
  obtain ⟨h1, rfl⟩ := h
  obtain ⟨h2, rfl⟩ := k
  exact ⟨h2, rfl⟩
theorem GB.Like.gb {B C : GB} (h : B.Like C) : C.gb = B.gb := by obtain ⟨h1, rfl⟩ := h; rfl

/-- What a call leaves: the gate in its next state; nothing else turned. -/
def GoesP (own : Nat → Nat) (T : Nat) (w : World) (B : GB) (s' : St) (N : Nat) (w' : World) : Prop :=
  ∃ own' B', PG own' T w' B' s' N ∧ B.Like B' ∧ Same own own' w ∧ Keep (Out own T) w w'

theorem GoesP.more {own : Nat → Nat} {T : Nat} {w : World} {B : GB} {s' : St} {N M : Nat} {w' : World} (h : GoesP own T w B s' N w') (hM : N ≤ M) : GoesP own T w B s' M w' := by
  obtain ⟨own', B', h1, h2, h3, h4⟩ := h
  exact ⟨own', B', h1.more hM, h2, h3, h4⟩

/-- One step behind another. -/
theorem GoesP.trans {own own1 : Nat → Nat} {T : Nat} {w w1 w2 : World} {B B1 : GB} {s2 : St} {N : Nat} (hk : Keep (Out own T) w w1) (ho : Same own own1 w) (hb : B.Like B1) (h : GoesP own1 T w1 B1 s2 N w2) : GoesP own T w B s2 N w2 := by
  obtain ⟨own', B', h1, h2, h3, h4⟩ := h
  refine ⟨own', B', h1, hb.trans h2, ho.trans h3 hk.size, hk.trans' h4 (fun b hb hO => ?_)⟩
  unfold Out at hO ⊢
  rw [ho b hb]
  exact hO

theorem GoesP.same {own : Nat → Nat} {T : Nat} {w w' : World} {B : GB} {s : St} {N : Nat} (h : PG own T w B s N) (hcl : s.cl ≤ 8) (hna : s.na ≤ 4) (hk : Keep (fun _ => True) w w') : GoesP own T w B s N w' :=
  ⟨own, B, h.keep hcl hna hk (fun _ _ _ _ => trivial) (Same.refl _ _), .refl _, Same.refl _ _, hk.mono (fun _ _ _ => trivial)⟩

end Go.Proofs.YtjhifhoniimfgaaGreat

