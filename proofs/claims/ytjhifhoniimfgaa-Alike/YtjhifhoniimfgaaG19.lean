import Derived.Test.YtjhifhoniimfgaaG18
import Derived.Test.YtjhifhoniimfgaaG17
import Derived.Test.YtjhifhoniimfgaaG16
/-
  The program's Acks and Watch, on a gate in memory.
-/
namespace Go.Proofs.Ytjhifhoniimfgaa
open Go.RowKit

/-- A row goes over to the tag g. -/
def retag (own : Nat → Nat) (v : Value) (g : Nat) : Nat → Nat := fun b => if v.ownBlock = some b then g else own b

theorem retag_ne {own : Nat → Nat} {v : Value} {g b : Nat} (h : v.ownBlock ≠ some b) : retag own v g b = own b := if_neg h
theorem retag_eq {own : Nat → Nat} {v : Value} {g b : Nat} (h : v.ownBlock = some b) : retag own v g b = g := if_pos h

theorem gAcks {own : Nat → Nat} {T : Nat} {w : World} {B : GB} {s : St} {N : Nat} (h : PG own T w B s N) (hk : Ok s N) (g : Nat) (client : Int) :
    Calls Try.prog 55 #[.pointer (some ⟨B.gb, 0, none⟩), .int .i64 client] w fun e w' =>
      ∃ v, e = .returned (.tuple #[v, .int .i64 (acksS s client).2.1]) ∧ AckAt w' v (acksS s client).1 ∧ (∀ b, v.ownBlock = some b → T ≤ own b ∧ own b < T + 100) ∧
        PG (retag own v g) T w' B (acksS s client).2.2 (N + 1) ∧ w'.heap.size = w.heap.size ∧ Keep (Out own T) w w' := by
  have c0 := cellAt (i := 0) h.gate rfl
  unfold acksS
  by_cases h1 : refuse s.cl client 0 ≠ 0
  · rw [if_pos h1, refuse_zero]
    rw [refuse_zero] at h1
    refine (gAcks_no B.gb _ s.cl _ client w c0 (by simpa using h1)).mono ?_
    rintro e w' ⟨rfl, rfl⟩
    refine ⟨_, rfl, AckAt.nil _, fun b hb => (by cases hb), ?_, rfl, Keep.refl _ _⟩
    exact (h.more (Nat.le_succ N)).keep hk.cl.2 hk.na.2 (Keep.refl (fun _ => True) w) (fun _ _ _ _ => trivial) (fun b _ => retag_ne (by simp [Value.ownBlock]))
  rw [if_neg h1]
  obtain ⟨q1, q2, _⟩ := refuse_lane (Classical.not_not.1 h1)
  obtain ⟨c, rfl⟩ := Int.eq_ofNat_of_zero_le q1
  rw [Int.toNat_natCast]
  have hc : c < s.cl := by omega
  have hc8 := hk.cl.2
  have hn4 := hk.na.2
  obtain ⟨lb, sb, tt, v, p⟩ := h.box c hc
  have hbox := h.boxAt c hc
  obtain ⟨va, vc, hv⟩ := p.ack.slice
  refine (gAcks_box B.gb B.ir B.ic s.cl (B.ib c) _ c v w c0 hc hbox p.box ⟨va, _, vc, hv⟩).mono ?_
  rintro e w' ⟨rfl, rfl⟩
  have l1 := block_lt p.box
  have l2 := p.ans.lt
  have nb : B.ib c ≠ lb := block_ne p.box p.ans.ring (by decide)
  have nb2 : B.ib c ≠ sb := by obtain ⟨cs, q, _⟩ := p.ans.slots; exact block_ne p.box q (by decide)
  have hrow : ∀ b, v.ownBlock = some b → b ≠ B.ib c ∧ b ≠ lb := fun b hb => by
    rcases p.ack.2 with ⟨q, _⟩ | ⟨g, cap, cur, q, _, q1, _⟩
    · rw [q] at hb; cases hb
    · rw [q] at hb
      simp [Value.ownBlock] at hb
      subst hb
      exact ⟨block_ne q1 p.box (by decide), block_ne q1 p.ans.ring (by decide)⟩
  have k1 : Keep (fun b => b ≠ B.ib c) w (w.setCell ⟨B.ib c, 1, none⟩ (.slice none 0 0)) := (Keep.refl _ w).setCell _ (fun _ h => h rfl) _
  have k2 : Keep (fun b => own b ≠ T + 10 + c) w (w.setCell ⟨B.ib c, 1, none⟩ (.slice none 0 0)) := k1.mono (fun b _ hb e => hb (e ▸ p.o1))
  have hown : ∀ b, own b ≠ T + 10 + c → retag own v g b = own b := fun b hb => retag_ne (fun e => hb (p.o4 b e).1)
  have ho : ∀ τ, τ ≠ T + 10 + c → ∀ b, own b = τ → retag own v g b = τ := fun τ hτ b hb => by rw [hown b (by omega)]; exact hb
  refine ⟨v, rfl, p.ack.keep k1 (fun b hb => (hrow b hb).1), fun b hb => by have := (p.o4 b hb).1; omega, ?_, size_setCell _ _ _, k2.out (by omega) (by omega)⟩
  have hh := h.more (Nat.le_succ N)
  -- the parts that are not this inbox
  have hs : ∀ τ, τ ≠ T + 10 + c → ∀ b, b < w.heap.size → own b = τ → own b ≠ T + 10 + c := fun τ hτ b _ e => by omega
  have h0 := hh.core0
  obtain ⟨ci, hi1, hi2⟩ := h0.irow
  obtain ⟨ca, ha1, ha2⟩ := h0.arow
  obtain ⟨mi, ti, st, hw1, hw2⟩ := h0.watch
  have hT : T ≠ T + 10 + c := by omega
  refine Core0.pg ⟨k2.get h0.gate (by rw [h0.og]; exact hT), ⟨ci, k2.get hi1 (by rw [h0.oi]; exact hT), hi2⟩, ⟨ca, k2.get ha1 (by rw [h0.oa]; exact hT), ha2⟩, fun c a e => ?_, ⟨mi, ti, st, hw1.keep k2 (by rw [h0.ow]; exact hT) (by rw [h0.oc]; exact hT), hw2⟩, ho _ hT _ h0.og, ho _ hT _ h0.oi, ho _ hT _ h0.oa, ho _ hT _ h0.ow, ho _ hT _ h0.oc⟩ (fun i hi => ?_) (fun j hj => ?_) (fun a ha => ?_)
  · obtain ⟨q1, q2⟩ := h0.late c a e
    exact ⟨k2.get q1 (by rw [q2]; exact hT), ho _ hT _ q2⟩
  · obtain ⟨sb', p', o1', o2'⟩ := hh.lane i hi
    exact ⟨sb', p'.keep k2 (by rw [o1']; omega) (by rw [o2']; omega), ho _ (by omega) _ o1', ho _ (by omega) _ o2'⟩
  · show InboxR (retag own v g) (T + 10 + j) _ (B.ib j) s.an (N + 1) (s.ring j) (upN s.acks c [] j)
    have hj : j < s.cl := hj
    by_cases e : j = c
    · subst e
      rw [upN_same]
      have hb' : (w.setCell ⟨B.ib j, 1, none⟩ (.slice none 0 0)).heap[B.ib j]? = some (.cells #[.pointer (some ⟨lb, 0, none⟩), .slice none 0 0] 96 (0, 0)) := by
        rw [heap_setCell_at _ p.box]; simp
      refine ⟨lb, sb, tt, _, ⟨hb', p.ans.keep k1 (Ne.symm nb) (Ne.symm nb2), AckAt.nil _, ?_, ?_, ?_, fun b hb => (by cases hb), by have := p.le; omega⟩⟩
      · rw [retag_ne (fun e => (hrow _ e).1 rfl)]; exact p.o1
      · rw [retag_ne (fun e => (hrow _ e).2 rfl)]; exact p.o2
      · rw [retag_ne (fun e => (p.o4 _ e).2 rfl)]; exact p.o3
    · rw [upN_ne _ _ _ _ e]
      obtain ⟨lb', sb', tt', v', p'⟩ := hh.box j hj
      have hτ : T + 10 + j ≠ T + 10 + c := by omega
      refine ⟨lb', sb', tt', v', ⟨k2.get p'.box (by rw [p'.o1]; exact hτ), p'.ans.keep k2 (by rw [p'.o2]; exact hτ) (by rw [p'.o3]; exact hτ), p'.ack.keep k2 (fun b hb => by rw [(p'.o4 b hb).1]; exact hτ), ho _ hτ _ p'.o1, ho _ hτ _ p'.o2, ho _ hτ _ p'.o3, fun b hb => ⟨ho _ hτ _ (p'.o4 b hb).1, (p'.o4 b hb).2⟩, p'.le⟩⟩
  · have ha : a < s.na := ha
    obtain ⟨v', mb, l, dat, cv, cc, q⟩ := hh.acc a ha
    have hτ : T + 20 + a ≠ T + 10 + c := by omega
    exact ⟨v', mb, l, dat, cv, cc, { q with acc := q.acc.keep k2 (by rw [q.o1]; exact hτ) (by rw [q.o2]; exact hτ) (fun b hb => by rw [q.o3 b hb]; exact hτ) (fun b hb => by rw [q.o4 b hb]; exact hτ) (fun b hb => by rw [q.o5 b hb]; exact hτ), o1 := ho _ hτ _ q.o1, o2 := ho _ hτ _ q.o2, o3 := fun b hb => ho _ hτ _ (q.o3 b hb), o4 := fun b hb => ho _ hτ _ (q.o4 b hb), o5 := fun b hb => ho _ hτ _ (q.o5 b hb) }⟩

set_option maxHeartbeats 400000 in
theorem gWatch_nil (w : World) : Calls Try.prog 41 #[.pointer none] w fun e w' => e = .returned (.tuple #[.bool false, .int .i64 1]) ∧ w = w' := by
  go_enter Try.func41, Try.ntmps41
  go_wp2
  go_ret2
  exact ⟨rfl, rfl⟩

set_option maxHeartbeats 400000 in
theorem gWatch_walk (gb wb : Nat) (w : World) (h6 : w.cell? ⟨gb, 6, none⟩ = some (.pointer (some ⟨wb, 0, none⟩))) (sh : Bool) (Z : World → Prop)
    (h1 : Calls Try.prog 59 #[.pointer (some ⟨wb, 0, none⟩)] w fun e w' => e = .returned (.tuple #[]) ∧ Z w') (h2 : ∀ W, Z W → W.cell? ⟨gb, 6, none⟩ = some (.pointer (some ⟨wb, 0, none⟩)))
    (h3 : ∀ W, Z W → Calls Try.prog 35 #[.pointer (some ⟨wb, 0, none⟩)] W fun e w' => e = .returned (.bool sh) ∧ W = w') :
    Calls Try.prog 41 #[.pointer (some ⟨gb, 0, none⟩)] w fun e w' => e = .returned (.tuple #[.bool sh, .int .i64 0]) ∧ Z w' := by
  have H2 : Hid (∀ W, Z W → W.cell? ⟨gb, 6, none⟩ = some (.pointer (some ⟨wb, 0, none⟩))) := h2
  clear h2
  go_enter Try.func41, Try.ntmps41
  go_wp2_with fail
  refine h1.mono ?_
  rintro e w1 ⟨rfl, hz⟩
  have g6 := H2.out w1 hz
  go_wp2_with fail
  refine (h3 w1 hz).mono ?_
  rintro e w2 ⟨rfl, rfl⟩
  go_wp2_with fail
  go_ret2
  exact ⟨rfl, hz⟩

theorem gWatch {own : Nat → Nat} {T : Nat} {w : World} {B : GB} {s : St} {N : Nat} (h : PG own T w B s N) (hk : Ok s N) (hN : N < 1000000000000000) :
    Calls Try.prog 41 #[.pointer (some ⟨B.gb, 0, none⟩)] w fun e w' => e = .returned (.tuple #[.bool (watchS s).1, .int .i64 0]) ∧ GoesP own T w B (watchS s).2 (N + 1) w' := by
  have c6 := cellAt (i := 6) h.gate rfl
  obtain ⟨mi, ti, st, hw1, hw2⟩ := h.watch
  obtain ⟨n1, n2, _⟩ := GB.ne_gw h.core0
  have hh := h.more (Nat.le_succ N)
  have hm := hk.miss
  have hch := hk.ch
  cases hs : s.shut with
  | true =>
    rw [hs] at hw1
    refine (gWatch_walk B.gb B.wb w c6 true _ (look_not hw1 (.inr rfl)) (fun W hW => hW ▸ c6) (fun W hW => by subst hW; exact isShut_yes hw1)).mono ?_
    rintro e w' ⟨rfl, rfl⟩
    unfold watchS
    by_cases ht : s.ticked = false
    · rw [if_pos ht]
      exact ⟨by rw [hs], GoesP.same hh hk.cl.2 hk.na.2 (Keep.refl _ _)⟩
    · rw [if_neg ht]
      refine ⟨by rw [hs]; rfl, _, B, hh.rewatch (Keep.refl _ _) _ _ _ _ ⟨mi, ti, st, ?_, fun e => ?_⟩, .refl _, Same.ext own w T, Keep.refl _ _⟩
      · rw [hs]; exact hw1
      · rw [hs] at e; cases e
  | false =>
    obtain ⟨rfl, rfl, rfl⟩ := hw2 hs
    rw [hs] at hw1
    unfold watchS
    by_cases ht : s.ticked = false
    · rw [if_pos ht, hs]
      refine (gWatch_walk B.gb B.wb w c6 false _ (look_not hw1 (.inl ht)) (fun W hW => hW ▸ c6) (fun W hW => by subst hW; exact isShut_no hw1)).mono ?_
      rintro e w' ⟨rfl, rfl⟩
      exact ⟨rfl, GoesP.same hh hk.cl.2 hk.na.2 (Keep.refl _ _)⟩
    · rw [if_neg ht, hs]
      have ht2 : s.ticked = true := by simpa using ht
      rw [ht2] at hw1
      have hM : (if s.stepped = true then (0 : Int) else (s.misses : Int) + 1) = ((if s.stepped = true then 0 else s.misses + 1 : Nat) : Int) := by split <;> simp
      have hlk := look_check hw1 (by omega) (by omega)
      rw [hM] at hlk
      have hlive := hk.live hs
      have hd : decide (((if s.stepped = true then 0 else s.misses + 1 : Nat) : Int) = (s.ch : Int)) = decide (s.ch ≤ (if s.stepped = true then 0 else s.misses + 1)) := by
        split
        · rw [decide_eq_false (show ¬ ((0 : Nat) : Int) = (s.ch : Int) by omega), decide_eq_false (show ¬ s.ch ≤ 0 by omega)]
        · by_cases e : s.misses + 1 = s.ch
          · rw [decide_eq_true (show ((s.misses + 1 : Nat) : Int) = (s.ch : Int) by omega), decide_eq_true (show s.ch ≤ s.misses + 1 by omega)]
          · rw [decide_eq_false (show ¬ ((s.misses + 1 : Nat) : Int) = (s.ch : Int) by omega), decide_eq_false (show ¬ s.ch ≤ s.misses + 1 by omega)]
      rw [hd] at hlk
      refine (gWatch_walk B.gb B.wb w c6 (decide (s.ch ≤ (if s.stepped = true then 0 else s.misses + 1))) _ hlk (fun W hW => cellAt (i := 6) (hW.2.get h.gate ⟨n1, n2⟩) rfl) (fun W hW => isShut_any hW.1)).mono ?_
      rintro e w' ⟨rfl, hW, hkW⟩
      refine ⟨by rw [Bool.false_or], _, B, hh.rewatch hkW _ _ _ _ ⟨_, _, _, by rw [Bool.false_or]; exact hW, fun _ => ⟨rfl, rfl, rfl⟩⟩, .refl _, Same.ext own w T, hkW.mono (fun b _ hb => ?_)⟩
      have ow := h.ow
      have oc := h.oc
      unfold Out at hb
      exact ⟨fun e => by subst e; omega, fun e => by subst e; omega⟩

end Go.Proofs.Ytjhifhoniimfgaa

/-
  What a frame says is done: on a gate in memory.
-/
namespace Go.Proofs.Ytjhifhoniimfgaa
open Go.RowKit

/-- What is kept is no longer than it may be. -/
def Sz (s : St) : Prop := (∀ a, a < s.na → (s.book a).length < 8796093022208) ∧ (∀ c, c < s.cl → (s.acks c).length < 8796093022208)

theorem Ok.sz {s : St} {N : Nat} (h : Ok s N) (hN : N < 8796093022208) : Sz s := ⟨fun a _ => Nat.lt_of_le_of_lt (h.len a) hN, fun c _ => Nat.lt_of_le_of_lt (h.acks c) hN⟩

theorem Ok.acc {s : St} {N : Nat} (h : Ok s N) (hN : N < 1000000000000000) (hS : Sz s) (a : Nat) (ha : a < s.na) : AccOk (s.lim a) (s.book a) s.time N :=
  ⟨fun x hx => h.ents a x hx, h.opens a, hS.1 a ha, Nat.le_trans h.time (Nat.le_of_lt hN), (h.lim a ha).2⟩

/-- A new block that is nobody's: the gate is as it was. -/
theorem PG.grown {own : Nat → Nat} {T : Nat} {w : World} {B : GB} {s : St} {N : Nat} (h : PG own T w B s N) (hk : Ok s N) (O : Obj) (n : Nat) : PG (ext own w.heap.size 0) T ((w.alloc O).drewN n) B s N :=
  h.keep hk.cl.2 hk.na.2 (((Keep.refl (fun _ => True) w).alloc O).drewN n) (fun _ _ _ _ => trivial) (Same.ext own w 0)

theorem PG.grew {own : Nat → Nat} {T : Nat} {w w' : World} {B : GB} {s : St} {N : Nat} (h : PG own T w B s N) (hk : Ok s N) (hb : Below w.heap.size w w') : PG (ext own w.heap.size 0) T w' B s N :=
  h.keep hk.cl.2 hk.na.2 (Keep.ofBelow (S := fun _ => True) hb) (fun _ _ _ _ => trivial) (Same.ext own w 0)

/-- The blocks that are not of the gate's accounts. -/
def AccOut (own : Nat → Nat) (T : Nat) : Nat → Prop := fun b => own b < T + 20 ∨ T + 30 ≤ own b

/-- As GoesP; of the gate itself only accounts turned. -/
def GoesA (own : Nat → Nat) (T : Nat) (w : World) (B : GB) (s' : St) (N : Nat) (w' : World) : Prop :=
  ∃ own' B', PG own' T w' B' s' N ∧ B.Like B' ∧ Same own own' w ∧ Keep (AccOut own T) w w'

theorem GoesA.goes {own : Nat → Nat} {T : Nat} {w : World} {B : GB} {s' : St} {N : Nat} {w' : World} (h : GoesA own T w B s' N w') : GoesP own T w B s' N w' := by
  obtain ⟨own', B', h1, h2, h3, h4⟩ := h
  refine ⟨own', B', h1, h2, h3, h4.mono (fun b _ hb => ?_)⟩
  unfold Out at hb
  unfold AccOut
  omega

theorem GoesA.same {own : Nat → Nat} {T : Nat} {w w' : World} {B : GB} {s : St} {N : Nat} (h : PG own T w B s N) (hcl : s.cl ≤ 8) (hna : s.na ≤ 4) (hk : Keep (fun _ => True) w w') : GoesA own T w B s N w' :=
  ⟨own, B, h.keep hcl hna hk (fun _ _ _ _ => trivial) (Same.refl _ _), .refl _, Same.refl _ _, hk.mono (fun _ _ _ => trivial)⟩

/-- An account's step behind a new block. -/
theorem acc_goes {own : Nat → Nat} {T : Nat} {w W w' : World} {B : GB} {s : St} {N : Nat} (hk : Ok s N) (hW : Keep (fun _ => True) w W) (hP : PG (ext own w.heap.size 0) T W B s N) (a : Nat) (ha : a < s.na) (st : Bool) (es : List Ent)
    (hl : AccR (ext (ext own w.heap.size 0) W.heap.size (T + 20 + a)) (T + 20 + a) w' (B.ab a) (s.lim a) st es s.time (N + 1)) (hk' : Keep (fun b => ext own w.heap.size 0 b ≠ T + 20 + a) W w') :
    GoesA own T w B { s with stop := upN s.stop a st, book := upN s.book a es } (N + 1) w' := by
  have hna := hk.na.2
  refine ⟨_, B, (hP.more (Nat.le_succ N)).reacc hk.cl.2 a ha st es hl hk', .refl _, (Same.ext own w 0).trans (Same.ext _ W _) hW.size, (hW.mono (T := AccOut own T) (fun _ _ _ => trivial)).trans' hk' (fun b hb hO => ?_)⟩
  unfold AccOut at hO
  rw [ext_lt hb]
  omega

set_option maxHeartbeats 400000 in
theorem gDo {own : Nat → Nat} {T : Nat} {w : World} {B : GB} {s : St} {N : Nat} (h : PG own T w B s N) (hk : Ok s N) (hN : N < 1000000000000000) (hS : Sz s) (hT : 0 < T) (x : Said) (hx : SaidOk s.na x) :
    Calls Try.prog 70 #[.pointer (some ⟨B.gb, 0, none⟩), x.val] w fun e w' => e = .returned (.int .i64 (doS s x).1) ∧ GoesA own T w B (doS s x).2 (N + 1) w' := by
  have c1 := cellAt (i := 1) h.gate rfl
  have c5 := cellAt (i := 5) h.gate rfl
  have c6 := cellAt (i := 6) h.gate rfl
  have hh := h.more (Nat.le_succ N)
  have hna := hk.na.2
  have same : ∀ w', Keep (fun _ => True) w w' → GoesA own T w B s (N + 1) w' := fun w' hk' => GoesA.same hh hk.cl.2 hk.na.2 hk'
  cases x with
  | wrong c =>
    refine (do_wrong B.gb c w).mono ?_
    rintro e w' ⟨rfl, hb⟩
    exact ⟨rfl, same _ (Keep.ofBelow hb)⟩
  | kill a =>
    obtain ⟨a1, a2⟩ := hx
    obtain ⟨a, rfl⟩ := Int.eq_ofNat_of_zero_le a1
    have ha : a < s.na := by omega
    have hP := fun n => h.grown hk (.cells #[.int .i64 a] 166) n
    refine (do_kill B.gb B.ar B.ac s.na (B.ab a) a w c1 ha (h.accAt a ha) (fun w' => GoesA own T w B (doS s (.kill a)).2 (N + 1) w') (fun n => ?_)).mono ?_
    · refine (accStop ((hP n).acc a ha)).mono ?_
      rintro e w' ⟨rfl, h1, h2⟩
      refine ⟨rfl, ?_⟩
      have := acc_goes hk (((Keep.refl (fun _ => True) w).alloc _).drewN n) (hP n) a ha true (s.book a) h1 h2
      rw [upN_self] at this
      exact this
    · rintro e w' ⟨rfl, hz⟩
      exact ⟨rfl, hz⟩
  | unkill a =>
    obtain ⟨a1, a2⟩ := hx
    obtain ⟨a, rfl⟩ := Int.eq_ofNat_of_zero_le a1
    have ha : a < s.na := by omega
    have hP := fun n => h.grown hk (.cells #[.int .i64 a] 167) n
    refine (do_unkill B.gb B.ar B.ac s.na (B.ab a) a w c1 ha (h.accAt a ha) (fun w' => GoesA own T w B (doS s (.unkill a)).2 (N + 1) w') (fun n => ?_)).mono ?_
    · refine (accGoOn ((hP n).acc a ha)).mono ?_
      rintro e w' ⟨rfl, h1, h2⟩
      refine ⟨rfl, ?_⟩
      have := acc_goes hk (((Keep.refl (fun _ => True) w).alloc _).drewN n) (hP n) a ha false (s.book a) h1 h2
      rw [upN_self] at this
      exact this
    · rintro e w' ⟨rfl, hz⟩
      exact ⟨rfl, hz⟩
  | cancel a num =>
    obtain ⟨a1, a2⟩ := hx
    obtain ⟨a, rfl⟩ := Int.eq_ofNat_of_zero_le a1
    have ha : a < s.na := by omega
    have hP := fun n => h.grown hk (.cells #[.int .i64 a, .int .i64 num] 163) n
    refine (do_cancel B.gb B.ar B.ac s.na (B.ab a) a num w c1 ha (h.accAt a ha) (doS s (.cancel a num)).1 (fun w' => GoesA own T w B (doS s (.cancel a num)).2 (N + 1) w') (fun n => ?_)).mono ?_
    · refine (accCancel ((hP n).acc a ha) (hk.acc hN hS a ha) num).mono ?_
      rintro e w' ⟨rfl, h1, h2⟩
      rw [doS_cancel, Int.toNat_natCast]
      have e1 : ((s.book a).filter (isOpen s.time)).any (fun x => x.order == num) = (s.opens a).any (fun x => x.order == num) := rfl
      rw [e1] at h1 ⊢
      have := acc_goes hk (((Keep.refl (fun _ => True) w).alloc _).drewN n) (hP n) a ha (s.stop a) _ h1 h2
      rw [upN_self] at this
      cases hany : (s.opens a).any (fun x => x.order == num)
      · rw [hany] at this
        refine ⟨by simp, ?_⟩
        simp only [Bool.false_eq_true, if_false, upN_self] at this ⊢
        exact this
      · rw [hany] at this
        refine ⟨by simp, ?_⟩
        simp only [if_true] at this ⊢
        exact this
    · rintro e w' ⟨rfl, hz⟩
      exact ⟨rfl, hz⟩
  | new a sd num p q l =>
    obtain ⟨a1, a2, hsd, p1, p2, q1, q2, l1, l2⟩ := hx
    obtain ⟨a, rfl⟩ := Int.eq_ofNat_of_zero_le a1
    obtain ⟨p, rfl⟩ := Int.eq_ofNat_of_zero_le (show 0 ≤ p by omega)
    obtain ⟨q, rfl⟩ := Int.eq_ofNat_of_zero_le (show 0 ≤ q by omega)
    have ha : a < s.na := by omega
    rw [doS_new, Int.toNat_natCast, Int.toNat_natCast, Int.toNat_natCast]
    have hP := fun n => h.grown hk (newO a sd num p q l) n
    have hP0 : PG (ext own w.heap.size 0) T (w.alloc (newO a sd num p q l)) B s N := by have := hP 0; rwa [World.drewN_zero] at this
    obtain ⟨mi, ti, st, hw1, hw2⟩ := hP0.watch
    have hs := isShut_any hw1
    rcases Bool.eq_false_or_eq_true s.shut with hsh | hsh
    · have hv : newsV s a sd num p q = 9 := by unfold newsV; rw [if_pos hsh]
      rw [hsh] at hs
      rw [hv]
      refine (do_shut B.gb B.wb a sd num p q l w c6 hs).mono ?_
      rintro e w' ⟨rfl, hb⟩
      exact ⟨rfl, same _ (Keep.ofBelow hb)⟩
    · have hv : newsV s a sd num p q = accCode (s.lim a) (s.stop a) (s.book a) s.time sd num p q := by unfold newsV; rw [if_neg (by rw [hsh]; simp)]; rfl
      rw [hsh] at hs
      rw [hv]
      have hnew : ∀ n, ((w.alloc (newO a sd num p q l)).drewN n).heap[w.heap.size]? = some (newO a sd num p q l) := fun n => heap_alloc_new w _
      have hDo : ∀ W, PG (ext own w.heap.size 0) T W B s N → W.heap[w.heap.size]? = some (newO a sd num p q l) → DoS B.gb B.ar B.ac s.na (B.ab a) s.time a sd num p q l w.heap.size W := fun W hW hb =>
        ⟨cellAt (i := 1) hW.gate rfl, cellAt (i := 5) hW.gate rfl, hW.accAt a ha, cellAt (i := 0) hb rfl, cellAt (i := 1) hb rfl, cellAt (i := 2) hb rfl, cellAt (i := 3) hb rfl, cellAt (i := 4) hb rfl, cellAt (i := 5) hb rfl⟩
      refine (do_new B.gb B.wb B.ar B.ac s.na (B.ab a) s.time a sd num p q l w c6 ha (fun n => hDo _ (hP n) (hnew n)) (accCode (s.lim a) (s.stop a) (s.book a) s.time sd num p q)
        (fun w' => GoesA own T w B (if accCode (s.lim a) (s.stop a) (s.book a) s.time sd num p q = 0 then { s with book := upN s.book a (s.book a ++ [⟨num, sd, p, q, s.time, s.time + l, false⟩]) } else s) (N + 1) w' ∧ DoS B.gb B.ar B.ac s.na (B.ab a) s.time a sd num p q l w.heap.size w')
        hs (fun n => ?_) (fun W hW => hW.2)).mono ?_
      · refine (accOpen ((hP n).acc a ha) (hk.acc hN hS a ha) a sd num l p q hsd (by omega) (by omega) ⟨l1, l2⟩).mono ?_
        rintro e w' ⟨rfl, h1, h2⟩
        have hg := acc_goes hk (((Keep.refl (fun _ => True) w).alloc _).drewN n) (hP n) a ha (s.stop a) _ h1 h2
        rw [upN_self] at hg
        refine ⟨rfl, ?_, ?_⟩
        · by_cases hz : accCode (s.lim a) (s.stop a) (s.book a) s.time sd num p q = 0
          · rw [if_pos hz] at hg ⊢; exact hg
          · rw [if_neg hz] at hg ⊢; rw [upN_self] at hg; exact hg
        · have hlt := block_lt h.gate
          have hga := h2.get (hP n).gate (by rw [(hP n).og]; omega)
          obtain ⟨cs, r1, r2⟩ := (hP n).arow
          have hra := h2.get r1 (by rw [(hP n).oa]; omega)
          have hnb := h2.get (hnew n) (by rw [ext_ge (Nat.le_refl _)]; omega)
          exact ⟨cellAt (i := 1) hga rfl, cellAt (i := 5) hga rfl, cellAt hra (r2 a ha), cellAt (i := 0) hnb rfl, cellAt (i := 1) hnb rfl, cellAt (i := 2) hnb rfl, cellAt (i := 3) hnb rfl, cellAt (i := 4) hnb rfl, cellAt (i := 5) hnb rfl⟩
      · rintro e w' ⟨rfl, hz, _⟩
        exact ⟨rfl, hz⟩

end Go.Proofs.Ytjhifhoniimfgaa

/-
  The core's steps: what was taken is done and answered.
-/
namespace Go.Proofs.Ytjhifhoniimfgaa
open Go.RowKit

def takO (place client : Int) (fr : ByteArray) : Obj := .cells #[.int .i64 place, .int .i64 client, .string fr] 101

/-- What the walk of answer reads. -/
def AnsS (gb ar ac na tb : Nat) (place : Int) (fr : ByteArray) (W : World) : Prop :=
  W.cell? ⟨gb, 1, none⟩ = some (.slice (some ⟨ar, 0, none⟩) na ac) ∧ W.cell? ⟨tb, 0, none⟩ = some (.int .i64 place) ∧ W.cell? ⟨tb, 2, none⟩ = some (.string fr)

theorem AnsS.set {gb ar ac na tb : Nat} {place : Int} {fr : ByteArray} {W : World} (h : AnsS gb ar ac na tb place fr W) (hg : gb < tb) (u v : Value) : AnsS gb ar ac na tb place fr ((W.setCell ⟨tb + 1, 0, none⟩ u).setCell ⟨tb + 1, 1, none⟩ v) := by
  have hk : Keep (fun b => b ≠ tb + 1) W ((W.setCell ⟨tb + 1, 0, none⟩ u).setCell ⟨tb + 1, 1, none⟩ v) := ((Keep.refl _ W).setCell _ (fun _ h => h rfl) _).setCell _ (fun _ h => h rfl) _
  obtain ⟨h1, h2, h3⟩ := h
  have l1 := World.block_lt_of_cell? W _ h1
  have l2 := World.block_lt_of_cell? W _ h2
  refine ⟨?_, ?_, ?_⟩
  · rw [World.cell?_of_block (w := W) (hk.block gb l1 (by show gb ≠ tb + 1; omega))]; exact h1
  · rw [World.cell?_of_block (w := W) (hk.block tb l2 (by show tb ≠ tb + 1; omega))]; exact h2
  · rw [World.cell?_of_block (w := W) (hk.block tb l2 (by show tb ≠ tb + 1; omega))]; exact h3

theorem two_set {w1 : World} {k : Nat} {U : TypeId} {x y : Value} (h : w1.heap[k]? = some (.cells #[x, y] U (0, 0))) (u v : Value) :
    ((w1.setCell ⟨k, 0, none⟩ u).setCell ⟨k, 1, none⟩ v).cell? ⟨k, 0, none⟩ = some u ∧ ((w1.setCell ⟨k, 0, none⟩ u).setCell ⟨k, 1, none⟩ v).cell? ⟨k, 1, none⟩ = some v := by
  have h2 : ((w1.setCell ⟨k, 0, none⟩ u).setCell ⟨k, 1, none⟩ v).heap[k]? = some (.cells #[u, v] U (0, 0)) := by
    rw [heap_setCell_at _ (heap_setCell_at _ h)]
    simp
  exact ⟨cellAt (i := 0) h2 rfl, cellAt (i := 1) h2 rfl⟩

set_option maxRecDepth 100000 in
set_option maxHeartbeats 1000000 in
theorem answer_walk (gb ar ac na : Nat) (lane place client : Int) (fr : ByteArray) (w : World) (h1 : w.cell? ⟨gb, 1, none⟩ = some (.slice (some ⟨ar, 0, none⟩) na ac)) (sv : Value) (code : Int) (Y Z : World → Prop)
    (hr : ∀ n, Calls Try.prog 69 #[.int .i64 lane, .int .i64 na, .string fr] (((w.alloc (takO place client fr)).alloc ansO).drewN n) fun e w' => e = .returned sv ∧ Y w')
    (hS : ∀ n, AnsS gb ar ac na w.heap.size place fr (((w.alloc (takO place client fr)).alloc ansO).drewN n))
    (hY : ∀ W, Y W → AnsS gb ar ac na w.heap.size place fr W ∧ W.heap[w.heap.size + 1]? = some ansO)
    (hd : ∀ W n, Y W → Calls Try.prog 70 #[.pointer (some ⟨gb, 0, none⟩), sv] (W.drewN n) fun e w' => e = .returned (.int .i64 code) ∧ Z w')
    (hZ : ∀ W, Z W → AnsS gb ar ac na w.heap.size place fr W ∧ W.heap[w.heap.size + 1]? = some ansO) :
    Calls Try.prog 63 #[.pointer (some ⟨gb, 0, none⟩), .int .i64 lane, .agg #[.int .i64 place, .int .i64 client, .string fr]] w fun e w' => e = .returned (.agg #[.int .i64 place, .int .i64 code]) ∧ ∃ W, Z W ∧ Keep (fun k => k ≠ w.heap.size + 1) W w' := by
  have hlt := World.block_lt_of_cell? w _ h1
  unfold takO ansO at hr hS
  have HS : Hid (∀ n, AnsS gb ar ac na w.heap.size place fr (((w.alloc (.cells #[.int .i64 place, .int .i64 client, .string fr] 101)).alloc (.cells #[.int .i64 0, .int .i64 0] 66)).drewN n)) := hS
  have HY : Hid (∀ W, Y W → AnsS gb ar ac na w.heap.size place fr W ∧ W.heap[w.heap.size + 1]? = some ansO) := hY
  have HZ : Hid (∀ W, Z W → AnsS gb ar ac na w.heap.size place fr W ∧ W.heap[w.heap.size + 1]? = some ansO) := hZ
  clear hS hY hZ
  go_enter Try.func63, Try.ntmps63
  go_wp2_with fail
  refine wp_region_noPanic ?_
  refine wp_region_held_drew (S := AnsS gb ar ac na w.heap.size place fr) (by kernel_rfl) (HS.out 1) (fun _ => ?_)
  refine wpAnyH_take (i := 0) (v := ?_) rfl (by kernel_rfl) (by kernel_rfl) (by kernel_rfl) (fun _ _ _ h => h) (Or.inl ⟨by rfl, ?_⟩) (HS.out _) ?_
  rotate_left
  (intro w hSw; obtain ⟨s0, s1, s2⟩ := hSw; go_simp)
  try with_reducible rfl
  simp only [Act.put]
  refine wpAnyH_take (i := 1) (v := ?_) rfl (by kernel_rfl) (by kernel_rfl) (by kernel_rfl) (fun _ _ _ h => h) (Or.inl ⟨by rfl, ?_⟩) (HS.out _) ?_
  rotate_left
  (intro w hSw; obtain ⟨s0, s1, s2⟩ := hSw; go_simp)
  try with_reducible rfl
  simp only [Act.put]
  refine wpAnyH_take (i := 2) (v := ?_) rfl (by kernel_rfl) (by kernel_rfl) (by kernel_rfl) (fun _ _ _ h => h) (Or.inl ⟨by rfl, ?_⟩) (HS.out _) ?_
  rotate_left
  (intro w hSw; obtain ⟨s0, s1, s2⟩ := hSw; go_simp)
  try with_reducible rfl
  simp only [Act.put]
  refine wpAnyH_take (i := 3) (v := ?_) rfl (by kernel_rfl) (by kernel_rfl) (by kernel_rfl) (fun _ _ _ h => h) (Or.inl ⟨by rfl, ?_⟩) (HS.out _) ?_
  rotate_left
  (intro w hSw; obtain ⟨s0, s1, s2⟩ := hSw; go_simp)
  try with_reducible rfl
  simp only [Act.put]
  refine wpAnyH_take (i := 4) (v := ?_) rfl (by kernel_rfl) (by kernel_rfl) (by kernel_rfl) (fun _ _ _ h => h) (Or.inl ⟨by rfl, ?_⟩) (HS.out _) ?_
  rotate_left
  (intro w hSw; obtain ⟨s0, s1, s2⟩ := hSw; go_simp)
  try with_reducible rfl
  simp only [Act.put]
  refine wpAnyH_take (i := 5) (v := ?_) rfl (by kernel_rfl) (by kernel_rfl) (by kernel_rfl) (fun _ _ _ h => h) (Or.inl ⟨by rfl, ?_⟩) (HS.out _) ?_
  rotate_left
  (intro w hSw; obtain ⟨s0, s1, s2⟩ := hSw; go_simp)
  try with_reducible rfl
  simp only [Act.put]
  refine wpAnyH_take (i := 6) (v := ?_) rfl (by kernel_rfl) (by kernel_rfl) (by kernel_rfl) (fun _ _ _ h => h) (Or.inl ⟨by rfl, ?_⟩) (HS.out _) ?_
  rotate_left
  (intro w hSw; obtain ⟨s0, s1, s2⟩ := hSw; go_simp)
  try with_reducible rfl
  simp only [Act.put]
  refine wpAnyH_take (i := 7) (v := ?_) rfl (by kernel_rfl) (by kernel_rfl) (by kernel_rfl) (fun _ _ _ h => h) (Or.inl ⟨by rfl, ?_⟩) (HS.out _) ?_
  rotate_left
  (intro w hSw; obtain ⟨s0, s1, s2⟩ := hSw; go_simp)
  try with_reducible rfl
  simp only [Act.put]
  refine wpAnyH_ready (rs := [8]) (by kernel_rfl) (by simp) ?_
  refine AllReadyH.cons rfl (fun K hK => ?_) AllReadyH.nil
  go_simp
  refine (hr 1).mono ?_
  rintro e w1 ⟨rfl, hy⟩
  go_wp2_with fail
  refine hK.out _ _ (HY.out w1 hy).1 (fun _ => ?_)
  clear hK K
  refine wpAnyH_ready (rs := [9]) (by kernel_rfl) (by simp) ?_
  refine AllReadyH.cons rfl (fun K hK => ?_) AllReadyH.nil
  go_simp
  refine hK.out _ _ (HY.out w1 hy).1 (fun _ => ?_)
  clear hK K
  refine wpAnyH_done (by kernel_rfl) (NoPanic.normal ?_) _
  have y2 := (HY.out w1 hy).2
  obtain ⟨x0, x1, x2⟩ := (HY.out w1 hy).1
  go_wp2_with fail
  refine wp_region_noPanic ?_
  refine wp_region_held_drew (S := AnsS gb ar ac na w.heap.size place fr) (by kernel_rfl) (HY.out w1 hy).1 (fun _ => ?_)
  refine wpAnyH_take (i := 0) (v := ?_) rfl (by kernel_rfl) (by kernel_rfl) (by kernel_rfl) (fun _ _ _ h => h) (Or.inl ⟨by rfl, ?_⟩) (HY.out w1 hy).1 ?_
  rotate_left
  (intro w hSw; obtain ⟨s0, s1, s2⟩ := hSw; go_simp)
  try with_reducible rfl
  simp only [Act.put]
  refine wpAnyH_take (i := 1) (v := ?_) rfl (by kernel_rfl) (by kernel_rfl) (by kernel_rfl) (fun _ _ _ h => h) (Or.inl ⟨by rfl, ?_⟩) (HY.out w1 hy).1 ?_
  rotate_left
  (intro w hSw; obtain ⟨s0, s1, s2⟩ := hSw; go_simp)
  try with_reducible rfl
  simp only [Act.put]
  refine wpAnyH_take (i := 2) (v := ?_) rfl (by kernel_rfl) (by kernel_rfl) (by kernel_rfl) (fun _ _ _ h => h) (Or.inl ⟨by rfl, ?_⟩) (HY.out w1 hy).1 ?_
  rotate_left
  (intro w hSw; obtain ⟨s0, s1, s2⟩ := hSw; go_simp)
  try with_reducible rfl
  simp only [Act.put]
  refine wpAnyH_take (i := 3) (v := ?_) rfl (by kernel_rfl) (by kernel_rfl) (by kernel_rfl) (fun _ _ _ h => h) (Or.inl ⟨by rfl, ?_⟩) (HY.out w1 hy).1 ?_
  rotate_left
  (intro w hSw; obtain ⟨s0, s1, s2⟩ := hSw; go_simp)
  try with_reducible rfl
  simp only [Act.put]
  refine wpAnyH_ready (rs := [4]) (by kernel_rfl) (by simp) ?_
  refine AllReadyH.cons rfl (fun K hK => ?_) AllReadyH.nil
  go_simp
  refine (hd w1 1 hy).mono ?_
  rintro e w2 ⟨rfl, hz⟩
  have hx := (HZ.out w2 hz).2
  have z0 := cellAt (i := 0) hx rfl
  have z1 := cellAt (i := 1) hx rfl
  have f0 := frozenAt (i := 0) hx
  have f1 := frozenAt (i := 1) hx
  have HX : Hid (w2.heap[w.heap.size + 1]? = some (.cells #[.int .i64 0, .int .i64 0] 66 (0, 0))) := hx
  clear hx
  go_wp2_with fail
  refine hK.out _ _ (HZ.out w2 hz).1 (fun _ => ?_)
  clear hK K
  refine wpAnyH_take (i := 5) (v := ?_) rfl (by kernel_rfl) (by kernel_rfl) (by kernel_rfl) (fun _ _ _ h => h) (Or.inl ⟨by rfl, ?_⟩) (HZ.out w2 hz).1 ?_
  rotate_left
  (intro w hSw; obtain ⟨s0, s1, s2⟩ := hSw; go_simp)
  try with_reducible rfl
  simp only [Act.put]
  refine wpAnyH_ready (rs := [6]) (by kernel_rfl) (by simp) ?_
  refine AllReadyH.cons rfl (fun K hK => ?_) AllReadyH.nil
  go_simp
  refine hK.out _ _ ((HZ.out w2 hz).1.set hlt _ _) (fun _ => ?_)
  clear hK K
  refine wpAnyH_done (by kernel_rfl) (NoPanic.normal ?_) _
  have R := two_set HX.out (.int .i64 place) (.int .i64 code)
  go_wp2_with fail
  refine bodyPost_ret (v := .agg #[.int .i64 place, .int .i64 code]) (by simp [results, Try.results63, go_sem, R.1, R.2]) rfl ⟨rfl, w2, hz, ?_⟩
  exact ((Keep.refl (fun k => k ≠ w.heap.size + 1) w2).setCell _ (fun _ h => h rfl) _).setCell _ (fun _ h => h rfl) _

end Go.Proofs.Ytjhifhoniimfgaa

/-
  The core's steps on a gate in memory.
-/
namespace Go.Proofs.Ytjhifhoniimfgaa
open Go.RowKit

theorem do_na (s : St) (x : Said) : (doS s x).2.na = s.na := by rw [do_same]

/-- A frame is done, and its answer made. -/
theorem gAnswer {own : Nat → Nat} {T : Nat} {w : World} {B : GB} {s : St} {N : Nat} (h : PG own T w B s N) (hk : Ok s N) (hN : N < 1000000000000000) (hS : Sz s) (hT : 0 < T) (i : Nat) (hi : i < 2) (place client : Int) (fr : ByteArray) :
    Calls Try.prog 63 #[.pointer (some ⟨B.gb, 0, none⟩), .int .i64 i, .agg #[.int .i64 place, .int .i64 client, .string fr]] w fun e w' =>
      e = .returned (.agg #[.int .i64 place, .int .i64 (doesS s i fr).1]) ∧ GoesA own T w B (doesS s i fr).2 (N + 1) w' := by
  have c1 := cellAt (i := 1) h.gate rfl
  obtain ⟨W0, hW0⟩ : ∃ W0, W0 = (w.alloc (takO place client fr)).alloc ansO := ⟨_, rfl⟩
  have k0 : Keep (fun _ => True) w W0 := by rw [hW0]; exact ((Keep.refl _ w).alloc _).alloc _
  have hlt := block_lt h.gate
  have t0 : W0.heap[w.heap.size]? = some (takO place client fr) := by rw [hW0, Below.heap_alloc _ _ _ (by simp)]; exact heap_alloc_new w _
  have r0 : W0.heap[w.heap.size + 1]? = some ansO := by
    rw [hW0]
    have := heap_alloc_new (w.alloc (takO place client fr)) ansO
    rwa [World.size_alloc] at this
  have hP : ∀ W, Keep (fun _ => True) W0 W → PG (ext own w.heap.size 0) T W B s N := fun W hW => h.keep hk.cl.2 hk.na.2 (k0.trans hW) (fun _ _ _ _ => trivial) (Same.ext own w 0)
  have hA : ∀ W, Keep (fun _ => True) W0 W → AnsS B.gb B.ar B.ac s.na w.heap.size place fr W := fun W hW =>
    ⟨cellAt (i := 1) (hP W hW).gate rfl, cellAt (i := 0) (hW.get t0 trivial) rfl, cellAt (i := 2) (hW.get t0 trivial) rfl⟩
  have hna : (doS s (saidOf s.na i fr)).2.na = s.na := do_na _ _
  refine (answer_walk B.gb B.ar B.ac s.na i place client fr w c1 (saidOf s.na i fr).val (doesS s i fr).1 (fun W => Keep (fun _ => True) W0 W)
    (fun W => ∃ own' B', PG own' T W B' (doesS s i fr).2 (N + 1) ∧ B.Like B' ∧ Same own own' w ∧ Keep (AccOut own T) w W ∧ own' (w.heap.size + 1) = 0 ∧ AnsS B.gb B.ar B.ac s.na w.heap.size place fr W ∧ W.heap[w.heap.size + 1]? = some ansO) (fun n => ?_) (fun n => ?_) (fun W hW => ⟨hA W hW, hW.get r0 trivial⟩) (fun W n hW => ?_) (fun W ⟨_, _, _, _, _, _, _, hW⟩ => hW)).mono ?_
  · rw [← hW0]
    refine (read_any s.na i fr (W0.drewN n) (by omega)).mono ?_
    rintro e w' ⟨rfl, hb⟩
    exact ⟨rfl, ((Keep.refl _ W0).drewN n).trans (Keep.ofBelow hb)⟩
  · rw [← hW0]
    exact hA _ ((Keep.refl _ W0).drewN n)
  · have hWn := hW.drewN n
    refine (gDo (hP _ hWn) hk hN hS hT (saidOf s.na i fr) (said_ok _ _ _)).mono ?_
    rintro e w' ⟨rfl, own', B', g1, g2, g3, g4⟩
    have hr := hWn.get r0 trivial
    have ht := g4.get (hWn.get t0 trivial) (Or.inl (by rw [ext_ge (Nat.le_refl _)]; omega))
    refine ⟨rfl, own', B', g1, g2, (Same.ext own w 0).trans g3 (k0.trans hWn).size, ?_, ?_, ?_, ?_⟩
    · refine ((k0.trans hWn).mono (T := AccOut own T) (fun _ _ _ => trivial)).trans' g4 (fun b hb hO => ?_)
      unfold AccOut at hO ⊢
      rw [ext_lt hb]; exact hO
    · rw [g3 _ (block_lt hr), ext_ge (by omega)]
    · obtain ⟨hb, rfl⟩ := g2
      have hg1 := cellAt (i := 1) g1.gate rfl
      rw [hna] at hg1
      exact ⟨hg1, cellAt (i := 0) ht rfl, cellAt (i := 2) ht rfl⟩
    · exact g4.get hr (Or.inl (by rw [ext_ge (by omega)]; omega))
  · rintro e w' ⟨rfl, W, ⟨own', B', g1, g2, g3, g4, g5, _, _⟩, hkW⟩
    have hd := do_ok hk (saidOf s.na i fr) (said_ok _ _ _)
    refine ⟨rfl, own', B', g1.keep hd.cl.2 hd.na.2 hkW (fun b _ h1 h2 e => ?_) (Same.refl _ _), g2, g3, g4.trans' hkW (fun b hb _ => ?_)⟩
    · rw [e, g5] at h1; omega
    · show b ≠ w.heap.size + 1
      omega

end Go.Proofs.Ytjhifhoniimfgaa

