import Derived.Test.YtjhifhoniimfgaaGreatG18
import Derived.Test.YtjhifhoniimfgaaGreatG17
import Derived.Test.YtjhifhoniimfgaaGreatG16
/-
  The program's Acks and Watch, on a gate in memory.
-/
namespace Go.Proofs.YtjhifhoniimfgaaGreat
open Go.RowKit

/-- A row goes over to the tag g. -/
def retag (own : Nat → Nat) (v : Value) (g : Nat) : Nat → Nat := fun b => if v.ownBlock = some b then g else own b

theorem retag_ne {own : Nat → Nat} {v : Value} {g b : Nat} (h : v.ownBlock ≠ some b) : retag own v g b = own b := if_neg h
theorem retag_eq {own : Nat → Nat} {v : Value} {g b : Nat} (h : v.ownBlock = some b) : retag own v g b = g := if_pos h

theorem gAcks {own : Nat → Nat} {T : Nat} {w : World} {B : GB} {s : St} {N : Nat} (h : PG own T w B s N) (hk : Ok s N) (g : Nat) (client : Int) :
    Calls Tryz.prog 26 #[.pointer (some ⟨B.gb, 0, none⟩), .int .i64 client] w fun e w' =>
      ∃ v, e = .returned (.tuple #[v, .int .i64 (acksS s client).2.1]) ∧ AckAt w' v (acksS s client).1 ∧ (∀ b, v.ownBlock = some b → T ≤ own b ∧ own b < T + 100) ∧
        PG (retag own v g) T w' B (acksS s client).2.2 (N + 1) ∧ w'.heap.size = w.heap.size ∧ Keep (Out own T) w w' := by
  have c0 := cellAt (i := 0) h.gate rfl
  unfold acksS
  by_cases h1 : refuse s.cl client 0 ≠ 0
  · rw [if_pos h1, refuse_zero]
    rw [refuse_zero] at h1
    refine (gAcks_no B.gb _ s.cl _ client w c0 (by simpa using h1)).mono ?_
    rintro e w' ⟨rfl, rfl⟩
    refine ⟨_, rfl, AckAt.nil _, fun b hb => (by cases hb), ?_, rfl, Keep.refl _ _⟩
    exact (h.more (Nat.le_succ N)).keep hk.cl.2 hk.na.2 (Keep.refl (fun _ => True) w) (fun _ _ _ _ => trivial) (fun b _ => retag_ne (by simp [Value.ownBlock]))
  rw [if_neg h1]
  obtain ⟨q1, q2, _⟩ := refuse_lane (Classical.not_not.1 h1)
  obtain ⟨c, rfl⟩ := Int.eq_ofNat_of_zero_le q1
  rw [Int.toNat_natCast]
  have hc : c < s.cl := by omega
  have hc8 := hk.cl.2
  have hn4 := hk.na.2
  obtain ⟨lb, sb, tt, v, p⟩ := h.box c hc
  have hbox := h.boxAt c hc
  obtain ⟨va, vc, hv⟩ := p.ack.slice
  refine (gAcks_box B.gb B.ir B.ic s.cl (B.ib c) _ c v w c0 hc hbox p.box ⟨va, _, vc, hv⟩).mono ?_
  rintro e w' ⟨rfl, rfl⟩
  have l1 := block_lt p.box
  have l2 := p.ans.lt
  have nb : B.ib c ≠ lb := block_ne p.box p.ans.ring (by decide)
  have nb2 : B.ib c ≠ sb := by obtain ⟨cs, q, _⟩ := p.ans.slots; exact block_ne p.box q (by decide)
  have hrow : ∀ b, v.ownBlock = some b → b ≠ B.ib c ∧ b ≠ lb := fun b hb => by
    rcases p.ack.2 with ⟨q, _⟩ | ⟨g, cap, cur, q, _, q1, _⟩
    · rw [q] at hb; cases hb
    · rw [q] at hb
      simp [Value.ownBlock] at hb
      subst hb
      exact ⟨block_ne q1 p.box (by decide), block_ne q1 p.ans.ring (by decide)⟩
  have k1 : Keep (fun b => b ≠ B.ib c) w (w.setCell ⟨B.ib c, 1, none⟩ (.slice none 0 0)) := (Keep.refl _ w).setCell _ (fun _ h => h rfl) _
  have k2 : Keep (fun b => own b ≠ T + 10 + c) w (w.setCell ⟨B.ib c, 1, none⟩ (.slice none 0 0)) := k1.mono (fun b _ hb e => hb (e ▸ p.o1))
  have hown : ∀ b, own b ≠ T + 10 + c → retag own v g b = own b := fun b hb => retag_ne (fun e => hb (p.o4 b e).1)
  have ho : ∀ τ, τ ≠ T + 10 + c → ∀ b, own b = τ → retag own v g b = τ := fun τ hτ b hb => by rw [hown b (by omega)]; exact hb
  refine ⟨v, rfl, p.ack.keep k1 (fun b hb => (hrow b hb).1), fun b hb => by have := (p.o4 b hb).1; omega, ?_, size_setCell _ _ _, k2.out (by omega) (by omega)⟩
  have hh := h.more (Nat.le_succ N)
  -- the parts that are not this inbox
  have hs : ∀ τ, τ ≠ T + 10 + c → ∀ b, b < w.heap.size → own b = τ → own b ≠ T + 10 + c := fun τ hτ b _ e => by omega
  have h0 := hh.core0
  obtain ⟨ci, hi1, hi2⟩ := h0.irow
  obtain ⟨ca, ha1, ha2⟩ := h0.arow
  obtain ⟨mi, ti, st, hw1, hw2⟩ := h0.watch
  have hT : T ≠ T + 10 + c := by omega
  refine Core0.pg ⟨k2.get h0.gate (by rw [h0.og]; exact hT), ⟨ci, k2.get hi1 (by rw [h0.oi]; exact hT), hi2⟩, ⟨ca, k2.get ha1 (by rw [h0.oa]; exact hT), ha2⟩, fun c a e => ?_, ⟨mi, ti, st, hw1.keep k2 (by rw [h0.ow]; exact hT) (by rw [h0.oc]; exact hT), hw2⟩, ho _ hT _ h0.og, ho _ hT _ h0.oi, ho _ hT _ h0.oa, ho _ hT _ h0.ow, ho _ hT _ h0.oc⟩ (fun i hi => ?_) (fun j hj => ?_) (fun a ha => ?_)
  · obtain ⟨q1, q2⟩ := h0.late c a e
    exact ⟨k2.get q1 (by rw [q2]; exact hT), ho _ hT _ q2⟩
  · obtain ⟨sb', p', o1', o2'⟩ := hh.lane i hi
    exact ⟨sb', p'.keep k2 (by rw [o1']; omega) (by rw [o2']; omega), ho _ (by omega) _ o1', ho _ (by omega) _ o2'⟩
  · show InboxR (retag own v g) (T + 10 + j) _ (B.ib j) s.an (N + 1) (s.ring j) (upN s.acks c [] j)
    have hj : j < s.cl := hj
    by_cases e : j = c
    · subst e
      rw [upN_same]
      have hb' : (w.setCell ⟨B.ib j, 1, none⟩ (.slice none 0 0)).heap[B.ib j]? = some (.cells #[.pointer (some ⟨lb, 0, none⟩), .slice none 0 0] 87 (0, 0)) := by
        rw [heap_setCell_at _ p.box]; simp
      refine ⟨lb, sb, tt, _, ⟨hb', p.ans.keep k1 (Ne.symm nb) (Ne.symm nb2), AckAt.nil _, ?_, ?_, ?_, fun b hb => (by cases hb), by have := p.le; omega⟩⟩
      · rw [retag_ne (fun e => (hrow _ e).1 rfl)]; exact p.o1
      · rw [retag_ne (fun e => (hrow _ e).2 rfl)]; exact p.o2
      · rw [retag_ne (fun e => (p.o4 _ e).2 rfl)]; exact p.o3
    · rw [upN_ne _ _ _ _ e]
      obtain ⟨lb', sb', tt', v', p'⟩ := hh.box j hj
      have hτ : T + 10 + j ≠ T + 10 + c := by omega
      refine ⟨lb', sb', tt', v', ⟨k2.get p'.box (by rw [p'.o1]; exact hτ), p'.ans.keep k2 (by rw [p'.o2]; exact hτ) (by rw [p'.o3]; exact hτ), p'.ack.keep k2 (fun b hb => by rw [(p'.o4 b hb).1]; exact hτ), ho _ hτ _ p'.o1, ho _ hτ _ p'.o2, ho _ hτ _ p'.o3, fun b hb => ⟨ho _ hτ _ (p'.o4 b hb).1, (p'.o4 b hb).2⟩, p'.le⟩⟩
  · have ha : a < s.na := ha
    obtain ⟨v', mb, l, dat, cv, cc, q⟩ := hh.acc a ha
    have hτ : T + 20 + a ≠ T + 10 + c := by omega
    exact ⟨v', mb, l, dat, cv, cc, { q with acc := q.acc.keep k2 (by rw [q.o1]; exact hτ) (by rw [q.o2]; exact hτ) (fun b hb => by rw [q.o3 b hb]; exact hτ) (fun b hb => by rw [q.o4 b hb]; exact hτ) (fun b hb => by rw [q.o5 b hb]; exact hτ), o1 := ho _ hτ _ q.o1, o2 := ho _ hτ _ q.o2, o3 := fun b hb => ho _ hτ _ (q.o3 b hb), o4 := fun b hb => ho _ hτ _ (q.o4 b hb), o5 := fun b hb => ho _ hτ _ (q.o5 b hb) }⟩

set_option maxHeartbeats 400000 in
theorem gWatch_nil (w : World) : Calls Tryz.prog 31 #[.pointer none] w fun e w' => e = .returned (.tuple #[.bool false, .int .i64 1]) ∧ w = w' := by
  go_enter Tryz.func31, Tryz.ntmps31
  go_wp2
  go_ret2
  exact ⟨rfl, rfl⟩

set_option maxHeartbeats 400000 in
theorem gWatch_walk (gb wb : Nat) (w : World) (h6 : w.cell? ⟨gb, 6, none⟩ = some (.pointer (some ⟨wb, 0, none⟩))) (sh : Bool) (Z : World → Prop)
    (h1 : Calls Tryz.prog 59 #[.pointer (some ⟨wb, 0, none⟩)] w fun e w' => e = .returned (.tuple #[]) ∧ Z w') (h2 : ∀ W, Z W → W.cell? ⟨gb, 6, none⟩ = some (.pointer (some ⟨wb, 0, none⟩)))
    (h3 : ∀ W, Z W → Calls Tryz.prog 39 #[.pointer (some ⟨wb, 0, none⟩)] W fun e w' => e = .returned (.bool sh) ∧ W = w') :
    Calls Tryz.prog 31 #[.pointer (some ⟨gb, 0, none⟩)] w fun e w' => e = .returned (.tuple #[.bool sh, .int .i64 0]) ∧ Z w' := by
  have H2 : Hid (∀ W, Z W → W.cell? ⟨gb, 6, none⟩ = some (.pointer (some ⟨wb, 0, none⟩))) := h2
  clear h2
  go_enter Tryz.func31, Tryz.ntmps31
  go_wp2_with fail
  refine h1.mono ?_
  rintro e w1 ⟨rfl, hz⟩
  have g6 := H2.out w1 hz
  go_wp2_with fail
  refine (h3 w1 hz).mono ?_
  rintro e w2 ⟨rfl, rfl⟩
  go_wp2_with fail
  go_ret2
  exact ⟨rfl, hz⟩

theorem gWatch {own : Nat → Nat} {T : Nat} {w : World} {B : GB} {s : St} {N : Nat} (h : PG own T w B s N) (hk : Ok s N) (hN : N < 1099511627776) :
    Calls Tryz.prog 31 #[.pointer (some ⟨B.gb, 0, none⟩)] w fun e w' => e = .returned (.tuple #[.bool (watchS s).1, .int .i64 0]) ∧ GoesP own T w B (watchS s).2 (N + 1) w' := by
  have c6 := cellAt (i := 6) h.gate rfl
  obtain ⟨mi, ti, st, hw1, hw2⟩ := h.watch
  obtain ⟨n1, n2, _⟩ := GB.ne_gw h.core0
  have hh := h.more (Nat.le_succ N)
  have hm := hk.miss
  have hch := hk.ch
  cases hs : s.shut with
  | true =>
    rw [hs] at hw1
    refine (gWatch_walk B.gb B.wb w c6 true _ (look_not hw1 (.inr rfl)) (fun W hW => hW ▸ c6) (fun W hW => by subst hW; exact isShut_yes hw1)).mono ?_
    rintro e w' ⟨rfl, rfl⟩
    unfold watchS
    by_cases ht : s.ticked = false
    · rw [if_pos ht]
      exact ⟨by rw [hs], GoesP.same hh hk.cl.2 hk.na.2 (Keep.refl _ _)⟩
    · rw [if_neg ht]
      refine ⟨by rw [hs]; rfl, _, B, hh.rewatch (Keep.refl _ _) _ _ _ _ ⟨mi, ti, st, ?_, fun e => ?_⟩, .refl _, Same.ext own w T, Keep.refl _ _⟩
      · rw [hs]; exact hw1
      · rw [hs] at e; cases e
  | false =>
    obtain ⟨rfl, rfl, rfl⟩ := hw2 hs
    rw [hs] at hw1
    unfold watchS
    by_cases ht : s.ticked = false
    · rw [if_pos ht, hs]
      refine (gWatch_walk B.gb B.wb w c6 false _ (look_not hw1 (.inl ht)) (fun W hW => hW ▸ c6) (fun W hW => by subst hW; exact isShut_no hw1)).mono ?_
      rintro e w' ⟨rfl, rfl⟩
      exact ⟨rfl, GoesP.same hh hk.cl.2 hk.na.2 (Keep.refl _ _)⟩
    · rw [if_neg ht, hs]
      have ht2 : s.ticked = true := by simpa using ht
      rw [ht2] at hw1
      have hM : (if s.stepped = true then (0 : Int) else (s.misses : Int) + 1) = ((if s.stepped = true then 0 else s.misses + 1 : Nat) : Int) := by split <;> simp
      have hlk := look_check hw1 (by omega) (by omega)
      rw [hM] at hlk
      have hlive := hk.live hs
      have hd : decide (((if s.stepped = true then 0 else s.misses + 1 : Nat) : Int) = (s.ch : Int)) = decide (s.ch ≤ (if s.stepped = true then 0 else s.misses + 1)) := by
        split
        · rw [decide_eq_false (show ¬ ((0 : Nat) : Int) = (s.ch : Int) by omega), decide_eq_false (show ¬ s.ch ≤ 0 by omega)]
        · by_cases e : s.misses + 1 = s.ch
          · rw [decide_eq_true (show ((s.misses + 1 : Nat) : Int) = (s.ch : Int) by omega), decide_eq_true (show s.ch ≤ s.misses + 1 by omega)]
          · rw [decide_eq_false (show ¬ ((s.misses + 1 : Nat) : Int) = (s.ch : Int) by omega), decide_eq_false (show ¬ s.ch ≤ s.misses + 1 by omega)]
      rw [hd] at hlk
      refine (gWatch_walk B.gb B.wb w c6 (decide (s.ch ≤ (if s.stepped = true then 0 else s.misses + 1))) _ hlk (fun W hW => cellAt (i := 6) (hW.2.get h.gate ⟨n1, n2⟩) rfl) (fun W hW => isShut_any hW.1)).mono ?_
      rintro e w' ⟨rfl, hW, hkW⟩
      refine ⟨by rw [Bool.false_or], _, B, hh.rewatch hkW _ _ _ _ ⟨_, _, _, by rw [Bool.false_or]; exact hW, fun _ => ⟨rfl, rfl, rfl⟩⟩, .refl _, Same.ext own w T, hkW.mono (fun b _ hb => ?_)⟩
      have ow := h.ow
      have oc := h.oc
      unfold Out at hb
      exact ⟨fun e => by subst e; omega, fun e => by subst e; omega⟩

end Go.Proofs.YtjhifhoniimfgaaGreat

/-
  Orders that end are open no more.
-/
namespace Go.Proofs.YtjhifhoniimfgaaGreat
open Go.RowKit

set_option maxHeartbeats 400000 in
theorem rem_acc (w : World) (ab : Nat) (lim : Nat → Int) (st : Bool) (v : Value) (mb : Nat) (l : List Nat) (dat : Nat → Odr) (cv : Value) (c : List Cnt) (h : AccP w ab lim st v mb l dat cv c) (ob : Nat) (hb : ob ∈ l) (hg : GoodL dat l) (hlen : l.length ≤ 1099511627776) :
    Calls Tryz.prog 78 #[.pointer (some ⟨ab, 7, none⟩), .int .i64 (dat ob).num] w fun e w' => e = .returned (.tuple #[]) ∧
      ∃ v' l', AccP w' ab lim st v' mb l' dat cv c ∧ l.Perm (l' ++ [ob]) ∧ v'.ownBlock = v.ownBlock ∧ Keep (fun b => b ≠ ab ∧ b ≠ mb ∧ v.ownBlock ≠ some b ∧ b ∉ l) w w' := by
  have hsum : ∀ f : Nat → Int, (∀ b, b ∈ l → 0 ≤ f b) → 0 ≤ tot f l - f ob := fun f hf => by
    obtain ⟨j, hj⟩ := List.getElem?_of_mem hb
    have hp := erase_perm l j ob hj
    have e := tot_perm f hp
    have hr := tot_nonneg f (l.eraseIdx j) (fun b hb => hf b ((List.eraseIdx_sublist _ _).subset hb))
    simp only [tot] at e
    omega
  have hqn : ∀ s : Int, ∀ b, b ∈ l → 0 ≤ qtyF dat s b := fun s b hb => by unfold qtyF; split; exact (hg.each b hb).2.1; omega
  have hside := (hg.each ob hb).1
  have hq : 0 ≤ tot (qtyF dat (dat ob).side) l - (dat ob).qty ∧ tot (qtyF dat (dat ob).side) l - (dat ob).qty ≤ 9223372036854775807 := by
    have h1 := hsum (qtyF dat (dat ob).side) (hqn _)
    have h2 : qtyF dat (dat ob).side ob = (dat ob).qty := if_pos rfl
    have h3 : tot (qtyF dat (dat ob).side) l ≤ 9223372036854775807 := by
      rcases hside with e | e
      · rw [e]; exact hg.q0
      · rw [e]; exact hg.q1
    have h4 := (hg.each ob hb).2.1
    omega
  have hw : 0 ≤ tot (worthF dat) l - (dat ob).worth ∧ tot (worthF dat) l - (dat ob).worth ≤ 9223372036854775807 := by
    have h1 : 0 ≤ tot (worthF dat) l - (dat ob).worth := hsum (worthF dat) (fun b hb => (hg.each b hb).2.2)
    have h2 := (hg.each ob hb).2.2
    have h3 := hg.w
    exact ⟨h1, by omega⟩
  refine (remove_any w ab ob v mb l dat h.ords hb hside hlen hq hw).mono ?_
  rintro e w1 ⟨rfl, v', l', ho', hp', hv', hc', hk'⟩
  have hml : ∀ b, b ∈ l' → b ∈ l := fun b hb => hp'.mem_iff.2 (List.mem_append_left _ hb)
  exact ⟨rfl, v', l', h.reord ho' hc' (h.cnt.keep hk' (fun b hb => ⟨fun e => h.cvab (e ▸ hb), fun e => h.cvmb (e ▸ hb), h.cvv b hb, fun e => h.cvl b e hb⟩)) (fun b hb => h.cvl b (hml b hb)) (fun b hb => by rw [hv']; exact h.cvv b hb), hp', hv', hk'⟩

/-- How many orders the heap's row holds, as the account's cell tells. -/
def rowLen (ab : Nat) (w : World) : Nat :=
  match w.cell? ⟨ab, 7, none⟩ with
  | some (.slice _ n _) => n
  | _ => 0

theorem acc_row {w : World} {ab : Nat} {lim : Nat → Int} {st : Bool} {v : Value} {mb : Nat} {l : List Nat} {dat : Nat → Odr} {cv : Value} {c : List Cnt} (h : AccP w ab lim st v mb l dat cv c) : w.cell? ⟨ab, 7, none⟩ = some v ∧ rowLen ab w = l.length := by
  obtain ⟨cs, h1, h2, h3, _⟩ := h.ords.cells
  have c7 := cellAt h1 h3
  refine ⟨c7, ?_⟩
  unfold rowLen
  rw [c7]
  rcases h.ords.heap.row with ⟨rfl, rfl⟩ | ⟨hb, cap, cur, rfl, _⟩ <;> rfl

/-- What is left when those that ended are gone. -/
def Ended (w w' : World) (ab : Nat) (lim : Nat → Int) (st : Bool) (v : Value) (mb : Nat) (l : List Nat) (dat : Nat → Odr) (cv : Value) (c : List Cnt) (now : Int) (v' : Value) (l' rem : List Nat) : Prop :=
  AccP w' ab lim st v' mb l' dat cv c ∧ v'.ownBlock = v.ownBlock ∧ l.Perm (l' ++ rem) ∧ (∀ b, b ∈ rem → (dat b).till ≤ now) ∧ GoodL dat l' ∧ Keep (fun b => b ≠ ab ∧ b ≠ mb ∧ v.ownBlock ≠ some b ∧ b ∉ l) w w'

set_option maxHeartbeats 1000000 in
theorem end_any (w : World) (ab : Nat) (lim : Nat → Int) (st : Bool) (v : Value) (mb : Nat) (l : List Nat) (dat : Nat → Odr) (cv : Value) (c : List Cnt) (h : AccP w ab lim st v mb l dat cv c) (hg : GoodL dat l) (hlen : l.length ≤ 1099511627776) (now : Int) :
    Calls Tryz.prog 70 #[.pointer (some ⟨ab, 7, none⟩), .int .i64 now] w fun e w' => e = .returned (.tuple #[]) ∧
      ∃ v' l' rem, Ended w w' ab lim st v mb l dat cv c now v' l' rem ∧ ∀ b, b ∈ l' → now < (dat b).till := by
  have H0 : Hid (Ended w w ab lim st v mb l dat cv c now v l []) := ⟨h, rfl, by simp, fun b hb => by simp at hb, hg, Keep.refl _ _⟩
  clear h hg
  go_enter Tryz.func70, Tryz.ntmps70
  go_wp2
  go_loopw [] (fun wr => ∃ v' l' rem, Ended w wr ab lim st v mb l dat cv c now v' l' rem) (fun wr => rowLen ab wr)
  case atStart => exact ⟨v, l, [], H0.out⟩
  case round =>
    obtain ⟨v1, l1, rem, hE⟩ := hrel
    have HE : Hid (Ended w wr ab lim st v mb l dat cv c now v1 l1 rem) := hE
    obtain ⟨ha, hv1, hp1, hr1, hg1, hk1⟩ := hE
    obtain ⟨c7, hlen1⟩ := acc_row ha
    have hlenle : l1.length ≤ l.length := by have := hp1.length_eq; simp at this; omega
    cases hl : l1 with
    | nil =>
      have hv : ∃ a cap, v1 = .slice a 0 cap := by
        rcases ha.ords.heap.row with ⟨q, _⟩ | ⟨hb, cap, cur, q, _⟩
        · exact ⟨none, 0, q⟩
        · exact ⟨_, cap, by rw [q, hl]; rfl⟩
      obtain ⟨a, cap, rfl⟩ := hv
      clear ha hv1 hp1 hr1 hg1 hk1 hlen1
      go_wp2
      go_end0
      exact ⟨rfl, _, l1, rem, HE.out, fun b hb => by rw [hl] at hb; cases hb⟩
    | cons ob r =>
      rcases ha.ords.heap.row with ⟨_, q⟩ | ⟨hb, cap, cur, q, hrow, hcap, hcm, hcs, hcur⟩
      · rw [hl] at q; cases q
      have hi0 : l1[0]? = some ob := by rw [hl]; rfl
      have d0 := cellAt hrow (hcur 0 ob hi0)
      have ho := ha.ords.heap.ords 0 ob hi0
      have d1 := cellAt (i := 4) ho rfl
      have d2 := cellAt (i := 0) ho rfl
      have hn1 : l1.length = r.length + 1 := by rw [hl]; rfl
      rw [hn1] at q
      subst q
      have hob : ob ∈ l1 := by rw [hl]; exact .head _
      have hrm := rem_acc wr ab lim st _ mb l1 dat cv c ha ob hob hg1 (by omega)
      have hpos : (0 : Int) < ((r.length + 1 : Nat) : Int) := by omega
      have hmin := heap_min ha.ords.ok
      have HM : Hid (∀ k, k < l1.length → endAt (tillOf dat) l1 0 ≤ endAt (tillOf dat) l1 k) := hmin
      have HL : Hid (l1 = ob :: r) := hl
      have HLEN : Hid (rowLen ab wr = l1.length) := hlen1
      clear ha hv1 hp1 hr1 hg1 hk1 hlen1 hl hrow hcap hcm hcs hcur hi0 ho hn1 hob hmin
      by_cases ht : (dat ob).till ≤ now
      · go_wp2_with fail
        refine hrm.mono ?_
        rintro e w2 ⟨rfl, v2, l2, ha2, hp2, hv2, hk2⟩
        have hE2 : Ended w w2 ab lim st v mb l dat cv c now v2 l2 (ob :: rem) := by
          obtain ⟨_, hv1, hp1, hr1, hg1, hk1⟩ := HE.out
          refine ⟨ha2, hv2.trans hv1, ?_, fun b hb => ?_, hg1.rem hp2, hk1.trans' hk2 (fun b _ hb => ⟨hb.1, hb.2.1, by rw [hv1]; exact hb.2.2.1, fun e => hb.2.2.2 (hp1.mem_iff.2 (List.mem_append_left _ e))⟩)⟩
          · refine hp1.trans ((hp2.append_right rem).trans ?_)
            rw [List.append_assoc]
            exact List.Perm.refl _
          · rcases List.mem_cons.1 hb with e | hb
            · rw [e]; exact ht
            · exact hr1 b hb
        have HE2 : Hid (Ended w w2 ab lim st v mb l dat cv c now v2 l2 (ob :: rem)) := hE2
        have HR2 : Hid (rowLen ab w2 < rowLen ab wr) := by
          show rowLen ab w2 < rowLen ab wr
          rw [HLEN.out, (acc_row ha2).2, hp2.length_eq]
          simp
        clear hE2 ha2 hp2 hv2 hk2
        go_wp2
        go_roundw
        case rel => exact ⟨_, _, _, HE2.out⟩
        case measure => exact HR2.out
      · go_wp2
        go_end0
        refine ⟨rfl, _, l1, ⟨rem, HE.out⟩, fun b hb => ?_⟩
        obtain ⟨k, hk⟩ := List.getElem?_of_mem hb
        have hkl : k < l1.length := by
          rcases Nat.lt_or_ge k l1.length with h1 | h1
          · exact h1
          · rw [List.getElem?_eq_none h1] at hk; cases hk
        have h1 := HM.out k hkl
        have e0 : endAt (tillOf dat) l1 0 = (dat ob).till := by rw [HL.out]; rfl
        have ek : endAt (tillOf dat) l1 k = (dat b).till := by simp [endAt, tillOf, List.getD, hk]
        rw [e0, ek] at h1
        omega

set_option maxHeartbeats 400000 in
theorem aEnd_any (w : World) (ab : Nat) (now : Int) (Z : World → Prop) (h : Calls Tryz.prog 70 #[.pointer (some ⟨ab, 7, none⟩), .int .i64 now] w fun e w' => e = .returned (.tuple #[]) ∧ Z w') :
    Calls Tryz.prog 57 #[.pointer (some ⟨ab, 0, none⟩), .int .i64 now] w fun e w' => e = .returned (.tuple #[]) ∧ Z w' := by
  go_enter Tryz.func57, Tryz.ntmps57
  go_wp2_with fail
  refine h.mono ?_
  rintro e w1 ⟨rfl, hz⟩
  go_wp2_with fail
  go_end0
  exact ⟨rfl, hz⟩

theorem accEnd {own : Nat → Nat} {τ : Nat} {w : World} {ab : Nat} {lim : Nat → Int} {st : Bool} {es : List Ent} {time N : Nat} (h : AccR own τ w ab lim st es time N) (hk : AccOk lim es time N) :
    Calls Tryz.prog 57 #[.pointer (some ⟨ab, 0, none⟩), .int .i64 ((time + 1 : Nat) : Int)] w fun e w' => e = .returned (.tuple #[]) ∧
      AccR (ext own w.heap.size τ) τ w' ab lim st es (time + 1) N ∧ Keep (fun b => own b ≠ τ) w w' := by
  obtain ⟨v, mb, l, dat, cv, c, a⟩ := h
  have hg := hk.good a.rel
  have hN := hk.N
  have hle : l.length ≤ N := by rw [rel_len a.rel]; exact Nat.le_trans (List.length_filter_le _ _) hk.len
  obtain ⟨l1, l2, l3, l4, l5⟩ := a.acc.lts
  refine (aEnd_any w ab _ _ (end_any w ab lim st v mb l dat cv c a.acc hg (by omega) ((time + 1 : Nat) : Int))).mono ?_
  rintro e w' ⟨rfl, v', l', rem, ⟨hacc, hv', hperm, hrem, _, hkeep⟩, hlive⟩
  have hml : ∀ b, b ∈ l' → b ∈ l := fun b hb => hperm.mem_iff.2 (List.mem_append_left _ hb)
  refine ⟨rfl, ⟨v', mb, l', dat, cv, c, ⟨hacc, by rw [ext_lt l1]; exact a.o1, by rw [ext_lt l2]; exact a.o2, fun b hb => by rw [hv'] at hb; rw [ext_lt (l3 b hb)]; exact a.o3 b hb, fun b hb => by rw [ext_lt (l4 b (hml b hb))]; exact a.o4 b (hml b hb), fun b hb => by rw [ext_lt (l5 b hb)]; exact a.o5 b hb, ?_, a.cnt.later (by omega), a.clen, a.cpos⟩⟩, hkeep.mono (fun b hb hne => ⟨fun e => hne (e ▸ a.o1), fun e => hne (e ▸ a.o2), fun e => hne (a.o3 b e), fun e => hne (a.o4 b e)⟩)⟩
  have h1 : ((l.map dat).filter (fun o => decide (((time + 1 : Nat) : Int) < o.till))).Perm (((es.filter (isOpen time)).map ordOf).filter (fun o => decide (((time + 1 : Nat) : Int) < o.till))) := List.Perm.filter _ a.rel
  have h2 : ((l.map dat).filter (fun o => decide (((time + 1 : Nat) : Int) < o.till))).Perm (l'.map dat) := by
    refine (List.Perm.filter _ (hperm.map dat)).trans ?_
    rw [List.map_append, List.filter_append]
    have e1 : (l'.map dat).filter (fun o => decide (((time + 1 : Nat) : Int) < o.till)) = l'.map dat := List.filter_eq_self.2 (fun o ho => by
      obtain ⟨b, hb, rfl⟩ := List.mem_map.1 ho
      exact decide_eq_true (hlive b hb))
    have e2 : (rem.map dat).filter (fun o => decide (((time + 1 : Nat) : Int) < o.till)) = [] := List.filter_eq_nil_iff.2 (fun o ho => by
      obtain ⟨b, hb, rfl⟩ := List.mem_map.1 ho
      have := hrem b hb
      simp
      omega)
    rw [e1, e2, List.append_nil]
  have h3 : ((es.filter (isOpen time)).map ordOf).filter (fun o => decide (((time + 1 : Nat) : Int) < o.till)) = (es.filter (isOpen ((time + 1 : Nat) : Int))).map ordOf := by
    rw [List.filter_map, List.filter_filter]
    congr 2
    funext x
    by_cases h : isOpen ((time + 1 : Nat) : Int) x = true
    · rw [h]
      simp only [isOpen, Bool.and_eq_true, decide_eq_true_eq] at h
      have q : isOpen time x = true := by
        simp only [isOpen, Bool.and_eq_true, decide_eq_true_eq]
        exact ⟨h.1, by omega⟩
      rw [q]
      simp only [Function.comp_def, ordOf, Bool.and_true]
      exact decide_eq_true h.2
    · rw [Bool.not_eq_true] at h
      rw [h]
      simp only [isOpen, Bool.and_eq_false_iff, decide_eq_false_iff_not] at h
      rcases h with h | h
      · simp [isOpen, h]
      · rw [show ((fun o : Odr => decide (((time + 1 : Nat) : Int) < o.till)) ∘ ordOf) x = false from decide_eq_false h]
        rfl
  exact h2.symm.trans (h3 ▸ h1)

end Go.Proofs.YtjhifhoniimfgaaGreat

/-
  What a frame says is done: on a gate in memory.
-/
namespace Go.Proofs.YtjhifhoniimfgaaGreat
open Go.RowKit

theorem Ok.acc {s : St} {N : Nat} (h : Ok s N) (hN : N < 1099511627776) (a : Nat) (ha : a < s.na) : AccOk (s.lim a) (s.book a) s.time N :=
  ⟨fun x hx => h.ents a x hx, h.opens a, h.len a, h.time, (h.lim a ha).2, hN⟩

/-- A new block that is nobody's: the gate is as it was. -/
theorem PG.grown {own : Nat → Nat} {T : Nat} {w : World} {B : GB} {s : St} {N : Nat} (h : PG own T w B s N) (hk : Ok s N) (O : Obj) (n : Nat) : PG (ext own w.heap.size 0) T ((w.alloc O).drewN n) B s N :=
  h.keep hk.cl.2 hk.na.2 (((Keep.refl (fun _ => True) w).alloc O).drewN n) (fun _ _ _ _ => trivial) (Same.ext own w 0)

theorem PG.grew {own : Nat → Nat} {T : Nat} {w w' : World} {B : GB} {s : St} {N : Nat} (h : PG own T w B s N) (hk : Ok s N) (hb : Below w.heap.size w w') : PG (ext own w.heap.size 0) T w' B s N :=
  h.keep hk.cl.2 hk.na.2 (Keep.ofBelow (S := fun _ => True) hb) (fun _ _ _ _ => trivial) (Same.ext own w 0)

/-- The blocks that are not of the gate's accounts. -/
def AccOut (own : Nat → Nat) (T : Nat) : Nat → Prop := fun b => own b < T + 20 ∨ T + 30 ≤ own b

/-- As GoesP; of the gate itself only accounts turned. -/
def GoesA (own : Nat → Nat) (T : Nat) (w : World) (B : GB) (s' : St) (N : Nat) (w' : World) : Prop :=
  ∃ own' B', PG own' T w' B' s' N ∧ B.Like B' ∧ Same own own' w ∧ Keep (AccOut own T) w w'

theorem GoesA.goes {own : Nat → Nat} {T : Nat} {w : World} {B : GB} {s' : St} {N : Nat} {w' : World} (h : GoesA own T w B s' N w') : GoesP own T w B s' N w' := by
  obtain ⟨own', B', h1, h2, h3, h4⟩ := h
  refine ⟨own', B', h1, h2, h3, h4.mono (fun b _ hb => ?_)⟩
  unfold Out at hb
  unfold AccOut
  omega

theorem GoesA.same {own : Nat → Nat} {T : Nat} {w w' : World} {B : GB} {s : St} {N : Nat} (h : PG own T w B s N) (hcl : s.cl ≤ 8) (hna : s.na ≤ 4) (hk : Keep (fun _ => True) w w') : GoesA own T w B s N w' :=
  ⟨own, B, h.keep hcl hna hk (fun _ _ _ _ => trivial) (Same.refl _ _), .refl _, Same.refl _ _, hk.mono (fun _ _ _ => trivial)⟩

/-- An account's step behind a new block. -/
theorem acc_goes {own : Nat → Nat} {T : Nat} {w W w' : World} {B : GB} {s : St} {N : Nat} (hk : Ok s N) (hW : Keep (fun _ => True) w W) (hP : PG (ext own w.heap.size 0) T W B s N) (a : Nat) (ha : a < s.na) (st : Bool) (es : List Ent)
    (hl : AccR (ext (ext own w.heap.size 0) W.heap.size (T + 20 + a)) (T + 20 + a) w' (B.ab a) (s.lim a) st es s.time (N + 1)) (hk' : Keep (fun b => ext own w.heap.size 0 b ≠ T + 20 + a) W w') :
    GoesA own T w B { s with stop := upN s.stop a st, book := upN s.book a es } (N + 1) w' := by
  have hna := hk.na.2
  refine ⟨_, B, (hP.more (Nat.le_succ N)).reacc hk.cl.2 a ha st es hl hk', .refl _, (Same.ext own w 0).trans (Same.ext _ W _) hW.size, (hW.mono (T := AccOut own T) (fun _ _ _ => trivial)).trans' hk' (fun b hb hO => ?_)⟩
  unfold AccOut at hO
  rw [ext_lt hb]
  omega

set_option maxHeartbeats 400000 in
theorem gDo {own : Nat → Nat} {T : Nat} {w : World} {B : GB} {s : St} {N : Nat} (h : PG own T w B s N) (hk : Ok s N) (hN : N < 1099511627776) (hT : 0 < T) (x : Said) (hx : SaidOk s.na x) :
    Calls Tryz.prog 74 #[.pointer (some ⟨B.gb, 0, none⟩), x.val] w fun e w' => e = .returned (.int .i64 (doS s x).1) ∧ GoesA own T w B (doS s x).2 (N + 1) w' := by
  have c1 := cellAt (i := 1) h.gate rfl
  have c5 := cellAt (i := 5) h.gate rfl
  have c6 := cellAt (i := 6) h.gate rfl
  have hh := h.more (Nat.le_succ N)
  have hna := hk.na.2
  have same : ∀ w', Keep (fun _ => True) w w' → GoesA own T w B s (N + 1) w' := fun w' hk' => GoesA.same hh hk.cl.2 hk.na.2 hk'
  cases x with
  | wrong c =>
    refine (do_wrong B.gb c w).mono ?_
    rintro e w' ⟨rfl, hb⟩
    exact ⟨rfl, same _ (Keep.ofBelow hb)⟩
  | kill a =>
    obtain ⟨a1, a2⟩ := hx
    obtain ⟨a, rfl⟩ := Int.eq_ofNat_of_zero_le a1
    have ha : a < s.na := by omega
    have hP := fun n => h.grown hk (.cells #[.int .i64 a] 188) n
    refine (do_kill B.gb B.ar B.ac s.na (B.ab a) a w c1 ha (h.accAt a ha) (fun w' => GoesA own T w B (doS s (.kill a)).2 (N + 1) w') (fun n => ?_)).mono ?_
    · refine (accStop ((hP n).acc a ha)).mono ?_
      rintro e w' ⟨rfl, h1, h2⟩
      refine ⟨rfl, ?_⟩
      have := acc_goes hk (((Keep.refl (fun _ => True) w).alloc _).drewN n) (hP n) a ha true (s.book a) h1 h2
      rw [upN_self] at this
      exact this
    · rintro e w' ⟨rfl, hz⟩
      exact ⟨rfl, hz⟩
  | unkill a =>
    obtain ⟨a1, a2⟩ := hx
    obtain ⟨a, rfl⟩ := Int.eq_ofNat_of_zero_le a1
    have ha : a < s.na := by omega
    have hP := fun n => h.grown hk (.cells #[.int .i64 a] 189) n
    refine (do_unkill B.gb B.ar B.ac s.na (B.ab a) a w c1 ha (h.accAt a ha) (fun w' => GoesA own T w B (doS s (.unkill a)).2 (N + 1) w') (fun n => ?_)).mono ?_
    · refine (accGoOn ((hP n).acc a ha)).mono ?_
      rintro e w' ⟨rfl, h1, h2⟩
      refine ⟨rfl, ?_⟩
      have := acc_goes hk (((Keep.refl (fun _ => True) w).alloc _).drewN n) (hP n) a ha false (s.book a) h1 h2
      rw [upN_self] at this
      exact this
    · rintro e w' ⟨rfl, hz⟩
      exact ⟨rfl, hz⟩
  | cancel a num =>
    obtain ⟨a1, a2⟩ := hx
    obtain ⟨a, rfl⟩ := Int.eq_ofNat_of_zero_le a1
    have ha : a < s.na := by omega
    have hP := fun n => h.grown hk (.cells #[.int .i64 a, .int .i64 num] 185) n
    refine (do_cancel B.gb B.ar B.ac s.na (B.ab a) a num w c1 ha (h.accAt a ha) (doS s (.cancel a num)).1 (fun w' => GoesA own T w B (doS s (.cancel a num)).2 (N + 1) w') (fun n => ?_)).mono ?_
    · refine (accCancel ((hP n).acc a ha) (hk.acc hN a ha) num).mono ?_
      rintro e w' ⟨rfl, h1, h2⟩
      rw [doS_cancel, Int.toNat_natCast]
      have e1 : ((s.book a).filter (isOpen s.time)).any (fun x => x.order == num) = (s.opens a).any (fun x => x.order == num) := rfl
      rw [e1] at h1 ⊢
      have := acc_goes hk (((Keep.refl (fun _ => True) w).alloc _).drewN n) (hP n) a ha (s.stop a) _ h1 h2
      rw [upN_self] at this
      cases hany : (s.opens a).any (fun x => x.order == num)
      · rw [hany] at this
        refine ⟨by simp, ?_⟩
        simp only [Bool.false_eq_true, if_false, upN_self] at this ⊢
        exact this
      · rw [hany] at this
        refine ⟨by simp, ?_⟩
        simp only [if_true] at this ⊢
        exact this
    · rintro e w' ⟨rfl, hz⟩
      exact ⟨rfl, hz⟩
  | new a sd num p q l =>
    obtain ⟨a1, a2, hsd, p1, p2, q1, q2, l1, l2⟩ := hx
    obtain ⟨a, rfl⟩ := Int.eq_ofNat_of_zero_le a1
    obtain ⟨p, rfl⟩ := Int.eq_ofNat_of_zero_le (show 0 ≤ p by omega)
    obtain ⟨q, rfl⟩ := Int.eq_ofNat_of_zero_le (show 0 ≤ q by omega)
    have ha : a < s.na := by omega
    rw [doS_new, Int.toNat_natCast, Int.toNat_natCast, Int.toNat_natCast]
    have hP := fun n => h.grown hk (newO a sd num p q l) n
    have hP0 : PG (ext own w.heap.size 0) T (w.alloc (newO a sd num p q l)) B s N := by have := hP 0; rwa [World.drewN_zero] at this
    obtain ⟨mi, ti, st, hw1, hw2⟩ := hP0.watch
    have hs := isShut_any hw1
    rcases Bool.eq_false_or_eq_true s.shut with hsh | hsh
    · have hv : newsV s a sd num p q = 9 := by unfold newsV; rw [if_pos hsh]
      rw [hsh] at hs
      rw [hv]
      refine (do_shut B.gb B.wb a sd num p q l w c6 hs).mono ?_
      rintro e w' ⟨rfl, hb⟩
      exact ⟨rfl, same _ (Keep.ofBelow hb)⟩
    · have hv : newsV s a sd num p q = accCode (s.lim a) (s.stop a) (s.book a) s.time sd num p q := by unfold newsV; rw [if_neg (by rw [hsh]; simp)]; rfl
      rw [hsh] at hs
      rw [hv]
      have hnew : ∀ n, ((w.alloc (newO a sd num p q l)).drewN n).heap[w.heap.size]? = some (newO a sd num p q l) := fun n => heap_alloc_new w _
      have hDo : ∀ W, PG (ext own w.heap.size 0) T W B s N → W.heap[w.heap.size]? = some (newO a sd num p q l) → DoS B.gb B.ar B.ac s.na (B.ab a) s.time a sd num p q l w.heap.size W := fun W hW hb =>
        ⟨cellAt (i := 1) hW.gate rfl, cellAt (i := 5) hW.gate rfl, hW.accAt a ha, cellAt (i := 0) hb rfl, cellAt (i := 1) hb rfl, cellAt (i := 2) hb rfl, cellAt (i := 3) hb rfl, cellAt (i := 4) hb rfl, cellAt (i := 5) hb rfl⟩
      refine (do_new B.gb B.wb B.ar B.ac s.na (B.ab a) s.time a sd num p q l w c6 ha (fun n => hDo _ (hP n) (hnew n)) (accCode (s.lim a) (s.stop a) (s.book a) s.time sd num p q)
        (fun w' => GoesA own T w B (if accCode (s.lim a) (s.stop a) (s.book a) s.time sd num p q = 0 then { s with book := upN s.book a (s.book a ++ [⟨num, sd, p, q, s.time, s.time + l, false⟩]) } else s) (N + 1) w' ∧ DoS B.gb B.ar B.ac s.na (B.ab a) s.time a sd num p q l w.heap.size w')
        hs (fun n => ?_) (fun W hW => hW.2)).mono ?_
      · refine (accOpen ((hP n).acc a ha) (hk.acc hN a ha) a sd num l p q hsd (by omega) (by omega) ⟨l1, l2⟩).mono ?_
        rintro e w' ⟨rfl, h1, h2⟩
        have hg := acc_goes hk (((Keep.refl (fun _ => True) w).alloc _).drewN n) (hP n) a ha (s.stop a) _ h1 h2
        rw [upN_self] at hg
        refine ⟨rfl, ?_, ?_⟩
        · by_cases hz : accCode (s.lim a) (s.stop a) (s.book a) s.time sd num p q = 0
          · rw [if_pos hz] at hg ⊢; exact hg
          · rw [if_neg hz] at hg ⊢; rw [upN_self] at hg; exact hg
        · have hlt := block_lt h.gate
          have hga := h2.get (hP n).gate (by rw [(hP n).og]; omega)
          obtain ⟨cs, r1, r2⟩ := (hP n).arow
          have hra := h2.get r1 (by rw [(hP n).oa]; omega)
          have hnb := h2.get (hnew n) (by rw [ext_ge (Nat.le_refl _)]; omega)
          exact ⟨cellAt (i := 1) hga rfl, cellAt (i := 5) hga rfl, cellAt hra (r2 a ha), cellAt (i := 0) hnb rfl, cellAt (i := 1) hnb rfl, cellAt (i := 2) hnb rfl, cellAt (i := 3) hnb rfl, cellAt (i := 4) hnb rfl, cellAt (i := 5) hnb rfl⟩
      · rintro e w' ⟨rfl, hz, _⟩
        exact ⟨rfl, hz⟩

end Go.Proofs.YtjhifhoniimfgaaGreat

