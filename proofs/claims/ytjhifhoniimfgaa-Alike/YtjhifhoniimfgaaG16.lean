import Derived.Test.YtjhifhoniimfgaaG15
import Derived.Test.YtjhifhoniimfgaaG10
import Derived.Conc.LoneCalls
import Derived.Conc.LoneSelect
import Derived.Conc.EventLaws
import Derived.KernelRfl
import Derived.Laws.Rows
/-
  Orders that end are open no more.
-/
namespace Go.Proofs.Ytjhifhoniimfgaa
open Go.RowKit

set_option maxHeartbeats 400000 in
theorem rem_acc (w : World) (ab : Nat) (lim : Nat → Int) (st : Bool) (v : Value) (mb : Nat) (l : List Nat) (dat : Nat → Odr) (cv : Value) (c : List Cnt) (h : AccP w ab lim st v mb l dat cv c) (ob : Nat) (hb : ob ∈ l) (hg : GoodL dat l) (hlen : l.length ≤ 8796093022208) :
    Calls Try.prog 71 #[.pointer (some ⟨ab, 7, none⟩), .int .i64 (dat ob).num] w fun e w' => e = .returned (.tuple #[]) ∧
      ∃ v' l', AccP w' ab lim st v' mb l' dat cv c ∧ l.Perm (l' ++ [ob]) ∧ v'.ownBlock = v.ownBlock ∧ Keep (fun b => b ≠ ab ∧ b ≠ mb ∧ v.ownBlock ≠ some b ∧ b ∉ l) w w' := by
  have hsum : ∀ f : Nat → Int, (∀ b, b ∈ l → 0 ≤ f b) → 0 ≤ tot f l - f ob := fun f hf => by
    obtain ⟨j, hj⟩ := List.getElem?_of_mem hb
    have hp := erase_perm l j ob hj
    have e := tot_perm f hp
    have hr := tot_nonneg f (l.eraseIdx j) (fun b hb => hf b ((List.eraseIdx_sublist _ _).subset hb))
    simp only [tot] at e
    omega
  have hqn : ∀ s : Int, ∀ b, b ∈ l → 0 ≤ qtyF dat s b := fun s b hb => by unfold qtyF; split; exact (hg.each b hb).2.1; omega
  have hside := (hg.each ob hb).1
  have hq : 0 ≤ tot (qtyF dat (dat ob).side) l - (dat ob).qty ∧ tot (qtyF dat (dat ob).side) l - (dat ob).qty ≤ 9223372036854775807 := by
    have h1 := hsum (qtyF dat (dat ob).side) (hqn _)
    have h2 : qtyF dat (dat ob).side ob = (dat ob).qty := if_pos rfl
    have h3 : tot (qtyF dat (dat ob).side) l ≤ 9223372036854775807 := by
      rcases hside with e | e
      · rw [e]; exact hg.q0
      · rw [e]; exact hg.q1
    have h4 := (hg.each ob hb).2.1
    omega
  have hw : 0 ≤ tot (worthF dat) l - (dat ob).worth ∧ tot (worthF dat) l - (dat ob).worth ≤ 9223372036854775807 := by
    have h1 : 0 ≤ tot (worthF dat) l - (dat ob).worth := hsum (worthF dat) (fun b hb => (hg.each b hb).2.2)
    have h2 := (hg.each ob hb).2.2
    have h3 := hg.w
    exact ⟨h1, by omega⟩
  refine (remove_any w ab ob v mb l dat h.ords hb hside hlen hq hw).mono ?_
  rintro e w1 ⟨rfl, v', l', ho', hp', hv', hc', hk'⟩
  have hml : ∀ b, b ∈ l' → b ∈ l := fun b hb => hp'.mem_iff.2 (List.mem_append_left _ hb)
  exact ⟨rfl, v', l', h.reord ho' hc' (h.cnt.keep hk' (fun b hb => ⟨fun e => h.cvab (e ▸ hb), fun e => h.cvmb (e ▸ hb), h.cvv b hb, fun e => h.cvl b e hb⟩)) (fun b hb => h.cvl b (hml b hb)) (fun b hb => by rw [hv']; exact h.cvv b hb), hp', hv', hk'⟩

/-- How many orders the heap's row holds, as the account's cell tells. -/
def rowLen (ab : Nat) (w : World) : Nat :=
  match w.cell? ⟨ab, 7, none⟩ with
  | some (.slice _ n _) => n
  | _ => 0

theorem acc_row {w : World} {ab : Nat} {lim : Nat → Int} {st : Bool} {v : Value} {mb : Nat} {l : List Nat} {dat : Nat → Odr} {cv : Value} {c : List Cnt} (h : AccP w ab lim st v mb l dat cv c) : w.cell? ⟨ab, 7, none⟩ = some v ∧ rowLen ab w = l.length := by
  obtain ⟨cs, h1, h2, h3, _⟩ := h.ords.cells
  have c7 := cellAt h1 h3
  refine ⟨c7, ?_⟩
  unfold rowLen
  rw [c7]
  rcases h.ords.heap.row with ⟨rfl, rfl⟩ | ⟨hb, cap, cur, rfl, _⟩ <;> rfl

/-- What is left when those that ended are gone. -/
def Ended (w w' : World) (ab : Nat) (lim : Nat → Int) (st : Bool) (v : Value) (mb : Nat) (l : List Nat) (dat : Nat → Odr) (cv : Value) (c : List Cnt) (now : Int) (v' : Value) (l' rem : List Nat) : Prop :=
  AccP w' ab lim st v' mb l' dat cv c ∧ v'.ownBlock = v.ownBlock ∧ l.Perm (l' ++ rem) ∧ (∀ b, b ∈ rem → (dat b).till ≤ now) ∧ GoodL dat l' ∧ Keep (fun b => b ≠ ab ∧ b ≠ mb ∧ v.ownBlock ≠ some b ∧ b ∉ l) w w'

set_option maxHeartbeats 1000000 in
theorem end_any (w : World) (ab : Nat) (lim : Nat → Int) (st : Bool) (v : Value) (mb : Nat) (l : List Nat) (dat : Nat → Odr) (cv : Value) (c : List Cnt) (h : AccP w ab lim st v mb l dat cv c) (hg : GoodL dat l) (hlen : l.length ≤ 8796093022208) (now : Int) :
    Calls Try.prog 66 #[.pointer (some ⟨ab, 7, none⟩), .int .i64 now] w fun e w' => e = .returned (.tuple #[]) ∧
      ∃ v' l' rem, Ended w w' ab lim st v mb l dat cv c now v' l' rem ∧ ∀ b, b ∈ l' → now < (dat b).till := by
  have H0 : Hid (Ended w w ab lim st v mb l dat cv c now v l []) := ⟨h, rfl, by simp, fun b hb => by simp at hb, hg, Keep.refl _ _⟩
  clear h hg
  go_enter Try.func66, Try.ntmps66
  go_wp2
  go_loopw [] (fun wr => ∃ v' l' rem, Ended w wr ab lim st v mb l dat cv c now v' l' rem) (fun wr => rowLen ab wr)
  case atStart => exact ⟨v, l, [], H0.out⟩
  case round =>
    obtain ⟨v1, l1, rem, hE⟩ := hrel
    have HE : Hid (Ended w wr ab lim st v mb l dat cv c now v1 l1 rem) := hE
    obtain ⟨ha, hv1, hp1, hr1, hg1, hk1⟩ := hE
    obtain ⟨c7, hlen1⟩ := acc_row ha
    have hlenle : l1.length ≤ l.length := by have := hp1.length_eq; simp at this; omega
    cases hl : l1 with
    | nil =>
      have hv : ∃ a cap, v1 = .slice a 0 cap := by
        rcases ha.ords.heap.row with ⟨q, _⟩ | ⟨hb, cap, cur, q, _⟩
        · exact ⟨none, 0, q⟩
        · exact ⟨_, cap, by rw [q, hl]; rfl⟩
      obtain ⟨a, cap, rfl⟩ := hv
      clear ha hv1 hp1 hr1 hg1 hk1 hlen1
      go_wp2
      go_end0
      exact ⟨rfl, _, l1, rem, HE.out, fun b hb => by rw [hl] at hb; cases hb⟩
    | cons ob r =>
      rcases ha.ords.heap.row with ⟨_, q⟩ | ⟨hb, cap, cur, q, hrow, hcap, hcm, hcs, hcur⟩
      · rw [hl] at q; cases q
      have hi0 : l1[0]? = some ob := by rw [hl]; rfl
      have d0 := cellAt hrow (hcur 0 ob hi0)
      have ho := ha.ords.heap.ords 0 ob hi0
      have d1 := cellAt (i := 4) ho rfl
      have d2 := cellAt (i := 0) ho rfl
      have hn1 : l1.length = r.length + 1 := by rw [hl]; rfl
      rw [hn1] at q
      subst q
      have hob : ob ∈ l1 := by rw [hl]; exact .head _
      have hrm := rem_acc wr ab lim st _ mb l1 dat cv c ha ob hob hg1 (by omega)
      have hpos : (0 : Int) < ((r.length + 1 : Nat) : Int) := by omega
      have hmin := heap_min ha.ords.ok
      have HM : Hid (∀ k, k < l1.length → endAt (tillOf dat) l1 0 ≤ endAt (tillOf dat) l1 k) := hmin
      have HL : Hid (l1 = ob :: r) := hl
      have HLEN : Hid (rowLen ab wr = l1.length) := hlen1
      clear ha hv1 hp1 hr1 hg1 hk1 hlen1 hl hrow hcap hcm hcs hcur hi0 ho hn1 hob hmin
      by_cases ht : (dat ob).till ≤ now
      · go_wp2_with fail
        refine hrm.mono ?_
        rintro e w2 ⟨rfl, v2, l2, ha2, hp2, hv2, hk2⟩
        have hE2 : Ended w w2 ab lim st v mb l dat cv c now v2 l2 (ob :: rem) := by
          obtain ⟨_, hv1, hp1, hr1, hg1, hk1⟩ := HE.out
          refine ⟨ha2, hv2.trans hv1, ?_, fun b hb => ?_, hg1.rem hp2, hk1.trans' hk2 (fun b _ hb => ⟨hb.1, hb.2.1, by rw [hv1]; exact hb.2.2.1, fun e => hb.2.2.2 (hp1.mem_iff.2 (List.mem_append_left _ e))⟩)⟩
          · refine hp1.trans ((hp2.append_right rem).trans ?_)
            rw [List.append_assoc]
            exact List.Perm.refl _
          · rcases List.mem_cons.1 hb with e | hb
            · rw [e]; exact ht
            · exact hr1 b hb
        have HE2 : Hid (Ended w w2 ab lim st v mb l dat cv c now v2 l2 (ob :: rem)) := hE2
        have HR2 : Hid (rowLen ab w2 < rowLen ab wr) := by
          show rowLen ab w2 < rowLen ab wr
          rw [HLEN.out, (acc_row ha2).2, hp2.length_eq]
          simp
        clear hE2 ha2 hp2 hv2 hk2
        go_wp2
        go_roundw
        case rel => exact ⟨_, _, _, HE2.out⟩
        case measure => exact HR2.out
      · go_wp2
        go_end0
        refine ⟨rfl, _, l1, ⟨rem, HE.out⟩, fun b hb => ?_⟩
        obtain ⟨k, hk⟩ := List.getElem?_of_mem hb
        have hkl : k < l1.length := by
          rcases Nat.lt_or_ge k l1.length with h1 | h1
          · exact h1
          · rw [List.getElem?_eq_none h1] at hk; cases hk
        have h1 := HM.out k hkl
        have e0 : endAt (tillOf dat) l1 0 = (dat ob).till := by rw [HL.out]; rfl
        have ek : endAt (tillOf dat) l1 k = (dat b).till := by simp [endAt, tillOf, List.getD, hk]
        rw [e0, ek] at h1
        omega

set_option maxHeartbeats 400000 in
theorem aEnd_any (w : World) (ab : Nat) (now : Int) (Z : World → Prop) (h : Calls Try.prog 66 #[.pointer (some ⟨ab, 7, none⟩), .int .i64 now] w fun e w' => e = .returned (.tuple #[]) ∧ Z w') :
    Calls Try.prog 57 #[.pointer (some ⟨ab, 0, none⟩), .int .i64 now] w fun e w' => e = .returned (.tuple #[]) ∧ Z w' := by
  go_enter Try.func57, Try.ntmps57
  go_wp2_with fail
  refine h.mono ?_
  rintro e w1 ⟨rfl, hz⟩
  go_wp2_with fail
  go_end0
  exact ⟨rfl, hz⟩

theorem accEnd {own : Nat → Nat} {τ : Nat} {w : World} {ab : Nat} {lim : Nat → Int} {st : Bool} {es : List Ent} {time N : Nat} (h : AccR own τ w ab lim st es time N) (hk : AccOk lim es time N) :
    Calls Try.prog 57 #[.pointer (some ⟨ab, 0, none⟩), .int .i64 ((time + 1 : Nat) : Int)] w fun e w' => e = .returned (.tuple #[]) ∧
      AccR (ext own w.heap.size τ) τ w' ab lim st es (time + 1) N ∧ Keep (fun b => own b ≠ τ) w w' := by
  obtain ⟨v, mb, l, dat, cv, c, a⟩ := h
  have hg := hk.good a.rel
  have hN := hk.len
  have hle : l.length ≤ es.length := by rw [rel_len a.rel]; exact List.length_filter_le _ _
  obtain ⟨l1, l2, l3, l4, l5⟩ := a.acc.lts
  refine (aEnd_any w ab _ _ (end_any w ab lim st v mb l dat cv c a.acc hg (by omega) ((time + 1 : Nat) : Int))).mono ?_
  rintro e w' ⟨rfl, v', l', rem, ⟨hacc, hv', hperm, hrem, _, hkeep⟩, hlive⟩
  have hml : ∀ b, b ∈ l' → b ∈ l := fun b hb => hperm.mem_iff.2 (List.mem_append_left _ hb)
  refine ⟨rfl, ⟨v', mb, l', dat, cv, c, ⟨hacc, by rw [ext_lt l1]; exact a.o1, by rw [ext_lt l2]; exact a.o2, fun b hb => by rw [hv'] at hb; rw [ext_lt (l3 b hb)]; exact a.o3 b hb, fun b hb => by rw [ext_lt (l4 b (hml b hb))]; exact a.o4 b (hml b hb), fun b hb => by rw [ext_lt (l5 b hb)]; exact a.o5 b hb, ?_, a.cnt.later (by omega), a.clen, a.cpos⟩⟩, hkeep.mono (fun b hb hne => ⟨fun e => hne (e ▸ a.o1), fun e => hne (e ▸ a.o2), fun e => hne (a.o3 b e), fun e => hne (a.o4 b e)⟩)⟩
  have h1 : ((l.map dat).filter (fun o => decide (((time + 1 : Nat) : Int) < o.till))).Perm (((es.filter (isOpen time)).map ordOf).filter (fun o => decide (((time + 1 : Nat) : Int) < o.till))) := List.Perm.filter _ a.rel
  have h2 : ((l.map dat).filter (fun o => decide (((time + 1 : Nat) : Int) < o.till))).Perm (l'.map dat) := by
    refine (List.Perm.filter _ (hperm.map dat)).trans ?_
    rw [List.map_append, List.filter_append]
    have e1 : (l'.map dat).filter (fun o => decide (((time + 1 : Nat) : Int) < o.till)) = l'.map dat := List.filter_eq_self.2 (fun o ho => by
      obtain ⟨b, hb, rfl⟩ := List.mem_map.1 ho
      exact decide_eq_true (hlive b hb))
    have e2 : (rem.map dat).filter (fun o => decide (((time + 1 : Nat) : Int) < o.till)) = [] := List.filter_eq_nil_iff.2 (fun o ho => by
      obtain ⟨b, hb, rfl⟩ := List.mem_map.1 ho
      have := hrem b hb
      simp
      omega)
    rw [e1, e2, List.append_nil]
  have h3 : ((es.filter (isOpen time)).map ordOf).filter (fun o => decide (((time + 1 : Nat) : Int) < o.till)) = (es.filter (isOpen ((time + 1 : Nat) : Int))).map ordOf := by
    rw [List.filter_map, List.filter_filter]
    congr 2
    funext x
    by_cases h : isOpen ((time + 1 : Nat) : Int) x = true
    · rw [h]
      simp only [isOpen, Bool.and_eq_true, decide_eq_true_eq] at h
      have q : isOpen time x = true := by
        simp only [isOpen, Bool.and_eq_true, decide_eq_true_eq]
        exact ⟨h.1, by omega⟩
      rw [q]
      simp only [Function.comp_def, ordOf, Bool.and_true]
      exact decide_eq_true h.2
    · rw [Bool.not_eq_true] at h
      rw [h]
      simp only [isOpen, Bool.and_eq_false_iff, decide_eq_false_iff_not] at h
      rcases h with h | h
      · simp [isOpen, h]
      · rw [show ((fun o : Odr => decide (((time + 1 : Nat) : Int) < o.till)) ∘ ordOf) x = false from decide_eq_false h]
        rfl
  exact h2.symm.trans (h3 ▸ h1)

end Go.Proofs.Ytjhifhoniimfgaa

/-
  The watch of the program: ticks, steps, checks; the channel that is closed when the gate is shut.
-/
namespace Go.Proofs.Ytjhifhoniimfgaa
open Go.RowKit Go.Conc

/-- The watch at block wb: how many misses shut the gate; how many there are; was there a tick, a step since the last check? is the channel closed? -/
structure WatchAt (w : World) (wb cb : Nat) (ch mi : Int) (ti st sh : Bool) : Prop where
  watch : w.heap[wb]? = some (.cells #[.int .i64 ch, .int .i64 mi, .bool ti, .bool st, .chan (some cb)] 113 (0, 0))
  chan : w.heap[cb]? = some (.chan 0 #[] sh 0 0 false)

theorem WatchAt.keep {S : Nat → Prop} {w w' : World} {wb cb : Nat} {ch mi : Int} {ti st sh : Bool} (h : WatchAt w wb cb ch mi ti st sh) (hk : Keep S w w') (h1 : S wb) (h2 : S cb) : WatchAt w' wb cb ch mi ti st sh :=
  ⟨hk.get h.watch h1, hk.get h.chan h2⟩

theorem WatchAt.ne {w : World} {wb cb : Nat} {ch mi : Int} {ti st sh : Bool} (h : WatchAt w wb cb ch mi ti st sh) : wb ≠ cb := by
  intro e
  have h1 := h.watch
  rw [e, h.chan] at h1
  cases h1

set_option maxRecDepth 100000 in
theorem isShut_no {w : World} {wb cb : Nat} {ch mi : Int} {ti st : Bool} (h : WatchAt w wb cb ch mi ti st false) :
    Calls Try.prog 35 #[.pointer (some ⟨wb, 0, none⟩)] w fun e w' => e = .returned (.bool false) ∧ w = w' := by
  have c3 : w.cell? ⟨wb, 4, none⟩ = some (.chan (some cb)) := cellAt (i := 4) h.watch rfl
  have hc := h.chan
  refine calls_of_loneTo fun cs => ?_
  have e : Frame.enter Try.prog 35 #[.pointer (some ⟨wb, 0, none⟩)] .normal = (base 35).at ⟨#[.pointer (some ⟨wb, 0, none⟩), undef, undef, undef, undef, undef, undef, undef, undef, undef], []⟩ [.code (Try.f35.body.getD .skip)] := by
    simp [Frame.enter, Frame.at, Try.func35, base, Try.f35]
  rw [e]
  refine LoneTo.goes (n := 40) ?_
  simp only [Try.f35, Option.getD_some]
  s_c stepG_seq
  s_reg
  s_op
  s_c stepG_region_end
  s_c stepG_seq
  s_reg
  s_op
  s_op
  s_op
  s_op
  s_c stepG_region_end
  s_c stepG_seq
  s_reg
  s_stop
  refine LoneTo.step (step_lone_select_default (c := cb) (z := .agg #[]) (cap := 0) (s := 0) (r := 0) (tm := false) (stepG_comm (cases := #[rcase cb (.agg #[])]) (blocking := false) (shape := .select) (w' := w) rfl rfl (by decide) (by simp [go_sem, execOp, rcase, Act.eval])) hc) ?_
  rw [Frame.finish_at]
  walk_nrm
  refine LoneTo.goes (n := 20) ?_
  s_op
  s_op
  s_c stepG_region_end
  s_c stepG_block
  s_cond false
  s_c stepG_seq
  s_reg
  s_op
  s_c stepG_region_end
  s_c stepG_ret'
  s_stop
  exact LoneTo.done ⟨.returned (.bool false), _, rfl, ⟨rfl, rfl⟩, rfl, rfl, rfl, rfl, _, Try.func35, by simp [results, Try.f35, Frame.at]⟩

set_option maxRecDepth 100000 in
theorem isShut_yes {w : World} {wb cb : Nat} {ch mi : Int} {ti st : Bool} (h : WatchAt w wb cb ch mi ti st true) :
    Calls Try.prog 35 #[.pointer (some ⟨wb, 0, none⟩)] w fun e w' => e = .returned (.bool true) ∧ w = w' := by
  have c3 : w.cell? ⟨wb, 4, none⟩ = some (.chan (some cb)) := cellAt (i := 4) h.watch rfl
  have hc := h.chan
  refine calls_of_loneTo fun cs => ?_
  have e : Frame.enter Try.prog 35 #[.pointer (some ⟨wb, 0, none⟩)] .normal = (base 35).at ⟨#[.pointer (some ⟨wb, 0, none⟩), undef, undef, undef, undef, undef, undef, undef, undef, undef], []⟩ [.code (Try.f35.body.getD .skip)] := by
    simp [Frame.enter, Frame.at, Try.func35, base, Try.f35]
  rw [e]
  refine LoneTo.goes (n := 40) ?_
  simp only [Try.f35, Option.getD_some]
  s_c stepG_seq
  s_reg
  s_op
  s_c stepG_region_end
  s_c stepG_seq
  s_reg
  s_op
  s_op
  s_op
  s_op
  s_c stepG_region_end
  s_c stepG_seq
  s_reg
  s_stop
  refine LoneTo.step (step_lone_select_recv_shut (c := cb) (z := .agg #[]) (cap := 0) (s := 0) (r := 0) (tm := false) (stepG_comm (cases := #[rcase cb (.agg #[])]) (blocking := false) (shape := .select) (w' := w) rfl rfl (by decide) (by simp [go_sem, execOp, rcase, Act.eval])) hc) ?_
  rw [Frame.finish_at]
  walk_nrm
  refine LoneTo.goes (n := 20) ?_
  s_op
  s_op
  s_c stepG_region_end
  s_c stepG_block
  s_cond true
  s_c stepG_seq
  s_reg
  s_op
  s_c stepG_region_end
  s_c stepG_ret'
  s_stop
  exact LoneTo.done ⟨.returned (.bool true), _, rfl, ⟨rfl, rfl⟩, rfl, rfl, rfl, rfl, _, Try.func35, by simp [results, Try.f35, Frame.at]⟩

theorem isShut_any {w : World} {wb cb : Nat} {ch mi : Int} {ti st sh : Bool} (h : WatchAt w wb cb ch mi ti st sh) :
    Calls Try.prog 35 #[.pointer (some ⟨wb, 0, none⟩)] w fun e w' => e = .returned (.bool sh) ∧ w = w' := by
  cases sh
  · exact isShut_no h
  · exact isShut_yes h

set_option maxHeartbeats 400000 in
theorem ticked_any {w : World} {wb cb : Nat} {ch mi : Int} {ti st sh : Bool} (h : WatchAt w wb cb ch mi ti st sh) :
    Calls Try.prog 58 #[.pointer (some ⟨wb, 0, none⟩)] w fun e w' => e = .returned (.tuple #[]) ∧ WatchAt w' wb cb ch mi true st sh ∧ Keep (fun b => b ≠ wb) w w' := by
  have c := cellAt (i := 2) h.watch rfl
  have z := frozenAt (i := 2) h.watch
  have HF : Hid (WatchAt (w.setCell ⟨wb, 2, none⟩ (.bool true)) wb cb ch mi true st sh) :=
    ⟨by rw [heap_setCell_at _ h.watch]; simp, by rw [Below.heap_setCell _ _ _ _ (Ne.symm h.ne)]; exact h.chan⟩
  clear h
  go_enter Try.func58, Try.ntmps58
  go_wp2
  go_end0
  exact ⟨rfl, HF.out, (Keep.refl _ w).setCell _ (fun _ h => h rfl) _⟩

set_option maxHeartbeats 400000 in
theorem stepped_any {w : World} {wb cb : Nat} {ch mi : Int} {ti st sh : Bool} (h : WatchAt w wb cb ch mi ti st sh) :
    Calls Try.prog 48 #[.pointer (some ⟨wb, 0, none⟩)] w fun e w' => e = .returned (.tuple #[]) ∧ WatchAt w' wb cb ch mi ti true sh ∧ Keep (fun b => b ≠ wb) w w' := by
  have c := cellAt (i := 3) h.watch rfl
  have z := frozenAt (i := 3) h.watch
  have HF : Hid (WatchAt (w.setCell ⟨wb, 3, none⟩ (.bool true)) wb cb ch mi ti true sh) :=
    ⟨by rw [heap_setCell_at _ h.watch]; simp, by rw [Below.heap_setCell _ _ _ _ (Ne.symm h.ne)]; exact h.chan⟩
  clear h
  go_enter Try.func48, Try.ntmps48
  go_wp2
  go_end0
  exact ⟨rfl, HF.out, (Keep.refl _ w).setCell _ (fun _ h => h rfl) _⟩

set_option maxHeartbeats 400000 in
theorem count_any {w : World} {wb cb : Nat} {ch mi : Int} {ti st sh : Bool} (h : WatchAt w wb cb ch mi ti st sh) (h0 : 0 ≤ mi) (h1 : mi < 9223372036854775807) :
    Calls Try.prog 67 #[.pointer (some ⟨wb, 0, none⟩)] w fun e w' => e = .returned (.tuple #[]) ∧ WatchAt w' wb cb ch (if st then 0 else mi + 1) ti st sh ∧ Keep (fun b => b ≠ wb) w w' := by
  have c := cellAt (i := 3) h.watch rfl
  have c1 := cellAt (i := 1) h.watch rfl
  have z := frozenAt (i := 1) h.watch
  have HF : Hid (∀ x, WatchAt (w.setCell ⟨wb, 1, none⟩ (.int .i64 x)) wb cb ch x ti st sh) := fun x =>
    ⟨by rw [heap_setCell_at _ h.watch]; simp, by rw [Below.heap_setCell _ _ _ _ (Ne.symm h.ne)]; exact h.chan⟩
  clear h
  cases st
  · go_enter Try.func67, Try.ntmps67
    go_wp2
    go_end0
    exact ⟨rfl, HF.out _, (Keep.refl _ w).setCell _ (fun _ h => h rfl) _⟩
  · go_enter Try.func67, Try.ntmps67
    go_wp2
    go_end0
    exact ⟨rfl, HF.out _, (Keep.refl _ w).setCell _ (fun _ h => h rfl) _⟩

set_option maxHeartbeats 400000 in
theorem look_not {w : World} {wb cb : Nat} {ch mi : Int} {ti st sh : Bool} (h : WatchAt w wb cb ch mi ti st sh) (hn : ti = false ∨ sh = true) :
    Calls Try.prog 59 #[.pointer (some ⟨wb, 0, none⟩)] w fun e w' => e = .returned (.tuple #[]) ∧ w = w' := by
  have c := cellAt (i := 2) h.watch rfl
  have hs := isShut_any h
  clear h
  cases ti
  · go_enter Try.func59, Try.ntmps59
    go_wp2_with fail
    refine bodyPost_ret (results_none rfl _ _ _) rfl ?_
    exact ⟨rfl, rfl⟩
  · obtain rfl : sh = true := by simpa using hn
    go_enter Try.func59, Try.ntmps59
    go_wp2_with fail
    refine hs.mono ?_
    rintro e w' ⟨rfl, rfl⟩
    go_wp2_with fail
    refine bodyPost_ret (results_none rfl _ _ _) rfl ?_
    exact ⟨rfl, rfl⟩

theorem look_end {w : World} {wb cb : Nat} {ch mi : Int} {ti st sh : Bool} (h : WatchAt w wb cb ch mi ti st sh) :
    WatchAt ((w.setCell ⟨wb, 2, none⟩ (.bool false)).setCell ⟨wb, 3, none⟩ (.bool false)) wb cb ch mi false false sh ∧ Keep (fun b => b ≠ wb) w ((w.setCell ⟨wb, 2, none⟩ (.bool false)).setCell ⟨wb, 3, none⟩ (.bool false)) :=
  ⟨⟨by rw [heap_setCell_at _ (heap_setCell_at _ h.watch)]; simp, by rw [Below.heap_setCell _ _ _ _ (Ne.symm h.ne), Below.heap_setCell _ _ _ _ (Ne.symm h.ne)]; exact h.chan⟩,
    ((Keep.refl _ w).setCell _ (fun _ h => h rfl) _).setCell _ (fun _ h => h rfl) _⟩

theorem shut_end {w : World} {wb cb : Nat} {ch mi : Int} {ti st : Bool} (h : WatchAt w wb cb ch mi ti st false) :
    WatchAt { w with heap := w.heap.setIfInBounds cb (.chan 0 #[] true 0 0 false) } wb cb ch mi ti st true ∧ Keep (fun b => b ≠ wb ∧ b ≠ cb) w { w with heap := w.heap.setIfInBounds cb (.chan 0 #[] true 0 0 false) } := by
  have hl := block_lt h.chan
  refine ⟨⟨?_, ?_⟩, ⟨rfl, rfl, rfl, by simp, fun k hk hs => ?_⟩⟩
  · show (w.heap.setIfInBounds cb _)[wb]? = _
    rw [Array.getElem?_setIfInBounds, if_neg (Ne.symm h.ne)]
    exact h.watch
  · show (w.heap.setIfInBounds cb _)[cb]? = _
    rw [Array.getElem?_setIfInBounds, if_pos rfl, if_pos hl]
  · show (w.heap.setIfInBounds cb _)[k]? = _
    rw [Array.getElem?_setIfInBounds, if_neg (Ne.symm hs.2)]

set_option maxHeartbeats 1000000 in
theorem look_check {w : World} {wb cb : Nat} {ch mi : Int} {st : Bool} (h : WatchAt w wb cb ch mi true st false) (h0 : 0 ≤ mi) (h1 : mi < 9223372036854775807) :
    Calls Try.prog 59 #[.pointer (some ⟨wb, 0, none⟩)] w fun e w' => e = .returned (.tuple #[]) ∧
      WatchAt w' wb cb ch (if st then 0 else mi + 1) false false (decide ((if st then 0 else mi + 1) = ch)) ∧ Keep (fun b => b ≠ wb ∧ b ≠ cb) w w' := by
  have c := cellAt (i := 2) h.watch rfl
  have hs := isShut_any h
  have hc := count_any h h0 h1
  clear h
  generalize (if st then 0 else mi + 1) = M at *
  go_enter Try.func59, Try.ntmps59
  go_wp2_with fail
  refine hs.mono ?_
  rintro e w' ⟨rfl, rfl⟩
  go_wp2_with fail
  refine hc.mono ?_
  rintro e w1 ⟨rfl, hw1, hk1⟩
  have d0 := cellAt (i := 0) hw1.watch rfl
  have d1 := cellAt (i := 1) hw1.watch rfl
  have d2 := cellAt (i := 2) hw1.watch rfl
  have d3 := cellAt (i := 3) hw1.watch rfl
  have d4 := cellAt (i := 4) hw1.watch rfl
  have z2 := frozenAt (i := 2) hw1.watch
  have z3 := frozenAt (i := 3) hw1.watch
  obtain ⟨q1, q2⟩ := look_end hw1
  have q3 : ∀ n, WatchAt (((w1.setCell ⟨wb, 2, none⟩ (.bool false)).setCell ⟨wb, 3, none⟩ (.bool false)).drewN n) wb cb ch M false false false := fun n => ⟨q1.watch, q1.chan⟩
  have HQ : Hid (∀ n, WatchAt (((w1.setCell ⟨wb, 2, none⟩ (.bool false)).setCell ⟨wb, 3, none⟩ (.bool false)).drewN n) wb cb ch M false false false) := q3
  have HK : Hid (∀ n, Keep (fun b => b ≠ wb) w (((w1.setCell ⟨wb, 2, none⟩ (.bool false)).setCell ⟨wb, 3, none⟩ (.bool false)).drewN n)) := fun n => (hk1.trans q2).drewN n
  have hrun := fun n ats ty => run_close_open (P := Try.prog) ats ty (q3 n).chan
  clear q1 q2 hw1 hk1 q3
  by_cases hM : M = ch
  · have hB : (M == ch) = true := by simpa using hM
    have HD : Hid (decide (M = ch) = true) := decide_eq_true hM
    clear hM
    go_wp2
    go_quiet (fail)
    go_wp2
    go_end0
    obtain ⟨r1, r2⟩ := shut_end (HQ.out nq)
    rw [HD.out]
    exact ⟨rfl, r1, ((HK.out nq).mono (fun b _ hb => hb.1)).trans r2⟩
  · have hB : (M == ch) = false := by simpa using hM
    have HD : Hid (decide (M = ch) = false) := decide_eq_false hM
    clear hM
    go_wp2
    go_quiet (fail)
    go_wp2
    go_end0
    rw [HD.out]
    exact ⟨rfl, HQ.out nq, (HK.out nq).mono (fun b _ hb => hb.1)⟩

theorem make_chan (w : World) : (Instr.makeChan 111 (.int .i64 0)).run Try.prog w = .ok (.chan (some w.heap.size)) (w.alloc (.chan 0 #[] false 0 0 false)) := by
  have h : (Try.prog.info? 110).map (·.bytes) = some 0 := by kernel_rfl
  obtain ⟨i, hi, hb⟩ := Option.map_eq_some_iff.1 h
  simpa using run_makeChan (P := Try.prog) (w := w) Try.underlying111 hi .i64 0 (by omega) (by rw [hb]; omega)

set_option maxHeartbeats 400000 in
theorem watchNew_any (ch : Int) (w : World) :
    Calls Try.prog 44 #[.int .i64 ch] w fun e w' => ∃ wb cb, e = .returned (.pointer (some ⟨wb, 0, none⟩)) ∧ WatchAt w' wb cb ch 0 false false false ∧ Below w.heap.size w w' ∧ w.heap.size ≤ wb ∧ w.heap.size ≤ cb ∧ wb < w'.heap.size ∧ cb < w'.heap.size := by
  have hmk := make_chan
  have HF : Hid (WatchAt ((w.alloc (.chan 0 #[] false 0 0 false)).alloc (.cells #[.int .i64 ch, .int .i64 0, .bool false, .bool false, .chan (some w.heap.size)] 113)) (w.heap.size + 1) w.heap.size ch 0 false false false) := by
    refine ⟨?_, ?_⟩
    · simpa using heap_alloc_new (w.alloc (.chan 0 #[] false 0 0 false)) (.cells #[.int .i64 ch, .int .i64 0, .bool false, .bool false, .chan (some w.heap.size)] 113)
    · rw [Below.heap_alloc _ _ _ (by simp)]; exact heap_alloc_new w _
  go_enter Try.func44, Try.ntmps44
  go_wp2
  go_ret
  refine ⟨_, _, rfl, HF.out, ((Below.refl _ _).alloc (Nat.le_refl _) _).alloc (by simp) _, by omega, by omega, by simp, by simp; omega⟩

end Go.Proofs.Ytjhifhoniimfgaa

