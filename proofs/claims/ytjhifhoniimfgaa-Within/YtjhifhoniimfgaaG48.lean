import Derived.Test.YtjhifhoniimfgaaG47
import Derived.Test.YtjhifhoniimfgaaG42
import Derived.BigRegion
import Derived.BigQuiet
/-
  A game: is an order open?
-/
namespace Go.Proofs.Ytjhifhoniimfgaa
open Go.RowKit

set_option maxRecDepth 100000 in
set_option maxHeartbeats 2000000 in
theorem sopen_walk {w : World} {pb : Nat} {g : Snt} (hb : w.heap[pb]? = some (.cells (sCells g) 43 (0, 0))) (ht : g.taken = true) (a t : Int) (hf : 0 ≤ g.frm ∧ g.frm ≤ 281000000000000) (hlf : 0 ≤ g.life ∧ g.life ≤ 12) :
    Calls Try.prog 12 #[.pointer (some ⟨pb, 0, none⟩), .int .i64 a, .int .i64 t] w fun e w' => e = .returned (.bool (openG g a t)) ∧ ∃ q, w' = w.drewN q := by
  have s2 := sc2 hb
  have s3 := sc3 hb
  have s8 := sc8 hb
  have s9 := sc9 hb
  have s11 := sc11 hb
  have s13 := sc13 hb
  have s14 := sc14 hb
  rw [ht] at s11
  have HO : Hid (∀ k ac cd gn fr li, g.kind = k → g.account = ac → g.code = cd → g.gone = gn → g.frm = fr → g.life = li → openG g a t = (decide (k = 1) && decide (ac = a) && decide (cd = 0) && !gn && decide (fr ≤ t) && decide (t < fr + li))) := fun k ac cd gn fr li e1 e2 e3 e4 e5 e6 => by
    unfold openG
    rw [e1, e2, e3, e4, e5, e6]
  obtain ⟨B, hB⟩ : ∃ B, B = openG g a t := ⟨_, rfl⟩
  rw [← hB]
  have HB := hideE hB
  generalize e1 : g.kind = k at *
  generalize e2 : g.account = ac at *
  generalize e3 : g.code = cd at *
  generalize e4 : g.gone = gn at *
  generalize e5 : g.frm = fr at *
  generalize e6 : g.life = li at *
  have HV : Hid (B = (decide (k = 1) && decide (ac = a) && decide (cd = 0) && !gn && decide (fr ≤ t) && decide (t < fr + li))) := by
    show B = _
    rw [HB.out]; exact HO.out k ac cd gn fr li rfl rfl rfl rfl rfl rfl
  clear HB HO hB e1 e2 e3 e4 e5 e6 ht hb
  by_cases c1 : k = 1
  rotate_left
  · have d1 : (k == 1) = false := beq_eq_false_iff_ne.2 c1
    have hv : B = false := by rw [HV.out]; simp [c1]
    subst hv
    clear HV c1
    go_enter Try.func12, Try.ntmps12
    go_wp2
    go_quiet (fail)
    go_wp2
    go_ret
    exact ⟨rfl, _, rfl⟩
  have d1 : (k == 1) = true := beq_iff_eq.2 c1
  by_cases c2 : ac = a
  rotate_left
  · have d2 : (ac == a) = false := beq_eq_false_iff_ne.2 c2
    have hv : B = false := by rw [HV.out]; simp [c2]
    subst hv
    clear HV c1 c2
    go_enter Try.func12, Try.ntmps12
    go_wp2
    go_quiet (fail)
    go_wp2
    go_ret
    exact ⟨rfl, _, rfl⟩
  have d2 : (ac == a) = true := beq_iff_eq.2 c2
  by_cases c3 : cd = 0
  rotate_left
  · have d3 : (cd == 0) = false := beq_eq_false_iff_ne.2 c3
    have hv : B = false := by rw [HV.out]; simp [c3]
    subst hv
    clear HV c1 c2 c3
    go_enter Try.func12, Try.ntmps12
    go_wp2
    go_quiet (fail)
    go_wp2
    go_ret
    exact ⟨rfl, _, rfl⟩
  have d3 : (cd == 0) = true := beq_iff_eq.2 c3
  cases gn
  rotate_left
  · skip
    have hv : B = false := by rw [HV.out]; simp [c1]
    subst hv
    clear HV c1 c2 c3
    go_enter Try.func12, Try.ntmps12
    go_wp2
    go_quiet (fail)
    go_wp2
    go_ret
    exact ⟨rfl, _, rfl⟩
  by_cases c5 : fr ≤ t
  rotate_left
  · have d5 : decide (fr ≤ t) = false := decide_eq_false c5
    have hv : B = false := by rw [HV.out]; simp [c5]
    subst hv
    clear HV c1 c2 c3
    go_enter Try.func12, Try.ntmps12
    go_wp2
    go_quiet (fail)
    go_wp2
    go_ret
    exact ⟨rfl, _, rfl⟩
  have d5 : decide (fr ≤ t) = true := decide_eq_true c5
  by_cases c6 : t < fr + li
  · have d6 : decide (t < fr + li) = true := decide_eq_true c6
    have hv : B = true := by rw [HV.out]; simp [c1, c2, c3, c5, c6]
    subst hv
    clear HV c1 c2 c3
    go_enter Try.func12, Try.ntmps12
    go_wp2
    go_quiet (fail)
    go_wp2
    go_ret
    exact ⟨rfl, _, rfl⟩
  · have d6 : decide (t < fr + li) = false := decide_eq_false c6
    have hv : B = false := by rw [HV.out]; simp [c6]
    subst hv
    clear HV c1 c2 c3
    go_enter Try.func12, Try.ntmps12
    go_wp2
    go_quiet (fail)
    go_wp2
    go_ret
    exact ⟨rfl, _, rfl⟩

end Go.Proofs.Ytjhifhoniimfgaa

/-
  A game: an order is told off.
-/
namespace Go.Proofs.Ytjhifhoniimfgaa
open Go.RowKit

def cm (l : List Snt) (p : Snt) (i : Nat) : List Snt := (l.take i).map (markG p) ++ l.drop i

theorem cm_len (l : List Snt) (p : Snt) (i : Nat) : (cm l p i).length = l.length := by
  unfold cm
  rw [List.length_append, List.length_map, List.length_take, List.length_drop]
  omega

theorem cm_after (l : List Snt) (p : Snt) (i j : Nat) (h : i ≤ j) (hl : i ≤ l.length) : (cm l p i)[j]? = l[j]? := by
  unfold cm
  have e : ((l.take i).map (markG p)).length = i := by rw [List.length_map, List.length_take]; omega
  rw [List.getElem?_append_right (by omega), e, List.getElem?_drop, show i + (j - i) = j by omega]

theorem cm_succ (l : List Snt) (p q : Snt) (i : Nat) (hq : l[i]? = some q) : cm l p (i + 1) = (cm l p i).set i (markG p q) := by
  have hlt := (List.getElem?_eq_some_iff.1 hq).1
  unfold cm
  have e : ((l.take i).map (markG p)).length = i := by rw [List.length_map, List.length_take]; omega
  have hd : l.drop i = q :: l.drop (i + 1) := by
    rw [List.getElem?_eq_getElem hlt] at hq
    simp only [Option.some.injEq] at hq
    rw [← hq]
    exact List.drop_eq_getElem_cons hlt
  rw [List.set_append_right _ _ (by omega), e, Nat.sub_self, List.take_add_one, hq, hd]
  simp

/-- Places as they stand when all is told. -/
def TalL (l : List Snt) : Prop := ∀ (j : Nat) (g : Snt), l[j]? = some g → g.taken = true ∧ (0 ≤ g.frm ∧ g.frm ≤ 281000000000000) ∧ (0 ≤ g.life ∧ g.life ≤ 12)

theorem TalL.cm {l : List Snt} (h : TalL l) (p : Snt) (i : Nat) : TalL (cm l p i) := by
  intro j g hg
  by_cases hj : i ≤ j
  · have hjl := (List.getElem?_eq_some_iff.1 hg).1
    rw [cm_len] at hjl
    rw [cm_after l p i j hj (by omega)] at hg
    exact h j g hg
  · have hjl := (List.getElem?_eq_some_iff.1 hg).1
    rw [cm_len] at hjl
    unfold Proofs.Ytjhifhoniimfgaa.cm at hg
    rw [List.getElem?_append_left (by rw [List.length_map, List.length_take]; omega), List.getElem?_map, List.getElem?_take_of_lt (by omega), List.getElem?_eq_getElem hjl] at hg
    simp only [Option.map_some, Option.some.injEq] at hg
    have := h j _ (List.getElem?_eq_getElem hjl)
    subst hg
    unfold markG
    split
    · exact this
    · exact this

theorem XAt.drewN {own : Nat → Nat} {T : Nat} {w : World} {X : XB} {lim : Nat → Nat → Int} {v : XV} {L : Nat → List Snt} (h : XAt own T w X lim v L) (n : Nat) : XAt own T (w.drewN n) X lim v L :=
  h.keep (S := fun _ => True) ((Keep.refl _ w).drewN n) (fun _ _ _ => trivial) (fun _ _ _ => rfl)

set_option maxHeartbeats 400000 in
theorem canc_no {own : Nat → Nat} {T : Nat} {w : World} {X : XB} {lim : Nat → Nat → Int} {v : XV} {L : Nat → List Snt} (h : XAt own T w X lim v L) (k : Nat) (p : Snt) (hp : (L 0)[k]? = some p) (hk : p.kind = 2) (hc : (p.code != 0) = true) :
    Calls Try.prog 13 #[.pointer (some ⟨X.xb, 0, none⟩), .int .i64 k] w fun e w' => e = .returned (.tuple #[]) ∧ w = w' := by
  have hkl := (List.getElem?_eq_some_iff.1 hp).1
  have c7 := h.c7
  obtain ⟨rb, cap, e1, e2, _, _⟩ := h.rowcell 0 (by omega) (by omega)
  rw [e1] at c7
  have eR := e2 k hkl
  have hb := h.sent 0 k p (by omega) hp
  have s2 := sc2 hb
  have s14 := sc14 hb
  rw [hk] at s2
  have l1 : (k : Int) < ((L 0).length : Int) := by omega
  clear h hp hk e1 e2 hb
  go_enter Try.func13, Try.ntmps13
  go_wp2
  refine bodyPost_ret (results_none rfl _ _ _) rfl ?_
  exact ⟨rfl, rfl⟩

set_option maxRecDepth 100000 in
set_option maxHeartbeats 1000000 in
theorem canc_yes {own : Nat → Nat} {T : Nat} {w : World} {X : XB} {lim : Nat → Nat → Int} {v : XV} {L : Nat → List Snt} (h : XAt own T w X lim v L) (k : Nat) (p : Snt) (hp : (L 0)[k]? = some p) (hk : p.kind = 2) (hc : p.code = 0) (hall : TalL (L 0)) (hlen : (L 0).length ≤ 281000000000000) :
    Calls Try.prog 13 #[.pointer (some ⟨X.xb, 0, none⟩), .int .i64 k] w fun e w' => e = .returned (.tuple #[]) ∧ XAt own T w' X lim v (upN L 0 (cm (L 0) p k)) ∧ Keep (fun b => own b ≠ T) w w' := by
  have hkl := (List.getElem?_eq_some_iff.1 hp).1
  have c7 := h.c7
  obtain ⟨rb, cap, e1, e2, e3, e4⟩ := h.rowcell 0 (by omega) (by omega)
  rw [e1] at c7
  have eR := e2 k hkl
  have hb := h.sent 0 k p (by omega) hp
  have s2 := sc2 hb
  have s14 := sc14 hb
  rw [hk] at s2
  rw [hc] at s14
  have l1 : (k : Int) < ((L 0).length : Int) := by omega
  obtain ⟨ln, hln⟩ : ∃ ln, ln = (L 0).length := ⟨_, rfl⟩
  rw [← hln] at c7 l1 hkl hlen
  have HX := hideE h
  have HP := hideE hp
  have HA := hideE hall
  have HL := hideE hln
  have HE := hideE e1
  clear h hp hk hc hall e2 hb e1 hln e3 e4
  go_enter Try.func13, Try.ntmps13
  go_wp2
  clear c7 eR s2 s14
  go_loopg [5] k (fun gn iv wr => ∃ i : Nat, iv = .int .i64 i ∧ i ≤ k ∧ gn = k - i ∧ XAt own T wr X lim v (upN L 0 (cm (L 0) p i)) ∧ Keep (fun b => own b ≠ T) w wr)
  case atStart =>
    refine ⟨0, rfl, Nat.zero_le _, rfl, ?_, Keep.refl _ _⟩
    rw [show cm (L 0) p 0 = L 0 by unfold cm; simp, upN_self]
    exact HX.out
  case round =>
    obtain ⟨i, rfl, hi, hgn, hx, hkeep⟩ := hrel
    by_cases hik : i < k
    · have i1 : (i : Int) < (k : Int) := by omega
      have i2 : (i : Int) < (ln : Int) := by omega
      have hl0 : (upN L 0 (cm (L 0) p i) 0).length = ln := by rw [upN_same, cm_len, HL.out]
      have c7 := hx.c7
      obtain ⟨rb', cap', e1, e2, _, _⟩ := hx.rowcell 0 (by omega) (by rw [hl0]; omega)
      have e1' := HE.out
      rw [e1] at e1'
      simp only [Value.slice.injEq, Option.some.injEq, Addr.mk.injEq, and_true] at e1'
      rw [e1, hl0] at c7
      have eR := e2 i (by rw [hl0]; omega)
      have hpk : (upN L 0 (cm (L 0) p i) 0)[k]? = some p := by rw [upN_same, cm_after _ _ _ _ (by omega) (by rw [← HL.out]; omega)]; exact HP.out
      have hil : i < (L 0).length := by rw [← HL.out]; omega
      have hq0 := List.getElem?_eq_getElem hil
      generalize hqv : (L 0)[i] = q at hq0
      have hqi : (upN L 0 (cm (L 0) p i) 0)[i]? = some q := by rw [upN_same, cm_after _ _ _ _ (Nat.le_refl _) (by omega)]; exact hq0
      have hbp := hx.sent 0 k p (by omega) hpk
      have hbq := hx.sent 0 i q (by omega) hqi
      have p3 := sc3 hbp
      have p5 := sc5 hbp
      have p9 := sc9 hbp
      have q5 := sc5 hbq
      have q13 := sc13 hbq
      have fz : wr.frozen? ⟨X.pb 0 i, 13, none⟩ = false := frozenAt hbq
      obtain ⟨t1, t2, t3⟩ := HA.out i q hq0
      have op : ∀ n, Calls Try.prog 12 #[.pointer (some ⟨X.pb 0 i, 0, none⟩), .int .i64 p.account, .int .i64 p.frm] (wr.drewN n) fun e w' => e = .returned (.bool (openG q p.account p.frm)) ∧ ∃ m, w' = wr.drewN m := fun n => by
        refine (sopen_walk (w := wr.drewN n) hbq t1 p.account p.frm t2 t3).mono ?_
        rintro e w' ⟨rfl, m, rfl⟩
        exact ⟨rfl, _, World.drewN_drewN _ _ _⟩
      have HI := hideE (show i < k ∧ gk = k - i ∧ XAt own T wr X lim v (upN L 0 (cm (L 0) p i)) ∧ Keep (fun b => own b ≠ T) w wr ∧ (upN L 0 (cm (L 0) p i) 0)[i]? = some q ∧ (L 0)[i]? = some q ∧ wr.heap[X.pb 0 i]? = some (.cells (sCells q) 43 (0, 0)) from ⟨hik, hgn, hx, hkeep, hqi, hq0, hbq⟩)
      have Hhit : Hid (hitG p q = (openG q p.account p.frm && decide (q.number = p.number))) := rfl
      obtain ⟨O, hO⟩ : ∃ O, O = openG q p.account p.frm := ⟨_, rfl⟩
      rw [← hO] at op Hhit
      obtain ⟨rfl, _⟩ := e1'
      have HQ : Hid (∀ m, hitG p q = true → XAt own T ((wr.drewN m).setCell ⟨X.pb 0 i, 13, none⟩ (.bool true)) X lim v (upN L 0 (cm (L 0) p (i + 1))) ∧ Keep (fun b => own b ≠ T) w ((wr.drewN m).setCell ⟨X.pb 0 i, 13, none⟩ (.bool true))) := fun m hh => by
        obtain ⟨_, _, z1, z2, z3, z4, z5⟩ := HI.out
        have kk : Keep (fun b => b ≠ X.pb 0 i) (wr.drewN m) ((wr.drewN m).setCell ⟨X.pb 0 i, 13, none⟩ (.bool true)) := (Keep.refl _ _).setCell _ (fun _ h => h rfl) _
        have hb2 : ((wr.drewN m).setCell ⟨X.pb 0 i, 13, none⟩ (.bool true)).heap[X.pb 0 i]? = some (.cells (sCells { q with gone := true }) 43 (0, 0)) := by
          rw [heap_setCell_at _ (show (wr.drewN m).heap[X.pb 0 i]? = _ from z5)]
          rfl
        have x2 := (z1.drewN m).sput 0 i (by omega) q _ z3 kk hb2
        rw [upN_same, upN_upN] at x2
        refine ⟨?_, (z2.drewN m).setCell _ (fun _ hb => hb (z1.os 0 i (by omega) (List.getElem?_eq_some_iff.1 z3).1)) _⟩
        rw [cm_succ _ _ q i z4, show markG p q = { q with gone := true } from if_pos hh]
        exact x2
      have HQ0 : Hid (∀ m, hitG p q = false → XAt own T (wr.drewN m) X lim v (upN L 0 (cm (L 0) p (i + 1))) ∧ Keep (fun b => own b ≠ T) w (wr.drewN m)) := fun m hh => by
        obtain ⟨_, _, z1, z2, z3, z4, z5⟩ := HI.out
        refine ⟨?_, z2.drewN m⟩
        rw [cm_succ _ _ q i z4, show markG p q = q from if_neg (by rw [hh]; simp)]
        have : (cm (L 0) p i).set i q = cm (L 0) p i := by
          rw [upN_same] at z3
          obtain ⟨z6, z7⟩ := List.getElem?_eq_some_iff.1 z3
          rw [← z7]
          exact List.set_getElem_self z6
        rw [this]
        exact z1.drewN m
      have npx : X.pb 0 k ≠ X.pb 0 i := fun e => by have := hx.inj 0 k 0 i (by omega) (by omega) (by rw [hl0]; omega) (by rw [hl0]; omega) e; omega
      clear hx hkeep hgn hi hik hl0 e1 e2 hpk hq0 hqv hqi hbp hbq t1 t2 t3 hO hil
      cases O with
      | false =>
        have HF := hideE (show hitG p q = false from by rw [Hhit.out]; rfl)
        clear Hhit HQ
        go_wp2
        go_quiet ((go_at_call 12; exact op _))
        go_wp2
        go_roundg (k - (i + 1))
        case measure => have := HI.out; omega
        case rel => exact ⟨i + 1, rfl, HI.out.1, rfl, (HQ0.out _ HF.out).1, (HQ0.out _ HF.out).2⟩
      | true =>
        by_cases hn : q.number = p.number
        · have HF := hideE (show hitG p q = true from by rw [Hhit.out]; simp [hn])
          have hn' : (q.number == p.number) = true := beq_iff_eq.2 hn
          clear Hhit HQ0 hn
          go_wp2
          go_quiet ((go_at_call 12; exact op _))
          go_wp2
          go_roundg (k - (i + 1))
          case measure => have := HI.out; omega
          case rel => exact ⟨i + 1, rfl, HI.out.1, rfl, (HQ.out _ HF.out).1, (HQ.out _ HF.out).2⟩
        · have HF := hideE (show hitG p q = false from by rw [Hhit.out]; simp [hn])
          have hn' : (q.number == p.number) = false := beq_eq_false_iff_ne.2 hn
          clear Hhit HQ hn
          go_wp2
          go_quiet ((go_at_call 12; exact op _))
          go_wp2
          go_roundg (k - (i + 1))
          case measure => have := HI.out; omega
          case rel => exact ⟨i + 1, rfl, HI.out.1, rfl, (HQ0.out _ HF.out).1, (HQ0.out _ HF.out).2⟩
    · have ei : i = k := by omega
      subst ei
      have HZ := hideE (show XAt own T wr X lim v (upN L 0 (cm (L 0) p i)) ∧ Keep (fun b => own b ≠ T) w wr from ⟨hx, hkeep⟩)
      clear hx hkeep hgn hi hik
      go_wp2
      go_end0
      exact ⟨rfl, HZ.out⟩

end Go.Proofs.Ytjhifhoniimfgaa

/-
  Sums over places are sums over the book: no code.
-/
namespace Go.Proofs.Ytjhifhoniimfgaa
open Go.RowKit

/-- How many places a Cancel would hit. -/
def hS (p : Snt) : List Snt → Nat
  | [] => 0
  | q :: r => (if hitG p q = true then 1 else 0) + hS p r

theorem hS_snoc (p q : Snt) : ∀ l, hS p (l ++ [q]) = hS p l + (if hitG p q = true then 1 else 0)
  | [] => by simp [hS]
  | y :: l => by rw [List.cons_append, hS, hS, hS_snoc p q l]; omega

theorem hS_ents (p : Snt) : ∀ l : List Snt, (∀ q, q ∈ l → q.frm ≤ p.frm) → hS p l = (((entsG p.account l).filter (isOpen p.frm)).filter (fun x => x.order == p.number)).length
  | [], _ => rfl
  | q :: r, hf => by
    have hq := hf q (.head _)
    have ih := hS_ents p r (fun y hy => hf y (.tail _ hy))
    have hhit : hitG p q = (isE p.account q && isOpen p.frm (entG q) && decide (q.number = p.number)) := by unfold hitG; rw [open_ent hq]
    rw [hS, entsG, ih]
    by_cases he : isE p.account q = true
    · rw [if_pos he]
      by_cases ho : isOpen p.frm (entG q) = true
      · rw [List.filter_cons_of_pos ho]
        by_cases hn : q.number = p.number
        · rw [if_pos (by rw [hhit, he, ho]; simp [hn]), List.filter_cons_of_pos (by simp [entG, hn])]
          simp
          omega
        · rw [if_neg (by rw [hhit]; simp [hn]), List.filter_cons_of_neg (by simp [entG, hn])]
          omega
      · rw [List.filter_cons_of_neg ho, if_neg (by rw [hhit]; simp [ho])]
        omega
    · rw [if_neg he, if_neg (by rw [hhit]; simp [he])]
      omega

theorem nodup_one {l : List Ent} (h : (l.map (·.order)).Nodup) (n : Int) : (l.filter (fun x => x.order == n)).length = if l.any (fun x => x.order == n) = true then 1 else 0 := by
  induction l with
  | nil => rfl
  | cons x l ih =>
    rw [List.map_cons, List.nodup_cons] at h
    have ih := ih h.2
    by_cases hx : x.order = n
    · have hl : l.any (fun y => y.order == n) = false := by
        rw [List.any_eq_false]
        intro y hy
        simp only [beq_iff_eq]
        intro e
        exact h.1 (List.mem_map.2 ⟨y, hy, by rw [e, hx]⟩)
      rw [hl] at ih
      rw [List.filter_cons_of_pos (by simp [hx]), List.any_cons]
      simp [hx] at ih ⊢
      exact ih
    · rw [List.filter_cons_of_neg (by simp [hx]), List.any_cons, ih]
      simp [hx]

end Go.Proofs.Ytjhifhoniimfgaa

/-
  Sums over places: no code.
-/
namespace Go.Proofs.Ytjhifhoniimfgaa
open Go.RowKit

def wS (p : Snt) : List Snt → Int
  | [] => 0
  | q :: r => (if openG q p.account p.frm = true then q.price * q.qty else 0) + wS p r

def qS (p : Snt) : List Snt → Int
  | [] => 0
  | q :: r => (if openG q p.account p.frm = true ∧ q.side = p.side then q.qty else 0) + qS p r

def nS (p : Snt) (win : Int) : List Snt → Int
  | [] => 0
  | q :: r => (if isE p.account q = true ∧ p.frm - win < q.frm then 1 else 0) + nS p win r

theorem wS_snoc (p q : Snt) : ∀ l, wS p (l ++ [q]) = wS p l + (if openG q p.account p.frm = true then q.price * q.qty else 0)
  | [] => by simp [wS]
  | y :: l => by rw [List.cons_append, wS, wS, wS_snoc p q l]; omega
theorem qS_snoc (p q : Snt) : ∀ l, qS p (l ++ [q]) = qS p l + (if openG q p.account p.frm = true ∧ q.side = p.side then q.qty else 0)
  | [] => by simp [qS]
  | y :: l => by rw [List.cons_append, qS, qS, qS_snoc p q l]; omega
theorem nS_snoc (p q : Snt) (win : Int) : ∀ l, nS p win (l ++ [q]) = nS p win l + (if isE p.account q = true ∧ p.frm - win < q.frm then 1 else 0)
  | [] => by simp [nS]
  | y :: l => by rw [List.cons_append, nS, nS, nS_snoc p q win l]; omega

def NmL (l : List Snt) : Prop := ∀ (j : Nat) (g : Snt), l[j]? = some g → 0 ≤ g.price ∧ g.price ≤ 9 ∧ 0 ≤ g.qty ∧ g.qty ≤ 11

theorem pq_bd {x y : Int} (h1 : 0 ≤ x) (h2 : x ≤ 9) (h3 : 0 ≤ y) (h4 : y ≤ 11) : 0 ≤ x * y ∧ x * y ≤ 99 := by
  have a := Int.mul_nonneg h1 h3
  have b : x * y ≤ 9 * 11 := Int.mul_le_mul h2 h4 h3 (by omega)
  omega

theorem wS_ents (p : Snt) : ∀ l : List Snt, (∀ q, q ∈ l → q.frm ≤ p.frm) → wS p l = wSum ((entsG p.account l).filter (isOpen p.frm))
  | [], _ => rfl
  | q :: r, hf => by
    have ih := wS_ents p r (fun y hy => hf y (.tail _ hy))
    rw [wS, entsG, ih, open_ent (hf q (.head _))]
    by_cases he : isE p.account q = true
    · rw [if_pos he]
      by_cases ho : isOpen p.frm (entG q) = true
      · rw [List.filter_cons_of_pos ho, if_pos (by rw [he, ho]; rfl)]
        rfl
      · rw [List.filter_cons_of_neg ho, if_neg (by simp [ho])]
        omega
    · rw [if_neg he, if_neg (by simp [he])]
      omega

theorem qS_ents (p : Snt) : ∀ l : List Snt, (∀ q, q ∈ l → q.frm ≤ p.frm) → qS p l = qSum p.side ((entsG p.account l).filter (isOpen p.frm))
  | [], _ => rfl
  | q :: r, hf => by
    have ih := qS_ents p r (fun y hy => hf y (.tail _ hy))
    rw [qS, entsG, ih, open_ent (hf q (.head _))]
    by_cases he : isE p.account q = true
    · rw [if_pos he]
      by_cases ho : isOpen p.frm (entG q) = true
      · rw [List.filter_cons_of_pos ho, qSum]
        show (if (isE p.account q && isOpen p.frm (entG q)) = true ∧ q.side = p.side then q.qty else 0) + _ = (if q.side = p.side then q.qty else 0) + _
        by_cases hs : q.side = p.side
        · rw [if_pos ⟨by rw [he, ho]; rfl, hs⟩, if_pos hs]
        · rw [if_neg (fun z => hs z.2), if_neg hs]
      · rw [List.filter_cons_of_neg ho, if_neg (by simp [ho])]
        omega
    · rw [if_neg he, if_neg (by simp [he])]
      omega

theorem nS_ents (p : Snt) (win : Int) : ∀ l : List Snt, nS p win l = cntGt (p.frm - win) (entsG p.account l)
  | [] => by simp [nS, entsG, cntGt]
  | q :: r => by
    have ih := nS_ents p win r
    rw [nS, entsG, ih]
    by_cases he : isE p.account q = true
    · rw [if_pos he]
      by_cases hf : p.frm - win < q.frm
      · rw [if_pos ⟨he, hf⟩]
        simp [cntGt, entG, hf]
        try omega
      · rw [if_neg (fun z => hf z.2)]
        simp [cntGt, entG, hf]
    · rw [if_neg he, if_neg (fun z => he z.1)]
      omega

end Go.Proofs.Ytjhifhoniimfgaa

/-
  What is known at the end, place by place: no code.
-/
namespace Go.Proofs.Ytjhifhoniimfgaa
open Go.RowKit

theorem rp_of {lim : Nat → Nat → Int} {x : Gm} (h : Wi lim x) (hi : GInv x) (hat : ∀ (i k : Nat) (g : Snt), i < 2 → (x.L i)[k]? = some g → g.told = true) : Rp lim (x.L 0) where
  all := fun k g hg => by
    have hp := hi.pl 0 k g (by omega) hg
    obtain ⟨q1, q2⟩ := hp.told (hat 0 k g (by omega) hg)
    exact ⟨q1, q2, hp.gone, hp.nums, h.hist k g hg q1⟩
  mono := fun i k g y hik e1 e2 => h.mono i k g y hik e1 e2 ((hi.pl 0 k y (by omega) e2).told (hat 0 k y (by omega) e2)).1

theorem rep_at {l : List Snt} {k : Nat} {g : Snt} (hg : l[k]? = some g) : (rep l k)[k]? = some g := by
  have hlt : k < (rep l k).length := by rw [rep_len]; exact (List.getElem?_eq_some_iff.1 hg).1
  obtain ⟨g0, e1, _, e3⟩ := rep_get l k k _ (List.getElem?_eq_getElem hlt)
  rw [hg] at e1
  simp only [Option.some.injEq] at e1
  rw [List.getElem?_eq_getElem hlt, e3 (Nat.le_refl _), e1]

theorem rep_tal {lim : Nat → Nat → Int} {l : List Snt} (h : Rp lim l) (hb : ∀ (k : Nat) (g : Snt), l[k]? = some g → 0 ≤ g.frm ∧ g.frm ≤ 281000000000000) (k : Nat) : TalL (rep l k) := fun j g hg => by
  obtain ⟨g0, e1, e2, _⟩ := rep_get l k j g hg
  obtain ⟨q1, q2, q3, q4, q5⟩ := h.all j g0 e1
  have hf := hb j g0 e1
  rcases e2 with rfl | rfl
  · exact ⟨q1, hf, q4.life⟩
  · exact ⟨q1, hf, q4.life⟩

theorem rep_nm {lim : Nat → Nat → Int} {l : List Snt} (h : Rp lim l) (k : Nat) : NmL (rep l k) := fun j g hg => by
  obtain ⟨g0, e1, e2, _⟩ := rep_get l k j g hg
  obtain ⟨q1, q2, q3, q4, q5⟩ := h.all j g0 e1
  have hp := q4.price
  have hq := q4.qty
  rcases e2 with rfl | rfl
  · exact ⟨hp.1, hp.2, hq.1, hq.2⟩
  · exact ⟨hp.1, hp.2, hq.1, hq.2⟩

theorem rep_frm {lim : Nat → Nat → Int} {l : List Snt} (h : Rp lim l) {k : Nat} {g : Snt} (hg : l[k]? = some g) : ∀ q, q ∈ (rep l k).take k → q.frm ≤ g.frm := fun q hq => by
  obtain ⟨m, hm⟩ := List.mem_iff_getElem?.1 hq
  have hmk2 : m < k := by
    have := (List.getElem?_eq_some_iff.1 hm).1
    rw [List.length_take] at this
    omega
  rw [List.getElem?_take_of_lt hmk2] at hm
  obtain ⟨g0, e1, e2, _⟩ := rep_get l k m q hm
  have := h.mono m k g0 g (by omega) e1 hg
  rcases e2 with rfl | rfl
  · exact this
  · exact this

theorem rep_hits {lim : Nat → Nat → Int} {l : List Snt} (h : Rp lim l) {k : Nat} {p : Snt} (hp : l[k]? = some p) (hk : p.kind = 2) : (p.code = 0 ∧ hS p ((rep l k).take k) = 1) ∨ (p.code = 18 ∧ hS p ((rep l k).take k) = 0) := by
  obtain ⟨q1, q2, q3, q4, q5⟩ := h.all k p hp
  have hlt := (List.getElem?_eq_some_iff.1 hp).1
  have e := hS_ents p _ (rep_frm h hp)
  rw [rep_ents h p.account k (by omega), nodup_one q5.nodup] at e
  rcases q5.cancel hk with ⟨z1, z2⟩ | ⟨z1, z2⟩
  · left; exact ⟨by rw [q2]; exact z1, by rw [e, if_pos z2]⟩
  · right; exact ⟨by rw [q2]; exact z1, by rw [e, if_neg (by rw [z2]; simp)]⟩

theorem rep_yes {l : List Snt} {k : Nat} {p : Snt} (hp : l[k]? = some p) (hk : p.kind = 2) (hc : p.code = 0) : rep l (k + 1) = cm (rep l k) p k := by
  rw [rep, cancL, rep_at hp]
  show (if p.kind = 2 ∧ p.code = 0 then _ else _) = _
  rw [if_pos ⟨hk, hc⟩]
  rfl

theorem rep_no {l : List Snt} {k : Nat} {p : Snt} (hp : l[k]? = some p) (hk : ¬ (p.kind = 2 ∧ p.code = 0)) : rep l (k + 1) = rep l k := by
  rw [rep, cancL, rep_at hp]
  show (if p.kind = 2 ∧ p.code = 0 then _ else _) = _
  rw [if_neg hk]

theorem jCode_lim {lim : Nat → Int} {st B : Bool} {S : Int} {p q : Nat} {W0 Q0 T : Int} (h : jCode lim st B S p q W0 Q0 T = 0) : B = false ∧ (q : Int) ≤ lim 0 ∧ (S = 0 → Q0 + q ≤ lim 1) ∧ (S = 1 → Q0 + q ≤ lim 2) ∧ W0 + ((p * q : Nat) : Int) ≤ lim 3 ∧ T < lim 4 := by
  obtain ⟨jB, jt, jw, jq⟩ := jCode_zero h
  have htv : timesV p q = ((p * q : Nat) : Int) := by unfold timesV; rw [if_pos jt]
  have hpw : plusV W0 (timesV p q) = W0 + ((p * q : Nat) : Int) := by unfold plusV; rw [if_pos jw, htv]
  have hpq : plusV Q0 q = Q0 + q := by unfold plusV; rw [if_pos jq]
  unfold jCode at h
  rw [hpw, hpq] at h
  generalize ((p * q : Nat) : Int) = pq at *
  split at h
  · omega
  split at h
  · omega
  split at h
  · omega
  split at h
  · omega
  split at h
  · omega
  split at h
  · omega
  split at h
  · omega
  split at h
  · omega
  rename_i h1 h2 h3 h4 h5 h6 h7 h8
  exact ⟨jB, by omega, fun e => by omega, fun e => by omega, by omega, by omega⟩

structure FitP (lim : Nat → Int) (p : Snt) (m : List Snt) (k : Nat) : Prop where
  dup : ∀ (i : Nat) (g : Snt), i < k → m[i]? = some g → openG g p.account p.frm = true → g.number ≠ p.number
  f1 : p.qty ≤ lim 0
  f2 : (p.side = 0 → qS p (m.take (k + 1)) ≤ lim 1) ∧ (p.side = 1 → qS p (m.take (k + 1)) ≤ lim 2)
  f3 : wS p (m.take (k + 1)) ≤ lim 3
  f4 : nS p (lim 5) (m.take (k + 1)) ≤ lim 4

theorem rep_fits {lim : Nat → Nat → Int} {l : List Snt} (h : Rp lim l) {k : Nat} {p : Snt} (hp : l[k]? = some p) (hk : p.kind = 1) (hc : p.code = 0) : FitP (lim p.account.toNat) p (rep l k) k := by
  obtain ⟨q1, q2, q3, q4, q5⟩ := h.all k p hp
  have hlt := (List.getElem?_eq_some_iff.1 hp).1
  have en := rep_ents h p.account k (by omega)
  have hfr := rep_frm h hp
  obtain ⟨jB, j1, j2, j3, j4, j5⟩ := jCode_lim (q5.new hk (by rw [← q2]; exact hc))
  rw [← en] at jB j2 j3 j4 j5
  have tk : (rep l k).take (k + 1) = (rep l k).take k ++ [p] := by rw [List.take_add_one, rep_at hp]; rfl
  have hpos := q4.pos hk
  have ho : openG p p.account p.frm = true := by
    unfold openG
    simp only [hk, hc, q3, decide_true, Bool.and_true, Bool.not_false, Bool.true_and, Bool.and_eq_true, decide_eq_true_eq]
    omega
  have hE : isE p.account p = true := by unfold isE; simp [hk, hc]
  have sw := wS_snoc p p ((rep l k).take k)
  have sq := qS_snoc p p ((rep l k).take k)
  have sn := nS_snoc p p (lim p.account.toNat 5) ((rep l k).take k)
  rw [← tk] at sw sq sn
  rw [if_pos ho, wS_ents p _ hfr] at sw
  rw [if_pos ⟨ho, rfl⟩, qS_ents p _ hfr] at sq
  rw [nS_ents p _ ((rep l k).take k)] at sn
  have hqn : (p.qty.toNat : Int) = p.qty := Int.toNat_of_nonneg q4.qty.1
  have hpn : (p.price.toNat : Int) = p.price := Int.toNat_of_nonneg q4.price.1
  rw [Int.natCast_mul, hqn, hpn] at j4
  rw [hqn] at j1 j2 j3
  refine ⟨fun i g hi hg hog => ?_, j1, ⟨fun e => by rw [sq]; exact j2 e, fun e => by rw [sq]; exact j3 e⟩, by rw [sw]; exact j4, ?_⟩
  · have hmem : g ∈ (rep l k).take k := List.mem_iff_getElem?.2 ⟨i, by rw [List.getElem?_take_of_lt hi]; exact hg⟩
    rw [open_ent (hfr g hmem), Bool.and_eq_true] at hog
    have hin := List.mem_filter.2 ⟨ent_mem p.account _ g hmem hog.1, hog.2⟩
    have := List.any_eq_false.1 jB _ hin
    simpa [entG] using this
  · rw [sn]
    split <;> omega

theorem kLim_bd (n a j : Nat) : 0 ≤ kLim n a j ∧ kLim n a j ≤ 4611686018427387904 := by
  unfold kLim
  repeat' split
  all_goals omega

end Go.Proofs.Ytjhifhoniimfgaa

