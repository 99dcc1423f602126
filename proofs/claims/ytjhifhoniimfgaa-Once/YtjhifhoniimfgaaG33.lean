import Derived.Test.YtjhifhoniimfgaaG32
import Derived.Test.YtjhifhoniimfgaaG30
import Derived.BigRegion
import Derived.Deep.RegionLawGrows
/-
  A game: steps of the core that take nothing; any step of the core.
-/
namespace Go.Proofs.Ytjhifhoniimfgaa
open Go.RowKit

set_option maxRecDepth 100000 in
set_option maxHeartbeats 1000000 in
theorem gcore_freed {w : World} {T : Nat} {X : XB} {lim : Nat → Nat → Int} {v : XV} {L : Nat → List Snt} (gb : Nat) (hbad : v.bad = false)
    (c0 : w.cell? ⟨X.xb, 0, none⟩ = some (.pointer (some ⟨gb, 0, none⟩))) (Y Z : World → Prop)
    (hY : ∀ w1, Y w1 → ∃ own, XAt own T w1 X lim v L ∧ ∀ w2, XAt own T w2 X lim v L → Keep (fun b => own b ≠ T) w1 w2 → Z w2)
    (hc : Calls Try.prog 30 #[.pointer (some ⟨gb, 0, none⟩)] w fun e w' => e = .returned (.tuple #[.int .i64 4, .int .i64 0]) ∧ Y w') :
    Calls Try.prog 21 #[.pointer (some ⟨X.xb, 0, none⟩)] w fun e w' => e = .returned (.int .i64 4) ∧ Z w' := by
  have HY := hideE hY
  have HBAD := hideE hbad
  clear hY hbad
  go_enter Try.func21, Try.ntmps21
  go_wp2_with fail
  refine hc.mono ?_
  rintro e w1 ⟨rfl, hy⟩
  obtain ⟨own, hx, hz⟩ := HY.out w1 hy
  have d15 := hx.c15
  have z15 := hx.fz 15
  rw [HBAD.out] at d15
  have HX := hideE (show XAt own T (w1.setCell ⟨X.xb, 15, none⟩ (.bool false)) X lim v L from hx.vset 15 (.bool false) v (by have := HBAD.out; unfold xCells; rw [this]; rfl))
  have KEY := hideE (show Z (w1.setCell ⟨X.xb, 15, none⟩ (.bool false)) from hz _ (hx.vset 15 (.bool false) v (by have := HBAD.out; unfold xCells; rw [this]; rfl)) ((Keep.refl _ w1).setCell _ (fun _ h => h hx.og) _))
  clear hc c0 hy hx hz
  go_wp2
  generalize w1.setCell ⟨X.xb, 15, none⟩ (.bool false) = W at *
  clear d15 z15
  go_loopw [5] (fun lv wr => (lv = .int .i64 0 ∨ lv = .int .i64 1 ∨ lv = .int .i64 2) ∧ W = wr) (fun lv _ => 2 - (intOf lv).toNat)
  case atStart => exact ⟨.inl rfl, rfl⟩
  case round =>
    have cT0 := HX.out.c9
    have cT1 := HX.out.c10
    have cL0 := HX.out.c7
    obtain ⟨a, cap, e1⟩ := HX.out.laneV 0 (by omega)
    rw [e1] at cL0
    clear e1
    rcases hrel with ⟨rfl | rfl | rfl, rfl⟩
    · go_wp2
      go_roundw
      case rel => exact ⟨.inr (.inl rfl), trivial⟩
      case measure => simp [intOf]
    · go_wp2
      go_roundw
      case rel => exact ⟨.inr (.inr rfl), trivial⟩
      case measure => simp [intOf]
    · go_wp2
      go_ret
      exact ⟨rfl, KEY.out⟩

set_option maxRecDepth 100000 in
set_option maxHeartbeats 1000000 in
theorem gcore_idle {w : World} {T : Nat} {X : XB} {lim : Nat → Nat → Int} {v : XV} {L : Nat → List Snt} (gb : Nat) (hbad : v.bad = false)
    (c0 : w.cell? ⟨X.xb, 0, none⟩ = some (.pointer (some ⟨gb, 0, none⟩))) (Y Z : World → Prop)
    (hY : ∀ w1, Y w1 → ∃ own, XAt own T w1 X lim v L ∧ ∀ w2, XAt own T w2 X lim v L → Keep (fun b => own b ≠ T) w1 w2 → Z w2)
    (hc : Calls Try.prog 30 #[.pointer (some ⟨gb, 0, none⟩)] w fun e w' => e = .returned (.tuple #[.int .i64 0, .int .i64 0]) ∧ Y w') :
    Calls Try.prog 21 #[.pointer (some ⟨X.xb, 0, none⟩)] w fun e w' => e = .returned (.int .i64 0) ∧ Z w' := by
  have HY := hideE hY
  have HBAD := hideE hbad
  clear hY hbad
  go_enter Try.func21, Try.ntmps21
  go_wp2_with fail
  refine hc.mono ?_
  rintro e w1 ⟨rfl, hy⟩
  obtain ⟨own, hx, hz⟩ := HY.out w1 hy
  have d15 := hx.c15
  have z15 := hx.fz 15
  rw [HBAD.out] at d15
  have HX := hideE (show XAt own T (w1.setCell ⟨X.xb, 15, none⟩ (.bool false)) X lim v L from hx.vset 15 (.bool false) v (by have := HBAD.out; unfold xCells; rw [this]; rfl))
  have KEY := hideE (show Z (w1.setCell ⟨X.xb, 15, none⟩ (.bool false)) from hz _ (hx.vset 15 (.bool false) v (by have := HBAD.out; unfold xCells; rw [this]; rfl)) ((Keep.refl _ w1).setCell _ (fun _ h => h hx.og) _))
  clear hc c0 hy hx hz
  go_wp2
  generalize w1.setCell ⟨X.xb, 15, none⟩ (.bool false) = W at *
  clear d15 z15
  go_loopw [5] (fun lv wr => (lv = .int .i64 0 ∨ lv = .int .i64 1 ∨ lv = .int .i64 2) ∧ W = wr) (fun lv _ => 2 - (intOf lv).toNat)
  case atStart => exact ⟨.inl rfl, rfl⟩
  case round =>
    have cT0 := HX.out.c9
    have cT1 := HX.out.c10
    have cL0 := HX.out.c7
    obtain ⟨a, cap, e1⟩ := HX.out.laneV 0 (by omega)
    rw [e1] at cL0
    clear e1
    rcases hrel with ⟨rfl | rfl | rfl, rfl⟩
    · go_wp2
      go_roundw
      case rel => exact ⟨.inr (.inl rfl), trivial⟩
      case measure => simp [intOf]
    · go_wp2
      go_roundw
      case rel => exact ⟨.inr (.inr rfl), trivial⟩
      case measure => simp [intOf]
    · go_wp2
      go_ret
      exact ⟨rfl, KEY.out⟩

set_option maxRecDepth 100000 in
set_option maxHeartbeats 1000000 in
theorem gcore_wait {w : World} {T : Nat} {X : XB} {lim : Nat → Nat → Int} {v : XV} {L : Nat → List Snt} (gb : Nat) (hbad : v.bad = false) (htb : v.t 0 ≤ 1000000000000000) (htl : v.t 0 ≤ (L 0).length) (hw : ∃ c : Nat, c < 3 ∧ v.an < (unt c 0 (L 0)).length) (htk : ∀ (k : Nat) (g : Snt), (L 0)[k]? = some g → g.taken = decide (k < v.t 0))
    (c0 : w.cell? ⟨X.xb, 0, none⟩ = some (.pointer (some ⟨gb, 0, none⟩))) (Y Z : World → Prop)
    (hY : ∀ w1, Y w1 → ∃ own, XAt own T w1 X lim v L ∧ ∀ w2, XAt own T w2 X lim v L → Keep (fun b => own b ≠ T) w1 w2 → Z w2)
    (hc : Calls Try.prog 30 #[.pointer (some ⟨gb, 0, none⟩)] w fun e w' => e = .returned (.tuple #[.int .i64 3, .int .i64 0]) ∧ Y w') :
    Calls Try.prog 21 #[.pointer (some ⟨X.xb, 0, none⟩)] w fun e w' => e = .returned (.int .i64 3) ∧ Z w' := by
  have HY := hideE hY
  have HBAD := hideE hbad
  clear hY hbad
  have HW := hideE hw
  have HTK := hideE htk
  have HTL := hideE htl
  have HTB := hideE htb
  clear hw htk htl htb
  go_enter Try.func21, Try.ntmps21
  go_wp2_with fail
  refine hc.mono ?_
  rintro e w1 ⟨rfl, hy⟩
  obtain ⟨own, hx, hz⟩ := HY.out w1 hy
  have d15 := hx.c15
  have z15 := hx.fz 15
  rw [HBAD.out] at d15
  have HX := hideE (show XAt own T (w1.setCell ⟨X.xb, 15, none⟩ (.bool false)) X lim v L from hx.vset 15 (.bool false) v (by have := HBAD.out; unfold xCells; rw [this]; rfl))
  have KEY := hideE (show Z (w1.setCell ⟨X.xb, 15, none⟩ (.bool false)) from hz _ (hx.vset 15 (.bool false) v (by have := HBAD.out; unfold xCells; rw [this]; rfl)) ((Keep.refl _ w1).setCell _ (fun _ h => h hx.og) _))
  clear hc c0 hy hx hz
  go_wp2
  generalize w1.setCell ⟨X.xb, 15, none⟩ (.bool false) = W at *
  clear d15 z15
  go_loopw [5] (fun lv wr => (lv = .int .i64 0 ∨ lv = .int .i64 1 ∨ lv = .int .i64 2) ∧ W = wr) (fun lv _ => 2 - (intOf lv).toNat)
  case atStart => exact ⟨.inl rfl, rfl⟩
  case round =>
    have cT0 := HX.out.c9
    have cT1 := HX.out.c10
    have cL0 := HX.out.c7
    obtain ⟨a, cap, e1⟩ := HX.out.laneV 0 (by omega)
    rw [e1] at cL0
    clear e1
    rcases hrel with ⟨rfl | rfl | rfl, rfl⟩
    · have wt := waits_walk HX.out HTK.out HTL.out HTB.out true ⟨fun _ => HW.out, fun _ => rfl⟩
      by_cases hl : (L 0).length ≤ v.t 0
      · have hl' : ((L 0).length : Int) ≤ (v.t 0 : Int) := by omega
        clear wt hl
        go_wp2
        go_roundw
        case rel => exact ⟨.inr (.inl rfl), trivial⟩
        case measure => simp [intOf]
      · have hl' : ¬ ((L 0).length : Int) ≤ (v.t 0 : Int) := by omega
        clear hl
        go_wp2_with fail
        refine wt.mono ?_
        rintro e w9 ⟨rfl, rfl⟩
        clear wt
        go_wp2
        go_roundw
        case rel => exact ⟨.inr (.inl rfl), trivial⟩
        case measure => simp [intOf]
    · go_wp2
      go_roundw
      case rel => exact ⟨.inr (.inr rfl), trivial⟩
      case measure => simp [intOf]
    · go_wp2
      go_ret
      exact ⟨rfl, KEY.out⟩

theorem core_lim (x : Gm) (h : GInv x) {N : Nat} (ho : Ok x.s N) : (coreG x).s.lim = x.s.lim ∧ (coreG x).s.n = x.s.n ∧ (coreG x).s.an = x.s.an ∧ (coreG x).s.ch = x.s.ch ∧ (coreG x).s.time = x.s.time ∧ (coreG x).s.shut = x.s.shut := by
  have e : (coreG x).s = (coreS x.s).2 := rfl
  cases core_case h ho with
  | rush g hn hg hp hf hr hL => rw [e, hr]; exact ⟨rfl, rfl, rfl, rfl, rfl, rfl⟩
  | free c a hn hh hl hr hL => rw [e, hr]; exact ⟨rfl, rfl, rfl, rfl, rfl, rfl⟩
  | wait c a hn hh hl hr hL => rw [e, hr]; exact ⟨rfl, rfl, rfl, rfl, rfl, rfl⟩
  | serve g hn1 hh hn hg hp hf hl hr hL => rw [e, hr]; exact ⟨rfl, rfl, rfl, rfl, rfl, rfl⟩
  | hold g hn1 hh hn hg hp hf hl hr hL => rw [e, hr]; exact ⟨rfl, rfl, rfl, rfl, rfl, rfl⟩
  | idle hn1 hh hn hr hL => rw [e, hr]; exact ⟨rfl, rfl, rfl, rfl, rfl, rfl⟩

theorem core_wt {x : Gm} {N : Nat} (hi : GInv x) (ho : Ok x.s N) (h : Wt x.s N) : Wt (coreG x).s (N + 16) := by
  have tk : ∀ k, Wt { x.s with t := upN x.s.t k (x.s.t k + 1) } (N + 16) := fun k i hi => by
    have := h i hi
    show 16 * (x.s.m i + upN x.s.t k (x.s.t k + 1) i) ≤ _
    by_cases e : i = k
    · subst e; rw [upN_same]; omega
    · rw [upN_ne _ _ _ _ e]; omega
  rw [coreG_s]
  cases core_case hi ho with
  | rush g hn hg hp hf hr hL => rw [hr]; exact tk 1
  | free c a hn hh hl hr hL => rw [hr]; exact h.more (by omega)
  | wait c a hn hh hl hr hL => rw [hr]; exact h.more (by omega)
  | serve g hn1 hh hn hg hp hf hl hr hL => rw [hr]; exact tk 0
  | hold g hn1 hh hn hg hp hf hl hr hL => rw [hr]; exact tk 0
  | idle hn1 hh hn hr hL => rw [hr]; exact h.more (by omega)

set_option maxHeartbeats 1000000 in
theorem g_coreS {own : Nat → Nat} {T : Nat} {w : World} {xb : Nat} {x : Gm} {N : Nat} (h : GAt own T w xb x N) (hT : 0 < T) (hN : N < 1000000000000000) (hS : Sz x.s) :
    Calls Try.prog 21 #[.pointer (some ⟨xb, 0, none⟩)] w fun e w' => e = .returned (.int .i64 (coreS x.s).1) ∧ GGo own T w xb (coreG x) (N + 16) w' := by
  obtain ⟨B, X, st0, st1, hm, rfl⟩ := h
  have cc := gCoreS hm.pg hm.ok (by omega) hS hT
  have ok := core_ok hm.ok
  have inv := core_inv hm.inv hm.ok
  have c0 := hm.at_.c0
  rw [hm.gb] at c0
  have m0 := hm.ok.mt 0 (by omega)
  have m1 := hm.ok.mt 1 (by omega)
  have tk := fun (k : Nat) (g : Snt) hg => (hm.inv.pl 0 k g (by omega) hg).taken
  have l0 := hm.inv.len 0 (by omega)
  have sh := core_lim x hm.inv hm.ok
  -- the end, whatever was taken
  have fin : ∀ own' B' w1, PG own' T w1 B' (coreS x.s).2 (N + 1) → B.Like B' → Same own own' w → Keep (Out own T) w w1 → XAt own' (T + 100) w1 X x.s.lim (vOf x.s st0 st1) x.L ∧
      ∀ w2 a b, XAt own' (T + 100) w2 X (coreG x).s.lim (vOf (coreG x).s a b) (coreG x).L → Keep (fun b => own' b ≠ T + 100) w1 w2 → GGo own T w X.xb (coreG x) (N + 16) w2 := fun own' B' w1 g1 g2 g3 g4 => by
    obtain ⟨q1, q2, q3, q4⟩ := hm.call g1 g2 g3 g4
    exact ⟨q2, fun w2 a b hx hk => GM.goes (x' := coreG x) ((q1.keep ok.cl.2 ok.na.2 hk (fun b _ _ _ => by omega) (Same.refl _ _)).more (by omega)) (ok.more (by omega)) hx q3 inv (core_wt hm.inv hm.ok hm.sz) g3 q4 hk⟩
  have vE : ∀ a b, vOf (coreG x).s a b = { vOf x.s a b with t := (coreG x).s.t } := fun a b => by
    unfold vOf
    rw [sh.2.1, sh.2.2.1, sh.2.2.2.1, sh.2.2.2.2.1, sh.2.2.2.2.2]
  have cs : (coreG x).s = (coreS x.s).2 := rfl
  have hle : ∀ c : Nat, c < 3 → (x.s.ring c).length ≤ x.s.an := fun c _ => hm.ok.ring c
  cases core_case hm.inv hm.ok with
  | rush g hn hg hp hf hr hL =>
    rw [hr] at cc ⊢
    rw [hr] at fin
    refine gcore_rush (T := T + 100) (lim := x.s.lim) (v := vOf x.s st0 st1) (L := x.L) B.gb rfl (by show x.s.t 0 ≤ _ ∧ x.s.t 1 ≤ _; omega) g hg hf (by have := hp.nums.kind; have := hp.nums.kind1 rfl hf; omega) (by have := hp.nums.acct; omega) (doS x.s (saidG g)).1 c0 _ _ (fun w1 hy => ?_) cc
    obtain ⟨own', B', g1, g2, g3, g4⟩ := hy
    obtain ⟨f1, f2⟩ := fin own' B' w1 g1 g2 g3 g4
    refine ⟨own', f1, fun w2 a b hx hk => f2 w2 a b ?_ hk⟩
    rw [sh.1, hL, vE a b, cs, hr]
    exact hx
  | free c a hn hh hl hr hL =>
    rw [hr] at cc ⊢
    rw [hr] at fin
    refine gcore_freed (T := T + 100) (lim := x.s.lim) (v := vOf x.s st0 st1) (L := x.L) B.gb rfl c0 _ _ (fun w1 hy => ?_) cc
    obtain ⟨own', B', g1, g2, g3, g4⟩ := hy
    obtain ⟨f1, f2⟩ := fin own' B' w1 g1 g2 g3 g4
    refine ⟨own', f1, fun w2 hx hk => f2 w2 st0 st1 ?_ hk⟩
    rw [sh.1, hL, vE, cs, hr]
    exact hx
  | wait c a hn hh hl hr hL =>
    rw [hr] at cc ⊢
    rw [hr] at fin
    refine gcore_wait (T := T + 100) (lim := x.s.lim) (v := vOf x.s st0 st1) (L := x.L) B.gb rfl (by show x.s.t 0 ≤ _; omega) (by show x.s.t 0 ≤ _; omega) ?_ tk c0 _ _ (fun w1 hy => ?_) cc
    · have hc := hm.ok.held c a hh
      rw [hm.inv.cl] at hc
      refine ⟨c, hc, ?_⟩
      rw [← hm.inv.ring c hc, List.length_append]
      unfold heldOf
      rw [hh]
      show x.s.an < _
      simp
      omega
    · obtain ⟨own', B', g1, g2, g3, g4⟩ := hy
      obtain ⟨f1, f2⟩ := fin own' B' w1 g1 g2 g3 g4
      refine ⟨own', f1, fun w2 hx hk => f2 w2 st0 st1 ?_ hk⟩
      rw [sh.1, hL, vE, cs, hr]
      exact hx
  | serve g hn1 hh hn hg hp hf hl hr hL =>
    rw [hr] at cc ⊢
    rw [hr] at fin
    refine gcore_serve (T := T + 100) (lim := x.s.lim) (v := vOf x.s st0 st1) (L := x.L) B.gb rfl (by show x.s.t 0 ≤ _ ∧ x.s.t 1 ≤ _; omega) g hg hf (by have := hp.nums.kind; exact ⟨beq_eq_false_iff_ne.2 (by omega), beq_eq_false_iff_ne.2 (by omega)⟩) (doS x.s (saidG g)).1 c0 _ _ (fun w1 hy => ?_) cc
    obtain ⟨own', B', g1, g2, g3, g4⟩ := hy
    obtain ⟨f1, f2⟩ := fin own' B' w1 g1 g2 g3 g4
    refine ⟨own', f1, fun w2 a b hx hk => f2 w2 a b ?_ hk⟩
    rw [sh.1, hL, vE a b, cs, hr]
    exact hx
  | hold g hn1 hh hn hg hp hf hl hr hL =>
    rw [hr] at cc ⊢
    rw [hr] at fin
    refine gcore_hold (T := T + 100) (lim := x.s.lim) (v := vOf x.s st0 st1) (L := x.L) B.gb rfl (by show x.s.t 0 ≤ _ ∧ x.s.t 1 ≤ _; omega) g hg hf (by have := hp.nums.kind; exact ⟨beq_eq_false_iff_ne.2 (by omega), beq_eq_false_iff_ne.2 (by omega)⟩) (fun c hc => ?_) tk (doS x.s (saidG g)).1 c0 _ _ (fun w1 hy => ?_) cc
    · rw [← hm.inv.ring c hc]
      unfold heldOf
      rw [hh, List.append_nil]
      exact hle c hc
    · obtain ⟨own', B', g1, g2, g3, g4⟩ := hy
      obtain ⟨f1, f2⟩ := fin own' B' w1 g1 g2 g3 g4
      refine ⟨own', f1, fun w2 a b hx hk => f2 w2 a b ?_ hk⟩
      rw [sh.1, hL, vE a b, cs, hr]
      exact hx
  | idle hn1 hh hn hr hL =>
    rw [hr] at cc ⊢
    rw [hr] at fin
    refine gcore_idle (T := T + 100) (lim := x.s.lim) (v := vOf x.s st0 st1) (L := x.L) B.gb rfl c0 _ _ (fun w1 hy => ?_) cc
    obtain ⟨own', B', g1, g2, g3, g4⟩ := hy
    obtain ⟨f1, f2⟩ := fin own' B' w1 g1 g2 g3 g4
    refine ⟨own', f1, fun w2 hx hk => f2 w2 st0 st1 ?_ hk⟩
    rw [sh.1, hL, vE, cs, hr]
    exact hx

theorem g_core {own : Nat → Nat} {T : Nat} {w : World} {xb : Nat} {x : Gm} {N : Nat} (h : GAt own T w xb x N) (hT : 0 < T) (hN : N < 281000000000000) :
    Calls Try.prog 21 #[.pointer (some ⟨xb, 0, none⟩)] w fun e w' => e = .returned (.int .i64 (coreS x.s).1) ∧ GGo own T w xb (coreG x) (N + 16) w' :=
  g_coreS h hT (by omega) (h.wt.size h.ok h.inv hN)

end Go.Proofs.Ytjhifhoniimfgaa

/-
  A game: a place is claimed.
-/
namespace Go.Proofs.Ytjhifhoniimfgaa
open Go.RowKit

set_option maxRecDepth 100000 in
set_option maxHeartbeats 1000000 in
theorem claim_no {w : World} {T : Nat} {X : XB} {lim : Nat → Nat → Int} {v : XV} {L : Nat → List Snt} (gb : Nat) (hbad : v.bad = false) (c : Nat) (i : Nat) (hi : i = 0 ∨ i = 1) (e : Int) (ho : (e = 5 ∧ v.shut = true) ∨ (e = 6 ∧ v.shut = false ∧ v.t i + v.n i ≤ (L i).length)) (htl : v.t i ≤ (L i).length ∧ (L i).length ≤ 1000000000000000)
    (c0 : w.cell? ⟨X.xb, 0, none⟩ = some (.pointer (some ⟨gb, 0, none⟩))) (Y Z : World → Prop)
    (hY : ∀ w1, Y w1 → ∃ own, XAt own T w1 X lim v L ∧ ∀ w2, XAt own T w2 X lim v L → Keep (fun b => own b ≠ T) w1 w2 → Z w2)
    (hc : Calls Try.prog 17 #[.pointer (some ⟨gb, 0, none⟩), .int .i64 c, .int .i64 i] w fun r w' => r = .returned (.tuple #[.int .i64 0, .int .i64 e]) ∧ Y w') :
    Calls Try.prog 24 #[.pointer (some ⟨X.xb, 0, none⟩), .int .i64 c, .int .i64 i] w fun r w' => r = .returned (.int .i64 (-1)) ∧ Z w' := by
  have HY := hideE hY
  have HBAD := hideE hbad
  have he : (e != 0) = true := by rcases ho with h | h <;> simp [h.1]
  have HO := hideE ho
  clear hY hbad ho
  rcases hi with rfl | rfl
  · go_enter Try.func24, Try.ntmps24
    go_wp2_with fail
    refine hc.mono ?_
    rintro r w1 ⟨rfl, hy⟩
    obtain ⟨own, hx, hz⟩ := HY.out w1 hy
    have d2 := hx.c2
    have d3 := hx.c3
    have d7 := hx.c7
    have d9 := hx.c9
    have d15 := hx.c15
    have z15 := hx.fz 15
    have lx := block_lt hx.game
    obtain ⟨a, cap, hlv⟩ := hx.laneV 0 (by omega)
    rw [hlv] at d7
    rw [HBAD.out] at d15
    have HX := hideE hx
    have HZ := hideE hz
    clear hc c0 hy hx hz hlv
    go_wp2
    go_region
    all_goals
      have hV0 : Keep (fun _ => True) w1 (w1.alloc (.cells #[.int .i64 (v.n 0), .int .i64 (v.n 1)] 3)).drew := ((Keep.refl _ w1).alloc _).drew
      generalize (w1.alloc (.cells #[.int .i64 (v.n 0), .int .i64 (v.n 1)] 3)).drew = V at hV0 ⊢
      have xV := HX.out.keep (own' := own) hV0 (fun _ _ _ => trivial) (fun _ _ _ => rfl)
      have e14 := xV.c14
      have e15 := xV.c15
      have y15 := xV.fz 15
      rw [HBAD.out] at e15
      have KEY := hideE (show Z (V.setCell ⟨X.xb, 15, none⟩ (.bool false)) from HZ.out _ (xV.vset 15 (.bool false) v (by have := HBAD.out; unfold xCells; rw [this]; rfl)) ((hV0.mono (T := fun b => own b ≠ T) (fun _ _ _ => trivial)).setCell _ (fun _ h => h xV.og) _))
      clear d2 d3 d7 d9 d15 z15 hV0 xV
      rcases HO.out with ⟨rfl, hs⟩ | ⟨rfl, hs, hfl⟩
      · rw [hs] at e14
        generalize decide ((v.n 0 : Int) ≤ ((L 0).length : Int) - (v.t 0 : Int)) = fl
        clear hs
        cases fl
        · go_wp2
          go_ret
          exact ⟨rfl, KEY.out⟩
        · go_wp2
          go_ret
          exact ⟨rfl, KEY.out⟩
      · rw [hs] at e14
        rw [show decide ((v.n 0 : Int) ≤ ((L 0).length : Int) - (v.t 0 : Int)) = true from decide_eq_true (by omega)]
        clear hs hfl
        go_wp2
        go_ret
        exact ⟨rfl, KEY.out⟩
  · go_enter Try.func24, Try.ntmps24
    go_wp2_with fail
    refine hc.mono ?_
    rintro r w1 ⟨rfl, hy⟩
    obtain ⟨own, hx, hz⟩ := HY.out w1 hy
    have d2 := hx.c2
    have d3 := hx.c3
    have d7 := hx.c8
    have d9 := hx.c10
    have d15 := hx.c15
    have z15 := hx.fz 15
    have lx := block_lt hx.game
    obtain ⟨a, cap, hlv⟩ := hx.laneV 1 (by omega)
    rw [hlv] at d7
    rw [HBAD.out] at d15
    have HX := hideE hx
    have HZ := hideE hz
    clear hc c0 hy hx hz hlv
    go_wp2
    go_region
    all_goals
      have hV0 : Keep (fun _ => True) w1 (w1.alloc (.cells #[.int .i64 (v.n 0), .int .i64 (v.n 1)] 3)).drew := ((Keep.refl _ w1).alloc _).drew
      generalize (w1.alloc (.cells #[.int .i64 (v.n 0), .int .i64 (v.n 1)] 3)).drew = V at hV0 ⊢
      have xV := HX.out.keep (own' := own) hV0 (fun _ _ _ => trivial) (fun _ _ _ => rfl)
      have e14 := xV.c14
      have e15 := xV.c15
      have y15 := xV.fz 15
      rw [HBAD.out] at e15
      have KEY := hideE (show Z (V.setCell ⟨X.xb, 15, none⟩ (.bool false)) from HZ.out _ (xV.vset 15 (.bool false) v (by have := HBAD.out; unfold xCells; rw [this]; rfl)) ((hV0.mono (T := fun b => own b ≠ T) (fun _ _ _ => trivial)).setCell _ (fun _ h => h xV.og) _))
      clear d2 d3 d7 d9 d15 z15 hV0 xV
      rcases HO.out with ⟨rfl, hs⟩ | ⟨rfl, hs, hfl⟩
      · rw [hs] at e14
        generalize decide ((v.n 1 : Int) ≤ ((L 1).length : Int) - (v.t 1 : Int)) = fl
        clear hs
        cases fl
        · go_wp2
          go_ret
          exact ⟨rfl, KEY.out⟩
        · go_wp2
          go_ret
          exact ⟨rfl, KEY.out⟩
      · rw [hs] at e14
        rw [show decide ((v.n 1 : Int) ≤ ((L 1).length : Int) - (v.t 1 : Int)) = true from decide_eq_true (by omega)]
        clear hs hfl
        go_wp2
        go_ret
        exact ⟨rfl, KEY.out⟩

theorem step_append_run {P : Program} {ops : Array Oper} {o : Oper} {a : Act} {w : World} {K : Act → World → Prop} {Q : Exit → Act → World → Prop} {E : Prop}
    (hg : o.guard = none) (s x : Operand) (t : TypeId) (hop : o.op = Op.call { callee := Callee.builtin Builtin.append, args := #[s, x], argTypes := #[t, t] }) (vs vx : Value) (hs : a.eval s = vs) (hx : a.eval x = vx) (v' : Value) (w' : World)
    (hrun : ∀ ty, (Builtin.append_ #[t, t] ty #[vs, vx]).run P w = .ok v' w') (hK : K (a.put o.dst v') w') :
    if Region.wanted o (yielded ops a.tmps) = true then Oper.wp P o a w K Q else E := by
  have hw : Region.wanted o (yielded ops a.tmps) = true := by simp [Region.wanted, hg]
  rw [if_pos hw]
  unfold Oper.wp
  simp [execOp, hop, resolve, invoke, builtin, hs, hx, hrun, Result.andThen]
  exact hK

theorem info_sent : ∃ i, Try.prog.info? 41 = some i ∧ i.bytes = 8 ∧ i.size = 1 ∧ i.zero = some (.pointer none) := by
  have e : (Try.prog.info? 41).map (fun i => (i.bytes, i.size, i.zero)) = some (8, 1, some (.pointer none)) := by kernel_rfl
  obtain ⟨i, hi, he⟩ := Option.map_eq_some_iff.1 e
  simp only [Prod.mk.injEq] at he
  exact ⟨i, hi, he.1, he.2.1, he.2.2⟩

set_option maxRecDepth 100000 in
set_option maxHeartbeats 1000000 in
theorem claim_yes {w : World} {T : Nat} {X : XB} {lim : Nat → Nat → Int} {v : XV} {L : Nat → List Snt} (gb : Nat) (hbad : v.bad = false) (hsh : v.shut = false) (c : Nat) (i : Nat) (hi : i = 0 ∨ i = 1) (hln : (L i).length < 17592186044416)
    (c0 : w.cell? ⟨X.xb, 0, none⟩ = some (.pointer (some ⟨gb, 0, none⟩))) (Y Z : World → Prop)
    (hY : ∀ w1, Y w1 → ∃ own, XAt own T w1 X lim v L ∧ ∀ w2 W X', Keep (fun b => own b ≠ T) w1 W → XAt (ext own W.heap.size T) T w2 X' lim v (upN L i (L i ++ [Snt.new c i])) → X'.xb = X.xb → X'.gb = X.gb → Keep (fun b => own b ≠ T) w1 w2 → Z w2)
    (hc : Calls Try.prog 17 #[.pointer (some ⟨gb, 0, none⟩), .int .i64 c, .int .i64 i] w fun r w' => r = .returned (.tuple #[.int .i64 (L i).length, .int .i64 0]) ∧ Y w') :
    Calls Try.prog 24 #[.pointer (some ⟨X.xb, 0, none⟩), .int .i64 c, .int .i64 i] w fun r w' => r = .returned (.int .i64 (L i).length) ∧ Z w' := by
  have HY := hideE hY
  have HBAD := hideE hbad
  clear hY hbad
  obtain ⟨it, ht1, ht2, ht3, ht4⟩ := info_sent
  rcases hi with rfl | rfl
  · go_enter Try.func24, Try.ntmps24
    go_wp2_with fail
    refine hc.mono ?_
    rintro r w1 ⟨rfl, hy⟩
    obtain ⟨own, hx, hz⟩ := HY.out w1 hy
    have d7 := hx.c7
    have d14 := hx.c14
    have d15 := hx.c15
    have z15 := hx.fz 15
    obtain ⟨a, cap, hlv⟩ := hx.laneV 0 (by omega)
    rw [hlv] at d7
    rw [HBAD.out] at d15
    rw [hsh] at d14
    have kB : Keep (fun b => own b ≠ T) w1 (w1.setCell ⟨X.xb, 15, none⟩ (.bool false)) := (Keep.refl _ w1).setCell _ (fun _ h => h hx.og) _
    have HX := hideE (show XAt own T (w1.setCell ⟨X.xb, 15, none⟩ (.bool false)) X lim v L from hx.vset 15 (.bool false) v (by have := HBAD.out; unfold xCells; rw [this]; rfl))
    have HK := hideE kB
    have HZ := hideE hz
    clear hc c0 hy hx hz kB
    go_wp2
    generalize w1.setCell ⟨X.xb, 15, none⟩ (.bool false) = W at *
    clear d7 d14 d15 z15
    have d7 := HX.out.c7
    have z7 := HX.out.fz 7
    rw [hlv] at d7
    have hxd : XAt own T W.drew X lim v L := HX.out.keep (S := fun _ => True) (Keep.refl _ _).drew (fun _ _ _ => trivial) (fun _ _ _ => rfl)
    obtain ⟨r, cap2, w3, hrun, happ⟩ := ptr_append 32 41 it Try.underlying32 ht1 ht2 ht3 ht4 (World.ownsRow.alloc (hxd.row 0 (by omega)) (.cells (sCells (Snt.new c (0 : Nat))) 43)) (by omega) W.heap.size
    have hrun' : ∀ ty, (Builtin.append_ #[32, 32] ty #[.slice a (L 0).length cap, .slice (some ⟨W.heap.size + 1, 0, none⟩) 1 1]).run Try.prog (((W.alloc (.cells #[.int .i64 c, .int .i64 0, .int .i64 0, .int .i64 0, .int .i64 0, .int .i64 0, .int .i64 0, .int .i64 0, .int .i64 0, .int .i64 0, .bool false, .bool false, .bool false, .bool false, .int .i64 0] 43)).alloc (.cells #[.pointer (some ⟨W.heap.size, 0, none⟩)] 41)).drew) = .ok (.slice (some ⟨r, 0, none⟩) ((L 0).length + 1) cap2) w3 := by
      intro ty
      have h := hrun ty
      rw [hlv, show (W.drew.alloc (.cells (sCells (Snt.new c (0 : Nat))) 43)).heap.size = W.heap.size + 1 by simp] at h
      exact h
    have lx := block_lt HX.out.game
    have hA : XAt own T (W.drew.alloc (.cells (sCells (Snt.new c (0 : Nat))) 43)) X lim v L := hxd.keep (S := fun _ => True) ((Keep.refl _ _).alloc _) (fun _ _ _ => trivial) (fun _ _ _ => rfl)
    have g3 := happ.2.1.get hA.game (fun e => hA.neG 0 X.xb (by omega) e rfl)
    have x3 : w3.cell? ⟨X.xb, 7, none⟩ = some (.slice a (L 0).length cap) := by rw [← hlv]; exact cellAt (i := 7) g3 rfl
    have y3 : w3.frozen? ⟨X.xb, 7, none⟩ = false := frozenAt g3
    have psh := hxd.push 0 (by omega) (Snt.new c (0 : Nat)) happ
    have KEY := hideE (show Z (w3.setCell ⟨X.xb, 7, none⟩ (.slice (some ⟨r, 0, none⟩) ((L 0).length + 1) cap2)) from
      HZ.out _ W.drew _ HK.out.drew psh.1 rfl rfl (HK.out.drew.trans' psh.2 (fun _ _ h => h)))
    clear happ ht1 ht2 ht3 ht4 hrun hxd hA g3 psh hlv
    go_region_law (refine step_append_run rfl (.tmp 111) (.tmp 116) 32 rfl (.slice a (L 0).length cap) (.slice (some ⟨W.heap.size + 1, 0, none⟩) 1 1) (by simp [Act.eval]) (by simp [Act.eval]) _ _ hrun' ?_)
    all_goals
      go_wp2
      go_ret
      exact ⟨rfl, KEY.out⟩
  · go_enter Try.func24, Try.ntmps24
    go_wp2_with fail
    refine hc.mono ?_
    rintro r w1 ⟨rfl, hy⟩
    obtain ⟨own, hx, hz⟩ := HY.out w1 hy
    have d7 := hx.c8
    have d14 := hx.c14
    have d15 := hx.c15
    have z15 := hx.fz 15
    obtain ⟨a, cap, hlv⟩ := hx.laneV 1 (by omega)
    rw [hlv] at d7
    rw [HBAD.out] at d15
    rw [hsh] at d14
    have kB : Keep (fun b => own b ≠ T) w1 (w1.setCell ⟨X.xb, 15, none⟩ (.bool false)) := (Keep.refl _ w1).setCell _ (fun _ h => h hx.og) _
    have HX := hideE (show XAt own T (w1.setCell ⟨X.xb, 15, none⟩ (.bool false)) X lim v L from hx.vset 15 (.bool false) v (by have := HBAD.out; unfold xCells; rw [this]; rfl))
    have HK := hideE kB
    have HZ := hideE hz
    clear hc c0 hy hx hz kB
    go_wp2
    generalize w1.setCell ⟨X.xb, 15, none⟩ (.bool false) = W at *
    clear d7 d14 d15 z15
    have d7 := HX.out.c8
    have z7 := HX.out.fz 8
    rw [hlv] at d7
    have hxd : XAt own T W.drew X lim v L := HX.out.keep (S := fun _ => True) (Keep.refl _ _).drew (fun _ _ _ => trivial) (fun _ _ _ => rfl)
    obtain ⟨r, cap2, w3, hrun, happ⟩ := ptr_append 32 41 it Try.underlying32 ht1 ht2 ht3 ht4 (World.ownsRow.alloc (hxd.row 1 (by omega)) (.cells (sCells (Snt.new c (1 : Nat))) 43)) (by omega) W.heap.size
    have hrun' : ∀ ty, (Builtin.append_ #[32, 32] ty #[.slice a (L 1).length cap, .slice (some ⟨W.heap.size + 1, 0, none⟩) 1 1]).run Try.prog (((W.alloc (.cells #[.int .i64 c, .int .i64 1, .int .i64 0, .int .i64 0, .int .i64 0, .int .i64 0, .int .i64 0, .int .i64 0, .int .i64 0, .int .i64 0, .bool false, .bool false, .bool false, .bool false, .int .i64 0] 43)).alloc (.cells #[.pointer (some ⟨W.heap.size, 0, none⟩)] 41)).drew) = .ok (.slice (some ⟨r, 0, none⟩) ((L 1).length + 1) cap2) w3 := by
      intro ty
      have h := hrun ty
      rw [hlv, show (W.drew.alloc (.cells (sCells (Snt.new c (1 : Nat))) 43)).heap.size = W.heap.size + 1 by simp] at h
      exact h
    have lx := block_lt HX.out.game
    have hA : XAt own T (W.drew.alloc (.cells (sCells (Snt.new c (1 : Nat))) 43)) X lim v L := hxd.keep (S := fun _ => True) ((Keep.refl _ _).alloc _) (fun _ _ _ => trivial) (fun _ _ _ => rfl)
    have g3 := happ.2.1.get hA.game (fun e => hA.neG 1 X.xb (by omega) e rfl)
    have x3 : w3.cell? ⟨X.xb, 8, none⟩ = some (.slice a (L 1).length cap) := by rw [← hlv]; exact cellAt (i := 8) g3 rfl
    have y3 : w3.frozen? ⟨X.xb, 8, none⟩ = false := frozenAt g3
    have psh := hxd.push 1 (by omega) (Snt.new c (1 : Nat)) happ
    have KEY := hideE (show Z (w3.setCell ⟨X.xb, 8, none⟩ (.slice (some ⟨r, 0, none⟩) ((L 1).length + 1) cap2)) from
      HZ.out _ W.drew _ HK.out.drew psh.1 rfl rfl (HK.out.drew.trans' psh.2 (fun _ _ h => h)))
    clear happ ht1 ht2 ht3 ht4 hrun hxd hA g3 psh hlv
    go_region_law (refine step_append_run rfl (.tmp 111) (.tmp 116) 32 rfl (.slice a (L 1).length cap) (.slice (some ⟨W.heap.size + 1, 0, none⟩) 1 1) (by simp [Act.eval]) (by simp [Act.eval]) _ _ hrun' ?_)
    all_goals
      go_wp2
      go_ret
      exact ⟨rfl, KEY.out⟩

end Go.Proofs.Ytjhifhoniimfgaa

/-
  A game: a place is claimed, as a step.
-/
namespace Go.Proofs.Ytjhifhoniimfgaa
open Go.RowKit

theorem g_claim_yesS {own : Nat → Nat} {T : Nat} {w : World} {xb : Nat} {x : Gm} {N : Nat} (h : GAt own T w xb x N) (hN : N < 1000000000000000) (c i : Nat) (hc : c < 3) (hi : i < 2) (hm : mayClaim x i = true) (hle : (x.L i).length < 17592186044416) :
    Calls Try.prog 24 #[.pointer (some ⟨xb, 0, none⟩), .int .i64 c, .int .i64 i] w fun e w' => e = .returned (.int .i64 (x.L i).length) ∧ GGo own T w xb (claimG x c i) (N + 16) w' := by
  obtain ⟨B, X, st0, st1, hM, rfl⟩ := h
  have e := (claimS_eq x hM.inv.cl c i hc hi).1 hm
  have cc := gClaim hM.pg hM.ok (by omega) c i
  have ok := claim_ok hM.ok c i
  rw [e] at cc ok
  have inv := claim_inv hM.inv hM.ok c i hc hi
  have c0 := hM.at_.c0
  rw [hM.gb] at c0
  have mt := hM.ok.mt i hi
  have hl := hM.inv.len i hi
  have wt : Wt (claimG x c i).s (N + 16) := fun j hj => by
    have := hM.sz j hj
    show 16 * (upN x.s.m i (x.s.m i + 1) j + x.s.t j) ≤ _
    by_cases e : j = i
    · subst e; rw [upN_same]; omega
    · rw [upN_ne _ _ _ _ e]; omega
  have hs : x.s.shut = false := by
    unfold mayClaim at hm
    simp only [Bool.and_eq_true, Bool.not_eq_true'] at hm
    exact hm.1
  refine claim_yes (T := T + 100) (lim := x.s.lim) (v := vOf x.s st0 st1) (L := x.L) B.gb rfl hs c i (by omega) hle c0 _ _ (fun w1 hy => ?_) (by rw [hl]; exact cc)
  obtain ⟨own', B', g1, g2, g3, g4⟩ := hy
  obtain ⟨q1, q2, q3, q4⟩ := hM.call g1 g2 g3 g4
  refine ⟨own', q2, fun w2 W X' kW hx ex eg hk => ?_⟩
  have so : Same own' (ext own' W.heap.size (T + 100)) w1 := fun b hb => ext_lt (Nat.lt_of_lt_of_le hb kW.size)
  have hP : PG (ext own' W.heap.size (T + 100)) T w2 B' (claimG x c i).s (N + 1) := q1.keep ok.cl.2 ok.na.2 hk (fun b _ _ _ => by omega) so
  refine ⟨ext own' W.heap.size (T + 100), ⟨B', X', st0, st1, ⟨hP.more (by omega), ok.more (by omega), hx, by rw [eg]; exact q3, inv, wt⟩, ex⟩, fun b hb hO => ?_, q4.trans' hk (fun b hb hO => ?_)⟩
  · have h1 := g3.outG T b hb hO
    unfold OutG at h1 ⊢
    rw [so b (Nat.lt_of_lt_of_le hb q4.size)]
    exact h1
  · have h1 := g3.outG T b hb hO
    unfold OutG at h1
    omega

theorem g_claim_yes {own : Nat → Nat} {T : Nat} {w : World} {xb : Nat} {x : Gm} {N : Nat} (h : GAt own T w xb x N) (hN : N < 281000000000000) (c i : Nat) (hc : c < 3) (hi : i < 2) (hm : mayClaim x i = true) :
    Calls Try.prog 24 #[.pointer (some ⟨xb, 0, none⟩), .int .i64 c, .int .i64 i] w fun e w' => e = .returned (.int .i64 (x.L i).length) ∧ GGo own T w xb (claimG x c i) (N + 16) w' :=
  g_claim_yesS h (by omega) c i hc hi hm (by
    have h1 := h.wt i hi
    have h2 := h.inv.len i hi
    omega)

theorem g_claim_no {own : Nat → Nat} {T : Nat} {w : World} {xb : Nat} {x : Gm} {N : Nat} (h : GAt own T w xb x N) (hN : N < 281000000000000) (c i : Nat) (hc : c < 3) (hi : i < 2) (hm : mayClaim x i = false) :
    Calls Try.prog 24 #[.pointer (some ⟨xb, 0, none⟩), .int .i64 c, .int .i64 i] w fun e w' => e = .returned (.int .i64 (-1)) ∧ GGo own T w xb x (N + 1) w' := by
  obtain ⟨B, X, st0, st1, hM, rfl⟩ := h
  obtain ⟨_, e5, e6⟩ := claimS_eq x hM.inv.cl c i hc hi
  have cc := gClaim hM.pg hM.ok (by omega) c i
  have c0 := hM.at_.c0
  rw [hM.gb] at c0
  have mt := hM.ok.mt i hi
  have hl := hM.inv.len i hi
  have hw := hM.sz i hi
  have key : ∀ e : Int, claimS x.s c i = (0, e, x.s) → ((e = 5 ∧ x.s.shut = true) ∨ (e = 6 ∧ x.s.shut = false ∧ x.s.t i + x.s.n i ≤ (x.L i).length)) →
      Calls Try.prog 24 #[.pointer (some ⟨X.xb, 0, none⟩), .int .i64 c, .int .i64 i] w fun e w' => e = .returned (.int .i64 (-1)) ∧ GGo own T w X.xb x (N + 1) w' := fun e he ho => by
    rw [he] at cc
    refine claim_no (T := T + 100) (lim := x.s.lim) (v := vOf x.s st0 st1) (L := x.L) B.gb rfl c i (by omega) e ho ⟨by show x.s.t i ≤ _; omega, by omega⟩ c0 _ _ (fun w1 hy => ?_) cc
    obtain ⟨own', B', g1, g2, g3, g4⟩ := hy
    obtain ⟨q1, q2, q3, q4⟩ := hM.call g1 g2 g3 g4
    have ok := hM.ok.more (Nat.le_succ N)
    exact ⟨own', q2, fun w2 hx hk => GM.goes (x' := x) (q1.keep ok.cl.2 ok.na.2 hk (fun b _ _ _ => by omega) (Same.refl _ _)) ok hx q3 hM.inv (hM.sz.more (Nat.le_succ N)) g3 q4 hk⟩
  cases hs : x.s.shut with
  | true => exact key 5 (e5 hs) (.inl ⟨rfl, hs⟩)
  | false => exact key 6 (e6 hs hm).1 (.inr ⟨rfl, hs, by rw [hl]; exact (e6 hs hm).2⟩)

end Go.Proofs.Ytjhifhoniimfgaa

