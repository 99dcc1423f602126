import Derived.Test.YtjhifhoniimfgaaG31
/-
  A game: a step of the core.
-/
namespace Go.Proofs.Ytjhifhoniimfgaa
open Go.RowKit

/-- What the game's block says behind a place taken. -/
def tookV (v : XV) (i : Nat) (a b : Bool) : XV := { v with t := upN v.t i (v.t i + 1), st0 := a, st1 := b }

set_option maxRecDepth 100000 in
set_option maxHeartbeats 2000000 in
theorem gcore_rush {w : World} {T : Nat} {X : XB} {lim : Nat → Nat → Int} {v : XV} {L : Nat → List Snt} (gb : Nat) (hbad : v.bad = false) (htb : v.t 0 ≤ 1000000000000000 ∧ v.t 1 ≤ 1000000000000000) (g : Snt) (hg : (L 1)[v.t 1]? = some g) (hf : g.filled = true) (hkd : g.kind = 3 ∨ g.kind = 4) (hac : g.account = 0 ∨ g.account = 1) (code : Int)
    (c0 : w.cell? ⟨X.xb, 0, none⟩ = some (.pointer (some ⟨gb, 0, none⟩))) (Y Z : World → Prop)
    (hY : ∀ w1, Y w1 → ∃ own, XAt own T w1 X lim v L ∧ ∀ w2 a b, XAt own T w2 X lim (tookV v 1 a b) (upN L 1 ((L 1).set (v.t 1) (tookG g v.now code))) → Keep (fun b => own b ≠ T) w1 w2 → Z w2)
    (hc : Calls Try.prog 30 #[.pointer (some ⟨gb, 0, none⟩)] w fun e w' => e = .returned (.tuple #[.int .i64 1, .int .i64 0]) ∧ Y w') :
    Calls Try.prog 21 #[.pointer (some ⟨X.xb, 0, none⟩)] w fun e w' => e = .returned (.int .i64 1) ∧ Z w' := by
  have HY := hideE hY
  have HG := hideE hg
  have HBAD := hideE hbad
  have hlt : v.t 1 < (L 1).length := (List.getElem?_eq_some_iff.1 hg).1
  obtain ⟨tt, htt⟩ : ∃ tt, tt = v.t 1 := ⟨_, rfl⟩
  obtain ⟨ln, hln⟩ : ∃ ln, ln = (L 1).length := ⟨_, rfl⟩
  have lt1 : (tt : Int) < (ln : Int) := by omega
  have lt2 : (tt : Int) ≤ 1000000000000000 := by omega
  have HT := hideE htt
  have HL := hideE hln
  clear hY hg hbad htt hln hlt htb
  go_enter Try.func21, Try.ntmps21
  go_wp2_with fail
  refine hc.mono ?_
  rintro e w1 ⟨rfl, hy⟩
  obtain ⟨own, hx, hz⟩ := HY.out w1 hy
  have d15 := hx.c15
  have z15 := hx.fz 15
  rw [HBAD.out] at d15
  have HX := hideE (show XAt own T (w1.setCell ⟨X.xb, 15, none⟩ (.bool false)) X lim v L from hx.vset 15 (.bool false) v (by have := HBAD.out; unfold xCells; rw [this]; rfl))
  have HK := hideE (show Keep (fun b => own b ≠ T) w1 (w1.setCell ⟨X.xb, 15, none⟩ (.bool false)) from (Keep.refl _ w1).setCell _ (fun _ h => h hx.og) _)
  have HZ := hideE hz
  clear hc c0 hy hx hz
  go_wp2
  generalize w1.setCell ⟨X.xb, 15, none⟩ (.bool false) = W at *
  clear d15 z15
  go_loopw [5] (fun lv wr => ((lv = .int .i64 0 ∨ lv = .int .i64 1) ∧ W = wr) ∨ (lv = .int .i64 2 ∧ Z wr)) (fun lv _ => 2 - (intOf lv).toNat)
  case atStart => exact .inl ⟨.inl rfl, rfl⟩
  case round =>
    rcases hrel with ⟨rfl | rfl, rfl⟩ | ⟨rfl, hz⟩
    · have cT := HX.out.c9
      go_wp2
      go_roundw
      case rel => exact .inl ⟨.inr rfl, trivial⟩
      case measure => simp [intOf]
    · have hx := HX.out
      have cL := hx.cL 1 (by omega)
      have cT := hx.cT 1 (by omega)
      have cB := hx.c15
      have zB := hx.fz 15
      have cN := hx.c11
      rw [HBAD.out] at cB
      obtain ⟨rb, cap, e1, e2, e3, e4⟩ := hx.rowcell 1 (by omega) (by rw [← HL.out]; omega)
      rw [e1, ← HL.out] at cL
      rw [← HT.out] at cT
      have eR := e2 (v.t 1) (by rw [← HL.out, ← HT.out]; omega)
      have hb := hx.sent 1 (v.t 1) g (by omega) HG.out
      have nxp := hx.neX 1 (v.t 1) (by omega) (by rw [← HL.out, ← HT.out]; omega)
      rw [← HT.out] at eR hb nxp
      obtain ⟨pb, hpb⟩ : ∃ pb, pb = X.pb 1 tt := ⟨_, rfl⟩
      rw [← hpb] at eR hb nxp
      have s2 := sc2 hb
      have s3 := sc3 hb
      have s9 := sc9 hb
      have s10 := sc10 hb
      have s11 := sc11 hb
      rw [hf] at s10
      have f9 : W.frozen? ⟨pb, 9, none⟩ = false := frozenAt hb
      have f11 : W.frozen? ⟨pb, 11, none⟩ = false := frozenAt hb
      simp only [Nat.reduceAdd] at cL cT
      have HB := hideE hb
      have HPB := hideE hpb
      clear hx e1 e2 e3 e4 hb hpb
      go_wp2
      generalize hV : ((W.setCell ⟨X.xb, 15, none⟩ (.bool false)).setCell ⟨pb, 11, none⟩ (.bool true)).setCell ⟨pb, 9, none⟩ (.int .i64 v.now) = V
      have xV : XAt own T V X lim v (upN L 1 ((L 1).set (v.t 1) (tookG g v.now code))) := by
        have x1 := HX.out.vset 15 (.bool false) v (by have := HBAD.out; unfold xCells; rw [this]; rfl)
        have kV : Keep (fun b => b ≠ X.pb 1 (v.t 1)) (W.setCell ⟨X.xb, 15, none⟩ (.bool false)) V := by
          rw [← hV]
          refine ((Keep.refl _ _).setCell _ (fun _ h => h ?_) _).setCell _ (fun _ h => h ?_) _ <;> rw [← HT.out, HPB.out]
        refine x1.sput 1 (v.t 1) (by omega) g (tookG g v.now code) HG.out kV ?_
        have hb2 : (W.setCell ⟨X.xb, 15, none⟩ (.bool false)).heap[pb]? = some (.cells (sCells g) 43 (0, 0)) := by
          have := x1.sent 1 (v.t 1) g (by omega) HG.out
          rw [← HT.out, ← HPB.out] at this
          exact this
        rw [← HT.out, ← HPB.out, ← hV, heap_setCell_at _ (heap_setCell_at _ hb2)]
        rfl
      have kV : Keep (fun b => own b ≠ T) w1 V := by
        have op : own pb = T := by have := HX.out.os 1 (v.t 1) (by omega) (by rw [← HL.out, ← HT.out]; omega); rw [← HT.out, ← HPB.out] at this; exact this
        rw [← hV]
        exact ((HK.out.setCell _ (fun _ h => h HX.out.og) _).setCell _ (fun _ h => h op) _).setCell _ (fun _ h => h op) _
      have y2 : V.cell? ⟨pb, 2, none⟩ = some (.int .i64 g.kind) := by
        have h3 := sc2 (xV.sent 1 (v.t 1) (tookG g v.now code) (by omega) (by rw [upN_same, List.getElem?_set_self (by rw [← HL.out, ← HT.out]; omega)]))
        rw [← HT.out, ← HPB.out] at h3
        exact h3
      have y3 : V.cell? ⟨pb, 3, none⟩ = some (.int .i64 g.account) := by
        have h3 := sc3 (xV.sent 1 (v.t 1) (tookG g v.now code) (by omega) (by rw [upN_same, List.getElem?_set_self (by rw [← HL.out, ← HT.out]; omega)]))
        rw [← HT.out, ← HPB.out] at h3
        exact h3
      have yT := xV.cT 1 (by omega)
      rw [← HT.out] at yT
      simp only [Nat.reduceAdd] at yT
      have y12 := xV.c12
      have y13 := xV.c13
      have zT := xV.fz 10
      have z12 := xV.fz 12
      have z13 := xV.fz 13
      have XV_ := hideE xV
      have KV := hideE kV
      clear hV xV kV cL cT cB zB cN eR s2 s3 s9 s10 s11 f9 f11
      rcases hkd with hkd | hkd <;> rcases hac with hac | hac
      · rw [hkd] at y2
        rw [hac] at y3
        have KEY := hideE (show Z (((V.setCell ⟨X.xb, 10, none⟩ (.int .i64 (tt + 1))).drew.setCell ⟨X.xb, 12, none⟩ (.bool true)).drew) from
          HZ.out _ true v.st1 ((((XV_.out.vset 10 (.int .i64 (tt + 1)) (tookV v 1 v.st0 v.st1) (by rw [HT.out]; rfl)).keep (S := fun _ => True) ((Keep.refl _ _).drew) (fun _ _ _ => trivial) (fun _ _ _ => rfl)).vset 12 (.bool true) (tookV v 1 true v.st1) rfl).keep (S := fun _ => True) ((Keep.refl _ _).drew) (fun _ _ _ => trivial) (fun _ _ _ => rfl)) ((((KV.out.setCell _ (fun _ h => h HX.out.og) _).drew).setCell _ (fun _ h => h HX.out.og) _).drew))
        clear hkd hac
        go_region
        all_goals
          go_wp2
          go_region
          all_goals
            go_wp2
            go_roundw
            case rel => exact .inr ⟨rfl, KEY.out⟩
            case measure => simp [intOf]
      · rw [hkd] at y2
        rw [hac] at y3
        have KEY := hideE (show Z (((V.setCell ⟨X.xb, 10, none⟩ (.int .i64 (tt + 1))).drew.setCell ⟨X.xb, 13, none⟩ (.bool true)).drew) from
          HZ.out _ v.st0 true ((((XV_.out.vset 10 (.int .i64 (tt + 1)) (tookV v 1 v.st0 v.st1) (by rw [HT.out]; rfl)).keep (S := fun _ => True) ((Keep.refl _ _).drew) (fun _ _ _ => trivial) (fun _ _ _ => rfl)).vset 13 (.bool true) (tookV v 1 v.st0 true) rfl).keep (S := fun _ => True) ((Keep.refl _ _).drew) (fun _ _ _ => trivial) (fun _ _ _ => rfl)) ((((KV.out.setCell _ (fun _ h => h HX.out.og) _).drew).setCell _ (fun _ h => h HX.out.og) _).drew))
        clear hkd hac
        go_region
        all_goals
          go_wp2
          go_region
          all_goals
            go_wp2
            go_roundw
            case rel => exact .inr ⟨rfl, KEY.out⟩
            case measure => simp [intOf]
      · rw [hkd] at y2
        rw [hac] at y3
        have KEY := hideE (show Z (((V.setCell ⟨X.xb, 10, none⟩ (.int .i64 (tt + 1))).drew.setCell ⟨X.xb, 12, none⟩ (.bool false)).drew) from
          HZ.out _ false v.st1 ((((XV_.out.vset 10 (.int .i64 (tt + 1)) (tookV v 1 v.st0 v.st1) (by rw [HT.out]; rfl)).keep (S := fun _ => True) ((Keep.refl _ _).drew) (fun _ _ _ => trivial) (fun _ _ _ => rfl)).vset 12 (.bool false) (tookV v 1 false v.st1) rfl).keep (S := fun _ => True) ((Keep.refl _ _).drew) (fun _ _ _ => trivial) (fun _ _ _ => rfl)) ((((KV.out.setCell _ (fun _ h => h HX.out.og) _).drew).setCell _ (fun _ h => h HX.out.og) _).drew))
        clear hkd hac
        go_region
        all_goals
          go_wp2
          go_region
          all_goals
            go_wp2
            go_roundw
            case rel => exact .inr ⟨rfl, KEY.out⟩
            case measure => simp [intOf]
      · rw [hkd] at y2
        rw [hac] at y3
        have KEY := hideE (show Z (((V.setCell ⟨X.xb, 10, none⟩ (.int .i64 (tt + 1))).drew.setCell ⟨X.xb, 13, none⟩ (.bool false)).drew) from
          HZ.out _ v.st0 false ((((XV_.out.vset 10 (.int .i64 (tt + 1)) (tookV v 1 v.st0 v.st1) (by rw [HT.out]; rfl)).keep (S := fun _ => True) ((Keep.refl _ _).drew) (fun _ _ _ => trivial) (fun _ _ _ => rfl)).vset 13 (.bool false) (tookV v 1 v.st0 false) rfl).keep (S := fun _ => True) ((Keep.refl _ _).drew) (fun _ _ _ => trivial) (fun _ _ _ => rfl)) ((((KV.out.setCell _ (fun _ h => h HX.out.og) _).drew).setCell _ (fun _ h => h HX.out.og) _).drew))
        clear hkd hac
        go_region
        all_goals
          go_wp2
          go_region
          all_goals
            go_wp2
            go_roundw
            case rel => exact .inr ⟨rfl, KEY.out⟩
            case measure => simp [intOf]
    · have HZ2 := hideE hz
      clear hz
      go_wp2
      go_ret
      exact ⟨rfl, HZ2.out⟩

set_option maxRecDepth 100000 in
set_option maxHeartbeats 2000000 in
theorem gcore_serve {w : World} {T : Nat} {X : XB} {lim : Nat → Nat → Int} {v : XV} {L : Nat → List Snt} (gb : Nat) (hbad : v.bad = false) (htb : v.t 0 ≤ 1000000000000000 ∧ v.t 1 ≤ 1000000000000000) (g : Snt) (hg : (L 0)[v.t 0]? = some g) (hf : g.filled = true) (hkd : (g.kind == 3) = false ∧ (g.kind == 4) = false) (code : Int)
    (c0 : w.cell? ⟨X.xb, 0, none⟩ = some (.pointer (some ⟨gb, 0, none⟩))) (Y Z : World → Prop)
    (hY : ∀ w1, Y w1 → ∃ own, XAt own T w1 X lim v L ∧ ∀ w2 a b, XAt own T w2 X lim (tookV v 0 a b) (upN L 0 ((L 0).set (v.t 0) (tookG g v.now code))) → Keep (fun b => own b ≠ T) w1 w2 → Z w2)
    (hc : Calls Try.prog 30 #[.pointer (some ⟨gb, 0, none⟩)] w fun e w' => e = .returned (.tuple #[.int .i64 2, .int .i64 0]) ∧ Y w') :
    Calls Try.prog 21 #[.pointer (some ⟨X.xb, 0, none⟩)] w fun e w' => e = .returned (.int .i64 2) ∧ Z w' := by
  have HY := hideE hY
  have HG := hideE hg
  have HBAD := hideE hbad
  have hlt : v.t 0 < (L 0).length := (List.getElem?_eq_some_iff.1 hg).1
  obtain ⟨tt, htt⟩ : ∃ tt, tt = v.t 0 := ⟨_, rfl⟩
  obtain ⟨ln, hln⟩ : ∃ ln, ln = (L 0).length := ⟨_, rfl⟩
  have lt1 : (tt : Int) < (ln : Int) := by omega
  have lt2 : (tt : Int) ≤ 1000000000000000 := by omega
  have HT := hideE htt
  have HL := hideE hln
  clear hY hg hbad htt hln hlt htb
  go_enter Try.func21, Try.ntmps21
  go_wp2_with fail
  refine hc.mono ?_
  rintro e w1 ⟨rfl, hy⟩
  obtain ⟨own, hx, hz⟩ := HY.out w1 hy
  have d15 := hx.c15
  have z15 := hx.fz 15
  rw [HBAD.out] at d15
  have HX := hideE (show XAt own T (w1.setCell ⟨X.xb, 15, none⟩ (.bool false)) X lim v L from hx.vset 15 (.bool false) v (by have := HBAD.out; unfold xCells; rw [this]; rfl))
  have HK := hideE (show Keep (fun b => own b ≠ T) w1 (w1.setCell ⟨X.xb, 15, none⟩ (.bool false)) from (Keep.refl _ w1).setCell _ (fun _ h => h hx.og) _)
  have HZ := hideE hz
  clear hc c0 hy hx hz
  go_wp2
  generalize w1.setCell ⟨X.xb, 15, none⟩ (.bool false) = W at *
  clear d15 z15
  go_loopw [5] (fun lv wr => (lv = .int .i64 0 ∧ W = wr) ∨ ((lv = .int .i64 1 ∨ lv = .int .i64 2) ∧ (∃ q : Int, wr.cell? ⟨X.xb, 10, none⟩ = some (.int .i64 q)) ∧ Z wr)) (fun lv _ => 2 - (intOf lv).toNat)
  case atStart => exact .inl ⟨rfl, rfl⟩
  case round =>
    rcases hrel with ⟨rfl, rfl⟩ | ⟨rfl | rfl, ⟨q10, h10⟩, hz⟩
    · have hx := HX.out
      have cL := hx.cL 0 (by omega)
      have cT := hx.cT 0 (by omega)
      have cB := hx.c15
      have zB := hx.fz 15
      have cN := hx.c11
      rw [HBAD.out] at cB
      obtain ⟨rb, cap, e1, e2, e3, e4⟩ := hx.rowcell 0 (by omega) (by rw [← HL.out]; omega)
      rw [e1, ← HL.out] at cL
      rw [← HT.out] at cT
      have eR := e2 (v.t 0) (by rw [← HL.out, ← HT.out]; omega)
      have hb := hx.sent 0 (v.t 0) g (by omega) HG.out
      have nxp := hx.neX 0 (v.t 0) (by omega) (by rw [← HL.out, ← HT.out]; omega)
      rw [← HT.out] at eR hb nxp
      obtain ⟨pb, hpb⟩ : ∃ pb, pb = X.pb 0 tt := ⟨_, rfl⟩
      rw [← hpb] at eR hb nxp
      have s2 := sc2 hb
      have s3 := sc3 hb
      have s9 := sc9 hb
      have s10 := sc10 hb
      have s11 := sc11 hb
      rw [hf] at s10
      have f9 : W.frozen? ⟨pb, 9, none⟩ = false := frozenAt hb
      have f11 : W.frozen? ⟨pb, 11, none⟩ = false := frozenAt hb
      simp only [Nat.add_zero] at cL cT
      have HB := hideE hb
      have HPB := hideE hpb
      clear hx e1 e2 e3 e4 hb hpb
      go_wp2
      generalize hV : ((W.setCell ⟨X.xb, 15, none⟩ (.bool false)).setCell ⟨pb, 11, none⟩ (.bool true)).setCell ⟨pb, 9, none⟩ (.int .i64 v.now) = V
      have xV : XAt own T V X lim v (upN L 0 ((L 0).set (v.t 0) (tookG g v.now code))) := by
        have x1 := HX.out.vset 15 (.bool false) v (by have := HBAD.out; unfold xCells; rw [this]; rfl)
        have kV : Keep (fun b => b ≠ X.pb 0 (v.t 0)) (W.setCell ⟨X.xb, 15, none⟩ (.bool false)) V := by
          rw [← hV]
          refine ((Keep.refl _ _).setCell _ (fun _ h => h ?_) _).setCell _ (fun _ h => h ?_) _ <;> rw [← HT.out, HPB.out]
        refine x1.sput 0 (v.t 0) (by omega) g (tookG g v.now code) HG.out kV ?_
        have hb2 : (W.setCell ⟨X.xb, 15, none⟩ (.bool false)).heap[pb]? = some (.cells (sCells g) 43 (0, 0)) := by
          have := x1.sent 0 (v.t 0) g (by omega) HG.out
          rw [← HT.out, ← HPB.out] at this
          exact this
        rw [← HT.out, ← HPB.out, ← hV, heap_setCell_at _ (heap_setCell_at _ hb2)]
        rfl
      have kV : Keep (fun b => own b ≠ T) w1 V := by
        have op : own pb = T := by have := HX.out.os 0 (v.t 0) (by omega) (by rw [← HL.out, ← HT.out]; omega); rw [← HT.out, ← HPB.out] at this; exact this
        rw [← hV]
        exact ((HK.out.setCell _ (fun _ h => h HX.out.og) _).setCell _ (fun _ h => h op) _).setCell _ (fun _ h => h op) _
      have y2 : V.cell? ⟨pb, 2, none⟩ = some (.int .i64 g.kind) := by
        have h3 := sc2 (xV.sent 0 (v.t 0) (tookG g v.now code) (by omega) (by rw [upN_same, List.getElem?_set_self (by rw [← HL.out, ← HT.out]; omega)]))
        rw [← HT.out, ← HPB.out] at h3
        exact h3
      have y3 : V.cell? ⟨pb, 3, none⟩ = some (.int .i64 g.account) := by
        have h3 := sc3 (xV.sent 0 (v.t 0) (tookG g v.now code) (by omega) (by rw [upN_same, List.getElem?_set_self (by rw [← HL.out, ← HT.out]; omega)]))
        rw [← HT.out, ← HPB.out] at h3
        exact h3
      have yT := xV.cT 0 (by omega)
      rw [← HT.out] at yT
      simp only [Nat.add_zero] at yT
      have y12 := xV.c12
      have y13 := xV.c13
      have zT := xV.fz 9
      have z12 := xV.fz 12
      have z13 := xV.fz 13
      have XV_ := hideE xV
      have KV := hideE kV
      clear hV xV kV cL cT cB zB cN eR s2 s3 s9 s10 s11 f9 f11
      have K10 := hideE (show ∃ q : Int, ((V.setCell ⟨X.xb, 9, none⟩ (.int .i64 (tt + 1))).drew).cell? ⟨X.xb, 10, none⟩ = some (.int .i64 q) from ⟨_, ((XV_.out.vset 9 (.int .i64 (tt + 1)) (tookV v 0 v.st0 v.st1) (by rw [HT.out]; rfl)).keep (own' := own) (S := fun _ => True) ((Keep.refl _ _).drew) (fun _ _ _ => trivial) (fun _ _ _ => rfl)).c10⟩)
      have KEY := hideE (show Z ((V.setCell ⟨X.xb, 9, none⟩ (.int .i64 (tt + 1))).drew) from
        HZ.out _ v.st0 v.st1 ((XV_.out.vset 9 (.int .i64 (tt + 1)) (tookV v 0 v.st0 v.st1) (by rw [HT.out]; rfl)).keep (S := fun _ => True) ((Keep.refl _ _).drew) (fun _ _ _ => trivial) (fun _ _ _ => rfl)) ((KV.out.setCell _ (fun _ h => h HX.out.og) _).drew))
      obtain ⟨kd3, kd4⟩ := hkd
      go_region
      all_goals
        go_wp2
        go_roundw
        case rel => exact .inr ⟨.inl rfl, K10.out, KEY.out⟩
        case measure => simp [intOf]
    · have HZ2 := hideE hz
      clear hz
      go_wp2
      go_roundw
      case rel => exact .inr ⟨.inr rfl, ⟨q10, h10⟩, HZ2.out⟩
      case measure => simp [intOf]
    · have HZ2 := hideE hz
      clear hz
      go_wp2
      go_ret
      exact ⟨rfl, HZ2.out⟩

set_option maxRecDepth 100000 in
set_option maxHeartbeats 2000000 in
theorem gcore_hold {w : World} {T : Nat} {X : XB} {lim : Nat → Nat → Int} {v : XV} {L : Nat → List Snt} (gb : Nat) (hbad : v.bad = false) (htb : v.t 0 ≤ 1000000000000000 ∧ v.t 1 ≤ 1000000000000000) (g : Snt) (hg : (L 0)[v.t 0]? = some g) (hf : g.filled = true) (hkd : (g.kind == 3) = false ∧ (g.kind == 4) = false) (hw : ∀ c : Nat, c < 3 → (unt c 0 (L 0)).length ≤ v.an) (htk : ∀ (k : Nat) (g : Snt), (L 0)[k]? = some g → g.taken = decide (k < v.t 0)) (code : Int)
    (c0 : w.cell? ⟨X.xb, 0, none⟩ = some (.pointer (some ⟨gb, 0, none⟩))) (Y Z : World → Prop)
    (hY : ∀ w1, Y w1 → ∃ own, XAt own T w1 X lim v L ∧ ∀ w2 a b, XAt own T w2 X lim (tookV v 0 a b) (upN L 0 ((L 0).set (v.t 0) (tookG g v.now code))) → Keep (fun b => own b ≠ T) w1 w2 → Z w2)
    (hc : Calls Try.prog 30 #[.pointer (some ⟨gb, 0, none⟩)] w fun e w' => e = .returned (.tuple #[.int .i64 3, .int .i64 0]) ∧ Y w') :
    Calls Try.prog 21 #[.pointer (some ⟨X.xb, 0, none⟩)] w fun e w' => e = .returned (.int .i64 3) ∧ Z w' := by
  have HY := hideE hY
  have HG := hideE hg
  have HBAD := hideE hbad
  have hlt : v.t 0 < (L 0).length := (List.getElem?_eq_some_iff.1 hg).1
  obtain ⟨tt, htt⟩ : ∃ tt, tt = v.t 0 := ⟨_, rfl⟩
  obtain ⟨ln, hln⟩ : ∃ ln, ln = (L 0).length := ⟨_, rfl⟩
  have HW := hideE hw
  have HTK := hideE htk
  clear hw htk
  have lt1 : (tt : Int) < (ln : Int) := by omega
  have lt2 : (tt : Int) ≤ 1000000000000000 := by omega
  have HT := hideE htt
  have HL := hideE hln
  clear hY hg hbad htt hln hlt htb
  go_enter Try.func21, Try.ntmps21
  go_wp2_with fail
  refine hc.mono ?_
  rintro e w1 ⟨rfl, hy⟩
  obtain ⟨own, hx, hz⟩ := HY.out w1 hy
  have d15 := hx.c15
  have z15 := hx.fz 15
  rw [HBAD.out] at d15
  have HX := hideE (show XAt own T (w1.setCell ⟨X.xb, 15, none⟩ (.bool false)) X lim v L from hx.vset 15 (.bool false) v (by have := HBAD.out; unfold xCells; rw [this]; rfl))
  have HK := hideE (show Keep (fun b => own b ≠ T) w1 (w1.setCell ⟨X.xb, 15, none⟩ (.bool false)) from (Keep.refl _ w1).setCell _ (fun _ h => h hx.og) _)
  have HZ := hideE hz
  clear hc c0 hy hx hz
  go_wp2
  generalize w1.setCell ⟨X.xb, 15, none⟩ (.bool false) = W at *
  clear d15 z15
  go_loopw [5] (fun lv wr => (lv = .int .i64 0 ∧ W = wr) ∨ ((lv = .int .i64 1 ∨ lv = .int .i64 2) ∧ (∃ q : Int, wr.cell? ⟨X.xb, 10, none⟩ = some (.int .i64 q)) ∧ Z wr)) (fun lv _ => 2 - (intOf lv).toNat)
  case atStart => exact .inl ⟨rfl, rfl⟩
  case round =>
    rcases hrel with ⟨rfl, rfl⟩ | ⟨rfl | rfl, ⟨q10, h10⟩, hz⟩
    · have hx := HX.out
      have cL := hx.cL 0 (by omega)
      have cT := hx.cT 0 (by omega)
      have cB := hx.c15
      have zB := hx.fz 15
      have cN := hx.c11
      rw [HBAD.out] at cB
      obtain ⟨rb, cap, e1, e2, e3, e4⟩ := hx.rowcell 0 (by omega) (by rw [← HL.out]; omega)
      rw [e1, ← HL.out] at cL
      rw [← HT.out] at cT
      have eR := e2 (v.t 0) (by rw [← HL.out, ← HT.out]; omega)
      have hb := hx.sent 0 (v.t 0) g (by omega) HG.out
      have nxp := hx.neX 0 (v.t 0) (by omega) (by rw [← HL.out, ← HT.out]; omega)
      rw [← HT.out] at eR hb nxp
      obtain ⟨pb, hpb⟩ : ∃ pb, pb = X.pb 0 tt := ⟨_, rfl⟩
      rw [← hpb] at eR hb nxp
      have s2 := sc2 hb
      have s3 := sc3 hb
      have s9 := sc9 hb
      have s10 := sc10 hb
      have s11 := sc11 hb
      rw [hf] at s10
      have f9 : W.frozen? ⟨pb, 9, none⟩ = false := frozenAt hb
      have f11 : W.frozen? ⟨pb, 11, none⟩ = false := frozenAt hb
      simp only [Nat.add_zero] at cL cT
      have HB := hideE hb
      have HPB := hideE hpb
      have wt := waits_walk hx HTK.out (by rw [← HT.out, ← HL.out]; omega) (by rw [← HT.out]; omega) false ⟨fun e => (by cases e), fun ⟨c, h1, h2⟩ => (by have := HW.out c h1; omega)⟩
      clear hx e1 e2 e3 e4 hb hpb
      go_wp2_with fail
      refine wt.mono ?_
      rintro e w9 ⟨rfl, rfl⟩
      clear wt
      go_wp2
      generalize hV : ((W.setCell ⟨X.xb, 15, none⟩ (.bool false)).setCell ⟨pb, 11, none⟩ (.bool true)).setCell ⟨pb, 9, none⟩ (.int .i64 v.now) = V
      have xV : XAt own T V X lim v (upN L 0 ((L 0).set (v.t 0) (tookG g v.now code))) := by
        have x1 := HX.out.vset 15 (.bool false) v (by have := HBAD.out; unfold xCells; rw [this]; rfl)
        have kV : Keep (fun b => b ≠ X.pb 0 (v.t 0)) (W.setCell ⟨X.xb, 15, none⟩ (.bool false)) V := by
          rw [← hV]
          refine ((Keep.refl _ _).setCell _ (fun _ h => h ?_) _).setCell _ (fun _ h => h ?_) _ <;> rw [← HT.out, HPB.out]
        refine x1.sput 0 (v.t 0) (by omega) g (tookG g v.now code) HG.out kV ?_
        have hb2 : (W.setCell ⟨X.xb, 15, none⟩ (.bool false)).heap[pb]? = some (.cells (sCells g) 43 (0, 0)) := by
          have := x1.sent 0 (v.t 0) g (by omega) HG.out
          rw [← HT.out, ← HPB.out] at this
          exact this
        rw [← HT.out, ← HPB.out, ← hV, heap_setCell_at _ (heap_setCell_at _ hb2)]
        rfl
      have kV : Keep (fun b => own b ≠ T) w1 V := by
        have op : own pb = T := by have := HX.out.os 0 (v.t 0) (by omega) (by rw [← HL.out, ← HT.out]; omega); rw [← HT.out, ← HPB.out] at this; exact this
        rw [← hV]
        exact ((HK.out.setCell _ (fun _ h => h HX.out.og) _).setCell _ (fun _ h => h op) _).setCell _ (fun _ h => h op) _
      have y2 : V.cell? ⟨pb, 2, none⟩ = some (.int .i64 g.kind) := by
        have h3 := sc2 (xV.sent 0 (v.t 0) (tookG g v.now code) (by omega) (by rw [upN_same, List.getElem?_set_self (by rw [← HL.out, ← HT.out]; omega)]))
        rw [← HT.out, ← HPB.out] at h3
        exact h3
      have y3 : V.cell? ⟨pb, 3, none⟩ = some (.int .i64 g.account) := by
        have h3 := sc3 (xV.sent 0 (v.t 0) (tookG g v.now code) (by omega) (by rw [upN_same, List.getElem?_set_self (by rw [← HL.out, ← HT.out]; omega)]))
        rw [← HT.out, ← HPB.out] at h3
        exact h3
      have yT := xV.cT 0 (by omega)
      rw [← HT.out] at yT
      simp only [Nat.add_zero] at yT
      have y12 := xV.c12
      have y13 := xV.c13
      have zT := xV.fz 9
      have z12 := xV.fz 12
      have z13 := xV.fz 13
      have XV_ := hideE xV
      have KV := hideE kV
      clear hV xV kV cL cT cB zB cN eR s2 s3 s9 s10 s11 f9 f11
      have K10 := hideE (show ∃ q : Int, ((V.setCell ⟨X.xb, 9, none⟩ (.int .i64 (tt + 1))).drew).cell? ⟨X.xb, 10, none⟩ = some (.int .i64 q) from ⟨_, ((XV_.out.vset 9 (.int .i64 (tt + 1)) (tookV v 0 v.st0 v.st1) (by rw [HT.out]; rfl)).keep (own' := own) (S := fun _ => True) ((Keep.refl _ _).drew) (fun _ _ _ => trivial) (fun _ _ _ => rfl)).c10⟩)
      have KEY := hideE (show Z ((V.setCell ⟨X.xb, 9, none⟩ (.int .i64 (tt + 1))).drew) from
        HZ.out _ v.st0 v.st1 ((XV_.out.vset 9 (.int .i64 (tt + 1)) (tookV v 0 v.st0 v.st1) (by rw [HT.out]; rfl)).keep (S := fun _ => True) ((Keep.refl _ _).drew) (fun _ _ _ => trivial) (fun _ _ _ => rfl)) ((KV.out.setCell _ (fun _ h => h HX.out.og) _).drew))
      obtain ⟨kd3, kd4⟩ := hkd
      go_region
      all_goals
        go_wp2
        go_roundw
        case rel => exact .inr ⟨.inl rfl, K10.out, KEY.out⟩
        case measure => simp [intOf]
    · have HZ2 := hideE hz
      clear hz
      go_wp2
      go_roundw
      case rel => exact .inr ⟨.inr rfl, ⟨q10, h10⟩, HZ2.out⟩
      case measure => simp [intOf]
    · have HZ2 := hideE hz
      clear hz
      go_wp2
      go_ret
      exact ⟨rfl, HZ2.out⟩

end Go.Proofs.Ytjhifhoniimfgaa

