import Derived.Test.YtjhifhoniimfgaaG48
/-
  A game: is an account within its limits?
-/
namespace Go.Proofs.Ytjhifhoniimfgaa
open Go.RowKit

set_option maxRecDepth 100000 in
set_option maxHeartbeats 4000000 in
theorem fits_walk {own : Nat → Nat} {T : Nat} {w : World} {X : XB} {lim : Nat → Nat → Int} {v : XV} {L : Nat → List Snt} (h : XAt own T w X lim v L) (k : Nat) (p : Snt) (hp : (L 0)[k]? = some p) (a : Nat) (ha : p.account = (a : Int)) (ha2 : a = 0 ∨ a = 1) (hsd : p.side = 0 ∨ p.side = 1) (hall : TalL (L 0)) (hnum : NmL (L 0)) (hlen : (L 0).length ≤ 281000000000000)
    (hlb : ∀ j, j < 6 → 0 ≤ lim a j ∧ lim a j ≤ 4611686018427387904) (hd : ∀ (i : Nat) (g : Snt), i < k → (L 0)[i]? = some g → openG g p.account p.frm = true → g.number ≠ p.number)
    (f1 : p.qty ≤ lim a 0) (f2 : (p.side = 0 → qS p ((L 0).take (k + 1)) ≤ lim a 1) ∧ (p.side = 1 → qS p ((L 0).take (k + 1)) ≤ lim a 2)) (f3 : wS p ((L 0).take (k + 1)) ≤ lim a 3) (f4 : nS p (lim a 5) ((L 0).take (k + 1)) ≤ lim a 4) :
    Calls Try.prog 14 #[.pointer (some ⟨X.xb, 0, none⟩), .int .i64 k] w fun e w' => e = .returned (.bool true) ∧ Keep (fun _ => True) w w' := by
  have hkl := (List.getElem?_eq_some_iff.1 hp).1
  have c6 := h.c6
  have c7 := h.c7
  obtain ⟨rb, cap, e1, e2, e3, e4⟩ := h.rowcell 0 (by omega) (by omega)
  rw [e1] at c7
  have eR := e2 k hkl
  have hb := h.sent 0 k p (by omega) hp
  have l1 : (k : Int) < ((L 0).length : Int) := by omega
  have lx := block_lt h.game
  have lp := block_lt hb
  have p3 := sc3 hb
  rw [ha] at p3
  obtain ⟨ln, hln⟩ : ∃ ln, ln = (L 0).length := ⟨_, rfl⟩
  obtain ⟨pk, hpk⟩ : ∃ pk, pk = X.pb 0 k := ⟨_, rfl⟩
  rw [← hln] at c7 l1 hkl hlen
  rw [← hpk] at eR lp p3
  obtain ⟨g0, g1, g2, g3, g4, g5, hl⟩ : ∃ g0 g1 g2 g3 g4 g5 : Int, lim a 0 = g0 ∧ lim a 1 = g1 ∧ lim a 2 = g2 ∧ lim a 3 = g3 ∧ lim a 4 = g4 ∧ lim a 5 = g5 := ⟨_, _, _, _, _, _, rfl, rfl, rfl, rfl, rfl, rfl⟩
  obtain ⟨y0, y1, y2, y3, y4, y5⟩ := hl
  have la := h.ablt
  have acc : ∀ j, j < 6 → w.cell? ⟨X.ab, a * 6 + j, none⟩ = some (.int .i64 (lim a j)) := fun j hj => by
    rcases h.acc with h0 | ⟨b', off, e, h1⟩
    · omega
    · simp only [Option.some.injEq, Addr.mk.injEq, and_true] at e
      obtain ⟨rfl, rfl⟩ := e
      have := h1 a j (by omega) hj
      rw [Nat.zero_add] at this
      exact this
  have a0 := acc 0 (by omega)
  have a1 := acc 1 (by omega)
  have a2 := acc 2 (by omega)
  have a3 := acc 3 (by omega)
  have a4 := acc 4 (by omega)
  have a5 := acc 5 (by omega)
  rw [y0] at a0
  rw [y1] at a1
  rw [y2] at a2
  rw [y3] at a3
  rw [y4] at a4
  rw [y5] at a5
  rw [y0] at f1
  rw [y1, y2] at f2
  rw [y3] at f3
  rw [y4, y5] at f4
  have g5b : 0 ≤ g5 ∧ g5 ≤ 4611686018427387904 := by rw [← y5]; exact hlb 5 (by omega)
  have HX := hideE h
  have HP := hideE hp
  have HA := hideE hall
  have HNM := hideE hnum
  have HL := hideE (show ln = (L 0).length ∧ pk = X.pb 0 k ∧ X.lv 0 = .slice (some ⟨rb, 0, none⟩) (L 0).length cap from ⟨hln, hpk, e1⟩)
  have HD := hideE hd
  have HF := hideE (show p.qty ≤ g0 ∧ ((p.side = 0 → qS p ((L 0).take (k + 1)) ≤ g1) ∧ (p.side = 1 → qS p ((L 0).take (k + 1)) ≤ g2)) ∧ wS p ((L 0).take (k + 1)) ≤ g3 ∧ nS p g5 ((L 0).take (k + 1)) ≤ g4 from ⟨f1, f2, f3, f4⟩)
  have HB := hideE hb
  have HSD := hideE hsd
  clear h hp hall hnum hlb hd f1 f2 f3 f4 e2 hb e1 hln e3 e4 acc y0 y1 y2 y3 y4 y5 hpk hsd
  have sa : (a : Int) < 2 := by omega
  simp only [Nat.add_zero] at a0
  · skip
    go_enter Try.func14, Try.ntmps14
    go_wp2
    go_region
    have bW : (w.alloc (.cells #[.int .i64 g0, .int .i64 g1, .int .i64 g2, .int .i64 g3, .int .i64 g4, .int .i64 g5] 70)).drew.heap[w.heap.size]? = some (.cells #[.int .i64 g0, .int .i64 g1, .int .i64 g2, .int .i64 g3, .int .i64 g4, .int .i64 g5] 70 (0, 0)) := heap_alloc_new w _
    have kW : Keep (fun _ => True) w (w.alloc (.cells #[.int .i64 g0, .int .i64 g1, .int .i64 g2, .int .i64 g3, .int .i64 g4, .int .i64 g5] 70)).drew := ((Keep.refl _ w).alloc _).drew
    generalize (w.alloc (.cells #[.int .i64 g0, .int .i64 g1, .int .i64 g2, .int .i64 g3, .int .i64 g4, .int .i64 g5] 70)).drew = W at *
    have HW := hideE (show XAt own T W X lim v L ∧ Keep (fun _ => True) w W ∧ W.heap[w.heap.size]? = _ from ⟨HX.out.keep kW (fun _ _ _ => trivial) (fun _ _ _ => rfl), kW, bW⟩)
    clear bW kW a0 a1 a2 a3 a4 a5 c6 c7 eR p3 ha ha2 sa
    go_wp2
    go_loopg [7, 8, 9, 10] (k + 1) (fun gn sv wv nv iv wr => ∃ i : Nat, iv = .int .i64 i ∧ i ≤ k + 1 ∧ gn = k + 1 - i ∧ sv = .int .i64 (qS p ((L 0).take i)) ∧ wv = .int .i64 (wS p ((L 0).take i)) ∧ nv = .int .i64 (nS p g5 ((L 0).take i)) ∧ (0 ≤ qS p ((L 0).take i) ∧ qS p ((L 0).take i) ≤ 11 * i) ∧ (0 ≤ wS p ((L 0).take i) ∧ wS p ((L 0).take i) ≤ 99 * i) ∧ (0 ≤ nS p g5 ((L 0).take i) ∧ nS p g5 ((L 0).take i) ≤ i) ∧ Keep (fun _ => True) W wr)
    case atStart => exact ⟨0, rfl, Nat.zero_le _, rfl, rfl, rfl, rfl, by simp [qS], by simp [wS], by simp [nS], Keep.refl _ _⟩
    case round =>
      obtain ⟨i, rfl, hi, hgn, rfl, rfl, rfl, b1, b2, b3, hk⟩ := hrel
      have hx := HW.out.1.keep (own' := own) hk (fun _ _ _ => trivial) (fun _ _ _ => rfl)
      have hlim := hk.get HW.out.2.2 trivial
      have hbp := hx.sent 0 k p (by omega) HP.out
      rw [← HL.out.2.1] at hbp
      by_cases hik : i ≤ k
      · have i1 : (i : Int) ≤ (k : Int) := by omega
        have i2 : (i : Int) < (ln : Int) := by omega
        have i3 : (i : Int) ≤ 281000000000000 := by omega
        have hil : i < (L 0).length := by rw [← HL.out.1]; omega
        have hq0 := List.getElem?_eq_getElem hil
        generalize hqv : (L 0)[i] = q at hq0
        have c7 := hx.c7
        rw [HL.out.2.2, ← HL.out.1] at c7
        obtain ⟨rb', cap', e1, e2, _, _⟩ := hx.rowcell 0 (by omega) (by omega)
        have e1' := HL.out.2.2
        rw [e1] at e1'
        simp only [Value.slice.injEq, Option.some.injEq, Addr.mk.injEq, and_true] at e1'
        obtain ⟨rfl, _⟩ := e1'
        have eR := e2 i hil
        have hbq := hx.sent 0 i q (by omega) hq0
        obtain ⟨pi, hpi⟩ : ∃ pi, pi = X.pb 0 i := ⟨_, rfl⟩
        rw [← hpi] at eR hbq
        have p3 := sc3 hbp
        have p4 := sc4 hbp
        have p5 := sc5 hbp
        have p9 := sc9 hbp
        have q2 := sc2 hbq
        have q3 := sc3 hbq
        have q4 := sc4 hbq
        have q5 := sc5 hbq
        have q6 := sc6 hbq
        have q7 := sc7 hbq
        have q9 := sc9 hbq
        have q14 := sc14 hbq
        have l5 : wr.cell? ⟨w.heap.size, 5, none⟩ = some (.int .i64 g5) := cellAt (i := 5) hlim rfl
        obtain ⟨t1, t2, t3⟩ := HA.out i q hq0
        have tp := (HA.out k p HP.out).2.1
        obtain ⟨n1, n2, n3, n4⟩ := HNM.out i q hq0
        have pq := pq_bd n1 n2 n3 n4
        have op : ∀ n, Calls Try.prog 12 #[.pointer (some ⟨pi, 0, none⟩), .int .i64 p.account, .int .i64 p.frm] (wr.drewN n) fun e w' => e = .returned (.bool (openG q p.account p.frm)) ∧ ∃ m, w' = wr.drewN m := fun n => by
          refine (sopen_walk (w := wr.drewN n) hbq t1 p.account p.frm t2 t3).mono ?_
          rintro e w' ⟨rfl, m, rfl⟩
          exact ⟨rfl, _, World.drewN_drewN _ _ _⟩
        have tk : (L 0).take (i + 1) = (L 0).take i ++ [q] := by rw [List.take_add_one, hq0]; rfl
        have sw := wS_snoc p q ((L 0).take i)
        have sq := qS_snoc p q ((L 0).take i)
        have sn := nS_snoc p q g5 ((L 0).take i)
        rw [← tk] at sw sq sn
        have hdup := HD.out i q
        generalize wS p ((L 0).take i) = w0 at *
        generalize qS p ((L 0).take i) = q0 at *
        generalize nS p g5 ((L 0).take i) = n0 at *
        obtain ⟨pr, hpr⟩ : ∃ pr, pr = q.price * q.qty := ⟨_, rfl⟩
        rw [← hpr] at pq sw
        have HI := hideE (show i ≤ k ∧ gk = k + 1 - i ∧ Keep (fun _ => True) W wr from ⟨hik, hgn, hk⟩)
        have wpr : IntKind.i64.wrap (q.price * q.qty) = pr := by rw [IntKind.wrap_i64, ← hpr]; omega
        have nb : 0 ≤ q.qty ∧ q.qty ≤ 11 := ⟨n3, n4⟩
        have wsub : IntKind.i64.wrap (p.frm - g5) = p.frm - g5 := by rw [IntKind.wrap_i64]; omega
        have HPR := hideE hpr
        by_cases ho : openG q p.account p.frm = true
        · rw [ho] at op
          have he : q.kind = 1 ∧ q.account = p.account ∧ q.code = 0 := by
            unfold openG at ho
            simp only [Bool.and_eq_true, decide_eq_true_eq] at ho
            exact ⟨ho.1.1.1.1.1, ho.1.1.1.1.2, ho.1.1.1.2⟩
          have hE : isE p.account q = true := by unfold isE; simp [he.1, he.2.1, he.2.2]
          have k1 : (q.kind == 1) = true := beq_iff_eq.2 he.1
          have k2 : (q.account == p.account) = true := beq_iff_eq.2 he.2.1
          have k3 : (q.code == 0) = true := beq_iff_eq.2 he.2.2
          rw [if_pos ho] at sw
          by_cases hs : q.side = p.side
          · have k4 : (q.side == p.side) = true := beq_iff_eq.2 hs
            rw [if_pos ⟨ho, hs⟩] at sq
            by_cases hf : p.frm - g5 < q.frm
            · have k5 : decide (p.frm - g5 < q.frm) = true := decide_eq_true hf
              rw [if_pos ⟨hE, hf⟩] at sn
              by_cases hlast : i < k
              · have k6 : (i : Int) < (k : Int) := by omega
                have k7 : (q.number == p.number) = false := beq_eq_false_iff_ne.2 (hdup hlast hq0 ho)
                clear hs hlast hf he hE
                clear hx hlim hbp hbq hi hgn hik hk hqv hq0 e1 e2 hpi tk t1 t2 t3 n1 n2 n3 n4 HX ho hpr hil
                have HS := hideE (show qS p ((L 0).take (i + 1)) = q0 + q.qty ∧ wS p ((L 0).take (i + 1)) = w0 + pr ∧ nS p g5 ((L 0).take (i + 1)) = n0 + 1 ∧ True from ⟨by omega, by omega, by omega, trivial⟩)
                clear sq sw sn hdup
                go_wp2
                go_quiet ((go_at_call 12; exact op _))
                go_wp2
                go_quiet (fail)
                go_wp2
                go_quiet (fail)
                go_wp2
                go_quiet (fail)
                go_wp2
                go_quiet (fail)
                go_wp2
                go_roundg (k + 1 - (i + 1))
                case measure => have := HI.out; omega
                case rel => exact ⟨i + 1, rfl, by have := HI.out; omega, rfl, by rw [HS.out.1], by rw [HS.out.2.1], by rw [HS.out.2.2.1], by rw [HS.out.1]; omega, by rw [HS.out.2.1]; omega, by rw [HS.out.2.2.1]; omega, HI.out.2.2.drewN _⟩
              · have k6 : ¬ (i : Int) < (k : Int) := by omega
                have k7 : decide ((i : Int) < (k : Int)) = false := decide_eq_false k6
                have k8 : ¬ i < k := by omega
                have k9 : decide (i < k) = false := decide_eq_false k8
                have k10 : k ≤ i := by omega
                clear hs hlast hf he hE
                clear hx hlim hbp hbq hi hgn hik hk hqv hq0 e1 e2 hpi tk t1 t2 t3 n1 n2 n3 n4 HX ho hpr hil
                have HS := hideE (show qS p ((L 0).take (i + 1)) = q0 + q.qty ∧ wS p ((L 0).take (i + 1)) = w0 + pr ∧ nS p g5 ((L 0).take (i + 1)) = n0 + 1 ∧ True from ⟨by omega, by omega, by omega, trivial⟩)
                clear sq sw sn hdup
                go_wp2
                go_quiet ((go_at_call 12; exact op _))
                go_wp2
                go_quiet (fail)
                go_wp2
                go_quiet (fail)
                go_wp2
                go_quiet (fail)
                go_wp2
                go_quiet (fail)
                go_wp2
                go_roundg (k + 1 - (i + 1))
                case measure => have := HI.out; omega
                case rel => exact ⟨i + 1, rfl, by have := HI.out; omega, rfl, by rw [HS.out.1], by rw [HS.out.2.1], by rw [HS.out.2.2.1], by rw [HS.out.1]; omega, by rw [HS.out.2.1]; omega, by rw [HS.out.2.2.1]; omega, HI.out.2.2.drewN _⟩
            · have k5 : decide (p.frm - g5 < q.frm) = false := decide_eq_false hf
              rw [if_neg (fun z => hf z.2)] at sn
              by_cases hlast : i < k
              · have k6 : (i : Int) < (k : Int) := by omega
                have k7 : (q.number == p.number) = false := beq_eq_false_iff_ne.2 (hdup hlast hq0 ho)
                clear hs hlast hf he hE
                clear hx hlim hbp hbq hi hgn hik hk hqv hq0 e1 e2 hpi tk t1 t2 t3 n1 n2 n3 n4 HX ho hpr hil
                have HS := hideE (show qS p ((L 0).take (i + 1)) = q0 + q.qty ∧ wS p ((L 0).take (i + 1)) = w0 + pr ∧ nS p g5 ((L 0).take (i + 1)) = n0 ∧ True from ⟨by omega, by omega, by omega, trivial⟩)
                clear sq sw sn hdup
                go_wp2
                go_quiet ((go_at_call 12; exact op _))
                go_wp2
                go_quiet (fail)
                go_wp2
                go_quiet (fail)
                go_wp2
                go_quiet (fail)
                go_wp2
                go_quiet (fail)
                go_wp2
                go_roundg (k + 1 - (i + 1))
                case measure => have := HI.out; omega
                case rel => exact ⟨i + 1, rfl, by have := HI.out; omega, rfl, by rw [HS.out.1], by rw [HS.out.2.1], by rw [HS.out.2.2.1], by rw [HS.out.1]; omega, by rw [HS.out.2.1]; omega, by rw [HS.out.2.2.1]; omega, HI.out.2.2.drewN _⟩
              · have k6 : ¬ (i : Int) < (k : Int) := by omega
                have k7 : decide ((i : Int) < (k : Int)) = false := decide_eq_false k6
                have k8 : ¬ i < k := by omega
                have k9 : decide (i < k) = false := decide_eq_false k8
                have k10 : k ≤ i := by omega
                clear hs hlast hf he hE
                clear hx hlim hbp hbq hi hgn hik hk hqv hq0 e1 e2 hpi tk t1 t2 t3 n1 n2 n3 n4 HX ho hpr hil
                have HS := hideE (show qS p ((L 0).take (i + 1)) = q0 + q.qty ∧ wS p ((L 0).take (i + 1)) = w0 + pr ∧ nS p g5 ((L 0).take (i + 1)) = n0 ∧ True from ⟨by omega, by omega, by omega, trivial⟩)
                clear sq sw sn hdup
                go_wp2
                go_quiet ((go_at_call 12; exact op _))
                go_wp2
                go_quiet (fail)
                go_wp2
                go_quiet (fail)
                go_wp2
                go_quiet (fail)
                go_wp2
                go_quiet (fail)
                go_wp2
                go_roundg (k + 1 - (i + 1))
                case measure => have := HI.out; omega
                case rel => exact ⟨i + 1, rfl, by have := HI.out; omega, rfl, by rw [HS.out.1], by rw [HS.out.2.1], by rw [HS.out.2.2.1], by rw [HS.out.1]; omega, by rw [HS.out.2.1]; omega, by rw [HS.out.2.2.1]; omega, HI.out.2.2.drewN _⟩
          · have k4 : (q.side == p.side) = false := beq_eq_false_iff_ne.2 hs
            rw [if_neg (fun z => hs z.2)] at sq
            by_cases hf : p.frm - g5 < q.frm
            · have k5 : decide (p.frm - g5 < q.frm) = true := decide_eq_true hf
              rw [if_pos ⟨hE, hf⟩] at sn
              by_cases hlast : i < k
              · have k6 : (i : Int) < (k : Int) := by omega
                have k7 : (q.number == p.number) = false := beq_eq_false_iff_ne.2 (hdup hlast hq0 ho)
                clear hs hlast hf he hE
                clear hx hlim hbp hbq hi hgn hik hk hqv hq0 e1 e2 hpi tk t1 t2 t3 n1 n2 n3 n4 HX ho hpr hil
                have HS := hideE (show qS p ((L 0).take (i + 1)) = q0 ∧ wS p ((L 0).take (i + 1)) = w0 + pr ∧ nS p g5 ((L 0).take (i + 1)) = n0 + 1 ∧ True from ⟨by omega, by omega, by omega, trivial⟩)
                clear sq sw sn hdup
                go_wp2
                go_quiet ((go_at_call 12; exact op _))
                go_wp2
                go_quiet (fail)
                go_wp2
                go_quiet (fail)
                go_wp2
                go_quiet (fail)
                go_wp2
                go_quiet (fail)
                go_wp2
                go_roundg (k + 1 - (i + 1))
                case measure => have := HI.out; omega
                case rel => exact ⟨i + 1, rfl, by have := HI.out; omega, rfl, by rw [HS.out.1], by rw [HS.out.2.1], by rw [HS.out.2.2.1], by rw [HS.out.1]; omega, by rw [HS.out.2.1]; omega, by rw [HS.out.2.2.1]; omega, HI.out.2.2.drewN _⟩
              · have k6 : ¬ (i : Int) < (k : Int) := by omega
                have k7 : decide ((i : Int) < (k : Int)) = false := decide_eq_false k6
                have k8 : ¬ i < k := by omega
                have k9 : decide (i < k) = false := decide_eq_false k8
                have k10 : k ≤ i := by omega
                clear hs hlast hf he hE
                clear hx hlim hbp hbq hi hgn hik hk hqv hq0 e1 e2 hpi tk t1 t2 t3 n1 n2 n3 n4 HX ho hpr hil
                have HS := hideE (show qS p ((L 0).take (i + 1)) = q0 ∧ wS p ((L 0).take (i + 1)) = w0 + pr ∧ nS p g5 ((L 0).take (i + 1)) = n0 + 1 ∧ True from ⟨by omega, by omega, by omega, trivial⟩)
                clear sq sw sn hdup
                go_wp2
                go_quiet ((go_at_call 12; exact op _))
                go_wp2
                go_quiet (fail)
                go_wp2
                go_quiet (fail)
                go_wp2
                go_quiet (fail)
                go_wp2
                go_quiet (fail)
                go_wp2
                go_roundg (k + 1 - (i + 1))
                case measure => have := HI.out; omega
                case rel => exact ⟨i + 1, rfl, by have := HI.out; omega, rfl, by rw [HS.out.1], by rw [HS.out.2.1], by rw [HS.out.2.2.1], by rw [HS.out.1]; omega, by rw [HS.out.2.1]; omega, by rw [HS.out.2.2.1]; omega, HI.out.2.2.drewN _⟩
            · have k5 : decide (p.frm - g5 < q.frm) = false := decide_eq_false hf
              rw [if_neg (fun z => hf z.2)] at sn
              by_cases hlast : i < k
              · have k6 : (i : Int) < (k : Int) := by omega
                have k7 : (q.number == p.number) = false := beq_eq_false_iff_ne.2 (hdup hlast hq0 ho)
                clear hs hlast hf he hE
                clear hx hlim hbp hbq hi hgn hik hk hqv hq0 e1 e2 hpi tk t1 t2 t3 n1 n2 n3 n4 HX ho hpr hil
                have HS := hideE (show qS p ((L 0).take (i + 1)) = q0 ∧ wS p ((L 0).take (i + 1)) = w0 + pr ∧ nS p g5 ((L 0).take (i + 1)) = n0 ∧ True from ⟨by omega, by omega, by omega, trivial⟩)
                clear sq sw sn hdup
                go_wp2
                go_quiet ((go_at_call 12; exact op _))
                go_wp2
                go_quiet (fail)
                go_wp2
                go_quiet (fail)
                go_wp2
                go_quiet (fail)
                go_wp2
                go_quiet (fail)
                go_wp2
                go_roundg (k + 1 - (i + 1))
                case measure => have := HI.out; omega
                case rel => exact ⟨i + 1, rfl, by have := HI.out; omega, rfl, by rw [HS.out.1], by rw [HS.out.2.1], by rw [HS.out.2.2.1], by rw [HS.out.1]; omega, by rw [HS.out.2.1]; omega, by rw [HS.out.2.2.1]; omega, HI.out.2.2.drewN _⟩
              · have k6 : ¬ (i : Int) < (k : Int) := by omega
                have k7 : decide ((i : Int) < (k : Int)) = false := decide_eq_false k6
                have k8 : ¬ i < k := by omega
                have k9 : decide (i < k) = false := decide_eq_false k8
                have k10 : k ≤ i := by omega
                clear hs hlast hf he hE
                clear hx hlim hbp hbq hi hgn hik hk hqv hq0 e1 e2 hpi tk t1 t2 t3 n1 n2 n3 n4 HX ho hpr hil
                have HS := hideE (show qS p ((L 0).take (i + 1)) = q0 ∧ wS p ((L 0).take (i + 1)) = w0 + pr ∧ nS p g5 ((L 0).take (i + 1)) = n0 ∧ True from ⟨by omega, by omega, by omega, trivial⟩)
                clear sq sw sn hdup
                go_wp2
                go_quiet ((go_at_call 12; exact op _))
                go_wp2
                go_quiet (fail)
                go_wp2
                go_quiet (fail)
                go_wp2
                go_quiet (fail)
                go_wp2
                go_quiet (fail)
                go_wp2
                go_roundg (k + 1 - (i + 1))
                case measure => have := HI.out; omega
                case rel => exact ⟨i + 1, rfl, by have := HI.out; omega, rfl, by rw [HS.out.1], by rw [HS.out.2.1], by rw [HS.out.2.2.1], by rw [HS.out.1]; omega, by rw [HS.out.2.1]; omega, by rw [HS.out.2.2.1]; omega, HI.out.2.2.drewN _⟩
        · have ho' : openG q p.account p.frm = false := by simpa using ho
          rw [ho'] at op
          rw [if_neg ho] at sw
          rw [if_neg (fun z => ho z.1)] at sq
          by_cases hE : isE p.account q = true
          · have he : q.kind = 1 ∧ q.account = p.account ∧ q.code = 0 := by
              unfold isE at hE
              simp only [Bool.and_eq_true, decide_eq_true_eq] at hE
              exact ⟨hE.1.1, hE.1.2, hE.2⟩
            have k1 : (q.kind == 1) = true := beq_iff_eq.2 he.1
            have k2 : (q.account == p.account) = true := beq_iff_eq.2 he.2.1
            have k3 : (q.code == 0) = true := beq_iff_eq.2 he.2.2
            by_cases hf : p.frm - g5 < q.frm
            · have k5 : decide (p.frm - g5 < q.frm) = true := decide_eq_true hf
              rw [if_pos ⟨hE, hf⟩] at sn
              clear he hE hf ho'
              clear hx hlim hbp hbq hi hgn hik hk hqv hq0 e1 e2 hpi tk t1 t2 t3 n1 n2 n3 n4 HX ho hpr hil
              have HS := hideE (show qS p ((L 0).take (i + 1)) = q0 ∧ wS p ((L 0).take (i + 1)) = w0 ∧ nS p g5 ((L 0).take (i + 1)) = n0 + 1 ∧ True from ⟨by omega, by omega, by omega, trivial⟩)
              clear sq sw sn hdup
              go_wp2
              go_quiet ((go_at_call 12; exact op _))
              go_wp2
              go_quiet (fail)
              go_wp2
              go_roundg (k + 1 - (i + 1))
              case measure => have := HI.out; omega
              case rel => exact ⟨i + 1, rfl, by have := HI.out; omega, rfl, by rw [HS.out.1], by rw [HS.out.2.1], by rw [HS.out.2.2.1], by rw [HS.out.1]; omega, by rw [HS.out.2.1]; omega, by rw [HS.out.2.2.1]; omega, HI.out.2.2.drewN _⟩
            · have k5 : decide (p.frm - g5 < q.frm) = false := decide_eq_false hf
              rw [if_neg (fun z => hf z.2)] at sn
              clear he hE hf ho'
              clear hx hlim hbp hbq hi hgn hik hk hqv hq0 e1 e2 hpi tk t1 t2 t3 n1 n2 n3 n4 HX ho hpr hil
              have HS := hideE (show qS p ((L 0).take (i + 1)) = q0 ∧ wS p ((L 0).take (i + 1)) = w0 ∧ nS p g5 ((L 0).take (i + 1)) = n0 ∧ True from ⟨by omega, by omega, by omega, trivial⟩)
              clear sq sw sn hdup
              go_wp2
              go_quiet ((go_at_call 12; exact op _))
              go_wp2
              go_quiet (fail)
              go_wp2
              go_roundg (k + 1 - (i + 1))
              case measure => have := HI.out; omega
              case rel => exact ⟨i + 1, rfl, by have := HI.out; omega, rfl, by rw [HS.out.1], by rw [HS.out.2.1], by rw [HS.out.2.2.1], by rw [HS.out.1]; omega, by rw [HS.out.2.1]; omega, by rw [HS.out.2.2.1]; omega, HI.out.2.2.drewN _⟩
          · rw [if_neg (fun z => hE z.1)] at sn
            by_cases h1 : q.kind = 1
            · have k1 : (q.kind == 1) = true := beq_iff_eq.2 h1
              by_cases h2 : q.account = p.account
              · have k2 : (q.account == p.account) = true := beq_iff_eq.2 h2
                have h3 : ¬ q.code = 0 := fun e => hE (by unfold isE; simp [h1, h2, e])
                have k3 : (q.code == 0) = false := beq_eq_false_iff_ne.2 h3
                clear h1 h2 h3 hE ho'
                clear hx hlim hbp hbq hi hgn hik hk hqv hq0 e1 e2 hpi tk t1 t2 t3 n1 n2 n3 n4 HX ho hpr hil
                have HS := hideE (show qS p ((L 0).take (i + 1)) = q0 ∧ wS p ((L 0).take (i + 1)) = w0 ∧ nS p g5 ((L 0).take (i + 1)) = n0 ∧ True from ⟨by omega, by omega, by omega, trivial⟩)
                clear sq sw sn hdup
                go_wp2
                go_quiet ((go_at_call 12; exact op _))
                go_wp2
                go_quiet (fail)
                go_wp2
                go_roundg (k + 1 - (i + 1))
                case measure => have := HI.out; omega
                case rel => exact ⟨i + 1, rfl, by have := HI.out; omega, rfl, by rw [HS.out.1], by rw [HS.out.2.1], by rw [HS.out.2.2.1], by rw [HS.out.1]; omega, by rw [HS.out.2.1]; omega, by rw [HS.out.2.2.1]; omega, HI.out.2.2.drewN _⟩
              · have k2 : (q.account == p.account) = false := beq_eq_false_iff_ne.2 h2
                clear h1 h2 hE ho'
                clear hx hlim hbp hbq hi hgn hik hk hqv hq0 e1 e2 hpi tk t1 t2 t3 n1 n2 n3 n4 HX ho hpr hil
                have HS := hideE (show qS p ((L 0).take (i + 1)) = q0 ∧ wS p ((L 0).take (i + 1)) = w0 ∧ nS p g5 ((L 0).take (i + 1)) = n0 ∧ True from ⟨by omega, by omega, by omega, trivial⟩)
                clear sq sw sn hdup
                go_wp2
                go_quiet ((go_at_call 12; exact op _))
                go_wp2
                go_quiet (fail)
                go_wp2
                go_roundg (k + 1 - (i + 1))
                case measure => have := HI.out; omega
                case rel => exact ⟨i + 1, rfl, by have := HI.out; omega, rfl, by rw [HS.out.1], by rw [HS.out.2.1], by rw [HS.out.2.2.1], by rw [HS.out.1]; omega, by rw [HS.out.2.1]; omega, by rw [HS.out.2.2.1]; omega, HI.out.2.2.drewN _⟩
            · have k1 : (q.kind == 1) = false := beq_eq_false_iff_ne.2 h1
              clear h1 hE ho'
              clear hx hlim hbp hbq hi hgn hik hk hqv hq0 e1 e2 hpi tk t1 t2 t3 n1 n2 n3 n4 HX ho hpr hil
              have HS := hideE (show qS p ((L 0).take (i + 1)) = q0 ∧ wS p ((L 0).take (i + 1)) = w0 ∧ nS p g5 ((L 0).take (i + 1)) = n0 ∧ True from ⟨by omega, by omega, by omega, trivial⟩)
              clear sq sw sn hdup
              go_wp2
              go_quiet ((go_at_call 12; exact op _))
              go_wp2
              go_quiet (fail)
              go_wp2
              go_roundg (k + 1 - (i + 1))
              case measure => have := HI.out; omega
              case rel => exact ⟨i + 1, rfl, by have := HI.out; omega, rfl, by rw [HS.out.1], by rw [HS.out.2.1], by rw [HS.out.2.2.1], by rw [HS.out.1]; omega, by rw [HS.out.2.1]; omega, by rw [HS.out.2.2.1]; omega, HI.out.2.2.drewN _⟩
      · have hi1 : k + 1 = i := by omega
        obtain ⟨f1, ⟨f2, f2'⟩, f3, f4⟩ := HF.out
        rw [hi1] at f2 f2' f3 f4
        have i1 : ¬ (i : Int) ≤ (k : Int) := by omega
        have p4 := sc4 hbp
        have m1 : wr.cell? ⟨w.heap.size, 1, none⟩ = some (.int .i64 g1) := cellAt (i := 1) hlim rfl
        have m2 : wr.cell? ⟨w.heap.size, 2, none⟩ = some (.int .i64 g2) := cellAt (i := 2) hlim rfl
        have lw := block_lt hlim
        have lp' := block_lt hbp
        have HI := hideE (show Keep (fun _ => True) W wr from hk)
        have HQ := hideE (show wr.heap[w.heap.size]? = _ ∧ wr.heap[pk]? = _ from ⟨hlim, hbp⟩)
        generalize wS p ((L 0).take i) = w0 at *
        generalize qS p ((L 0).take i) = q0 at *
        generalize nS p g5 ((L 0).take i) = n0 at *
        clear hx hlim hbp hi hgn hik hk hi1 HX HF
        have HF := hideE (show decide (p.qty ≤ g0) = true ∧ decide (w0 ≤ g3) = true ∧ decide (n0 ≤ g4) = true from ⟨decide_eq_true f1, decide_eq_true f3, decide_eq_true f4⟩)
        clear f1 f3 f4
        rcases HSD.out with hs | hs
        · have k8 := decide_eq_true (f2 hs)
          rw [hs] at p4
          clear f2 f2' hs
          go_wp2
          go_region
          have kV : Keep (fun _ => True) wr (wr.alloc (.cells #[.int .i64 g1, .int .i64 g2] 3)).drew := ((Keep.refl _ wr).alloc _).drew
          generalize (wr.alloc (.cells #[.int .i64 g1, .int .i64 g2] 3)).drew = V at *
          have hlim := kV.get HQ.out.1 trivial
          have p7 := sc7 (kV.get HQ.out.2 trivial)
          have m0 : V.cell? ⟨w.heap.size, 0, none⟩ = some (.int .i64 g0) := cellAt (i := 0) hlim rfl
          have m3 : V.cell? ⟨w.heap.size, 3, none⟩ = some (.int .i64 g3) := cellAt (i := 3) hlim rfl
          have m4 : V.cell? ⟨w.heap.size, 4, none⟩ = some (.int .i64 g4) := cellAt (i := 4) hlim rfl
          obtain ⟨f1, f3, f4⟩ := HF.out
          have HV := hideE kV
          clear kV hlim p4 m1 m2 HQ HF
          go_wp2
          go_quiet (fail)
          go_wp2
          go_ret
          exact ⟨rfl, ((HW.out.2.1.trans HI.out).trans HV.out).drewN _⟩
        · have k8 := decide_eq_true (f2' hs)
          rw [hs] at p4
          clear f2 f2' hs
          go_wp2
          go_region
          have kV : Keep (fun _ => True) wr (wr.alloc (.cells #[.int .i64 g1, .int .i64 g2] 3)).drew := ((Keep.refl _ wr).alloc _).drew
          generalize (wr.alloc (.cells #[.int .i64 g1, .int .i64 g2] 3)).drew = V at *
          have hlim := kV.get HQ.out.1 trivial
          have p7 := sc7 (kV.get HQ.out.2 trivial)
          have m0 : V.cell? ⟨w.heap.size, 0, none⟩ = some (.int .i64 g0) := cellAt (i := 0) hlim rfl
          have m3 : V.cell? ⟨w.heap.size, 3, none⟩ = some (.int .i64 g3) := cellAt (i := 3) hlim rfl
          have m4 : V.cell? ⟨w.heap.size, 4, none⟩ = some (.int .i64 g4) := cellAt (i := 4) hlim rfl
          obtain ⟨f1, f3, f4⟩ := HF.out
          have HV := hideE kV
          clear kV hlim p4 m1 m2 HQ HF
          go_wp2
          go_quiet (fail)
          go_wp2
          go_ret
          exact ⟨rfl, ((HW.out.2.1.trans HI.out).trans HV.out).drewN _⟩

end Go.Proofs.Ytjhifhoniimfgaa

