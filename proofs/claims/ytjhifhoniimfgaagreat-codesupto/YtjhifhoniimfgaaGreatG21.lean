import Derived.Test.YtjhifhoniimfgaaGreatG14
import Derived.Test.YtjhifhoniimfgaaGreatG15
import Derived.Deep.CutRange
import Derived.Test.YtjhifhoniimfgaaGreatG20
/-
  What becomes of a New, by the document: the walk.
-/
namespace Go.Proofs.YtjhifhoniimfgaaGreat
open Go.RowKit

theorem hide' {p : Prop} (h : p) : Hid p := h

def entO (num sd p q frm till : Int) : Obj := .cells #[.int .i64 num, .int .i64 sd, .int .i64 p, .int .i64 q, .int .i64 frm, .int .i64 till, .bool false] 160
def limR (lim : Nat → Int) : Obj := .cells #[.int .i64 (lim 0), .int .i64 (lim 1), .int .i64 (lim 2), .int .i64 (lim 3), .int .i64 (lim 4), .int .i64 (lim 5)] 62

/-- What the walk of news reads in the world behind open: the boxes of the order and of the limits; the gate's cells. -/
structure NewsAt (W : World) (ob rb k : Nat) (num sd p q frm till : Int) (lim : Nat → Int) (time : Int) (shut st : Bool) (bv : Value) : Prop where
  ent : W.heap[ob]? = some (entO num sd p q frm till)
  lim : W.heap[ob + 1]? = some (limR lim)
  time : W.cell? ⟨rb, 6, none⟩ = some (.int .i64 time)
  shut : W.cell? ⟨rb, 29, none⟩ = some (.bool shut)
  st : W.cell? ⟨rb, 22 + k, none⟩ = some (.bool st)
  book : W.cell? ⟨rb, 18 + k, none⟩ = some bv

/-- The order's box. -/
def EntS (b : Nat) (num sd p q frm till : Int) (W : World) : Prop :=
  W.cell? ⟨b, 0, none⟩ = some (.int .i64 num) ∧ W.cell? ⟨b, 1, none⟩ = some (.int .i64 sd) ∧ W.cell? ⟨b, 2, none⟩ = some (.int .i64 p) ∧ W.cell? ⟨b, 3, none⟩ = some (.int .i64 q) ∧ W.cell? ⟨b, 4, none⟩ = some (.int .i64 frm) ∧ W.cell? ⟨b, 5, none⟩ = some (.int .i64 till) ∧ W.cell? ⟨b, 6, none⟩ = some (.bool false)

theorem entS_of {b : Nat} {num sd p q frm till : Int} {W : World} (h : W.heap[b]? = some (entO num sd p q frm till)) : EntS b num sd p q frm till W :=
  ⟨cellAt (i := 0) h rfl, cellAt (i := 1) h rfl, cellAt (i := 2) h rfl, cellAt (i := 3) h rfl, cellAt (i := 4) h rfl, cellAt (i := 5) h rfl, cellAt (i := 6) h rfl⟩

/-- The entries of a list, by its row: cell by cell. -/
theorem ents_cells {w : World} {base : Nat} {v : Value} {es : List Ent} (h : w.ownsRow base 160 7 v es.length (entFlat es)) :
    ∃ a cap, v = .slice a es.length cap ∧ ∀ (j : Nat) (x : Ent), es[j]? = some x → ∃ g, a = some ⟨g, 0, none⟩ ∧ ∀ (i : Nat) (u : Value), x.cells[i]? = some u → w.cell? ⟨g, j * 7 + i, none⟩ = some u := by
  obtain ⟨hl, h⟩ := h
  rcases h with ⟨rfl, h0⟩ | ⟨g, cap, cur, rfl, _, h1, _, _, _, h2⟩
  · refine ⟨none, 0, by rw [h0], fun j x hx => ?_⟩
    rw [List.length_eq_zero_iff.1 h0] at hx
    simp at hx
  · refine ⟨_, cap, rfl, fun j x hx => ⟨g, rfl, fun i u hu => ?_⟩⟩
    have hj := (List.getElem?_eq_some_iff.1 hx).1
    have hi : i < 7 := by have := (List.getElem?_eq_some_iff.1 hu).1; simpa [Ent.cells] using this
    refine cellAt h1 ?_
    have key : ∀ (l : List Ent) (j : Nat) (x : Ent), l[j]? = some x → ∀ (i : Nat) (u : Value), x.cells[i]? = some u → (entFlat l)[j * 7 + i]? = some u := by
      intro l
      induction l with
      | nil => intro j x hx; simp at hx
      | cons y r ih =>
        intro j x hx i u hu
        have hi : i < 7 := by have := (List.getElem?_eq_some_iff.1 hu).1; simpa [Ent.cells] using this
        have h7 : y.cells.length = 7 := rfl
        cases j with
        | zero =>
          simp at hx
          subst hx
          simp only [entFlat]
          rw [List.getElem?_append_left (by omega)]
          simpa using hu
        | succ j =>
          simp only [List.getElem?_cons_succ] at hx
          simp only [entFlat]
          rw [List.getElem?_append_right (by omega), h7, show (j + 1) * 7 + i - 7 = j * 7 + i by omega]
          exact ih j x hx i u hu
    have h3 := key es j x hx i u hu
    rw [← h2] at h3
    have hlt := (List.getElem?_eq_some_iff.1 h3).1
    rw [List.getElem?_take_of_lt (by simp at hlt; omega)] at h3
    simpa using h3

theorem entsAt_of {w : World} {base : Nat} {v : Value} {es : List Ent} (h : w.ownsRow base 160 7 v es.length (entFlat es)) (d : Ent) : ∃ a cap, v = .slice a es.length cap ∧ EntsAt w a es.length (fun i => es[i]?.getD d) := by
  obtain ⟨a, cap, hv, hc⟩ := ents_cells h
  refine ⟨a, cap, hv, ?_⟩
  rcases Nat.eq_zero_or_pos es.length with h0 | h0
  · exact .inl h0
  · right
    obtain ⟨g, hg, hz⟩ := hc 0 es[0] (List.getElem?_eq_getElem h0)
    refine ⟨g, 0, hg, World.block_lt_of_cell? w _ (hz 0 _ rfl), fun i hi j u hu => ?_⟩
    obtain ⟨g2, hg2, hz2⟩ := hc i es[i] (List.getElem?_eq_getElem hi)
    rw [hg] at hg2
    cases hg2
    replace hu : (es[i]?.getD d).cells[j]? = some u := hu
    rw [List.getElem?_eq_getElem hi] at hu
    rw [show (0 : Nat) + i * 7 + j = i * 7 + j by omega]
    exact hz2 j u hu

theorem openOf_list (es : List Ent) (d : Ent) (time : Int) : openOf (fun i => es[i]?.getD d) time es.length = es.filter (isOpen time) := by
  unfold openOf
  congr 1
  apply List.ext_getElem?
  intro i
  by_cases hi : i < es.length
  · simp [hi]
  · simp [hi]

set_option maxRecDepth 100000 in
set_option maxHeartbeats 4000000 in
theorem news_walk (rb lb k na lc : Nat) (num sd frm till time : Int) (p q : Nat) (lim : Nat → Int) (shut st : Bool) (bv : Value) (es os : List Ent) (w : World) (hk : k < 4) (hka : k < na) (hsd : sd = 0 ∨ sd = 1) (hq : 1 ≤ q) (hq2 : q ≤ 9223372036854775807)
    (ht : 0 ≤ time) (ht2 : time ≤ 1099511627777) (hw5 : 1 ≤ lim 5) (hw52 : lim 5 ≤ 1000) (hlen : es.length ≤ 1099511627776) (hlos : os.length ≤ 1099511627776)
    (hos : ∀ x, x ∈ os → 0 ≤ x.price * x.qty ∧ x.price * x.qty ≤ 9223372036854775807 ∧ 0 ≤ x.qty ∧ x.qty ≤ 9223372036854775807)
    (c5 : w.cell? ⟨rb, 5, none⟩ = some (.slice (some ⟨lb, 0, none⟩) na lc))
    (cl : w.cell? ⟨lb, k * 6, none⟩ = some (.int .i64 (lim 0)) ∧ w.cell? ⟨lb, k * 6 + 1, none⟩ = some (.int .i64 (lim 1)) ∧ w.cell? ⟨lb, k * 6 + 2, none⟩ = some (.int .i64 (lim 2)) ∧ w.cell? ⟨lb, k * 6 + 3, none⟩ = some (.int .i64 (lim 3)) ∧ w.cell? ⟨lb, k * 6 + 4, none⟩ = some (.int .i64 (lim 4)) ∧ w.cell? ⟨lb, k * 6 + 5, none⟩ = some (.int .i64 (lim 5)))
    (Z : World → Prop) (Q Q1 : World → Prop)
    (ho : Calls Tryz.prog 76 #[.pointer (some ⟨rb, 0, none⟩), .int .i64 k] ((w.alloc (entO num sd p q frm till)).alloc (limR lim)) fun e w1 => ∃ v, e = .returned v ∧ w1.ownsRow 0 160 7 v os.length (entFlat os) ∧ Z w1)
    (hZ : ∀ w1, Z w1 → NewsAt w1 w.heap.size rb k num sd p q frm till lim time shut st bv ∧ w1.ownsRow 0 160 7 bv es.length (entFlat es))
    (hQ : ∀ w1 n, Z w1 → Q (w1.drewN n))
    (happ : ∀ w1 n, Z w1 → ∃ g3 cap3 w3, (∀ ty, (Builtin.append_ #[111, 111] ty #[bv, .slice (some ⟨w1.heap.size, 0, none⟩) 1 1]).run Tryz.prog ((w1.drewN n).alloc (entO num sd p q frm till)) = .ok (.slice (some ⟨g3, 0, none⟩) (es.length + 1) cap3) w3) ∧
      w3.heap[w.heap.size]? = some (entO num sd p q frm till) ∧ w3.cell? ⟨rb, 18 + k, none⟩ = some bv ∧ w3.frozen? ⟨rb, 18 + k, none⟩ = false ∧ Q1 (w3.setCell ⟨rb, 18 + k, none⟩ (.slice (some ⟨g3, 0, none⟩) (es.length + 1) cap3))) :
    Calls Tryz.prog 69 #[.pointer (some ⟨rb, 0, none⟩), .int .i64 k, .agg #[.int .i64 num, .int .i64 sd, .int .i64 p, .int .i64 q, .int .i64 frm, .int .i64 till, .bool false]] w fun e w' =>
      ∃ c, e = .returned (.int .i64 c) ∧ c = refCode lim shut st (os.foldl (nStep ⟨num, sd, p, q, frm, till, false⟩) (ns0 p q)).twice (os.foldl (nStep ⟨num, sd, p, q, frm, till, false⟩) (ns0 p q)).over sd q (os.foldl (nStep ⟨num, sd, p, q, frm, till, false⟩) (ns0 p q)).side (os.foldl (nStep ⟨num, sd, p, q, frm, till, false⟩) (ns0 p q)).worth (cntGt (time - lim 5) es) ∧ ((c ≠ 0 ∧ Q w') ∨ (c = 0 ∧ Q1 w')) := by
  unfold entO limR at ho
  obtain ⟨l0, l1, l2, l3, l4, l5⟩ := cl
  have HZ : Hid (∀ w1, Z w1 → NewsAt w1 w.heap.size rb k num sd p q frm till lim time shut st bv ∧ w1.ownsRow 0 160 7 bv es.length (entFlat es)) := hZ
  have HQ : Hid (∀ w1 n, Z w1 → Q (w1.drewN n)) := hQ
  have HAPP := hide' happ
  have HOS : Hid (∀ x, x ∈ os → 0 ≤ x.price * x.qty ∧ x.price * x.qty ≤ 9223372036854775807 ∧ 0 ≤ x.qty ∧ x.qty ≤ 9223372036854775807) := hos
  have hlr := World.block_lt_of_cell? w _ c5
  have hll := World.block_lt_of_cell? w _ l0
  clear hZ hQ happ hos
  have hk4 : (k : Int) < 4 := by omega
  have hkn : (k : Int) < (na : Int) := by omega
  have hqz : ((q : Int) == 0) = false := by simp; omega
  have HSD : Hid (sd = 0 ∨ sd = 1) := hsd
  clear hsd
  go_enter Tryz.func69, Tryz.ntmps69
  go_wp2_with fail
  refine ho.mono ?_
  rintro e w1 ⟨v, rfl, hown, hz⟩
  obtain ⟨hN, hB⟩ := HZ.out w1 hz
  obtain ⟨va, vc, rfl, hcells⟩ := ents_cells hown
  obtain ⟨ba, bc, hbv, hbook⟩ := ents_cells hB
  have HCE := hide' hcells
  have HBK := hide' hbook
  have e0 := cellAt (i := 0) hN.ent rfl
  have e1 := cellAt (i := 1) hN.ent rfl
  have e2 := cellAt (i := 2) hN.ent rfl
  have e3 := cellAt (i := 3) hN.ent rfl
  have e4 := cellAt (i := 4) hN.ent rfl
  have e5 := cellAt (i := 5) hN.ent rfl
  have e6 := cellAt (i := 6) hN.ent rfl
  have m0 := cellAt (i := 0) hN.lim rfl
  have m1 := cellAt (i := 1) hN.lim rfl
  have m2 := cellAt (i := 2) hN.lim rfl
  have m3 := cellAt (i := 3) hN.lim rfl
  have m4 := cellAt (i := 4) hN.lim rfl
  have m5 := cellAt (i := 5) hN.lim rfl
  have g6 := hN.time
  have g29 := hN.shut
  have g22 := hN.st
  have g18 := hN.book
  rw [hbv] at g18
  have HBV := hide' hbv
  have HNN := hide' hN.ent
  have hrb1 : rb < w1.heap.size := World.block_lt_of_cell? w1 _ g18
  clear hcells hbook hown hbv hN hB l0 l1 l2 l3 l4 l5 c5
  go_wp2_with fail
  go_quiet (fail)
  go_upto_if 38 with fail
  have HNS : Hid (NsOk (ns0 p q)) := ns0_ok p q hq hq2
  have HOV : Hid ((ns0 p q).over = decide (9223372036854775807 / (q : Int) < (p : Int)) ∧ (ns0 p q).side = q ∧ (ns0 p q).twice = false) := ⟨rfl, rfl, rfl⟩
  have HDV := hide' (div_over p q hq)
  go_cut [9, 10] from 31 to 45 (fun ov wo wx => ov = .bool (ns0 p q).over ∧ wo = .int .i64 (ns0 p q).worth ∧ ∃ n, wx = w1.drewN n)
  case first =>
    cases hov : decide (9223372036854775807 / (q : Int) < (p : Int))
    · have hme : ((p * q : Nat) : Int) = (p : Int) * (q : Int) := Int.natCast_mul p q
      have hm : p * q ≤ 9223372036854775807 := by
        have h1 := HDV.out
        rw [hov] at h1
        cases ht : timesOk p q
        · rw [ht] at h1; cases h1
        · exact of_decide_eq_true ht
      have hwr : IntKind.i64.wrap ((p : Int) * (q : Int)) = (p : Int) * (q : Int) := by
        rw [← hme, IntKind.wrap_i64]; omega
      have HW : Hid ((ns0 p q).worth = (p : Int) * q) := by show _ = _; unfold ns0; rw [hov]; rfl
      clear hme hm
      have HV : Hid ((ns0 p q).over = false) := by show _ = _; rw [HOV.out.1]; exact hov
      go_wp2_with fail
      go_meet
      case rel => exact ⟨by rw [HV.out], by rw [HW.out], _, rfl⟩
    · have HW : Hid ((ns0 p q).worth = 0) := by show _ = _; unfold ns0; rw [hov]; rfl
      have HV : Hid ((ns0 p q).over = true) := by show _ = _; rw [HOV.out.1]; exact hov
      go_wp2_with fail
      go_meet
      case rel => exact ⟨by rw [HV.out], by rw [HW.out], _, rfl⟩
  case rest =>
    obtain ⟨rfl, rfl, n0, rfl⟩ := hcut
    go_wp2_with fail
    go_loopw [9, 10, 11, 12, 13] (fun ov wo so tw i wr => ∃ (j : Nat) (s : NS), j ≤ os.length ∧ s = (os.take j).foldl (nStep ⟨num, sd, p, q, frm, till, false⟩) (ns0 p q) ∧ ov = .bool s.over ∧ wo = .int .i64 s.worth ∧ so = .int .i64 s.side ∧ tw = .bool s.twice ∧ i = .int .i64 j ∧ ∃ n, wr = w1.drewN n) (fun _ _ _ _ i _ => os.length - (intOf i).toNat)
    case atStart => exact ⟨0, ns0 p q, Nat.zero_le _, rfl, rfl, rfl, by rw [HOV.out.2.1], by rw [HOV.out.2.2], rfl, _, rfl⟩
    case round =>
      obtain ⟨j, s, hj, hs, rfl, rfl, rfl, rfl, rfl, n1, rfl⟩ := hrel
      have HOK : Hid (NsOk s) := by
        show NsOk s
        rw [hs]
        exact fold_ok _ _ _ HNS.out (fun y hy => by have := HOS.out y (List.mem_of_mem_take hy); omega)
      obtain ⟨b1, b2, b3, b4⟩ := HOK.out
      have HS := hide' hs
      clear hs HOK
      by_cases hlt : j < os.length
      · have hlt' : (j : Int) < (os.length : Int) := by omega
        obtain ⟨x, hx⟩ : ∃ x, os[j]? = some x := ⟨_, List.getElem?_eq_getElem hlt⟩
        have hxo := HOS.out x (List.mem_of_getElem? hx)
        obtain ⟨g, rfl, hg⟩ := HCE.out j x hx
        have d0 := hg 0 _ rfl
        have d1 := hg 1 _ rfl
        have d2 := hg 2 _ rfl
        have d3 := hg 3 _ rfl
        have HN : Hid ((os.take (j + 1)).foldl (nStep ⟨num, sd, p, q, frm, till, false⟩) (ns0 p q) = nStep ⟨num, sd, p, q, frm, till, false⟩ s x) := by
          show _ = _
          rw [take_fold _ _ _ _ _ hx, HS.out]
        obtain ⟨tw, wo, ov, so⟩ := s
        simp only at b1 b2 b3 b4
        obtain ⟨y1, y2, y3, y4⟩ := hxo
        have hpw : IntKind.i64.wrap (x.price * x.qty) = x.price * x.qty := by rw [IntKind.wrap_i64]; omega
        simp only [Nat.add_zero] at d0
        clear hg hx
        go_upto_region 12 with fail
        go_cut [12] from 46 to 106 (fun t12 wx => t12 = .bool (tw || x.order == num) ∧ ∃ n, wx = w1.drewN n)
        case first =>
          cases tw
          · go_quiet (fail)
            go_wp2_with fail
            go_meet
            case rel => exact ⟨rfl, _, World.drewN_drewN _ _ _⟩
          · go_quiet (fail)
            go_wp2_with fail
            go_meet
            case rel => exact ⟨rfl, _, World.drewN_drewN _ _ _⟩
        case rest =>
          obtain ⟨rfl, n2, rfl⟩ := hcut
          obtain ⟨tw2, HTW⟩ : ∃ tw2, Hid (tw2 = (tw || x.order == num)) := ⟨_, hide' rfl⟩
          rw [← HTW.out]
          have y5 := tooV_bd wo (x.price * x.qty) b1 y1
          obtain ⟨wv, HWV⟩ : ∃ wv, Hid (wv = tooV wo (x.price * x.qty)) := ⟨_, hide' rfl⟩
          obtain ⟨wb, HWB⟩ : ∃ wb, Hid (wb = tooB wo (x.price * x.qty)) := ⟨_, hide' rfl⟩
          have hcall : ∀ W, Calls Tryz.prog 77 #[.int .i64 wo, .int .i64 (x.price * x.qty)] W fun e w' => e = .returned (.tuple #[.int .i64 wv, .bool wb]) ∧ W = w' := fun W => by
            rw [HWV.out, HWB.out]
            exact too_any _ _ _ b1 b2 y1 y2
          rw [← HWV.out] at y5
          go_wp2_with fail
          go_quiet ((go_at_call 77; exact (hcall _).mono (fun e w' h => ⟨h.1, _, h.2.symm⟩)))
          rw [World.drewN_drewN]
          go_upto_region 15 with fail
          go_cut [9] from 46 to 106 (fun o9 wx => o9 = .bool (ov || wb) ∧ ∃ n, wx = w1.drewN n)
          case first =>
            cases ov
            all_goals
              go_wp2_with fail
              go_meet
              case rel => exact ⟨rfl, _, rfl⟩
          case rest =>
            obtain ⟨rfl, n3, rfl⟩ := hcut
            obtain ⟨ov2, HOV2⟩ : ∃ ov2, Hid (ov2 = (ov || wb)) := ⟨_, hide' rfl⟩
            rw [← HOV2.out]
            cases he : (x.side == sd)
            · have HF : Hid (nStep ⟨num, sd, p, q, frm, till, false⟩ ⟨tw, wo, ov, so⟩ x = ⟨tw2, wv, ov2, so⟩) := by
                show _ = _
                rw [HTW.out, HWV.out, HOV2.out, HWB.out]
                simp [nStep, he]
              go_wp2_with fail
              go_quiet (fail)
              go_wp2_with fail
              go_roundw
              case rel => exact ⟨j + 1, ⟨tw2, wv, ov2, so⟩, by omega, by rw [HN.out, HF.out], rfl, rfl, rfl, rfl, by go_num, by first | exact ⟨_, rfl⟩ | exact ⟨_, World.drewN_drewN _ _ _⟩⟩
              case measure => simp [intOf]; omega
            · obtain ⟨sv, HSV⟩ : ∃ sv, Hid (sv = tooV so x.qty) := ⟨_, hide' rfl⟩
              obtain ⟨sb, HSB⟩ : ∃ sb, Hid (sb = tooB so x.qty) := ⟨_, hide' rfl⟩
              have hcall2 : ∀ W, Calls Tryz.prog 77 #[.int .i64 so, .int .i64 x.qty] W fun e w' => e = .returned (.tuple #[.int .i64 sv, .bool sb]) ∧ W = w' := fun W => by
                rw [HSV.out, HSB.out]
                exact too_any _ _ _ b3 b4 y3 y4
              have HF : Hid (nStep ⟨num, sd, p, q, frm, till, false⟩ ⟨tw, wo, ov, so⟩ x = ⟨tw2, wv, ov2 || sb, sv⟩) := by
                show _ = _
                rw [HTW.out, HWV.out, HOV2.out, HWB.out, HSV.out, HSB.out]
                simp [nStep, he]
              go_wp2_with fail
              go_quiet (fail)
              rw [World.drewN_drewN]
              go_wp2_with fail
              refine (hcall2 _).mono ?_
              rintro e w' ⟨rfl, rfl⟩
              cases ov2
              all_goals
                go_wp2_with fail
                go_roundw
                case rel => exact ⟨j + 1, ⟨tw2, wv, _ || sb, sv⟩, by omega, by rw [HN.out, HF.out], rfl, rfl, rfl, rfl, by go_num, _, rfl⟩
                case measure => simp [intOf]; omega
      · obtain rfl : j = os.length := by omega
        have hge : ¬ (os.length : Int) < (os.length : Int) := by omega
        have HS2 : Hid (os.foldl (nStep ⟨num, sd, p, q, frm, till, false⟩) (ns0 p q) = s) := by
          show _ = _
          rw [HS.out, List.take_length]
        obtain ⟨tw, wo, ov, so⟩ := s
        simp only at b1 b2 b3 b4
        clear HS HCE
        go_wp2_with fail
        go_loopw [18, 19] (fun c i wr => ∃ j2 : Nat, j2 ≤ es.length ∧ i = .int .i64 j2 ∧ c = .int .i64 (cntGt (time - lim 5) (es.take j2)) ∧ ∃ n, wr = w1.drewN n) (fun _ i _ => es.length - (intOf i).toNat)
        case atStart => exact ⟨0, Nat.zero_le _, rfl, rfl, _, rfl⟩
        case round =>
          obtain ⟨j2, hj2, rfl, rfl, n5, rfl⟩ := hrel
          have hcb := cnt_bd (time - lim 5) (es.take j2)
          have hcl : (es.take j2).length ≤ j2 := List.length_take_le _ _
          by_cases hlt2 : j2 < es.length
          · have hlt2' : (j2 : Int) < (es.length : Int) := by omega
            obtain ⟨x, hx⟩ : ∃ x, es[j2]? = some x := ⟨_, List.getElem?_eq_getElem hlt2⟩
            obtain ⟨g, rfl, hg⟩ := HBK.out j2 x hx
            have d4 := hg 4 _ rfl
            have hsub : IntKind.i64.wrap (time - lim 5) = time - lim 5 := by rw [IntKind.wrap_i64]; omega
            have HN : Hid (cntGt (time - lim 5) (es.take (j2 + 1)) = cntGt (time - lim 5) (es.take j2) + (if time - lim 5 < x.frm then 1 else 0)) := take_cnt _ _ _ _ hx
            clear hg hx
            generalize cntGt (time - lim 5) (es.take j2) = cc at *
            by_cases htf : time - lim 5 < x.frm
            · have htd : decide (time - lim 5 < x.frm) = true := decide_eq_true htf
              go_wp2_with fail
              go_quiet (fail)
              go_wp2_with fail
              go_roundw
              case rel => exact ⟨j2 + 1, by omega, by go_num, by rw [HN.out, if_pos (by omega)], by first | exact ⟨_, rfl⟩ | exact ⟨_, World.drewN_drewN _ _ _⟩⟩
              case measure => simp [intOf]; omega
            · have htd : decide (time - lim 5 < x.frm) = false := decide_eq_false htf
              go_wp2_with fail
              go_quiet (fail)
              go_wp2_with fail
              go_roundw
              case rel => exact ⟨j2 + 1, by omega, by go_num, by rw [HN.out, if_neg (by omega), Int.add_zero], by first | exact ⟨_, rfl⟩ | exact ⟨_, World.drewN_drewN _ _ _⟩⟩
              case measure => simp [intOf]; omega
          · obtain rfl : j2 = es.length := by omega
            have hge2 : ¬ (es.length : Int) < (es.length : Int) := by omega
            rw [List.take_length] at hcb ⊢
            obtain ⟨cc, HCC⟩ : ∃ cc, Hid (cc = cntGt (time - lim 5) es) := ⟨_, hide' rfl⟩
            rw [← HCC.out] at hcb ⊢
            rcases HSD.out with rfl | rfl
            case inl =>
              cases shut
              case true =>
                have HC : Hid (refCode lim true st tw ov 0 q so wo cc = 9) := by
                  show _ = _
                  unfold refCode
                  rw [if_pos rfl]
                go_wp2_with fail
                go_ret
                exact ⟨9, rfl, by rw [HS2.out, ← HCC.out, HC.out], .inl ⟨by decide, HQ.out _ _ hz⟩⟩
              case false =>
                cases st
                case true =>
                  have HC : Hid (refCode lim false true tw ov 0 q so wo cc = 10) := by
                    show _ = _
                    unfold refCode
                    rw [if_neg (by decide), if_pos rfl]
                  go_wp2_with fail
                  go_ret
                  exact ⟨10, rfl, by rw [HS2.out, ← HCC.out, HC.out], .inl ⟨by decide, HQ.out _ _ hz⟩⟩
                case false =>
                  cases tw
                  case true =>
                    have HC : Hid (refCode lim false false true ov 0 q so wo cc = 11) := by
                      show _ = _
                      unfold refCode
                      rw [if_neg (by decide), if_neg (by decide), if_pos rfl]
                    go_wp2_with fail
                    go_ret
                    exact ⟨11, rfl, by rw [HS2.out, ← HCC.out, HC.out], .inl ⟨by decide, HQ.out _ _ hz⟩⟩
                  case false =>
                    cases ov
                    case true =>
                      have HC : Hid (refCode lim false false false true 0 q so wo cc = 12) := by
                        show _ = _
                        unfold refCode
                        rw [if_neg (by decide), if_neg (by decide), if_neg (by decide), if_pos rfl]
                      go_wp2_with fail
                      go_ret
                      exact ⟨12, rfl, by rw [HS2.out, ← HCC.out, HC.out], .inl ⟨by decide, HQ.out _ _ hz⟩⟩
                    case false =>
                      by_cases hL : lim 0 < (q : Int)
                      · have HC : Hid (refCode lim false false false false 0 q so wo cc = 13) := by
                          show _ = _
                          unfold refCode
                          rw [if_neg (by decide), if_neg (by decide), if_neg (by decide), if_neg (by decide), if_pos (by omega)]
                        go_wp2_with fail
                        go_ret
                        exact ⟨13, rfl, by rw [HS2.out, ← HCC.out, HC.out], .inl ⟨by decide, HQ.out _ _ hz⟩⟩
                      by_cases hG : lim 1 < so
                      · have HC : Hid (refCode lim false false false false 0 q so wo cc = 14) := by
                          show _ = _
                          unfold refCode
                          rw [if_neg (by decide), if_neg (by decide), if_neg (by decide), if_neg (by decide), if_neg (by omega), if_pos (by omega)]
                        go_wp2_with fail
                        go_ret
                        exact ⟨14, rfl, by rw [HS2.out, ← HCC.out, HC.out], .inl ⟨by decide, HQ.out _ _ hz⟩⟩
                      by_cases hW : lim 3 < wo
                      · have HC : Hid (refCode lim false false false false 0 q so wo cc = 16) := by
                          show _ = _
                          unfold refCode
                          rw [if_neg (by decide), if_neg (by decide), if_neg (by decide), if_neg (by decide), if_neg (by omega), if_neg (by omega), if_neg (by omega), if_pos (by omega)]
                        go_wp2_with fail
                        go_ret
                        exact ⟨16, rfl, by rw [HS2.out, ← HCC.out, HC.out], .inl ⟨by decide, HQ.out _ _ hz⟩⟩
                      by_cases hR : lim 4 ≤ cc
                      · have HC : Hid (refCode lim false false false false 0 q so wo cc = 17) := by
                          show _ = _
                          unfold refCode
                          rw [if_neg (by decide), if_neg (by decide), if_neg (by decide), if_neg (by decide), if_neg (by omega), if_neg (by omega), if_neg (by omega), if_neg (by omega), if_pos (by omega)]
                        go_wp2_with fail
                        go_ret
                        exact ⟨17, rfl, by rw [HS2.out, ← HCC.out, HC.out], .inl ⟨by decide, HQ.out _ _ hz⟩⟩
                      have HC : Hid (refCode lim false false false false 0 q so wo cc = 0) := by
                        show _ = _
                        unfold refCode
                        rw [if_neg (by decide), if_neg (by decide), if_neg (by decide), if_neg (by decide), if_neg (by omega), if_neg (by omega), if_neg (by omega), if_neg (by omega), if_neg (by omega)]
                      obtain ⟨g3, cap3, w3, hrun, x0, x1, x2, hq3⟩ := HAPP.out w1 (n5 + 1) hz
                      rw [HBV.out] at hrun x1
                      have HQ3 := hide' hq3
                      have HE : Hid (∀ n, EntS w.heap.size num 0 p q frm till (w1.drewN n)) := fun n => entS_of (show (w1.drewN n).heap[w.heap.size]? = _ from HNN.out)
                      have hneb : w.heap.size ≠ rb := by omega
                      have E3 : Hid (EntS w.heap.size num 0 p q frm till w3) := entS_of x0
                      have E4 : Hid (EntS w.heap.size num 0 p q frm till (w3.setCell ⟨rb, 18 + k, none⟩ (.slice (some ⟨g3, 0, none⟩) (es.length + 1) cap3))) := entS_of ((Below.heap_setCell _ _ _ _ hneb).trans x0)
                      have EA : Hid (EntS w.heap.size num 0 p q frm till ((w1.drewN (n5 + 1)).alloc (entO num 0 p q frm till))) := entS_of ((Below.heap_alloc _ _ _ (block_lt HNN.out)).trans HNN.out)
                      have hgA : ((w1.drewN (n5 + 1)).alloc (entO num 0 p q frm till)).cell? ⟨rb, 18 + k, none⟩ = some (.slice ba es.length bc) := by
                        rw [World.cell?_of_block (w := w1) (show _ = w1.heap[rb]? from Below.heap_alloc (w1.drewN (n5 + 1)) _ _ hrb1)]; exact g18
                      unfold entO at hrun EA hgA
                      clear x0 hq3
                      go_wp2_with fail
                      refine wp_region_noPanic ?_
                      refine wp_region_held_drew (S := EntS w.heap.size num 0 p q frm till) (by kernel_rfl) (HE.out (n5 + 1)) (fun _ => ?_)
                      refine wpAnyH_take (i := 0) (v := ?_) rfl (by kernel_rfl) (by kernel_rfl) (by kernel_rfl) (fun _ _ _ h => h) (Or.inl ⟨by rfl, ?_⟩) (HE.out (n5 + 1)) ?_
                      rotate_left
                      (intro w hSw; obtain ⟨s0, s1, s2, s3, s4, s5, s6⟩ := hSw; go_simp)
                      try with_reducible rfl
                      simp only [Act.put]
                      refine wpAnyH_take (i := 1) (v := ?_) rfl (by kernel_rfl) (by kernel_rfl) (by kernel_rfl) (fun _ _ _ h => h) (Or.inl ⟨by rfl, ?_⟩) (HE.out (n5 + 1)) ?_
                      rotate_left
                      (intro w hSw; obtain ⟨s0, s1, s2, s3, s4, s5, s6⟩ := hSw; go_simp)
                      try with_reducible rfl
                      simp only [Act.put]
                      refine wpAnyH_take (i := 2) (v := ?_) rfl (by kernel_rfl) (by kernel_rfl) (by kernel_rfl) (fun _ _ _ h => h) (Or.inl ⟨by rfl, ?_⟩) (HE.out (n5 + 1)) ?_
                      rotate_left
                      (intro w hSw; obtain ⟨s0, s1, s2, s3, s4, s5, s6⟩ := hSw; go_simp)
                      try with_reducible rfl
                      simp only [Act.put]
                      refine wpAnyH_take (i := 3) (v := ?_) rfl (by kernel_rfl) (by kernel_rfl) (by kernel_rfl) (fun _ _ _ h => h) (Or.inl ⟨by rfl, ?_⟩) (HE.out (n5 + 1)) ?_
                      rotate_left
                      (intro w hSw; obtain ⟨s0, s1, s2, s3, s4, s5, s6⟩ := hSw; go_simp)
                      try with_reducible rfl
                      simp only [Act.put]
                      refine wpAnyH_take (i := 4) (v := ?_) rfl (by kernel_rfl) (by kernel_rfl) (by kernel_rfl) (fun _ _ _ h => h) (Or.inl ⟨by rfl, ?_⟩) (HE.out (n5 + 1)) ?_
                      rotate_left
                      (intro w hSw; obtain ⟨s0, s1, s2, s3, s4, s5, s6⟩ := hSw; go_simp)
                      try with_reducible rfl
                      simp only [Act.put]
                      refine wpAnyH_take (i := 5) (v := ?_) rfl (by kernel_rfl) (by kernel_rfl) (by kernel_rfl) (fun _ _ _ h => h) (Or.inl ⟨by rfl, ?_⟩) (HE.out (n5 + 1)) ?_
                      rotate_left
                      (intro w hSw; obtain ⟨s0, s1, s2, s3, s4, s5, s6⟩ := hSw; go_simp)
                      try with_reducible rfl
                      simp only [Act.put]
                      refine wpAnyH_take (i := 6) (v := ?_) rfl (by kernel_rfl) (by kernel_rfl) (by kernel_rfl) (fun _ _ _ h => h) (Or.inl ⟨by rfl, ?_⟩) (HE.out (n5 + 1)) ?_
                      rotate_left
                      (intro w hSw; obtain ⟨s0, s1, s2, s3, s4, s5, s6⟩ := hSw; go_simp)
                      try with_reducible rfl
                      simp only [Act.put]
                      refine wpAnyH_take (i := 8) (v := ?_) rfl (by kernel_rfl) (by kernel_rfl) (by kernel_rfl) (fun _ _ _ h => h) (Or.inl ⟨by rfl, ?_⟩) (HE.out (n5 + 1)) ?_
                      rotate_left
                      (intro w hSw; obtain ⟨s0, s1, s2, s3, s4, s5, s6⟩ := hSw; go_simp)
                      try with_reducible rfl
                      simp only [Act.put]
                      refine wpAnyH_take (i := 11) (v := ?_) rfl (by kernel_rfl) (by kernel_rfl) (by kernel_rfl) (fun _ _ _ h => h) (Or.inl ⟨by rfl, ?_⟩) (HE.out (n5 + 1)) ?_
                      rotate_left
                      (intro w hSw; obtain ⟨s0, s1, s2, s3, s4, s5, s6⟩ := hSw; go_simp)
                      try with_reducible rfl
                      simp only [Act.put]
                      refine wpAnyH_take (i := 12) (v := ?_) rfl (by kernel_rfl) (by kernel_rfl) (by kernel_rfl) (fun _ _ _ h => h) (Or.inl ⟨by rfl, ?_⟩) (HE.out (n5 + 1)) ?_
                      rotate_left
                      (intro w hSw; obtain ⟨s0, s1, s2, s3, s4, s5, s6⟩ := hSw; go_simp)
                      try with_reducible rfl
                      simp only [Act.put]
                      refine wpAnyH_ready (rs := [7, 9]) (by kernel_rfl) (by simp) ?_
                      refine AllReadyH.cons rfl (fun K hK => ?_) (AllReadyH.cons rfl (fun K hK => ?_) AllReadyH.nil)
                      · go_simp
                        refine hK.out _ _ (HE.out (n5 + 1)) (fun _ => ?_)
                        clear hK K
                        refine wpAnyH_ready (rs := [9]) (by kernel_rfl) (by simp) ?_
                        refine AllReadyH.cons rfl (fun K hK => ?_) AllReadyH.nil
                        go_simp
                        refine hK.out _ _ EA.out (fun _ => ?_)
                        clear hK K
                        refine wpAnyH_ready (rs := [10]) (by kernel_rfl) (by simp) ?_
                        refine AllReadyH.cons rfl (fun K hK => ?_) AllReadyH.nil
                        refine append_op rfl (.tmp 197) (.tmp 199) 111 rfl (.slice ba es.length bc) (.slice (some ⟨w1.heap.size, 0, none⟩) 1 1) _ _ (by simp [Act.eval]) (by simp [Act.eval]) hrun ?_
                        simp only [Act.put]
                        refine hK.out _ _ E3.out (fun _ => ?_)
                        clear hK K
                        refine wpAnyH_take (i := 13) (v := ?_) rfl (by kernel_rfl) (by kernel_rfl) (by kernel_rfl) (fun _ _ _ h => h) (Or.inl ⟨by rfl, ?_⟩) E3.out ?_
                        rotate_left
                        (intro w hSw; obtain ⟨s0, s1, s2, s3, s4, s5, s6⟩ := hSw; go_simp)
                        try with_reducible rfl
                        simp only [Act.put]
                        refine wpAnyH_ready (rs := [14]) (by kernel_rfl) (by simp) ?_
                        refine AllReadyH.cons rfl (fun K hK => ?_) AllReadyH.nil
                        go_simp
                        refine hK.out _ _ E4.out (fun _ => ?_)
                        clear hK K
                        refine wpAnyH_done (by kernel_rfl) (NoPanic.normal ?_) _
                        go_wp2_with fail
                        go_ret
                        exact ⟨0, rfl, by rw [HS2.out, ← HCC.out, HC.out], .inr ⟨rfl, HQ3.out⟩⟩
                      · go_simp
                        refine hK.out _ _ EA.out (fun _ => ?_)
                        clear hK K
                        refine wpAnyH_ready (rs := [7]) (by kernel_rfl) (by simp) ?_
                        refine AllReadyH.cons rfl (fun K hK => ?_) AllReadyH.nil
                        go_simp
                        refine hK.out _ _ EA.out (fun _ => ?_)
                        clear hK K
                        refine wpAnyH_ready (rs := [10]) (by kernel_rfl) (by simp) ?_
                        refine AllReadyH.cons rfl (fun K hK => ?_) AllReadyH.nil
                        refine append_op rfl (.tmp 197) (.tmp 199) 111 rfl (.slice ba es.length bc) (.slice (some ⟨w1.heap.size, 0, none⟩) 1 1) _ _ (by simp [Act.eval]) (by simp [Act.eval]) hrun ?_
                        simp only [Act.put]
                        refine hK.out _ _ E3.out (fun _ => ?_)
                        clear hK K
                        refine wpAnyH_take (i := 13) (v := ?_) rfl (by kernel_rfl) (by kernel_rfl) (by kernel_rfl) (fun _ _ _ h => h) (Or.inl ⟨by rfl, ?_⟩) E3.out ?_
                        rotate_left
                        (intro w hSw; obtain ⟨s0, s1, s2, s3, s4, s5, s6⟩ := hSw; go_simp)
                        try with_reducible rfl
                        simp only [Act.put]
                        refine wpAnyH_ready (rs := [14]) (by kernel_rfl) (by simp) ?_
                        refine AllReadyH.cons rfl (fun K hK => ?_) AllReadyH.nil
                        go_simp
                        refine hK.out _ _ E4.out (fun _ => ?_)
                        clear hK K
                        refine wpAnyH_done (by kernel_rfl) (NoPanic.normal ?_) _
                        go_wp2_with fail
                        go_ret
                        exact ⟨0, rfl, by rw [HS2.out, ← HCC.out, HC.out], .inr ⟨rfl, HQ3.out⟩⟩
            case inr =>
              cases shut
              case true =>
                have HC : Hid (refCode lim true st tw ov 1 q so wo cc = 9) := by
                  show _ = _
                  unfold refCode
                  rw [if_pos rfl]
                go_wp2_with fail
                go_ret
                exact ⟨9, rfl, by rw [HS2.out, ← HCC.out, HC.out], .inl ⟨by decide, HQ.out _ _ hz⟩⟩
              case false =>
                cases st
                case true =>
                  have HC : Hid (refCode lim false true tw ov 1 q so wo cc = 10) := by
                    show _ = _
                    unfold refCode
                    rw [if_neg (by decide), if_pos rfl]
                  go_wp2_with fail
                  go_ret
                  exact ⟨10, rfl, by rw [HS2.out, ← HCC.out, HC.out], .inl ⟨by decide, HQ.out _ _ hz⟩⟩
                case false =>
                  cases tw
                  case true =>
                    have HC : Hid (refCode lim false false true ov 1 q so wo cc = 11) := by
                      show _ = _
                      unfold refCode
                      rw [if_neg (by decide), if_neg (by decide), if_pos rfl]
                    go_wp2_with fail
                    go_ret
                    exact ⟨11, rfl, by rw [HS2.out, ← HCC.out, HC.out], .inl ⟨by decide, HQ.out _ _ hz⟩⟩
                  case false =>
                    cases ov
                    case true =>
                      have HC : Hid (refCode lim false false false true 1 q so wo cc = 12) := by
                        show _ = _
                        unfold refCode
                        rw [if_neg (by decide), if_neg (by decide), if_neg (by decide), if_pos rfl]
                      go_wp2_with fail
                      go_ret
                      exact ⟨12, rfl, by rw [HS2.out, ← HCC.out, HC.out], .inl ⟨by decide, HQ.out _ _ hz⟩⟩
                    case false =>
                      by_cases hL : lim 0 < (q : Int)
                      · have HC : Hid (refCode lim false false false false 1 q so wo cc = 13) := by
                          show _ = _
                          unfold refCode
                          rw [if_neg (by decide), if_neg (by decide), if_neg (by decide), if_neg (by decide), if_pos (by omega)]
                        go_wp2_with fail
                        go_ret
                        exact ⟨13, rfl, by rw [HS2.out, ← HCC.out, HC.out], .inl ⟨by decide, HQ.out _ _ hz⟩⟩
                      by_cases hG : lim 2 < so
                      · have HC : Hid (refCode lim false false false false 1 q so wo cc = 15) := by
                          show _ = _
                          unfold refCode
                          rw [if_neg (by decide), if_neg (by decide), if_neg (by decide), if_neg (by decide), if_neg (by omega), if_neg (by omega), if_pos (by omega)]
                        go_wp2_with fail
                        go_ret
                        exact ⟨15, rfl, by rw [HS2.out, ← HCC.out, HC.out], .inl ⟨by decide, HQ.out _ _ hz⟩⟩
                      by_cases hW : lim 3 < wo
                      · have HC : Hid (refCode lim false false false false 1 q so wo cc = 16) := by
                          show _ = _
                          unfold refCode
                          rw [if_neg (by decide), if_neg (by decide), if_neg (by decide), if_neg (by decide), if_neg (by omega), if_neg (by omega), if_neg (by omega), if_pos (by omega)]
                        go_wp2_with fail
                        go_ret
                        exact ⟨16, rfl, by rw [HS2.out, ← HCC.out, HC.out], .inl ⟨by decide, HQ.out _ _ hz⟩⟩
                      by_cases hR : lim 4 ≤ cc
                      · have HC : Hid (refCode lim false false false false 1 q so wo cc = 17) := by
                          show _ = _
                          unfold refCode
                          rw [if_neg (by decide), if_neg (by decide), if_neg (by decide), if_neg (by decide), if_neg (by omega), if_neg (by omega), if_neg (by omega), if_neg (by omega), if_pos (by omega)]
                        go_wp2_with fail
                        go_ret
                        exact ⟨17, rfl, by rw [HS2.out, ← HCC.out, HC.out], .inl ⟨by decide, HQ.out _ _ hz⟩⟩
                      have HC : Hid (refCode lim false false false false 1 q so wo cc = 0) := by
                        show _ = _
                        unfold refCode
                        rw [if_neg (by decide), if_neg (by decide), if_neg (by decide), if_neg (by decide), if_neg (by omega), if_neg (by omega), if_neg (by omega), if_neg (by omega), if_neg (by omega)]
                      obtain ⟨g3, cap3, w3, hrun, x0, x1, x2, hq3⟩ := HAPP.out w1 (n5 + 1) hz
                      rw [HBV.out] at hrun x1
                      have HQ3 := hide' hq3
                      have HE : Hid (∀ n, EntS w.heap.size num 1 p q frm till (w1.drewN n)) := fun n => entS_of (show (w1.drewN n).heap[w.heap.size]? = _ from HNN.out)
                      have hneb : w.heap.size ≠ rb := by omega
                      have E3 : Hid (EntS w.heap.size num 1 p q frm till w3) := entS_of x0
                      have E4 : Hid (EntS w.heap.size num 1 p q frm till (w3.setCell ⟨rb, 18 + k, none⟩ (.slice (some ⟨g3, 0, none⟩) (es.length + 1) cap3))) := entS_of ((Below.heap_setCell _ _ _ _ hneb).trans x0)
                      have EA : Hid (EntS w.heap.size num 1 p q frm till ((w1.drewN (n5 + 1)).alloc (entO num 1 p q frm till))) := entS_of ((Below.heap_alloc _ _ _ (block_lt HNN.out)).trans HNN.out)
                      have hgA : ((w1.drewN (n5 + 1)).alloc (entO num 1 p q frm till)).cell? ⟨rb, 18 + k, none⟩ = some (.slice ba es.length bc) := by
                        rw [World.cell?_of_block (w := w1) (show _ = w1.heap[rb]? from Below.heap_alloc (w1.drewN (n5 + 1)) _ _ hrb1)]; exact g18
                      unfold entO at hrun EA hgA
                      clear x0 hq3
                      go_wp2_with fail
                      refine wp_region_noPanic ?_
                      refine wp_region_held_drew (S := EntS w.heap.size num 1 p q frm till) (by kernel_rfl) (HE.out (n5 + 1)) (fun _ => ?_)
                      refine wpAnyH_take (i := 0) (v := ?_) rfl (by kernel_rfl) (by kernel_rfl) (by kernel_rfl) (fun _ _ _ h => h) (Or.inl ⟨by rfl, ?_⟩) (HE.out (n5 + 1)) ?_
                      rotate_left
                      (intro w hSw; obtain ⟨s0, s1, s2, s3, s4, s5, s6⟩ := hSw; go_simp)
                      try with_reducible rfl
                      simp only [Act.put]
                      refine wpAnyH_take (i := 1) (v := ?_) rfl (by kernel_rfl) (by kernel_rfl) (by kernel_rfl) (fun _ _ _ h => h) (Or.inl ⟨by rfl, ?_⟩) (HE.out (n5 + 1)) ?_
                      rotate_left
                      (intro w hSw; obtain ⟨s0, s1, s2, s3, s4, s5, s6⟩ := hSw; go_simp)
                      try with_reducible rfl
                      simp only [Act.put]
                      refine wpAnyH_take (i := 2) (v := ?_) rfl (by kernel_rfl) (by kernel_rfl) (by kernel_rfl) (fun _ _ _ h => h) (Or.inl ⟨by rfl, ?_⟩) (HE.out (n5 + 1)) ?_
                      rotate_left
                      (intro w hSw; obtain ⟨s0, s1, s2, s3, s4, s5, s6⟩ := hSw; go_simp)
                      try with_reducible rfl
                      simp only [Act.put]
                      refine wpAnyH_take (i := 3) (v := ?_) rfl (by kernel_rfl) (by kernel_rfl) (by kernel_rfl) (fun _ _ _ h => h) (Or.inl ⟨by rfl, ?_⟩) (HE.out (n5 + 1)) ?_
                      rotate_left
                      (intro w hSw; obtain ⟨s0, s1, s2, s3, s4, s5, s6⟩ := hSw; go_simp)
                      try with_reducible rfl
                      simp only [Act.put]
                      refine wpAnyH_take (i := 4) (v := ?_) rfl (by kernel_rfl) (by kernel_rfl) (by kernel_rfl) (fun _ _ _ h => h) (Or.inl ⟨by rfl, ?_⟩) (HE.out (n5 + 1)) ?_
                      rotate_left
                      (intro w hSw; obtain ⟨s0, s1, s2, s3, s4, s5, s6⟩ := hSw; go_simp)
                      try with_reducible rfl
                      simp only [Act.put]
                      refine wpAnyH_take (i := 5) (v := ?_) rfl (by kernel_rfl) (by kernel_rfl) (by kernel_rfl) (fun _ _ _ h => h) (Or.inl ⟨by rfl, ?_⟩) (HE.out (n5 + 1)) ?_
                      rotate_left
                      (intro w hSw; obtain ⟨s0, s1, s2, s3, s4, s5, s6⟩ := hSw; go_simp)
                      try with_reducible rfl
                      simp only [Act.put]
                      refine wpAnyH_take (i := 6) (v := ?_) rfl (by kernel_rfl) (by kernel_rfl) (by kernel_rfl) (fun _ _ _ h => h) (Or.inl ⟨by rfl, ?_⟩) (HE.out (n5 + 1)) ?_
                      rotate_left
                      (intro w hSw; obtain ⟨s0, s1, s2, s3, s4, s5, s6⟩ := hSw; go_simp)
                      try with_reducible rfl
                      simp only [Act.put]
                      refine wpAnyH_take (i := 8) (v := ?_) rfl (by kernel_rfl) (by kernel_rfl) (by kernel_rfl) (fun _ _ _ h => h) (Or.inl ⟨by rfl, ?_⟩) (HE.out (n5 + 1)) ?_
                      rotate_left
                      (intro w hSw; obtain ⟨s0, s1, s2, s3, s4, s5, s6⟩ := hSw; go_simp)
                      try with_reducible rfl
                      simp only [Act.put]
                      refine wpAnyH_take (i := 11) (v := ?_) rfl (by kernel_rfl) (by kernel_rfl) (by kernel_rfl) (fun _ _ _ h => h) (Or.inl ⟨by rfl, ?_⟩) (HE.out (n5 + 1)) ?_
                      rotate_left
                      (intro w hSw; obtain ⟨s0, s1, s2, s3, s4, s5, s6⟩ := hSw; go_simp)
                      try with_reducible rfl
                      simp only [Act.put]
                      refine wpAnyH_take (i := 12) (v := ?_) rfl (by kernel_rfl) (by kernel_rfl) (by kernel_rfl) (fun _ _ _ h => h) (Or.inl ⟨by rfl, ?_⟩) (HE.out (n5 + 1)) ?_
                      rotate_left
                      (intro w hSw; obtain ⟨s0, s1, s2, s3, s4, s5, s6⟩ := hSw; go_simp)
                      try with_reducible rfl
                      simp only [Act.put]
                      refine wpAnyH_ready (rs := [7, 9]) (by kernel_rfl) (by simp) ?_
                      refine AllReadyH.cons rfl (fun K hK => ?_) (AllReadyH.cons rfl (fun K hK => ?_) AllReadyH.nil)
                      · go_simp
                        refine hK.out _ _ (HE.out (n5 + 1)) (fun _ => ?_)
                        clear hK K
                        refine wpAnyH_ready (rs := [9]) (by kernel_rfl) (by simp) ?_
                        refine AllReadyH.cons rfl (fun K hK => ?_) AllReadyH.nil
                        go_simp
                        refine hK.out _ _ EA.out (fun _ => ?_)
                        clear hK K
                        refine wpAnyH_ready (rs := [10]) (by kernel_rfl) (by simp) ?_
                        refine AllReadyH.cons rfl (fun K hK => ?_) AllReadyH.nil
                        refine append_op rfl (.tmp 197) (.tmp 199) 111 rfl (.slice ba es.length bc) (.slice (some ⟨w1.heap.size, 0, none⟩) 1 1) _ _ (by simp [Act.eval]) (by simp [Act.eval]) hrun ?_
                        simp only [Act.put]
                        refine hK.out _ _ E3.out (fun _ => ?_)
                        clear hK K
                        refine wpAnyH_take (i := 13) (v := ?_) rfl (by kernel_rfl) (by kernel_rfl) (by kernel_rfl) (fun _ _ _ h => h) (Or.inl ⟨by rfl, ?_⟩) E3.out ?_
                        rotate_left
                        (intro w hSw; obtain ⟨s0, s1, s2, s3, s4, s5, s6⟩ := hSw; go_simp)
                        try with_reducible rfl
                        simp only [Act.put]
                        refine wpAnyH_ready (rs := [14]) (by kernel_rfl) (by simp) ?_
                        refine AllReadyH.cons rfl (fun K hK => ?_) AllReadyH.nil
                        go_simp
                        refine hK.out _ _ E4.out (fun _ => ?_)
                        clear hK K
                        refine wpAnyH_done (by kernel_rfl) (NoPanic.normal ?_) _
                        go_wp2_with fail
                        go_ret
                        exact ⟨0, rfl, by rw [HS2.out, ← HCC.out, HC.out], .inr ⟨rfl, HQ3.out⟩⟩
                      · go_simp
                        refine hK.out _ _ EA.out (fun _ => ?_)
                        clear hK K
                        refine wpAnyH_ready (rs := [7]) (by kernel_rfl) (by simp) ?_
                        refine AllReadyH.cons rfl (fun K hK => ?_) AllReadyH.nil
                        go_simp
                        refine hK.out _ _ EA.out (fun _ => ?_)
                        clear hK K
                        refine wpAnyH_ready (rs := [10]) (by kernel_rfl) (by simp) ?_
                        refine AllReadyH.cons rfl (fun K hK => ?_) AllReadyH.nil
                        refine append_op rfl (.tmp 197) (.tmp 199) 111 rfl (.slice ba es.length bc) (.slice (some ⟨w1.heap.size, 0, none⟩) 1 1) _ _ (by simp [Act.eval]) (by simp [Act.eval]) hrun ?_
                        simp only [Act.put]
                        refine hK.out _ _ E3.out (fun _ => ?_)
                        clear hK K
                        refine wpAnyH_take (i := 13) (v := ?_) rfl (by kernel_rfl) (by kernel_rfl) (by kernel_rfl) (fun _ _ _ h => h) (Or.inl ⟨by rfl, ?_⟩) E3.out ?_
                        rotate_left
                        (intro w hSw; obtain ⟨s0, s1, s2, s3, s4, s5, s6⟩ := hSw; go_simp)
                        try with_reducible rfl
                        simp only [Act.put]
                        refine wpAnyH_ready (rs := [14]) (by kernel_rfl) (by simp) ?_
                        refine AllReadyH.cons rfl (fun K hK => ?_) AllReadyH.nil
                        go_simp
                        refine hK.out _ _ E4.out (fun _ => ?_)
                        clear hK K
                        refine wpAnyH_done (by kernel_rfl) (NoPanic.normal ?_) _
                        go_wp2_with fail
                        go_ret
                        exact ⟨0, rfl, by rw [HS2.out, ← HCC.out, HC.out], .inr ⟨rfl, HQ3.out⟩⟩


end Go.Proofs.YtjhifhoniimfgaaGreat

