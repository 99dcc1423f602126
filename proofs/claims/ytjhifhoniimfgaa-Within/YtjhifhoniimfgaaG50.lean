import Derived.Test.YtjhifhoniimfgaaG48
import Derived.Test.YtjhifhoniimfgaaG49
import Derived.Test.YtjhifhoniimfgaaG42
/-
  The law Within, walked.
-/
namespace Go.Proofs.Ytjhifhoniimfgaa
open Go.RowKit

set_option maxRecDepth 100000 in
set_option maxHeartbeats 4000000 in
theorem within_walk (raw : Int) (hraw : i64B raw) (a : Option Addr) (len cap : Nat) (ms : Nat → Int × Int × Int) (w : World) (hm : MovesAt w a len ms) (hl : len ≤ 5864062014634) :
    Calls Try.prog 4 #[.int .i64 raw, .slice a len cap] w fun e w' => e = .returned (.bool true) ∧ Below w.heap.size w w' := by
  have bg := play_begun raw hraw w
  have HM := hideE hm
  have HLE := hideE hl
  clear hm hraw hl
  go_enter Try.func4, Try.ntmps4
  go_wp2_with fail
  refine bg.mono ?_
  rintro e w1 ⟨xb, rfl, hp⟩
  have pl := hp.play _ (wi_keeps (kLim (pickN raw 1073741824))) (wi_beg _) a len cap ms HM.out HLE.out (by omega)
  clear bg hp
  go_wp2_with fail
  refine pl.mono ?_
  rintro e w2 ⟨rfl, x2, hq, hj⟩
  have fn := hq.finish _ (wi_keeps _).toKeeps hj (by have := HLE.out; omega)
  clear pl hq hj
  go_wp2_with fail
  refine fn.mono ?_
  rintro e w3 ⟨rfl, x3, hq, hj, hat⟩
  have HW := hideE (show Keep (fun _ => True) w w3 from hq.keep)
  obtain ⟨sa, sc, d7, hl3, _⟩ := hq.row0
  obtain ⟨own, ⟨B, X, st0, st1, hm, hxb⟩, hout⟩ := hq.at_
  subst hxb
  have hX : XAt own 300 w3 X x3.s.lim (vOf x3.s st0 st1) x3.L := hm.at_
  have hlv : X.lv 0 = .slice sa (x3.L 0).length sc := by
    have := hX.c7
    rw [d7] at this
    simp only [Option.some.injEq] at this
    exact this.symm
  have hRp := rp_of hj hm.inv hat
  have hfr : ∀ (k : Nat) (g : Snt), (x3.L 0)[k]? = some g → 0 ≤ g.frm ∧ g.frm ≤ 281000000000000 := fun k g hg => by
    have h1 := (hm.inv.pl 0 k g (by omega) hg).frm
    have h2 := hm.ok.time
    have := HLE.out
    omega
  have hln : (x3.L 0).length ≤ 281000000000000 := by have := HLE.out; omega
  rw [hj.limE] at hX
  have HO := hideE hout
  clear hq hj hat fn hm hl3
  generalize vOf x3.s st0 st1 = v at hX
  generalize x3.L = L at *
  obtain ⟨ln, hlnE⟩ : ∃ ln, ln = (L 0).length := ⟨_, rfl⟩
  rw [← hlnE] at hlv hln d7
  obtain ⟨n, hn⟩ : ∃ n, n = pickN raw 1073741824 := ⟨_, rfl⟩
  rw [← hn] at hX hRp
  have HX := hideE hX
  have HR := hideE (show Rp (kLim n) (L 0) ∧ (∀ (k : Nat) (g : Snt), (L 0)[k]? = some g → 0 ≤ g.frm ∧ g.frm ≤ 281000000000000) ∧ ln = (L 0).length ∧ X.lv 0 = .slice sa ln sc from ⟨hRp, hfr, hlnE, hlv⟩)
  clear hX hRp hfr hlnE hlv hout hn d7
  go_wp2
  go_loopg [7] ln (fun gn kv wr => ∃ k : Nat, kv = .int .i64 k ∧ k ≤ ln ∧ gn = ln - k ∧ XAt own 300 wr X (kLim n) v (upN L 0 (rep (L 0) k)) ∧ Keep (fun b => own b ≠ 300) w3 wr)
  case atStart => exact ⟨0, rfl, Nat.zero_le _, rfl, by rw [show rep (L 0) 0 = L 0 from rfl, upN_self]; exact HX.out, Keep.refl _ _⟩
  case round =>
    obtain ⟨k, rfl, hk, hgn, hx, hkp⟩ := hrel
    have c7 := hx.c7
    rw [HR.out.2.2.2] at c7
    by_cases hkl : k < ln
    · have k1 : (k : Int) < (ln : Int) := by omega
      have hkl0 : k < (L 0).length := by rw [← HR.out.2.2.1]; exact hkl
      have hp0 := List.getElem?_eq_getElem hkl0
      generalize hpv : (L 0)[k] = p at hp0
      clear hpv
      have hl0 : (upN L 0 (rep (L 0) k) 0).length = ln := by rw [upN_same, rep_len, HR.out.2.2.1]
      have hpk : (upN L 0 (rep (L 0) k) 0)[k]? = some p := by rw [upN_same]; exact rep_at hp0
      obtain ⟨rb, cp, e1, e2, _, _⟩ := hx.rowcell 0 (by omega) (by rw [hl0]; omega)
      have e1' := HR.out.2.2.2
      rw [e1] at e1'
      simp only [Value.slice.injEq] at e1'
      obtain ⟨rfl, _, rfl⟩ := e1'
      have eR := e2 k (by rw [hl0]; exact hkl)
      have hbp := hx.sent 0 k p (by omega) hpk
      obtain ⟨q1, q2, q3, q4, q5⟩ := HR.out.1.all k p hp0
      obtain ⟨pk, hpkE⟩ : ∃ pk, pk = X.pb 0 k := ⟨_, rfl⟩
      rw [← hpkE] at eR hbp
      have HK := hideE (show k < ln ∧ gk = ln - k ∧ XAt own 300 wr X (kLim n) v (upN L 0 (rep (L 0) k)) ∧ Keep (fun b => own b ≠ 300) w3 wr ∧ (L 0)[k]? = some p ∧ (upN L 0 (rep (L 0) k) 0)[k]? = some p ∧ (upN L 0 (rep (L 0) k) 0).length = ln ∧ pk = X.pb 0 k ∧ X.lv 0 = .slice (some ⟨rb, 0, none⟩) ln cp from ⟨hkl, hgn, hx, hkp, hp0, hpk, hl0, hpkE, HR.out.2.2.2⟩)
      have s2 := sc2 hbp
      have s14 := sc14 hbp
      have HT := hideE (show TalL (upN L 0 (rep (L 0) k) 0) ∧ NmL (upN L 0 (rep (L 0) k) 0) from by rw [upN_same]; exact ⟨rep_tal HR.out.1 HR.out.2.1 k, rep_nm HR.out.1 k⟩)
      by_cases h2 : p.kind = 2
      · have HH := hideE (rep_hits HR.out.1 hp0 h2)
        have HK2 := hideE h2
        have HY : Hid (p.code = 0 → rep (L 0) (k + 1) = cm (rep (L 0) k) p k) := rep_yes hp0 h2
        have HN : Hid (p.code = 18 → rep (L 0) (k + 1) = rep (L 0) k) := fun hc => rep_no hp0 (fun z => by omega)
        rw [h2] at s2
        clear hk hgn hx hkp hkl hkl0 hp0 hl0 hpk e1 e2 q1 q2 q3 q4 q5 hpkE hbp HX s14 h2
        go_wp2
        clear c7 eR s2
        go_loopg [9, 10] k (fun gn tv iv wq => ∃ i : Nat, iv = .int .i64 i ∧ i ≤ k ∧ gn = k - i ∧ tv = .int .i64 (hS p ((rep (L 0) k).take i) : Nat) ∧ hS p ((rep (L 0) k).take i) ≤ i ∧ XAt own 300 wq X (kLim n) v (upN L 0 (rep (L 0) k)) ∧ Keep (fun b => own b ≠ 300) w3 wq)
        case atStart => exact ⟨0, rfl, Nat.zero_le _, rfl, rfl, Nat.le_refl _, HK.out.2.2.1, HK.out.2.2.2.1⟩
        case round =>
          obtain ⟨i, rfl, hi, hgi, htv, hhb, hx, hkp⟩ := hrel
          have hpk := HK.out.2.2.2.2.2.1
          have hl0 := HK.out.2.2.2.2.2.2.1
          have hbp := hx.sent 0 k p (by omega) hpk
          rw [← HK.out.2.2.2.2.2.2.2.1] at hbp
          by_cases hik : i < k
          · have i1 : (i : Int) < (k : Int) := by omega
            have i2 : (i : Int) < (ln : Int) := by have := HK.out.1; omega
            have hil : i < (upN L 0 (rep (L 0) k) 0).length := by have := HK.out.1; rw [hl0]; omega
            have hq0 := List.getElem?_eq_getElem hil
            generalize hqv : (upN L 0 (rep (L 0) k) 0)[i] = q at hq0
            clear hqv
            have c7 := hx.c7
            rw [HK.out.2.2.2.2.2.2.2.2] at c7
            obtain ⟨rb', cp', e1, e2, _, _⟩ := hx.rowcell 0 (by omega) (by omega)
            have e1' := HK.out.2.2.2.2.2.2.2.2
            rw [e1] at e1'
            simp only [Value.slice.injEq, Option.some.injEq, Addr.mk.injEq, and_true] at e1'
            obtain ⟨rfl, _⟩ := e1'
            have eR := e2 i hil
            have hbq := hx.sent 0 i q (by omega) hq0
            obtain ⟨pi, hpi⟩ : ∃ pi, pi = X.pb 0 i := ⟨_, rfl⟩
            rw [← hpi] at eR hbq
            have p3 := sc3 hbp
            have p5 := sc5 hbp
            have p9 := sc9 hbp
            have q5 := sc5 hbq
            obtain ⟨t1, t2, t3⟩ := HT.out.1 i q hq0
            have op : ∀ n, Calls Try.prog 12 #[.pointer (some ⟨pi, 0, none⟩), .int .i64 p.account, .int .i64 p.frm] (wr.drewN n) fun e w' => e = .returned (.bool (openG q p.account p.frm)) ∧ ∃ m, w' = wr.drewN m := fun n => by
              refine (sopen_walk (w := wr.drewN n) hbq t1 p.account p.frm t2 t3).mono ?_
              rintro e w' ⟨rfl, m, rfl⟩
              exact ⟨rfl, _, World.drewN_drewN _ _ _⟩
            have hs := hS_snoc p q ((rep (L 0) k).take i)
            rw [← show (rep (L 0) k).take (i + 1) = (rep (L 0) k).take i ++ [q] from by rw [upN_same] at hq0; rw [List.take_add_one, hq0]; rfl] at hs
            generalize hS p ((rep (L 0) k).take i) = h0 at *
            subst htv
            have i3 : (h0 : Int) ≤ 281000000000000 := by have := HK.out.1; omega
            have HI := hideE (show i < k ∧ gk = k - i ∧ XAt own 300 wr X (kLim n) v (upN L 0 (rep (L 0) k)) ∧ Keep (fun b => own b ≠ 300) w3 wr ∧ h0 ≤ i from ⟨hik, hgi, hx, hkp, hhb⟩)
            have HS : Hid (hS p ((rep (L 0) k).take (i + 1)) = h0 + (if (openG q p.account p.frm && decide (q.number = p.number)) = true then 1 else 0)) := hs
            generalize openG q p.account p.frm = O at op HS
            clear hx hkp hik hil hq0 hgi hi hhb hs hbp hbq e1 e2 hpk hl0 t1 t2 t3 hpi
            cases O with
            | false =>
              go_wp2
              go_quiet ((go_at_call 12; exact op _))
              go_wp2
              go_quiet (fail)
              go_wp2
              go_roundg (k - (i + 1))
              case measure => have := HI.out; omega
              case rel => exact ⟨i + 1, rfl, HI.out.1, rfl, by rw [HS.out]; simp, by rw [HS.out]; have := HI.out; simp; omega, HI.out.2.2.1.drewN _, HI.out.2.2.2.1.drewN _⟩
            | true =>
              by_cases hn : q.number = p.number
              · have hn' : (q.number == p.number) = true := beq_iff_eq.2 hn
                have HS2 := hideE (show hS p ((rep (L 0) k).take (i + 1)) = h0 + 1 from by rw [HS.out]; simp [hn])
                clear HS hn
                go_wp2
                go_quiet ((go_at_call 12; exact op _))
                go_wp2
                go_quiet (fail)
                go_wp2
                go_roundg (k - (i + 1))
                case measure => have := HI.out; omega
                case rel => exact ⟨i + 1, rfl, HI.out.1, rfl, by rw [HS2.out]; rfl, by rw [HS2.out]; have := HI.out; omega, HI.out.2.2.1.drewN _, HI.out.2.2.2.1.drewN _⟩
              · have hn' : (q.number == p.number) = false := beq_eq_false_iff_ne.2 hn
                have HS2 := hideE (show hS p ((rep (L 0) k).take (i + 1)) = h0 from by rw [HS.out]; simp [hn])
                clear HS hn
                go_wp2
                go_quiet ((go_at_call 12; exact op _))
                go_wp2
                go_quiet (fail)
                go_wp2
                go_roundg (k - (i + 1))
                case measure => have := HI.out; omega
                case rel => exact ⟨i + 1, rfl, HI.out.1, rfl, by rw [HS2.out], by rw [HS2.out]; have := HI.out; omega, HI.out.2.2.1.drewN _, HI.out.2.2.2.1.drewN _⟩
          · have ei : i = k := by omega
            have i1 : ¬ (i : Int) < (k : Int) := by omega
            rw [ei] at htv
            rcases HH.out with ⟨hc, he⟩ | ⟨hc, he⟩
            · rw [he] at htv
              replace htv : _ = Value.int .i64 (1 : Int) := htv
              subst htv
              have s14 := sc14 hbp
              rw [hc] at s14
              have cy := canc_yes hx k p hpk HK2.out hc HT.out.1 (by rw [hl0]; exact hln)
              rw [upN_same, upN_upN, ← HY.out hc] at cy
              have HKP := hideE hkp
              clear hi hgi hhb hx hkp hik ei he hpk hl0 hc hbp
              go_wp2_with fail
              refine cy.mono ?_
              rintro e w4 ⟨rfl, hx4, kk4⟩
              have HZ := hideE (show XAt own 300 w4 X (kLim n) v (upN L 0 (rep (L 0) (k + 1))) ∧ Keep (fun b => own b ≠ 300) w3 w4 from ⟨hx4, HKP.out.trans kk4⟩)
              clear cy hx4 kk4 s14
              go_wp2
              go_roundg (ln - (k + 1))
              case measure => have := HK.out; omega
              case rel => exact ⟨k + 1, rfl, HK.out.1, rfl, HZ.out⟩
            · rw [he] at htv
              replace htv : _ = Value.int .i64 (0 : Int) := htv
              subst htv
              have s14 := sc14 hbp
              rw [hc] at s14
              have cn := canc_no hx k p hpk HK2.out (by rw [hc]; rfl)
              have HZ := hideE (show XAt own 300 wr X (kLim n) v (upN L 0 (rep (L 0) (k + 1))) ∧ Keep (fun b => own b ≠ 300) w3 wr from ⟨by rw [HN.out hc]; exact hx, hkp⟩)
              clear hi hgi hhb hx hkp hik ei he hpk hl0 hc hbp
              go_wp2_with fail
              refine cn.mono ?_
              rintro e w4 ⟨rfl, rfl⟩
              clear cn s14
              go_wp2
              go_roundg (ln - (k + 1))
              case measure => have := HK.out; omega
              case rel => exact ⟨k + 1, rfl, HK.out.1, rfl, HZ.out⟩
      · have hne2 : (p.kind == 2) = false := beq_eq_false_iff_ne.2 h2
        have HN := hideE (rep_no hp0 (fun z => h2 z.1))
        by_cases h1 : p.kind = 1 ∧ p.code = 0
        · obtain ⟨hk1, hc0⟩ := h1
          have ft := rep_fits HR.out.1 hp0 hk1 hc0
          have hac := q4.acct
          obtain ⟨an, han⟩ : ∃ an : Nat, p.account = (an : Int) := Int.eq_ofNat_of_zero_le hac.1
          have hto : p.account.toNat = an := by rw [han]; exact Int.toNat_natCast an
          rw [hto] at ft
          have fw := fits_walk (w := wr) hx k p hpk an han (by omega) q4.side HT.out.1 HT.out.2 (by rw [hl0]; exact hln) (fun j _ => kLim_bd n an j) (by rw [upN_same]; exact ft.dup) ft.f1 (by rw [upN_same]; exact ft.f2) (by rw [upN_same]; exact ft.f3) (by rw [upN_same]; exact ft.f4)
          rw [hk1] at s2
          rw [hc0] at s14
          clear hk hgn hx hkp hkl hkl0 hp0 hl0 hpk e1 e2 q1 q2 q3 q4 q5 hpkE hbp HX h2 hne2 ft hac han hto hk1 hc0
          go_wp2_with fail
          refine fw.mono ?_
          rintro e w4 ⟨rfl, kk⟩
          have HZ := hideE (show XAt own 300 w4 X (kLim n) v (upN L 0 (rep (L 0) (k + 1))) ∧ Keep (fun b => own b ≠ 300) w3 w4 from ⟨by rw [HN.out]; exact HK.out.2.2.1.keep kk (fun _ _ _ => trivial) (fun _ _ _ => rfl), HK.out.2.2.2.1.trans' kk (fun _ _ _ => trivial)⟩)
          clear fw kk c7 eR s2 s14
          go_wp2
          go_roundg (ln - (k + 1))
          case measure => have := HK.out; omega
          case rel => exact ⟨k + 1, rfl, HK.out.1, rfl, HZ.out⟩
        · have HZ := hideE (show XAt own 300 wr X (kLim n) v (upN L 0 (rep (L 0) (k + 1))) ∧ Keep (fun b => own b ≠ 300) w3 wr from ⟨by rw [HN.out]; exact hx, hkp⟩)
          by_cases hk1 : p.kind = 1
          · have hc1 : (p.code == 0) = false := beq_eq_false_iff_ne.2 (fun e => h1 ⟨hk1, e⟩)
            rw [hk1] at s2
            clear hk hgn hx hkp hkl hkl0 hp0 hl0 hpk e1 e2 q1 q2 q3 q4 q5 hpkE hbp HX h2 hne2 h1 hk1
            go_wp2
            go_roundg (ln - (k + 1))
            case measure => have := HK.out; omega
            case rel => exact ⟨k + 1, rfl, HK.out.1, rfl, HZ.out⟩
          · have hk2 : (p.kind == 1) = false := beq_eq_false_iff_ne.2 hk1
            clear hk hgn hx hkp hkl hkl0 hp0 hl0 hpk e1 e2 q1 q2 q3 q4 q5 hpkE hbp HX h2 h1 hk1
            go_wp2
            go_roundg (ln - (k + 1))
            case measure => have := HK.out; omega
            case rel => exact ⟨k + 1, rfl, HK.out.1, rfl, HZ.out⟩
    · have ek : k = ln := by omega
      have k1 : ¬ (k : Int) < (ln : Int) := by omega
      have HF := hideE (show Below w.heap.size w wr from by
        refine Keep.below (Keep.mono (HW.out.trans' hkp (fun b hb _ => ?_)) (fun _ _ _ => trivial)) (Nat.le_refl _)
        have := HO.out b hb
        unfold OutG at this
        omega)
      subst ek
      clear hk hgn hx hkp hkl HX HR
      go_wp2
      go_ret
      exact ⟨rfl, HF.out⟩

end Go.Proofs.Ytjhifhoniimfgaa

