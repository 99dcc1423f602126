import Derived.Test.YtjhifhoniimfgaaG43
import Derived.Test.YtjhifhoniimfgaaG42
import Derived.Deep.RegionHeld3
import Derived.Deep.RegionLawGrows
import Derived.BigRegion
/-
  The law Stops, walked.
-/
namespace Go.Proofs.Ytjhifhoniimfgaa
open Go.RowKit

def US (xb gb : Nat) (W : World) : Prop := W.cell? ⟨xb, 0, none⟩ = some (.pointer (some ⟨gb, 0, none⟩))

theorem Play.hole {w0 : World} {xb : Nat} {x : Gm} {N : Nat} {w : World} (h : Play w0 xb x N w) (hN : N < 280000000000000) (i : Nat) (hi : i < 2) :
    Calls Try.prog 15 #[.pointer (some ⟨xb, 0, none⟩), .int .i64 i, .int .i64 0] w fun e w' => e = .returned (.int .i64 (holeI x i)) ∧ Play w0 xb x N w' := by
  obtain ⟨own, q1, q2⟩ := h.at_
  refine (g_hole q1 (by omega) i hi).mono ?_
  rintro e w' ⟨rfl, hg⟩
  exact ⟨rfl, Play.go h.keep q2 hg⟩

theorem Play.fill {w0 : World} {xb : Nat} {x : Gm} {N : Nat} {w : World} (h : Play w0 xb x N w) (hN : N < 280000000000000) (i k : Nat) (hi : i < 2) (g : Snt) (hg : (x.L i)[k]? = some g) (hf : g.filled = false) (ht : x.s.t i ≤ k) (b : Int) (hb : i64B b) :
    Calls Try.prog 16 #[.pointer (some ⟨xb, 0, none⟩), .int .i64 i, .int .i64 k, .int .i64 b] w fun e w' => e = .returned (.tuple #[]) ∧ Play w0 xb (fillG x i k (pickN b 1099511627776) g) (N + 1) w' := by
  obtain ⟨own, q1, q2⟩ := h.at_
  refine (g_fill q1 (by omega) i k hi g hg hf ht b hb.1 hb.2).mono ?_
  rintro e w' ⟨rfl, hq⟩
  exact ⟨rfl, Play.go h.keep q2 hq⟩

/-- The number that is handed on: an urgent place is not claimed. -/
def tameB (B : Int) : Int := if pickN B 8 = 7 then 0 else B

theorem tame_lane (B : Int) : pickN (tameB B) 8 / 7 = 0 := by
  unfold tameB
  have := pickN_lt B 8 (by omega)
  split
  · rfl
  · omega

theorem tame_ok {B : Int} (h : i64B B) : i64B (tameB B) := by
  unfold tameB
  split
  · exact ⟨by omega, by omega⟩
  · exact h

theorem kill_wt {x : Gm} {N : Nat} (h : Wt x.s N) (a : Nat) : Wt (killG x a).s (N + 18) := fun i hi => by
  have := h i hi
  show 16 * (upN x.s.m 1 (x.s.m 1 + 1) i + x.s.t i) ≤ _
  by_cases e : i = 1
  · subst e; rw [upN_same]; omega
  · rw [upN_ne _ _ _ _ e]; omega

set_option maxRecDepth 100000 in
set_option maxHeartbeats 4000000 in
theorem stops_walk (raw : Int) (hraw : i64B raw) (a : Option Addr) (len cap : Nat) (ms : Nat → Int × Int × Int) (acct : Int) (hacct : i64B acct) (a2 : Option Addr) (len2 cap2 : Nat) (ms2 : Nat → Int × Int × Int) (w : World) (hm : MovesAt w a len ms) (hl : len ≤ 5864062014634) (hm2 : MovesAt w a2 len2 ms2) (hl2 : len2 ≤ 5864062014634) :
    Calls Try.prog 5 #[.int .i64 raw, .slice a len cap, .int .i64 acct, .slice a2 len2 cap2] w fun e w' => e = .returned (.bool true) ∧ Below w.heap.size w w' := by
  have bg := play_begun raw hraw w
  have HM := hideE hm
  have HM2 := hideE hm2
  have HL := hideE (show len ≤ 5864062014634 ∧ len2 ≤ 5864062014634 from ⟨hl, hl2⟩)
  have pk := fun W => pick_any acct 2 W (by omega) (by omega) hacct.1 hacct.2
  obtain ⟨ac, hac⟩ : ∃ ac, ac = pickN acct 2 := ⟨_, rfl⟩
  have hac2 : ac < 2 := by rw [hac]; exact pickN_lt _ _ (by omega)
  rw [← hac] at pk
  have HPK := hideE pk
  clear hm hraw hm2 hl2 hl hac pk hacct
  go_enter Try.func5, Try.ntmps5
  go_wp2_with fail
  refine bg.mono ?_
  rintro e w1 ⟨xb, rfl, hp⟩
  have pl := hp.play (fun _ => True) ⟨keeps_true, fun _ _ _ _ _ _ _ _ _ _ _ => trivial, fun _ _ _ => trivial, fun _ _ _ => trivial⟩ trivial a len cap ms HM.out HL.out.1 (by omega)
  clear bg hp
  go_wp2_with fail
  refine pl.mono ?_
  rintro e w2 ⟨rfl, x1, hp, _⟩
  have ho := hp.hole (by have := HL.out; omega) 1 (by omega)
  obtain ⟨N1, hN1⟩ : ∃ N1, N1 = 4 + 18 * len := ⟨_, rfl⟩
  have hN1b : N1 ≤ 105600000000000 := by have := HL.out; omega
  rw [← hN1] at ho hp
  have HP1 := hideE hp
  clear pl hp hN1
  go_wp2_with fail
  refine ho.mono ?_
  rintro e w3 ⟨rfl, hp⟩
  generalize hhi : holeI x1 1 = hv
  generalize hhl : (holesG x1 1).length = hn0
  have HS : Hid (∃ x2 : Gm, hv = holeI x2 1 ∧ hn0 = (holesG x2 1).length ∧ Play w xb x2 (N1 + (16 - (holesG x2 1).length)) w3) := ⟨x1, hhi.symm, hhl.symm, hp.more (by omega)⟩
  clear hhi hhl hp ho
  go_wp2
  go_loopg [10] hn0 (fun gn pv wq => ∃ x2 : Gm, gn = (holesG x2 1).length ∧ pv = .int .i64 (holeI x2 1) ∧ Play w xb x2 (N1 + (16 - (holesG x2 1).length)) wq)
  case atStart =>
    obtain ⟨x2, q1, q2, q3⟩ := HS.out
    exact ⟨x2, q2, by rw [q1], q3⟩
  case round =>
    obtain ⟨x2, hgn, rfl, hp⟩ := hrel
    obtain ⟨hi2, hok2⟩ := hp.inv
    have hle := holes_le hi2 hok2 1 (by omega)
    rcases holeI_cases x2 1 with ⟨e1, e2⟩ | ⟨k, e1, e2⟩
    rotate_left
    · rw [e1]
      obtain ⟨g, g1, g2, g3⟩ := holeG_some e2
      have hfh := fill_holes 1 k (pickN 0 1099511627776) g g1 g2 g3
      have fl := hp.fill (by omega) 1 k (by omega) g g1 g2 g3 0 ⟨by omega, by omega⟩
      obtain ⟨x3, hx3⟩ : ∃ x3, x3 = fillG x2 1 k (pickN 0 1099511627776) g := ⟨_, rfl⟩
      rw [← hx3] at fl hfh
      have HF := hideE (show (holesG x3 1).length + 1 = (holesG x2 1).length ∧ (holesG x2 1).length ≤ 16 ∧ gk = (holesG x2 1).length ∧ N1 ≤ 105600000000000 from ⟨hfh, hle, hgn, hN1b⟩)
      clear hp hgn hi2 hok2 hle e1 e2 g1 g2 g3 hfh hx3
      go_wp2_with fail
      refine fl.mono ?_
      rintro e wb ⟨rfl, hq⟩
      have c15 := hq.c15
      have ho := hq.hole (by have := HF.out; omega) 1 (by omega)
      clear fl hq
      go_wp2_with fail
      refine ho.mono ?_
      rintro e wd ⟨rfl, hq⟩
      have HQ := hideE hq
      clear ho hq c15
      go_wp2
      go_roundg ((holesG x3 1).length)
      case measure => have := HF.out; omega
      case rel => exact ⟨x3, rfl, rfl, HQ.out.more (by have := HF.out; omega)⟩
    · rw [e1]
      have hfull : ∀ (k : Nat) (g : Snt), (x2.L 1)[k]? = some g → g.filled = true := holes_done hi2 hok2 1 (by omega) e2
      have hp16 : Play w xb x2 (N1 + 16) wr := hp.more (by omega)
      obtain ⟨N, hN⟩ : ∃ N, N = N1 + 16 := ⟨_, rfl⟩
      rw [← hN] at hp16
      have hNb : N ≤ 105600000000016 := by omega
      have HI := hideE (show GInv x2 ∧ Ok x2.s N ∧ (∀ (k : Nat) (g : Snt), (x2.L 1)[k]? = some g → g.filled = true) ∧ N ≤ 105600000000016 from ⟨hi2, hp16.inv.2, hfull, hNb⟩)
      have HKEEP := hideE hp16.keep
      obtain ⟨own, ⟨B, X, st0, st1, hM, hxb⟩, hout⟩ := hp16.at_
      have HOUT := hideE hout
      obtain ⟨ce1, ce5, ce6⟩ := claimS_eq x2 hi2.cl 0 1 (by omega) (by omega)
      have c0 := hM.at_.c0
      rw [hM.gb] at c0
      have cc := gClaim hM.pg hM.ok (by omega) 0 1
      have HMM := hideE hM
      subst hxb
      have c0' : wr.cell? ⟨X.xb, 0, none⟩ = some (.pointer (some ⟨B.gb, 0, none⟩)) := c0
      by_cases hmay : mayClaim x2 1 = true
      rotate_left
      · have hno : ∃ ec : Int, claimS x2.s 0 1 = (0, ec, x2.s) ∧ (ec = 5 ∨ ec = 6) := by
          cases hs : x2.s.shut with
          | true => exact ⟨5, ce5 hs, .inl rfl⟩
          | false => exact ⟨6, (ce6 hs (by simpa using hmay)).1, .inr rfl⟩
        obtain ⟨ec, hec, h56⟩ := hno
        rw [hec] at cc
        clear hp hp16 hgn hi2 hok2 hle e1 e2 hfull hM hout ce1 ce5 ce6 c0 hmay hec hN hNb hN1b
        rcases h56 with rfl | rfl
        all_goals
          go_wp2_with fail
          refine cc.mono ?_
          rintro e w4 ⟨rfl, own', B', g1, g2, g3, g4⟩
          have HB := hideE (show Below w.heap.size w w4 from by
            have q := HMM.out.call g1 g2 g3 g4
            exact Keep.below ((HKEEP.out.mono (T := fun k => k < w.heap.size) (fun _ _ _ => trivial)).trans' q.2.2.2 (fun b hb _ => HOUT.out b hb)) (Nat.le_refl _))
          clear cc g1 g2 g3 g4
          go_wp2
          go_ret
          exact ⟨rfl, HB.out⟩
      · have hce : claimS x2.s 0 1 = ((x2.s.m 1 : Int), 0, (claimG x2 0 1).s) := ce1 hmay
        rw [hce] at cc
        have okc := claim_ok hM.ok 0 1
        rw [hce] at okc
        have HOKC := hideE (show Ok (claimG x2 0 1).s (N + 1) from okc)
        obtain ⟨n, hn⟩ : ∃ n, n = x2.s.m 1 := ⟨_, rfl⟩
        have hnb : n ≤ 10000000000000 := by rw [hn]; have := hM.sz 1 (by omega); omega
        rw [← hn] at cc
        have HN := hideE hn
        clear hp hp16 hgn hi2 hok2 hle e1 e2 hfull hM hout ce1 ce5 ce6 c0 hmay hce hN hNb hN1b okc hn
        go_wp2_with fail
        refine cc.mono ?_
        rintro e w4 ⟨rfl, own4, B4, p4, l4, s4, k4⟩
        obtain ⟨q1, q2, q3, q4⟩ := HMM.out.call p4 l4 s4 k4
        have d0 := q2.c0
        rw [q3] at d0
        have egb : B4.gb = B.gb := l4.gb
        rw [egb] at d0
        have H4 := hideE (show PG own4 200 w4 B4 (claimG x2 0 1).s (N + 1) ∧ XAt own4 300 w4 X x2.s.lim (vOf x2.s st0 st1) x2.L ∧ X.gb = B4.gb ∧ Keep (OutG own 200) wr w4 ∧ Same own own4 wr from ⟨q1, q2, q3, q4, s4⟩)
        clear cc p4 l4 s4 k4 q1 q2 q3 q4 c0'
        go_wp2_with fail
        refine (HPK.out _).mono ?_
        rintro e wz ⟨rfl, rfl⟩
        go_wp2_with fail
        have F0 : US X.xb B.gb w4 := d0
        refine wp_region_noPanic ?_
        refine wp_region_held_drew (S := US X.xb B.gb) (by kernel_rfl) F0 (fun _ => ?_)
        refine wpAnyH_take (i := 0) (v := ?_) rfl (by kernel_rfl) (by kernel_rfl) (by kernel_rfl) (fun _ _ _ h => h) (Or.inl ⟨by rfl, ?_⟩) F0 ?_
        rotate_left
        (intro w hSw; have y0 : _ := hSw; unfold US at y0; go_simp)
        try with_reducible rfl
        simp only [Act.put]
        refine wpAnyH_take (i := 1) (v := ?_) rfl (by kernel_rfl) (by kernel_rfl) (by kernel_rfl) (fun _ _ _ h => h) (Or.inl ⟨by rfl, ?_⟩) F0 ?_
        rotate_left
        (intro w hSw; have y0 : _ := hSw; unfold US at y0; go_simp)
        try with_reducible rfl
        simp only [Act.put]
        refine wpAnyH_take (i := 2) (v := ?_) rfl (by kernel_rfl) (by kernel_rfl) (by kernel_rfl) (fun _ _ _ h => h) (Or.inl ⟨by rfl, ?_⟩) F0 ?_
        rotate_left
        (intro w hSw; have y0 : _ := hSw; unfold US at y0; go_simp)
        try with_reducible rfl
        simp only [Act.put]
        refine wpAnyH_take (i := 3) (v := ?_) rfl (by kernel_rfl) (by kernel_rfl) (by kernel_rfl) (fun _ _ _ h => h) (Or.inl ⟨by rfl, ?_⟩) F0 ?_
        rotate_left
        (intro w hSw; have y0 : _ := hSw; unfold US at y0; go_simp)
        try with_reducible rfl
        simp only [Act.put]
        refine wpAnyH_take (i := 4) (v := ?_) rfl (by kernel_rfl) (by kernel_rfl) (by kernel_rfl) (fun _ _ _ h => h) (Or.inl ⟨by rfl, ?_⟩) F0 ?_
        rotate_left
        (intro w hSw; have y0 : _ := hSw; unfold US at y0; go_simp)
        try with_reducible rfl
        simp only [Act.put]
        refine wpAnyH_take (i := 5) (v := ?_) rfl (by kernel_rfl) (by kernel_rfl) (by kernel_rfl) (fun _ _ _ h => h) (Or.inl ⟨by rfl, ?_⟩) F0 ?_
        rotate_left
        (intro w hSw; have y0 : _ := hSw; unfold US at y0; go_simp)
        try with_reducible rfl
        simp only [Act.put]
        refine wpAnyH_ready (rs := [6]) (by kernel_rfl) (by simp) ?_
        refine AllReadyH.cons rfl (fun K hK => ?_) AllReadyH.nil
        go_simp
        refine (other_any 3 ac 0 _).mono ?_
        rintro e w5 ⟨rfl, hb5⟩
        have k5 : Keep (fun _ => True) w4 w5 := (Keep.refl _ w4).drew.trans (Keep.ofBelow hb5)
        have p5 : PG own4 200 w5 B4 (claimG x2 0 1).s (N + 1) := H4.out.1.keep HOKC.out.cl.2 HOKC.out.na.2 k5 (fun _ _ _ _ => trivial) (Same.refl _ _)
        have x5 : XAt own4 300 w5 X x2.s.lim (vOf x2.s st0 st1) x2.L := H4.out.2.1.keep k5 (fun _ _ _ => trivial) (fun _ _ _ => rfl)
        have F5 : US X.xb B.gb w5 := by
          have := x5.c0
          rw [H4.out.2.2.1, egb] at this
          exact this
        have pb := gPublish p5 HOKC.out (by have := HI.out; omega) 0 1 (n : Int) (otherB 3 ac 0)
        have hkp := kill_pub HI.out.1 HI.out.2.1 ac
        rw [← HN.out] at hkp
        rw [hkp, egb] at pb
        have okk : Ok (killG x2 ac).s (N + 2) := by
          have := pub_ok HOKC.out 0 1 (n : Int) (otherB 3 ac 0)
          rw [hkp] at this
          exact this
        have H5 := hideE (show Keep (fun _ => True) w4 w5 ∧ XAt own4 300 w5 X x2.s.lim (vOf x2.s st0 st1) x2.L ∧ Ok (killG x2 ac).s (N + 2) from ⟨k5, x5, okk⟩)
        clear hb5 k5 p5 x5 hkp okk
        go_wp2_with fail
        refine hK.out _ _ F5 (fun _ => ?_)
        clear hK K
        refine wpAnyH_ready (rs := [7]) (by kernel_rfl) (by simp) ?_
        refine AllReadyH.cons rfl (fun K hK => ?_) AllReadyH.nil
        go_simp
        refine pb.mono ?_
        rintro e w6 ⟨rfl, own6, B6, p6, l6, s6, k6⟩
        have x6 : XAt own6 300 w6 X x2.s.lim (vOf x2.s st0 st1) x2.L := H5.out.2.1.keep k6 (fun b h1 h2 => .inr (by omega)) (fun b hb _ => s6 b hb)
        have egb6 : B6.gb = B.gb := by rw [l6.gb, egb]
        have F6 : US X.xb B.gb w6 := by
          have := x6.c0
          rw [H4.out.2.2.1, egb] at this
          exact this
        have H6 := hideE (show PG own6 200 w6 B6 (killG x2 ac).s (N + 2) ∧ XAt own6 300 w6 X x2.s.lim (vOf x2.s st0 st1) x2.L ∧ B6.gb = B.gb ∧ Same own4 own6 w5 ∧ Keep (Out own4 200) w5 w6 from ⟨p6, x6, egb6, s6, k6⟩)
        clear pb p6 x6 l6 s6 k6 egb6
        go_wp2_with fail
        refine hK.out _ _ F6 (fun _ => ?_)
        clear hK K
        refine wpAnyH_ready (rs := [8]) (by kernel_rfl) (by simp) ?_
        refine AllReadyH.cons rfl (fun K hK => ?_) AllReadyH.nil
        go_simp
        refine hK.out _ _ F6 (fun _ => ?_)
        clear hK K
        refine wpAnyH_done (by kernel_rfl) (NoPanic.normal ?_) _
        go_wp2_with fail
        obtain ⟨it, ht1, ht2, ht3, ht4⟩ := info_sent
        obtain ⟨la, lc, hlv⟩ := H6.out.2.1.laneV 1 (by omega)
        have hll : (x2.L 1).length = n := by rw [HI.out.1.len 1 (by omega), HN.out]
        have d8 := H6.out.2.1.c8
        have z8 := H6.out.2.1.fz 8
        have lx := block_lt H6.out.2.1.game
        rw [hlv] at d8
        have hxd : XAt own6 300 w6.drew X x2.s.lim (vOf x2.s st0 st1) x2.L := H6.out.2.1.keep (S := fun _ => True) (Keep.refl _ _).drew (fun _ _ _ => trivial) (fun _ _ _ => rfl)
        obtain ⟨r, cap3, w7, hrun, happ⟩ := ptr_append 32 41 it Try.underlying32 ht1 ht2 ht3 ht4 (World.ownsRow.alloc (hxd.row 1 (by omega)) (.cells (sCells (killS ac)) 43)) (by omega) w6.heap.size
        have hrun' : ∀ ty, (Builtin.append_ #[32, 32] ty #[.slice la (x2.L 1).length lc, .slice (some ⟨w6.heap.size + 1, 0, none⟩) 1 1]).run Try.prog (((w6.alloc (.cells #[.int .i64 0, .int .i64 1, .int .i64 3, .int .i64 ac, .int .i64 0, .int .i64 0, .int .i64 0, .int .i64 0, .int .i64 0, .int .i64 0, .bool true, .bool false, .bool false, .bool false, .int .i64 0] 43)).alloc (.cells #[.pointer (some ⟨w6.heap.size, 0, none⟩)] 41)).drew) = .ok (.slice (some ⟨r, 0, none⟩) ((x2.L 1).length + 1) cap3) w7 := by
          intro ty
          have h := hrun ty
          rw [hlv, show (w6.drew.alloc (.cells (sCells (killS ac)) 43)).heap.size = w6.heap.size + 1 by simp] at h
          exact h
        have hA : XAt own6 300 (w6.drew.alloc (.cells (sCells (killS ac)) 43)) X x2.s.lim (vOf x2.s st0 st1) x2.L := hxd.keep (S := fun _ => True) ((Keep.refl _ _).alloc _) (fun _ _ _ => trivial) (fun _ _ _ => rfl)
        have g3 := happ.2.1.get hA.game (fun e => hA.neG 1 X.xb (by omega) e rfl)
        have x3 : w7.cell? ⟨X.xb, 8, none⟩ = some (.slice la (x2.L 1).length lc) := by rw [← hlv]; exact cellAt (i := 8) g3 rfl
        have y3 : w7.frozen? ⟨X.xb, 8, none⟩ = false := frozenAt g3
        have psh := hxd.push 1 (by omega) (killS ac) happ
        have key : Play w X.xb (killG x2 ac) (N + 18) (w7.setCell ⟨X.xb, 8, none⟩ (.slice (some ⟨r, 0, none⟩) ((x2.L 1).length + 1) cap3)) := by
          have so : Same own6 (ext own6 w6.heap.size 300) w6 := Same.ext own6 w6 300
          have ks : Keep (fun b => own6 b ≠ 300) w6 (w7.setCell ⟨X.xb, 8, none⟩ (.slice (some ⟨r, 0, none⟩) ((x2.L 1).length + 1) cap3)) := (Keep.refl _ w6).drew.trans psh.2
          have pg := H6.out.1.keep H5.out.2.2.cl.2 H5.out.2.2.na.2 ks (fun b _ _ _ => by omega) so
          have z1 := HKEEP.out.size
          have z2 := H4.out.2.2.2.1.size
          have z3 := H5.out.1.size
          have z4 := H6.out.2.2.2.2.size
          have o4 : ∀ b, b < w.heap.size → OutG own4 200 b := fun b hb => H4.out.2.2.2.2.outG 200 b (by omega) (HOUT.out b hb)
          have o6 : ∀ b, b < w.heap.size → OutG own6 200 b := fun b hb => H6.out.2.2.2.1.outG 200 b (by omega) (o4 b hb)
          refine ⟨⟨ext own6 w6.heap.size 300, ⟨B6, { X with lv := upN X.lv 1 (.slice (some ⟨r, 0, none⟩) ((x2.L 1).length + 1) cap3), pb := upN X.pb 1 (upN (X.pb 1) (x2.L 1).length w6.heap.size) }, st0, st1, ⟨pg.more (by omega), H5.out.2.2.more (by omega), ?_, by show X.gb = _; rw [H4.out.2.2.1, egb, H6.out.2.2.1], kill_inv HI.out.1 HI.out.2.1 ac hac2, kill_wt HMM.out.sz ac⟩, rfl⟩, fun b hb => so.outG 200 b (by omega) (o6 b hb)⟩, ?_⟩
          · rw [kill_L]
            exact psh.1
          · have q1 : Keep (fun k => k < w.heap.size) w wr := HKEEP.out.mono (fun _ _ _ => trivial)
            have q2 := q1.trans' H4.out.2.2.2.1 (fun b hb _ => HOUT.out b hb)
            have q3 := q2.trans' H5.out.1 (fun _ _ _ => trivial)
            have q4 := q3.trans' H6.out.2.2.2.2 (fun b hb _ => by have := o4 b hb; unfold OutG at this; unfold Out; omega)
            have q5 := q4.trans' ks (fun b hb _ => by have := o6 b hb; unfold OutG at this; omega)
            exact q5.mono (fun b hb _ => hb)
        have KEY := hideE key
        rw [hll] at hrun' x3 d8 KEY
        clear happ ht1 ht2 ht3 ht4 hrun hxd hA g3 psh hlv key F0 d0 hll
        go_region_law (refine step_append_run rfl (.tmp 74) (.tmp 78) 32 rfl (.slice la n lc) (.slice (some ⟨w6.heap.size + 1, 0, none⟩) 1 1) (by simp [Act.eval]) (by simp [Act.eval]) _ _ hrun' ?_)
        all_goals
          have KL := hideE (kl_start HI.out.1 HI.out.2.1 ac HI.out.2.2.1)
          rw [← HN.out] at KL
          have hu : (killG x2 ac).s.m 1 ≤ (killG x2 ac).s.t 1 + (killG x2 ac).s.n 1 := (H5.out.2.2.mt 1 (by omega)).2.1
          have hu2 : (killG x2 ac).s.n 1 ≤ 16 := (pow_pos' (H5.out.2.2.n 1 (by omega))).2
          generalize hxk : killG x2 ac = xk at *
          have c8 : (w7.setCell ⟨X.xb, 8, none⟩ (.slice (some ⟨r, 0, none⟩) (n + 1) cap3)).cell? ⟨X.xb, 8, none⟩ = some (.slice (some ⟨r, 0, none⟩) (n + 1) cap3) := World.cell?_setCell_same w7 _ _ x3
          clear hxk hrun' d8 z8 x3 y3 lx
          generalize w7.setCell ⟨X.xb, 8, none⟩ (.slice (some ⟨r, 0, none⟩) (n + 1) cap3) = W8 at *
          obtain ⟨U, hU⟩ : ∃ U, U = xk.s.n 1 := ⟨_, rfl⟩
          obtain ⟨t0, ht0⟩ : ∃ t0, t0 = xk.s.t 1 := ⟨_, rfl⟩
          have HU := hideE (show U = xk.s.n 1 ∧ t0 = xk.s.t 1 ∧ n + 1 ≤ t0 + U ∧ U ≤ 16 from ⟨hU, ht0, by rw [hU, ht0]; have := KL.out.m; omega, by omega⟩)
          have hU16 : U ≤ 16 := by omega

          clear hU ht0 hu hu2
          go_wp2
          generalize hxx : X.xb = xb at *
          clear hxx c8
          go_loopg [15] U (fun gn iv wq => ∃ (j : Nat) (x3 : Gm), iv = .int .i64 j ∧ j ≤ U ∧ gn = U - j ∧ Play w xb x3 (N + 18 + 16 * j) wq ∧ Kl x3 n ac ∧ x3.s.t 1 = t0 + j ∧ x3.s.n 1 = U)
          case atStart => exact ⟨0, xk, rfl, Nat.zero_le _, rfl, KEY.out, KL.out, HU.out.2.1.symm, HU.out.1.symm⟩
          case round =>
            obtain ⟨j, x3, rfl, hj, hgn, hp, hkl, ht, hn3⟩ := hrel
            have c3 := hp.c3
            have c10 := hp.c10
            rw [hn3] at c3
            rw [ht] at c10
            by_cases hgo : j < U ∧ t0 + j ≤ n
            · have j1 : (j : Int) < (U : Int) := by omega
              have j2 : ((t0 + j : Nat) : Int) ≤ (n : Int) := by omega
              have j3 : (j : Int) ≤ 16 := by omega
              obtain ⟨q1, q2, q3, q4⟩ := kl_core hkl hp.inv.1 hp.inv.2 (by omega)
              have co := hp.core (by have := HI.out; omega)
              rw [q1] at co
              have HJ := hideE (show j < U ∧ gk = U - j ∧ Kl (coreG x3) n ac ∧ (coreG x3).s.t 1 = t0 + (j + 1) ∧ (coreG x3).s.n 1 = U from ⟨hgo.1, hgn, q2, by omega, by rw [q4]; exact hn3⟩)
              clear hp hkl ht hn3 hgo hj hgn q1 q2 q3 q4
              go_wp2_with fail
              refine co.mono ?_
              rintro e w9 ⟨rfl, hq⟩
              have HQ := hideE hq
              clear co hq c3 c10
              go_wp2
              go_roundg (U - (j + 1))
              case measure => have := HJ.out; omega
              case rel => exact ⟨j + 1, coreG x3, rfl, HJ.out.1, rfl, HQ.out.more (by omega), HJ.out.2.2.1, HJ.out.2.2.2.1, HJ.out.2.2.2.2⟩
            · have hkm := hkl.m
              have hmt := (hp.inv.2.mt 1 (by omega)).1
              have htn : t0 + j = n + 1 := by have := HU.out; omega
              have hcond : (decide ((j : Int) < (U : Int)) && decide (((t0 + j : Nat) : Int) ≤ (n : Int))) = false := by
                rw [htn]
                simp
                omega
              have hst : x3.s.stop ac = true := hkl.stop (by omega)
              have hJ0 : Stop4 ac (x3.s.t 0) x3 := ⟨hst, by omega, Nat.le_refl _, fun k g hk hg htk _ _ => by
                rw [(hp.inv.1.pl 0 k g (by omega) hg).taken] at htk
                have := of_decide_eq_true htk
                omega⟩
              have c9 := hp.c9
              obtain ⟨first, hfirst⟩ : ∃ first, first = x3.s.t 0 := ⟨_, rfl⟩
              rw [← hfirst] at c9 hJ0
              have hfb : first ≤ 281000000000000 := by rw [hfirst]; have := hp.inv.2.mt 0 (by omega); have := HI.out; omega
              rw [htn] at c10
              have n2 : ¬ ((n + 1 : Nat) : Int) ≤ (n : Int) := by omega
              have n3 : ¬ ((n : Int) + 1 ≤ (n : Int)) := by omega
              have HSJ := hideE (show Play w xb x3 (N + 274) wr ∧ Stop4 ac first x3 from ⟨hp.more (by have := HU.out; omega), hJ0⟩)
              have HJU := hideE (show j ≤ U from hj)
              by_cases hjU : j < U
              · have j1 : (j : Int) < (U : Int) := by omega
                clear hp hkl ht hn3 hgo hj hgn hkm hmt htn hst hJ0 hfirst hcond hjU
                go_wp2
                go_loopg [18] len2 (fun gn iv wq => ∃ (k : Nat) (x4 : Gm), iv = .int .i64 k ∧ k ≤ len2 ∧ gn = len2 - k ∧ Play w xb x4 (N + 274 + 18 * k) wq ∧ Stop4 ac first x4)
                case atStart => exact ⟨0, x3, rfl, Nat.zero_le _, rfl, HSJ.out.1, HSJ.out.2⟩
                case round =>
                  obtain ⟨k, x4, rfl, hk, hgn, hp, hj4⟩ := hrel
                  have hLb := HL.out.2
                  have hNb := HI.out.2.2.2
                  by_cases hkl : k < len2
                  · have k1 : (k : Int) < (len2 : Int) := by omega
                    have k2 : (k : Int) ≤ 5864062014634 := by omega
                    obtain ⟨b, off, rfl, e1, e2, e3, r1, r2, r3⟩ := (HM2.out.keep hp.keep (fun _ _ => trivial)).get k hkl
                    have pk8 := fun W => pick_any (ms2 k).2.2 8 W (by omega) (by omega) r3.1 r3.2
                    have h8 : pickN (ms2 k).2.2 8 < 8 := pickN_lt _ _ (by omega)
                    have mv := (hp.alloc (.cells #[.int .i64 (ms2 k).1, .int .i64 (ms2 k).2.1, .int .i64 (tameB (ms2 k).2.2)] 27)).moves (by omega) ((ms2 k).1, (ms2 k).2.1, tameB (ms2 k).2.2) r1 r2 (tame_ok r3)
                    have HK := hideE (show k < len2 ∧ gk = len2 - k ∧ Stop4 ac first (movesG x4 (ms2 k).1 (ms2 k).2.1 (tameB (ms2 k).2.2)) from ⟨hkl, hgn, moves_J (stop_keeps ac first) hp.inv.1 hp.inv.2 hj4 _ _ _ (tame_lane _)⟩)
                    by_cases h7 : pickN (ms2 k).2.2 8 = 7
                    · have ht : tameB (ms2 k).2.2 = 0 := if_pos h7
                      rw [ht] at mv
                      have pk9 : ∀ W, Calls Try.prog 18 #[.int .i64 (ms2 k).2.2, .int .i64 8] W fun e w' => e = .returned (.int .i64 7) ∧ W = w' := fun W => by have := pk8 W; rw [h7] at this; exact this
                      have HT := hideE ht
                      clear hp hk hkl hgn r1 r2 r3 hj4 pk8 h8 h7 ht hLb hNb
                      go_wp2_with fail
                      refine (pk9 _).mono ?_
                      rintro e wz ⟨rfl, rfl⟩
                      clear pk9
                      go_wp2_with fail
                      refine mv.mono ?_
                      rintro e wv ⟨rfl, hq⟩
                      rw [← HT.out] at hq
                      have HQ := hideE hq
                      clear mv hq
                      go_wp2
                      go_roundg (len2 - (k + 1))
                      case measure => have := HK.out; omega
                      case rel => exact ⟨k + 1, _, rfl, HK.out.1, rfl, HQ.out, HK.out.2.2⟩
                    · have ht : tameB (ms2 k).2.2 = (ms2 k).2.2 := if_neg h7
                      rw [ht] at mv
                      have hne : ((pickN (ms2 k).2.2 8 : Int) == 7) = false := beq_eq_false_iff_ne.2 (by omega)
                      have HT := hideE ht
                      clear hp hk hkl hgn r1 r2 r3 hj4 h8 h7 ht hLb hNb
                      go_wp2_with fail
                      refine (pk8 _).mono ?_
                      rintro e wz ⟨rfl, rfl⟩
                      clear pk8
                      go_wp2_with fail
                      refine mv.mono ?_
                      rintro e wv ⟨rfl, hq⟩
                      rw [← HT.out] at hq
                      have HQ := hideE hq
                      clear mv hq
                      go_wp2
                      go_roundg (len2 - (k + 1))
                      case measure => have := HK.out; omega
                      case rel => exact ⟨k + 1, _, rfl, HK.out.1, rfl, HQ.out, HK.out.2.2⟩
                  · have ek : k = len2 := by omega
                    subst ek
                    have fn := hp.finish _ (stop_keeps ac first).toKeeps hj4 (by omega)
                    clear hp hk hkl hgn hj4 hLb hNb
                    go_wp2_with fail
                    refine fn.mono ?_
                    rintro e wf ⟨rfl, x5, hq, hj5, hat⟩
                    obtain ⟨sa, sc, d7, hl5, hrow⟩ := hq.row0
                    have hfm : first ≤ (x5.L 0).length := by
                      rw [hq.inv.1.len 0 (by omega)]
                      exact Nat.le_trans hj5.t (hq.inv.2.mt 0 (by omega)).1
                    have hlb : (x5.L 0).length ≤ 281000000000000 := by have := HL.out.2; have := HI.out.2.2.2; omega
                    obtain ⟨many, hmany⟩ : ∃ many, many = (x5.L 0).length := ⟨_, rfl⟩
                    rw [← hmany] at d7 hrow hfm hlb
                    have HR : Hid (∀ k, k < many → ∃ rb pb, sa = some ⟨rb, 0, none⟩ ∧ wf.cell? ⟨rb, k, none⟩ = some (.pointer (some ⟨pb, 0, none⟩)) ∧ ∃ kd at_ cd, wf.cell? ⟨pb, 2, none⟩ = some (.int .i64 kd) ∧ wf.cell? ⟨pb, 3, none⟩ = some (.int .i64 at_) ∧ wf.cell? ⟨pb, 14, none⟩ = some (.int .i64 cd) ∧ (first ≤ k → kd = 1 → at_ = (ac : Int) → cd = 10 ∨ cd = 9)) := fun k hk => by
                      obtain ⟨rb, pb, g, e1, e2, e3, e4⟩ := hrow k hk
                      refine ⟨rb, pb, e1, e2, g.kind, g.account, g.code, sc2 e4, sc3 e4, sc14 e4, fun hf hkd hac => ?_⟩
                      have hpp := hq.inv.1.pl 0 k g (by omega) e3
                      have htd := hat 0 k g (by omega) e3
                      obtain ⟨q1, q2⟩ := hpp.told htd
                      rw [q2]
                      exact hj5.new k g hf e3 q1 hkd hac
                    have HB := hideE hq.below
                    clear fn hq hj5 hat hrow hl5 hmany
                    go_wp2
                    generalize hWW : wf = WW at *
                    clear hWW
                    go_loopg [21] (many - first) (fun gn iv wr => ∃ j : Nat, iv = .int .i64 j ∧ first ≤ j ∧ j ≤ many ∧ gn = many - j ∧ WW = wr)
                    case atStart => exact ⟨first, rfl, Nat.le_refl _, hfm, rfl, rfl⟩
                    case round =>
                      obtain ⟨jj, rfl, hj1, hj2, hgn, rfl⟩ := hrel
                      by_cases hjm : jj < many
                      · obtain ⟨rb, pb, rfl, e1, kd, at_, cd, e2, e3, e4, e5⟩ := HR.out jj hjm
                        have z1 : (jj : Int) < (many : Int) := by omega
                        have HJJ := hideE (show first ≤ jj ∧ jj < many ∧ gk = many - jj from ⟨hj1, hjm, hgn⟩)
                        by_cases hkd : kd = 1
                        · by_cases hat : at_ = (ac : Int)
                          · rcases e5 hj1 hkd hat with hcd | hcd
                            all_goals
                              subst hkd hcd hat
                              clear hj1 hj2 hgn hjm e5
                              go_wp2
                              go_roundg (many - (jj + 1))
                              case measure => have := HJJ.out; omega
                              case rel => exact ⟨jj + 1, rfl, by have := HJJ.out; omega, HJJ.out.2.1, rfl, rfl⟩
                          · have hk' : (at_ == (ac : Int)) = false := beq_eq_false_iff_ne.2 hat
                            subst hkd
                            clear hj1 hj2 hgn hjm e5 hat
                            go_wp2
                            go_roundg (many - (jj + 1))
                            case measure => have := HJJ.out; omega
                            case rel => exact ⟨jj + 1, rfl, by have := HJJ.out; omega, HJJ.out.2.1, rfl, rfl⟩
                        · have hk' : (kd == 1) = false := beq_eq_false_iff_ne.2 hkd
                          clear hj1 hj2 hgn hjm e5 hkd
                          go_wp2
                          go_roundg (many - (jj + 1))
                          case measure => have := HJJ.out; omega
                          case rel => exact ⟨jj + 1, rfl, by have := HJJ.out; omega, HJJ.out.2.1, rfl, rfl⟩
                      · have ej : jj = many := by omega
                        subst ej
                        clear hj1 hj2 hgn hjm
                        go_wp2
                        go_ret
                        exact ⟨rfl, HB.out⟩
              · have j1 : ¬ (j : Int) < (U : Int) := by omega
                clear hp hkl ht hn3 hgo hj hgn hkm hmt htn hst hJ0 hfirst hcond hjU
                go_wp2
                go_loopg [18] len2 (fun gn iv wq => ∃ (k : Nat) (x4 : Gm), iv = .int .i64 k ∧ k ≤ len2 ∧ gn = len2 - k ∧ Play w xb x4 (N + 274 + 18 * k) wq ∧ Stop4 ac first x4)
                case atStart => exact ⟨0, x3, rfl, Nat.zero_le _, rfl, HSJ.out.1, HSJ.out.2⟩
                case round =>
                  obtain ⟨k, x4, rfl, hk, hgn, hp, hj4⟩ := hrel
                  have hLb := HL.out.2
                  have hNb := HI.out.2.2.2
                  by_cases hkl : k < len2
                  · have k1 : (k : Int) < (len2 : Int) := by omega
                    have k2 : (k : Int) ≤ 5864062014634 := by omega
                    obtain ⟨b, off, rfl, e1, e2, e3, r1, r2, r3⟩ := (HM2.out.keep hp.keep (fun _ _ => trivial)).get k hkl
                    have pk8 := fun W => pick_any (ms2 k).2.2 8 W (by omega) (by omega) r3.1 r3.2
                    have h8 : pickN (ms2 k).2.2 8 < 8 := pickN_lt _ _ (by omega)
                    have mv := (hp.alloc (.cells #[.int .i64 (ms2 k).1, .int .i64 (ms2 k).2.1, .int .i64 (tameB (ms2 k).2.2)] 27)).moves (by omega) ((ms2 k).1, (ms2 k).2.1, tameB (ms2 k).2.2) r1 r2 (tame_ok r3)
                    have HK := hideE (show k < len2 ∧ gk = len2 - k ∧ Stop4 ac first (movesG x4 (ms2 k).1 (ms2 k).2.1 (tameB (ms2 k).2.2)) from ⟨hkl, hgn, moves_J (stop_keeps ac first) hp.inv.1 hp.inv.2 hj4 _ _ _ (tame_lane _)⟩)
                    by_cases h7 : pickN (ms2 k).2.2 8 = 7
                    · have ht : tameB (ms2 k).2.2 = 0 := if_pos h7
                      rw [ht] at mv
                      have pk9 : ∀ W, Calls Try.prog 18 #[.int .i64 (ms2 k).2.2, .int .i64 8] W fun e w' => e = .returned (.int .i64 7) ∧ W = w' := fun W => by have := pk8 W; rw [h7] at this; exact this
                      have HT := hideE ht
                      clear hp hk hkl hgn r1 r2 r3 hj4 pk8 h8 h7 ht hLb hNb
                      go_wp2_with fail
                      refine (pk9 _).mono ?_
                      rintro e wz ⟨rfl, rfl⟩
                      clear pk9
                      go_wp2_with fail
                      refine mv.mono ?_
                      rintro e wv ⟨rfl, hq⟩
                      rw [← HT.out] at hq
                      have HQ := hideE hq
                      clear mv hq
                      go_wp2
                      go_roundg (len2 - (k + 1))
                      case measure => have := HK.out; omega
                      case rel => exact ⟨k + 1, _, rfl, HK.out.1, rfl, HQ.out, HK.out.2.2⟩
                    · have ht : tameB (ms2 k).2.2 = (ms2 k).2.2 := if_neg h7
                      rw [ht] at mv
                      have hne : ((pickN (ms2 k).2.2 8 : Int) == 7) = false := beq_eq_false_iff_ne.2 (by omega)
                      have HT := hideE ht
                      clear hp hk hkl hgn r1 r2 r3 hj4 h8 h7 ht hLb hNb
                      go_wp2_with fail
                      refine (pk8 _).mono ?_
                      rintro e wz ⟨rfl, rfl⟩
                      clear pk8
                      go_wp2_with fail
                      refine mv.mono ?_
                      rintro e wv ⟨rfl, hq⟩
                      rw [← HT.out] at hq
                      have HQ := hideE hq
                      clear mv hq
                      go_wp2
                      go_roundg (len2 - (k + 1))
                      case measure => have := HK.out; omega
                      case rel => exact ⟨k + 1, _, rfl, HK.out.1, rfl, HQ.out, HK.out.2.2⟩
                  · have ek : k = len2 := by omega
                    subst ek
                    have fn := hp.finish _ (stop_keeps ac first).toKeeps hj4 (by omega)
                    clear hp hk hkl hgn hj4 hLb hNb
                    go_wp2_with fail
                    refine fn.mono ?_
                    rintro e wf ⟨rfl, x5, hq, hj5, hat⟩
                    obtain ⟨sa, sc, d7, hl5, hrow⟩ := hq.row0
                    have hfm : first ≤ (x5.L 0).length := by
                      rw [hq.inv.1.len 0 (by omega)]
                      exact Nat.le_trans hj5.t (hq.inv.2.mt 0 (by omega)).1
                    have hlb : (x5.L 0).length ≤ 281000000000000 := by have := HL.out.2; have := HI.out.2.2.2; omega
                    obtain ⟨many, hmany⟩ : ∃ many, many = (x5.L 0).length := ⟨_, rfl⟩
                    rw [← hmany] at d7 hrow hfm hlb
                    have HR : Hid (∀ k, k < many → ∃ rb pb, sa = some ⟨rb, 0, none⟩ ∧ wf.cell? ⟨rb, k, none⟩ = some (.pointer (some ⟨pb, 0, none⟩)) ∧ ∃ kd at_ cd, wf.cell? ⟨pb, 2, none⟩ = some (.int .i64 kd) ∧ wf.cell? ⟨pb, 3, none⟩ = some (.int .i64 at_) ∧ wf.cell? ⟨pb, 14, none⟩ = some (.int .i64 cd) ∧ (first ≤ k → kd = 1 → at_ = (ac : Int) → cd = 10 ∨ cd = 9)) := fun k hk => by
                      obtain ⟨rb, pb, g, e1, e2, e3, e4⟩ := hrow k hk
                      refine ⟨rb, pb, e1, e2, g.kind, g.account, g.code, sc2 e4, sc3 e4, sc14 e4, fun hf hkd hac => ?_⟩
                      have hpp := hq.inv.1.pl 0 k g (by omega) e3
                      have htd := hat 0 k g (by omega) e3
                      obtain ⟨q1, q2⟩ := hpp.told htd
                      rw [q2]
                      exact hj5.new k g hf e3 q1 hkd hac
                    have HB := hideE hq.below
                    clear fn hq hj5 hat hrow hl5 hmany
                    go_wp2
                    generalize hWW : wf = WW at *
                    clear hWW
                    go_loopg [21] (many - first) (fun gn iv wr => ∃ j : Nat, iv = .int .i64 j ∧ first ≤ j ∧ j ≤ many ∧ gn = many - j ∧ WW = wr)
                    case atStart => exact ⟨first, rfl, Nat.le_refl _, hfm, rfl, rfl⟩
                    case round =>
                      obtain ⟨jj, rfl, hj1, hj2, hgn, rfl⟩ := hrel
                      by_cases hjm : jj < many
                      · obtain ⟨rb, pb, rfl, e1, kd, at_, cd, e2, e3, e4, e5⟩ := HR.out jj hjm
                        have z1 : (jj : Int) < (many : Int) := by omega
                        have HJJ := hideE (show first ≤ jj ∧ jj < many ∧ gk = many - jj from ⟨hj1, hjm, hgn⟩)
                        by_cases hkd : kd = 1
                        · by_cases hat : at_ = (ac : Int)
                          · rcases e5 hj1 hkd hat with hcd | hcd
                            all_goals
                              subst hkd hcd hat
                              clear hj1 hj2 hgn hjm e5
                              go_wp2
                              go_roundg (many - (jj + 1))
                              case measure => have := HJJ.out; omega
                              case rel => exact ⟨jj + 1, rfl, by have := HJJ.out; omega, HJJ.out.2.1, rfl, rfl⟩
                          · have hk' : (at_ == (ac : Int)) = false := beq_eq_false_iff_ne.2 hat
                            subst hkd
                            clear hj1 hj2 hgn hjm e5 hat
                            go_wp2
                            go_roundg (many - (jj + 1))
                            case measure => have := HJJ.out; omega
                            case rel => exact ⟨jj + 1, rfl, by have := HJJ.out; omega, HJJ.out.2.1, rfl, rfl⟩
                        · have hk' : (kd == 1) = false := beq_eq_false_iff_ne.2 hkd
                          clear hj1 hj2 hgn hjm e5 hkd
                          go_wp2
                          go_roundg (many - (jj + 1))
                          case measure => have := HJJ.out; omega
                          case rel => exact ⟨jj + 1, rfl, by have := HJJ.out; omega, HJJ.out.2.1, rfl, rfl⟩
                      · have ej : jj = many := by omega
                        subst ej
                        clear hj1 hj2 hgn hjm
                        go_wp2
                        go_ret
                        exact ⟨rfl, HB.out⟩

end Go.Proofs.Ytjhifhoniimfgaa

