import Derived.Test.YtjhifhoniimfgaaG45
import Derived.Test.YtjhifhoniimfgaaG42
import Derived.Test.YtjhifhoniimfgaaG41
import Derived.BigRegion
/-
  The law Alike, walked.
-/
namespace Go.Proofs.Ytjhifhoniimfgaa
open Go.RowKit

theorem IntsAt.keep {w w' : World} {a : Option Addr} {len : Nat} {ls : Nat → Int} (h : IntsAt w a len ls) (hk : Keep (fun _ => True) w w') : IntsAt w' a len ls := by
  rcases h with h | ⟨b, off, rfl, hb, h⟩
  · exact .inl h
  · have e : ∀ i, w'.cell? ⟨b, i, none⟩ = w.cell? ⟨b, i, none⟩ := fun i => World.cell?_of_block (w := w) (hk.block b hb trivial)
    refine .inr ⟨b, off, rfl, Nat.lt_of_lt_of_le hb hk.size, fun k hk => ?_⟩
    rw [e]
    exact h k hk

theorem IntsAt.get {w : World} {a : Option Addr} {len : Nat} {ls : Nat → Int} (h : IntsAt w a len ls) (k : Nat) (hk : k < len) : ∃ b off, a = some ⟨b, off, none⟩ ∧ w.cell? ⟨b, off + k, none⟩ = some (.int .i64 (ls k)) ∧ i64B (ls k) := by
  rcases h with h | ⟨b, off, rfl, hb, h⟩
  · omega
  · exact ⟨b, off, rfl, h k hk⟩

/-- Two games side by side. -/
structure Duo (w0 : World) (xb yb : Nat) (x y : Gm) (N M : Nat) (w : World) : Prop where
  at_ : ∃ ox oy, GAt ox 200 w xb x N ∧ GAt oy 200 w yb y M ∧ (∀ b, b < w.heap.size → OutG ox 200 b ∨ OutG oy 200 b) ∧ (∀ b, b < w0.heap.size → OutG ox 200 b ∧ OutG oy 200 b)
  keep : Keep (fun _ => True) w0 w

theorem outG_not {own : Nat → Nat} {T b : Nat} (h : T ≤ own b) (h2 : own b < T + 102) : ¬ OutG own T b := by unfold OutG; omega

section
variable {w0 : World} {xb yb : Nat} {x y : Gm} {N M : Nat} {w : World}

theorem Duo.callX (h : Duo w0 xb yb x y N M w) {F : Nat} {args : Array Value} {r : Value} {x' : Gm} {N' : Nat} (hc : ∀ own, GAt own 200 w xb x N → Calls Try.prog F args w fun e w' => e = .returned r ∧ GGo own 200 w xb x' N' w') :
    Calls Try.prog F args w fun e w' => e = .returned r ∧ Duo w0 xb yb x' y N' M w' := by
  obtain ⟨ox, oy, hx, hy, hd, h0⟩ := h.at_
  refine (hc ox hx).mono ?_
  rintro e w' ⟨rfl, ox', g1, g2, g3⟩
  refine ⟨rfl, ⟨ox', ext oy w.heap.size 0, g1, hy.keep g3 (fun b hb q1 q2 => ?_) (Same.ext oy w 0), fun b hb => ?_, fun b hb => ?_⟩, h.keep.trans' g3 (fun b hb _ => (h0 b hb).1)⟩
  · rcases hd b hb with q | q
    · exact q
    · exact absurd q (outG_not q1 q2)
  · by_cases hbw : b < w.heap.size
    · rcases hd b hbw with q | q
      · exact .inl (g2 b hbw q)
      · exact .inr ((Same.ext oy w 0).outG 200 b hbw q)
    · right
      unfold OutG
      rw [ext_ge (by omega)]
      omega
  · have hbw := Nat.lt_of_lt_of_le hb h.keep.size
    exact ⟨g2 b hbw (h0 b hb).1, (Same.ext oy w 0).outG 200 b hbw (h0 b hb).2⟩

theorem Duo.swap (h : Duo w0 xb yb x y N M w) : Duo w0 yb xb y x M N w := by
  obtain ⟨ox, oy, hx, hy, hd, h0⟩ := h.at_
  exact ⟨⟨oy, ox, hy, hx, fun b hb => (hd b hb).symm, fun b hb => ⟨(h0 b hb).2, (h0 b hb).1⟩⟩, h.keep⟩

theorem Duo.callY (h : Duo w0 xb yb x y N M w) {F : Nat} {args : Array Value} {r : Value} {y' : Gm} {M' : Nat} (hc : ∀ own, GAt own 200 w yb y M → Calls Try.prog F args w fun e w' => e = .returned r ∧ GGo own 200 w yb y' M' w') :
    Calls Try.prog F args w fun e w' => e = .returned r ∧ Duo w0 xb yb x y' N M' w' := by
  refine (h.swap.callX hc).mono ?_
  rintro e w' ⟨rfl, q⟩
  exact ⟨rfl, q.swap⟩

theorem Duo.play (h : Duo w0 xb yb x y N M w) : Play w0 xb x N w ∧ Play w0 yb y M w := by
  obtain ⟨ox, oy, hx, hy, hd, h0⟩ := h.at_
  exact ⟨⟨⟨ox, hx, fun b hb => (h0 b hb).1⟩, h.keep⟩, ⟨⟨oy, hy, fun b hb => (h0 b hb).2⟩, h.keep⟩⟩

theorem Duo.more (h : Duo w0 xb yb x y N M w) {N' M' : Nat} (h1 : N ≤ N') (h2 : M ≤ M') : Duo w0 xb yb x y N' M' w := by
  obtain ⟨ox, oy, hx, hy, hd, h0⟩ := h.at_
  exact ⟨⟨ox, oy, hx.more h1, hy.more h2, hd, h0⟩, h.keep⟩

theorem Play.c2 (h : Play w0 xb x N w) : w.cell? ⟨xb, 2, none⟩ = some (.int .i64 (x.s.n 0)) := by
  obtain ⟨own, ⟨B, X, st0, st1, hm, rfl⟩, _⟩ := h.at_
  exact hm.at_.c2

end

theorem duo_begun (raw : Int) (h : i64B raw) (w0 w : World) (xb : Nat) (x : Gm) (N : Nat) (hp : Play w0 xb x N w) :
    Calls Try.prog 8 #[.int .i64 raw] w fun e w' => ∃ yb, e = .returned (.pointer (some ⟨yb, 0, none⟩)) ∧ Duo w0 xb yb x (begG (pickN raw 1073741824)) N 4 w' := by
  obtain ⟨ox, hx, h0⟩ := hp.at_
  refine (g_begun raw h.1 h.2 w).mono ?_
  rintro e w' ⟨yb, oy, rfl, h1, h2, _, h4⟩
  refine ⟨yb, rfl, ⟨ext ox w.heap.size 0, oy, hx.keep h2 (fun _ _ _ _ => trivial) (Same.ext ox w 0), h1, fun b hb => ?_, fun b hb => ?_⟩, hp.keep.trans' h2 (fun _ _ _ => trivial)⟩
  · by_cases hbw : b < w.heap.size
    · exact .inr (h4 b hbw)
    · left
      unfold OutG
      rw [ext_ge (by omega)]
      omega
  · have hbw := Nat.lt_of_lt_of_le hb hp.keep.size
    exact ⟨(Same.ext ox w 0).outG 200 b hbw (h0 b hb), h4 b hbw⟩

set_option maxHeartbeats 400000 in
theorem bytes_walk (xb : Nat) (p : Nat) (b off len cap : Nat) (at_ : Int) (v : Int) (w : World) (hp : 1 ≤ p ∧ p ≤ len) (hl : len ≤ 17592186043904) (hc : w.cell? ⟨b, off + (p - 1), none⟩ = some (.int .i64 v)) (hv : i64B v) :
    Calls Try.prog 26 #[.pointer (some ⟨xb, 0, none⟩), .int .i64 p, .slice (some ⟨b, off, none⟩) len cap, .int .i64 at_] w fun e w' => e = .returned (.int .i64 (v.tdiv 8)) ∧ w = w' := by
  obtain ⟨q, rfl⟩ : ∃ q, p = q + 1 := ⟨p - 1, by omega⟩
  have hc : w.cell? ⟨b, off + q, none⟩ = some (.int .i64 v) := hc
  obtain ⟨t1, t2⟩ := tdiv8 hv.1 hv.2
  have hwr : IntKind.i64.wrap (v.tdiv 8) = v.tdiv 8 := by rw [IntKind.wrap_i64]; omega
  have l1 : (q : Int) < (len : Int) := by omega
  have l2 : (q : Int) ≤ 17592186043904 := by omega
  have hq : ((q + 1 : Nat) : Int) = (q : Int) + 1 := by omega
  rw [hq]
  clear hp hl hv t1 t2 hq
  go_enter Try.func26, Try.ntmps26
  go_wp2
  go_ret
  exact ⟨rfl, rfl⟩


theorem keep_cell {w w' : World} {p : Addr} {v : Value} (hk : Keep (fun _ => True) w w') (h : w.cell? p = some v) : w'.cell? p = some v := by
  rw [World.cell?_of_block (w := w) (hk.block p.block (World.block_lt_of_cell? w _ h) trivial)]
  exact h

theorem holesF_all : ∀ (l : List Snt) (k : Nat), (∀ g, g ∈ l → g.filled = false) → (holesF k l).length = l.length
  | [], _, _ => rfl
  | g :: r, k, h => by
    rw [holesF, if_pos (h g (.head _)), List.length_cons, holesF_all r (k + 1) (fun y hy => h y (.tail _ hy)), List.length_cons]

theorem holeG_any {x : Gm} {i : Nat} (a : Int) (h : 0 < (holesG x i).length) : ∃ k, holeG x i a = some k := by
  unfold holeG
  exact ⟨_, List.getElem?_eq_getElem (pickN_lt a _ h)⟩

/-- A game that stands at a frame: m places are claimed, t taken. -/
structure Sd (n : Nat) (fr : Nat → Int) (x : Gm) (m t : Nat) : Prop where
  al : Al n fr x
  q : Quiet x
  m : x.s.m 0 = m
  t : x.s.t 0 = t

theorem sd_claim {n : Nat} {fr : Nat → Int} {x : Gm} {m t N : Nat} (h : Sd n fr x m t) (hi : GInv x) (ho : Ok x.s N) (c : Nat) : Sd n fr (claimG x c 0) (m + 1) t := by
  obtain ⟨q1, q2⟩ := al_claim h.al h.q hi ho c
  refine ⟨q1, q2, ?_, h.t⟩
  show upN x.s.m 0 (x.s.m 0 + 1) 0 = m + 1
  rw [upN_same, h.m]

theorem sd_may {n : Nat} {fr : Nat → Int} {x : Gm} {m t : Nat} (h : Sd n fr x m t) (hm : m < t + x.s.n 0) : mayClaim x 0 = true := by
  unfold mayClaim
  rw [h.al.shut, h.m, h.t]
  simp
  exact hm

/-- Ahead of the core's step nothing is longer than it may be. -/
theorem sd_szx {n : Nat} {fr : Nat → Int} {x : Gm} {j N M : Nat} (h : Sd n fr x (j + 1) (j + 1)) (hi : GInv x) (ho : Ok x.s N) (x1 x2 : Gm) (h1 : x1 = claimG x (cOf fr j) 0) (h2 : x2 = fillG x1 0 (j + 1) (nOf fr j) (Snt.new (cOf fr j) (0 : Nat)))
    (i1 : GInv x1) (i2 : GInv x2) (o2 : Ok x2.s M) : Sz x2.s := by
  have hl : (x.L 0).length = j + 1 := by rw [hi.len 0 (by omega), h.m]
  have s1 := sd_claim h hi ho (cOf fr j)
  rw [← h1] at s1
  have g1 : (x1.L 0)[j + 1]? = some (Snt.new (cOf fr j) (0 : Nat)) := by
    have := new_at x (cOf fr j) 0
    rw [hl, ← h1] at this
    exact this
  obtain ⟨a2, q2⟩ := al_fill s1.al s1.q i1 j _ g1 rfl (by rw [s1.t]; omega)
  rw [← h2] at a2
  exact al_sz a2 i2 o2

/-- The first game takes one frame. -/
theorem sd_x {n : Nat} {fr : Nat → Int} {x : Gm} {j N M : Nat} (h : Sd n fr x (j + 1) (j + 1)) (hi : GInv x) (ho : Ok x.s N) (x1 x2 x3 : Gm) (h1 : x1 = claimG x (cOf fr j) 0) (h2 : x2 = fillG x1 0 (j + 1) (nOf fr j) (Snt.new (cOf fr j) (0 : Nat))) (h3 : x3 = coreG x2) (i1 : GInv x1) (i2 : GInv x2) (o2 : Ok x2.s M) :
    Sd n fr (pollG x3 (cOf fr j)) (j + 2) (j + 2) := by
  have hc3 : cOf fr j < 3 := pickN_lt _ _ (by omega)
  have hl : (x.L 0).length = j + 1 := by rw [hi.len 0 (by omega), h.m]
  have s1 := sd_claim h hi ho (cOf fr j)
  rw [← h1] at s1
  have g1 : (x1.L 0)[j + 1]? = some (Snt.new (cOf fr j) (0 : Nat)) := by
    have := new_at x (cOf fr j) 0
    rw [hl, ← h1] at this
    exact this
  obtain ⟨a2, q2⟩ := al_fill s1.al s1.q i1 j _ g1 rfl (by rw [s1.t]; omega)
  rw [← h2] at a2 q2
  have g2 : (x2.L 0)[j + 1]? = some (saidK (Snt.new (cOf fr j) (0 : Nat)) (nOf fr j)).1 := by
    rw [h2]
    show (upN x1.L 0 ((x1.L 0).set (j + 1) _) 0)[j + 1]? = _
    rw [upN_same, List.getElem?_set_self (List.getElem?_eq_some_iff.1 g1).1]
  have t2 : x2.s.t 0 = j + 1 := by rw [h2]; exact s1.t
  have m2 : x2.s.m 0 = j + 2 := by rw [h2]; exact s1.m
  have fl := saidK_flags (Snt.new (cOf fr j) (0 : Nat)) (nOf fr j)
  obtain ⟨a3, b3, c3, d3, e3, _⟩ := al_core a2 q2 i2 o2 j t2 _ g2 fl.2.2.1
  rw [← h3] at a3 b3 c3 d3 e3
  have hcl : (saidK (Snt.new (cOf fr j) (0 : Nat)) (nOf fr j)).1.client.toNat = cOf fr j := by
    rw [fl.1]
    show ((cOf fr j : Nat) : Int).toNat = _
    exact Int.toNat_natCast _
  rw [hcl] at d3 e3
  obtain ⟨a4, b4, c4⟩ := al_poll a3 (cOf fr j)
  obtain ⟨r1, r2, _⟩ := poll_rings x3 (cOf fr j)
  refine ⟨a4, fun d hd => ?_, by rw [c4, c3]; exact m2, by rw [b4]; exact b3⟩
  by_cases e : d = cOf fr j
  · subst e
    rw [r1]
    exact List.eq_nil_of_length_eq_zero (by rw [List.length_tail]; omega)
  · rw [r2 d e, d3 d e]
    exact q2 d hd

set_option maxRecDepth 100000 in
set_option maxHeartbeats 4000000 in
theorem alike_walk (raw : Int) (hraw : i64B raw) (a : Option Addr) (len cap : Nat) (fr : Nat → Int) (a2 : Option Addr) (len2 cap2 : Nat) (tn : Nat → Int) (w : World) (hm : IntsAt w a len fr) (hl : len ≤ 17592186043904) (hm2 : IntsAt w a2 len2 tn) (hl2 : len2 ≤ 17592186043904) :
    Calls Try.prog 7 #[.int .i64 raw, .slice a len cap, .slice a2 len2 cap2] w fun e w' => e = .returned (.bool true) ∧ Below w.heap.size w w' := by
  have bg := play_begun raw hraw w
  have bg2 := fun xb x N w1 hp => duo_begun raw hraw w w1 xb x N hp
  obtain ⟨n, hn⟩ : ∃ n, n = pickN raw 1073741824 := ⟨_, rfl⟩
  rw [← hn] at bg bg2
  have HM := hideE hm
  have HM2 := hideE hm2
  have HBG2 := hideE bg2
  clear hm hraw hm2 bg2 hn
  go_enter Try.func7, Try.ntmps7
  go_wp2_with fail
  refine bg.mono ?_
  rintro e w1 ⟨xb, rfl, hp⟩
  have b2 := HBG2.out xb _ _ _ hp
  clear bg hp
  go_wp2_with fail
  refine b2.mono ?_
  rintro e w2 ⟨yb, rfl, hd⟩
  have HD := hideE hd
  clear b2 hd
  obtain ⟨U, hU⟩ : ∃ U, U = (begG n).s.n 0 := ⟨_, rfl⟩
  have HU := hideE (show U = (begG n).s.n 0 ∧ 2 ≤ U ∧ U ≤ 16 from ⟨hU, by rw [hU]; exact pow_pos' ((beg_ok n).n 0 (by omega))⟩)
  clear hU
  go_wp2
  go_loopg [9] len (fun gn iv wr => ∃ (at_ : Nat) (x y : Gm), iv = .int .i64 at_ ∧ at_ ≤ len ∧ gn = len - at_ ∧ Duo w xb yb x y (4 + 34 * at_) (4 + 36 * at_) wr ∧ Sd n fr x (at_ + 1) (at_ + 1) ∧ Sd n fr y (at_ + 1) (at_ + 1))
  case atStart =>
    obtain ⟨q1, q2, q3, q4⟩ := beg_al n fr
    exact ⟨0, _, _, rfl, Nat.zero_le _, rfl, HD.out, ⟨q1, q2, q3, q4⟩, ⟨q1, q2, q3, q4⟩⟩
  case round =>
    obtain ⟨at_, x, y, rfl, hat, hgn, hd, hx, hy⟩ := hrel
    by_cases hal : at_ < len
    · have a1 : (at_ : Int) < (len : Int) := by omega
      have c2 := hd.play.1.c2
      rw [hx.al.sz, ← HU.out.1] at c2
      have hU16 := HU.out.2
      obtain ⟨gk_o, hgo⟩ : ∃ g0, g0 = gk := ⟨_, rfl⟩
      rw [← hgo] at hgn
      have HO := hideE (show Duo w xb yb x y (4 + 34 * at_) (4 + 36 * at_) wr ∧ Sd n fr x (at_ + 1) (at_ + 1) ∧ Sd n fr y (at_ + 1) (at_ + 1) ∧ at_ < len ∧ gk_o = len - at_ from ⟨hd, hx, hy, hal, hgn⟩)
      have HGO := hideE hgo
      by_cases hcase : len - at_ < U
      · obtain ⟨n1, hn1⟩ : ∃ n1, n1 = len - at_ := ⟨_, rfl⟩
        have HN1 := hideE (show 1 ≤ n1 ∧ n1 ≤ U ∧ n1 ≤ len - at_ from by omega)
        have h1 : (len : Int) - (at_ : Int) = (n1 : Int) := by omega
        have h2 : (n1 : Int) < (U : Int) := by omega
        clear hat hgn hd hx hy hal hcase hn1 hgo
        have hn16 : n1 ≤ 16 := by have := HN1.out; omega
        have hlenb : len ≤ 17592186043904 := hl
        clear hU16
        go_wp2
        clear c2 h1
        go_loopg [11] n1 (fun gn iv wq => ∃ (i : Nat) (x1 y1 : Gm), iv = .int .i64 i ∧ i ≤ n1 ∧ gn = n1 - i ∧ Duo w xb yb x1 y1 (4 + 34 * (at_ + i)) (4 + 36 * at_ + 16 * i) wq ∧ Sd n fr x1 (at_ + i + 1) (at_ + i + 1) ∧ Sd n fr y1 (at_ + i + 1) (at_ + 1) ∧ ∀ (k : Nat) (g : Snt), at_ + 1 ≤ k → (y1.L 0)[k]? = some g → g.filled = false)
        case atStart =>
          refine ⟨0, x, y, rfl, Nat.zero_le _, rfl, HO.out.1.more (by omega) (by omega), HO.out.2.1, HO.out.2.2.1, fun k g hk hg => ?_⟩
          have := HO.out.1.play.2.inv.1.lt (i := 0) (by omega) hg
          have := HO.out.2.2.1.m
          omega
        case round =>
          obtain ⟨i, x1, y1, rfl, hi, hgn, hd, hx1, hy1, hun⟩ := hrel
          by_cases hin : i < n1
          · have i1 : (i : Int) < (n1 : Int) := by omega
            have i2 : (i : Int) ≤ 16 := by omega
            have hj : at_ + i < len := by have := HN1.out; omega
            obtain ⟨b, off, rfl, e1, r1⟩ := (HM.out.keep hd.keep).get (at_ + i) hj
            have hidx : (at_ : Int) + (i : Int) = ((at_ + i : Nat) : Int) := by omega
            have hlt : ((at_ + i : Nat) : Int) < (len : Int) := by omega
            have pk := fun W => pick_any (fr (at_ + i)) 3 W (by omega) (by omega) r1.1 r1.2
            obtain ⟨t1, t2⟩ := tdiv8 r1.1 r1.2
            obtain ⟨j, hjj⟩ : ∃ j, j = at_ + i := ⟨_, rfl⟩
            have hc3 : cOf fr j < 3 := pickN_lt _ _ (by omega)
            rw [← hjj] at e1 hidx hlt pk hx1 hj r1 t1 t2
            have pk' : ∀ W, Calls Try.prog 18 #[.int .i64 (fr j), .int .i64 3] W fun e w' => e = .returned (.int .i64 (cOf fr j)) ∧ W = w' := pk
            obtain ⟨ix, ox⟩ := hd.play.1.inv
            obtain ⟨iy, oy⟩ := hd.play.2.inv
            have hszx : x1.s.n 0 = U := by rw [hx1.al.sz]; exact HU.out.1.symm
            have hszy : y1.s.n 0 = U := by rw [hy1.al.sz]; exact HU.out.1.symm
            have hlx : (x1.L 0).length = j + 1 := by rw [ix.len 0 (by omega), hx1.m]
            have hmx := sd_may hx1 (by have := HU.out; omega)
            have hmy := sd_may hy1 (by have := HN1.out; rw [hszy]; omega)
            have HI := hideE (show i < n1 ∧ gk = n1 - i ∧ j = at_ + i ∧ Sd n fr x1 (j + 1) (j + 1) ∧ Sd n fr y1 (at_ + i + 1) (at_ + 1) ∧ (∀ (k : Nat) (g : Snt), at_ + 1 ≤ k → (y1.L 0)[k]? = some g → g.filled = false) ∧ GInv x1 ∧ Ok x1.s (4 + 34 * (at_ + i)) ∧ GInv y1 ∧ Ok y1.s (4 + 36 * at_ + 16 * i) ∧ mayClaim y1 0 = true ∧ -9223372036854775808 ≤ (fr j).tdiv 8 ∧ (fr j).tdiv 8 ≤ 9223372036854775807 ∧ j < len from ⟨hin, hgn, hjj, hx1, hy1, hun, ix, ox, iy, oy, hmy, t1, t2, hj⟩)
            have cx := hd.callX (fun own hG => g_claim_yesS hG (by omega) (cOf fr j) 0 hc3 (by omega) hmx (by rw [hlx]; omega))
            rw [hlx] at cx
            have hwr : IntKind.i64.wrap ((fr j).tdiv 8) = (fr j).tdiv 8 := by rw [IntKind.wrap_i64]; omega
            clear hd hx1 hy1 hun hgn hin hi hj pk ix ox iy oy hszx hszy hlx hmx hmy hjj r1 t1 t2
            go_wp2_with fail
            refine (pk' _).mono ?_
            rintro e wz ⟨rfl, rfl⟩
            clear pk'
            go_wp2_with fail
            refine cx.mono ?_
            rintro e wa ⟨rfl, hd⟩
            obtain ⟨x2, hx2⟩ : ∃ x2, x2 = claimG x1 (cOf fr j) 0 := ⟨_, rfl⟩
            rw [← hx2] at hd
            obtain ⟨i2x, o2x⟩ := hd.play.1.inv
            have g2 : (x2.L 0)[j + 1]? = some (Snt.new (cOf fr j) (0 : Nat)) := by
              have hl := HI.out.2.2.2.2.2.2.1.len 0 (by omega)
              rw [HI.out.2.2.2.1.m] at hl
              have := new_at x1 (cOf fr j) 0
              rw [hl, ← hx2] at this
              exact this
            have ht2 : x2.s.t 0 ≤ j + 1 := by rw [hx2]; exact Nat.le_of_eq HI.out.2.2.2.1.t
            have fx := hd.callX (fun own hG => g_fillS hG (by have := HI.out; omega) 0 (j + 1) (by omega) (Snt.new (cOf fr j) (0 : Nat)) g2 rfl ht2 ((fr j).tdiv 8) HI.out.2.2.2.2.2.2.2.2.2.2.2.1 HI.out.2.2.2.2.2.2.2.2.2.2.2.2.1)
            have e2 := ((HM.out.keep hd.keep).get j HI.out.2.2.2.2.2.2.2.2.2.2.2.2.2)
            obtain ⟨b', off', eb, e2, _⟩ := e2
            simp only [Option.some.injEq, Addr.mk.injEq, and_true] at eb
            obtain ⟨rfl, rfl⟩ := eb
            have H2 := hideE (show x2 = claimG x1 (cOf fr j) 0 ∧ GInv x2 from ⟨hx2, i2x⟩)
            clear cx hd i2x o2x g2 ht2 hx2
            go_wp2_with fail
            refine fx.mono ?_
            rintro e wb ⟨rfl, hd⟩
            obtain ⟨x3, hx3⟩ : ∃ x3, x3 = fillG x2 0 (j + 1) (pickN ((fr j).tdiv 8) 1099511627776) (Snt.new (cOf fr j) (0 : Nat)) := ⟨_, rfl⟩
            rw [← hx3] at hd
            have H3 := hideE (show x3 = fillG x2 0 (j + 1) (nOf fr j) (Snt.new (cOf fr j) (0 : Nat)) ∧ GInv x3 ∧ Ok x3.s (4 + 34 * (at_ + i) + 17) from ⟨hx3, hd.play.1.inv.1, hd.play.1.inv.2.more (by omega)⟩)
            have hS := sd_szx HI.out.2.2.2.1 HI.out.2.2.2.2.2.2.1 HI.out.2.2.2.2.2.2.2.1 x2 x3 H2.out.1 H3.out.1 H2.out.2 H3.out.2.1 H3.out.2.2
            have kx := hd.callX (fun own hG => g_coreS hG (by omega) (by have := HI.out; omega) hS)
            clear fx hd hx3 e2 hS
            go_wp2_with fail
            refine kx.mono ?_
            rintro e wc ⟨rfl, hd⟩
            have px := hd.callX (fun own hG => g_pollS hG (by have := HI.out; omega) (cOf fr j) hc3)
            clear kx hd
            go_wp2_with fail
            refine px.mono ?_
            rintro e wd ⟨rfl, hd⟩
            have cy := hd.callY (fun own hG => g_claim_yesS hG (by have := HI.out; omega) (cOf fr j) 0 hc3 (by omega) HI.out.2.2.2.2.2.2.2.2.2.2.1 (by rw [HI.out.2.2.2.2.2.2.2.2.1.len 0 (by omega), HI.out.2.2.2.2.1.m]; have := HI.out; omega))
            clear px hd
            go_wp2_with fail
            refine cy.mono ?_
            rintro e we ⟨rfl, hd⟩
            have HD2 := hideE hd
            clear cy hd
            go_wp2
            go_roundg (n1 - (i + 1))
            case measure => have := HI.out; omega
            case rel =>
              obtain ⟨q1, q2, q3, q4, q5, q6, q7, q8, q9, q10, _⟩ := HI.out
              have sx := sd_x q4 q7 q8 x2 x3 (coreG x3) H2.out.1 H3.out.1 rfl H2.out.2 H3.out.2.1 H3.out.2.2
              have sy := sd_claim q5 q9 q10 (cOf fr j)
              refine ⟨i + 1, _, _, rfl, q1, rfl, HD2.out.more (by omega) (by omega), ?_, ?_, fun k g hk hg => ?_⟩
              · have ej : at_ + (i + 1) + 1 = j + 2 := by omega
                rw [ej]
                exact sx
              · exact sy
              · rcases claim_L0 k g hg with hg | ⟨_, _, rfl⟩
                · exact q6 k g hk hg
                · rfl
          · have ei : i = n1 := by omega
            subst ei
            have hholes : (holesG y1 0).length = i := by
              unfold holesG
              rw [holesF_all _ _ (fun g hg => by
                obtain ⟨m, hm⟩ := List.mem_iff_getElem?.1 hg
                rw [List.getElem?_drop] at hm
                exact hun _ g (by rw [hy1.t]; omega) hm), List.length_drop, hd.play.2.inv.1.len 0 (by omega), hy1.m, hy1.t]
              omega
            have HX := hideE (show Duo w xb yb x1 y1 (4 + 34 * (at_ + i)) (4 + 36 * at_ + 16 * i) wr ∧ Sd n fr x1 (at_ + i + 1) (at_ + i + 1) ∧ Sd n fr y1 (at_ + i + 1) (at_ + 1) ∧ (holesG y1 0).length = i from ⟨hd, hx1, hy1, hholes⟩)
            clear hi hgn hd hx1 hy1 hun hin hholes
            go_wp2
            go_loopg [14] i (fun gn kv wq => ∃ (k : Nat) (y2 : Gm), kv = .int .i64 k ∧ k ≤ i ∧ gn = i - k ∧ Duo w xb yb x1 y2 (4 + 34 * (at_ + i)) (4 + 36 * at_ + 16 * i + k) wq ∧ Sd n fr y2 (at_ + i + 1) (at_ + 1) ∧ (holesG y2 0).length = i - k)
            case atStart => exact ⟨0, y1, rfl, Nat.zero_le _, rfl, HX.out.1, HX.out.2.2.1, HX.out.2.2.2⟩
            case round =>
              obtain ⟨k, y2, rfl, hk, hgn, hd, hy2, hhl⟩ := hrel
              by_cases hki : k < i
              · have k1 : (k : Int) < (i : Int) := by omega
                have k2 : (k : Int) ≤ 16 := by omega
                by_cases hz : len2 = 0
                · obtain ⟨kk, hkk⟩ : ∃ kk : Int, kk = (k : Int) := ⟨_, rfl⟩
                  have hkb : i64B kk := ⟨by omega, by omega⟩
                  obtain ⟨p, hpp⟩ := holeG_any (x := y2) (i := 0) kk (by omega)
                  obtain ⟨g, g1, g2, g3⟩ := holeG_some hpp
                  obtain ⟨q, rfl⟩ : ∃ q, p = q + 1 := ⟨p - 1, by rw [hy2.t] at g3; omega⟩
                  have hqm := hd.play.2.inv.1.lt (i := 0) (by omega) g1
                  rw [hy2.m] at hqm
                  have hol := hd.callY (F := 15) (args := #[.pointer (some ⟨yb, 0, none⟩), .int .i64 0, .int .i64 kk]) (r := .int .i64 ((q + 1 : Nat) : Int)) (y' := y2) (M' := 4 + 36 * at_ + 16 * i + k) (fun own hG => by
                    refine (hole_walkS hG (by have := HN1.out; omega) 0 (by rw [hG.inv.len 0 (by omega), hy2.m]; have := HN1.out; omega) (.inl rfl) kk hkb.1 hkb.2).mono ?_
                    rintro e w' ⟨rfl, hb⟩
                    rw [hpp]
                    exact ⟨rfl, GGo.refl hG (Keep.ofBelow hb)⟩)
                  obtain ⟨sa, sq⟩ := al_fill hy2.al hy2.q hd.play.2.inv.1 q g g1 g2 g3
                  have hfh := fill_holes 0 (q + 1) (nOf fr q) g g1 g2 g3
                  have HS3 := hideE (show Sd n fr (fillG y2 0 (q + 1) (nOf fr q) g) (at_ + i + 1) (at_ + 1) ∧ (holesG (fillG y2 0 (q + 1) (nOf fr q) g) 0).length + 1 = (holesG y2 0).length from ⟨⟨sa, sq, hy2.m, hy2.t⟩, hfh⟩)
                  have HG := hideE (show (y2.L 0)[q + 1]? = some g ∧ g.filled = false ∧ y2.s.t 0 ≤ q + 1 from ⟨g1, g2, g3⟩)
                  have HK := hideE (show k < i ∧ gk = i - k ∧ (holesG y2 0).length = i - k ∧ q < len ∧ at_ < len ∧ i ≤ 16 ∧ len ≤ 17592186043904 from ⟨hki, hgn, hhl, by have := HN1.out; omega, by have := HO.out; omega, hn16, hlenb⟩)
                  clear hd hy2 hhl hgn hki hk g1 g2 g3 hpp hqm sa sq hfh
                  have z1 : ¬ (0 < (len2 : Int)) := by omega
                  rw [hkk] at hol
                  clear hz hkb hkk
                  go_wp2_with fail
                  refine hol.mono ?_
                  rintro e wa ⟨rfl, hd⟩
                  have hq := hd.play.2.inv
                  obtain ⟨b, off, rfl, ef, rf⟩ := (HM.out.keep hd.keep).get q (by have := HK.out; omega)
                  have by_ := bytes_walk yb (q + 1) b off len cap (at_ : Int) (fr q) wa (by have := HK.out; omega) hlenb ef rf
                  have t12 := tdiv8 rf.1 rf.2
                  have fy := hd.callY (fun own hG => g_fillS hG (by have := HK.out; omega) 0 (q + 1) (by omega) g HG.out.1 HG.out.2.1 HG.out.2.2 ((fr q).tdiv 8) t12.1 t12.2)
                  clear hol hd hq ef rf t12
                  go_wp2_with fail
                  refine by_.mono ?_
                  rintro e wb ⟨rfl, rfl⟩
                  clear by_
                  go_wp2_with fail
                  refine fy.mono ?_
                  rintro e wc ⟨rfl, hd⟩
                  have HD3 := hideE hd
                  clear fy hd
                  go_wp2
                  go_roundg (i - (k + 1))
                  case measure => have := HK.out; omega
                  case rel =>
                    have z9 : (holesG (fillG y2 0 (q + 1) (nOf fr q) g) 0).length + 1 = (holesG y2 0).length := HS3.out.2
                    have z8 := HK.out
                    exact ⟨k + 1, _, rfl, HK.out.1, rfl, HD3.out, HS3.out.1, (by show (holesG (fillG y2 0 (q + 1) (nOf fr q) g) 0).length = i - (k + 1); omega)⟩
                · obtain ⟨idx, hidx⟩ : ∃ idx, idx = (at_ + k) % len2 := ⟨_, rfl⟩
                  have hil : idx < len2 := by rw [hidx]; exact Nat.mod_lt _ (by omega)
                  obtain ⟨tb, to_, rfl, et, rt⟩ := (HM2.out.keep hd.keep).get idx hil
                  obtain ⟨kk, hkk⟩ : ∃ kk : Int, kk = tn idx := ⟨_, rfl⟩
                  rw [← hkk] at et rt
                  have hkb : i64B kk := rt
                  obtain ⟨p, hpp⟩ := holeG_any (x := y2) (i := 0) kk (by omega)
                  obtain ⟨g, g1, g2, g3⟩ := holeG_some hpp
                  obtain ⟨q, rfl⟩ : ∃ q, p = q + 1 := ⟨p - 1, by rw [hy2.t] at g3; omega⟩
                  have hqm := hd.play.2.inv.1.lt (i := 0) (by omega) g1
                  rw [hy2.m] at hqm
                  have hol := hd.callY (F := 15) (args := #[.pointer (some ⟨yb, 0, none⟩), .int .i64 0, .int .i64 kk]) (r := .int .i64 ((q + 1 : Nat) : Int)) (y' := y2) (M' := 4 + 36 * at_ + 16 * i + k) (fun own hG => by
                    refine (hole_walkS hG (by have := HN1.out; omega) 0 (by rw [hG.inv.len 0 (by omega), hy2.m]; have := HN1.out; omega) (.inl rfl) kk hkb.1 hkb.2).mono ?_
                    rintro e w' ⟨rfl, hb⟩
                    rw [hpp]
                    exact ⟨rfl, GGo.refl hG (Keep.ofBelow hb)⟩)
                  obtain ⟨sa, sq⟩ := al_fill hy2.al hy2.q hd.play.2.inv.1 q g g1 g2 g3
                  have hfh := fill_holes 0 (q + 1) (nOf fr q) g g1 g2 g3
                  have HS3 := hideE (show Sd n fr (fillG y2 0 (q + 1) (nOf fr q) g) (at_ + i + 1) (at_ + 1) ∧ (holesG (fillG y2 0 (q + 1) (nOf fr q) g) 0).length + 1 = (holesG y2 0).length from ⟨⟨sa, sq, hy2.m, hy2.t⟩, hfh⟩)
                  have HG := hideE (show (y2.L 0)[q + 1]? = some g ∧ g.filled = false ∧ y2.s.t 0 ≤ q + 1 from ⟨g1, g2, g3⟩)
                  have HK := hideE (show k < i ∧ gk = i - k ∧ (holesG y2 0).length = i - k ∧ q < len ∧ at_ < len ∧ i ≤ 16 ∧ len ≤ 17592186043904 from ⟨hki, hgn, hhl, by have := HN1.out; omega, by have := HO.out; omega, hn16, hlenb⟩)
                  clear hd hy2 hhl hgn hki hk g1 g2 g3 hpp hqm sa sq hfh
                  have z1 : 0 < (len2 : Int) := by omega
                  have z2 : ((at_ : Int) + (k : Int)) % (len2 : Int) = (idx : Int) := by rw [hidx]; rfl
                  have z3 : (idx : Int) < (len2 : Int) := by omega
                  have z4 : ((len2 : Int) == 0) = false := beq_eq_false_iff_ne.2 (by omega)
                  have z5 : (at_ : Int) ≤ 17592186043904 := by have := HK.out; omega
                  clear hz hkb hkk hidx hil rt
                  go_wp2_with fail
                  refine hol.mono ?_
                  rintro e wa ⟨rfl, hd⟩
                  have hq := hd.play.2.inv
                  obtain ⟨b, off, rfl, ef, rf⟩ := (HM.out.keep hd.keep).get q (by have := HK.out; omega)
                  have by_ := bytes_walk yb (q + 1) b off len cap (at_ : Int) (fr q) wa (by have := HK.out; omega) hlenb ef rf
                  have t12 := tdiv8 rf.1 rf.2
                  have fy := hd.callY (fun own hG => g_fillS hG (by have := HK.out; omega) 0 (q + 1) (by omega) g HG.out.1 HG.out.2.1 HG.out.2.2 ((fr q).tdiv 8) t12.1 t12.2)
                  clear hol hd hq ef rf t12
                  go_wp2_with fail
                  refine by_.mono ?_
                  rintro e wb ⟨rfl, rfl⟩
                  clear by_
                  go_wp2_with fail
                  refine fy.mono ?_
                  rintro e wc ⟨rfl, hd⟩
                  have HD3 := hideE hd
                  clear fy hd
                  go_wp2
                  go_roundg (i - (k + 1))
                  case measure => have := HK.out; omega
                  case rel =>
                    have z9 : (holesG (fillG y2 0 (q + 1) (nOf fr q) g) 0).length + 1 = (holesG y2 0).length := HS3.out.2
                    have z8 := HK.out
                    exact ⟨k + 1, _, rfl, HK.out.1, rfl, HD3.out, HS3.out.1, (by show (holesG (fillG y2 0 (q + 1) (nOf fr q) g) 0).length = i - (k + 1); omega)⟩
              · have ek : k = i := by omega
                subst ek
                have hfull : ∀ (j : Nat) (g : Snt), (y2.L 0)[j]? = some g → g.filled = true := by
                  intro j g hg
                  have hnil : holesG y2 0 = [] := List.eq_nil_of_length_eq_zero (by omega)
                  exact holes_done hd.play.2.inv.1 hd.play.2.inv.2 0 (by omega) (by unfold holeG; rw [hnil]; rfl) j g hg
                have HY := hideE (show Duo w xb yb x1 y2 (4 + 34 * (at_ + k)) (4 + 36 * at_ + 17 * k) wr ∧ Sd n fr y2 (at_ + k + 1) (at_ + 1) ∧ ∀ (j : Nat) (g : Snt), (y2.L 0)[j]? = some g → g.filled = true from ⟨hd.more (Nat.le_refl _) (by omega), hy2, hfull⟩)
                clear hk hgn hd hy2 hhl hki hfull
                go_wp2
                go_loopg [17] k (fun gn iv wq => ∃ (r : Nat) (y3 : Gm), iv = .int .i64 r ∧ r ≤ k ∧ gn = k - r ∧ Duo w xb yb x1 y3 (4 + 34 * (at_ + k)) (4 + 36 * at_ + 17 * k + 19 * r) wq ∧ Sd n fr y3 (at_ + k + 1) (at_ + r + 1) ∧ ∀ (j : Nat) (g : Snt), (y3.L 0)[j]? = some g → g.filled = true)
                case atStart => exact ⟨0, y2, rfl, Nat.zero_le _, rfl, HY.out.1, HY.out.2.1, HY.out.2.2⟩
                case round =>
                  obtain ⟨r, y3, rfl, hr, hgn, hd, hy3, hfull⟩ := hrel
                  by_cases hrk : r < k
                  · have r1 : (r : Int) < (k : Int) := by omega
                    have r2 : (r : Int) ≤ 16 := by omega
                    obtain ⟨iy, oy⟩ := hd.play.2.inv
                    have hlen3 : (y3.L 0).length = at_ + k + 1 := by rw [iy.len 0 (by omega), hy3.m]
                    have hgg := List.getElem?_eq_getElem (show at_ + r + 1 < (y3.L 0).length by omega)
                    generalize hgv : (y3.L 0)[at_ + r + 1] = g at hgg
                    obtain ⟨a1', a2', a3', a4', a5', a6'⟩ := al_core hy3.al hy3.q iy oy (at_ + r) hy3.t g hgg (hfull _ g hgg)
                    have hq3 := hy3.q
                    have co := hd.callY (fun own hG => g_coreS hG (by omega) (by have := HN1.out; have := HO.out; omega) (al_sz hy3.al iy oy))
                    obtain ⟨gk_r, hgr⟩ : ∃ g0, g0 = gk := ⟨_, rfl⟩
                    rw [← hgr] at hgn
                    have HGR := hideE hgr
                    have hm3 := hy3.m
                    obtain ⟨y4, hy4⟩ : ∃ y4, y4 = coreG y3 := ⟨_, rfl⟩
                    rw [← hy4] at a1' a2' a3' a4' a5' a6' co
                    have HR := hideE (show r < k ∧ gk_r = k - r ∧ Al n fr y4 ∧ y4.s.t 0 = at_ + r + 2 ∧ y4.s.m 0 = at_ + k + 1 ∧ (∀ d, d < 3 → (y4.s.ring d).length ≤ 1) ∧ (∀ (j : Nat) (g : Snt), (y4.L 0)[j]? = some g → g.filled = true) ∧ at_ < len ∧ k ≤ 16 ∧ len ≤ 17592186043904 from ⟨hrk, hgn, a1', a2', by rw [a3']; exact hm3, fun d hd3 => by
                      by_cases e : d = g.client.toNat
                      · rw [e]; exact a5'
                      · rw [a4' d e, hq3 d hd3]; simp, fun j z hz => by
                      obtain ⟨z0, e1, e2, _⟩ := a6' j z hz
                      rw [e2]; exact hfull j z0 e1, HO.out.2.2.2.1, hn16, hlenb⟩)
                    clear hd hy3 hfull hgn hr hrk iy oy hlen3 hgg hgv a1' a2' a3' a4' a5' a6' hq3 hgr hm3 hy4
                    go_wp2_with fail
                    refine co.mono ?_
                    rintro e wa ⟨rfl, hd⟩
                    have HD4 := hideE hd
                    clear co hd
                    go_wp2
                    go_loopg [18] 3 (fun gn cv wq => ∃ (c : Nat) (y5 : Gm), cv = .int .i64 c ∧ c ≤ 3 ∧ gn = 3 - c ∧ Duo w xb yb x1 y5 (4 + 34 * (at_ + k)) (4 + 36 * at_ + 17 * k + 19 * r + 16 + c) wq ∧ Al n fr y5 ∧ y5.s.t 0 = at_ + r + 2 ∧ y5.s.m 0 = at_ + k + 1 ∧ (∀ d, d < 3 → (y5.s.ring d).length ≤ 1) ∧ (∀ d, d < c → y5.s.ring d = []) ∧ (∀ (j : Nat) (g : Snt), (y5.L 0)[j]? = some g → g.filled = true))
                    case atStart => exact ⟨0, y4, rfl, by omega, rfl, HD4.out, HR.out.2.2.1, HR.out.2.2.2.1, HR.out.2.2.2.2.1, HR.out.2.2.2.2.2.1, fun d hd => by omega, HR.out.2.2.2.2.2.2.1⟩
                    case round =>
                      obtain ⟨c, y5, rfl, hc, hgn, hd, s1, s2, s3, s4, s5, s6⟩ := hrel
                      by_cases hc3 : c < 3
                      · have c1 : (c : Int) < 3 := by omega
                        have po := hd.callY (fun own hG => g_pollS hG (by have := HR.out; omega) c hc3)
                        obtain ⟨p1, p2, p3⟩ := al_poll s1 c
                        obtain ⟨q1, q2, _⟩ := poll_rings y5 c
                        have HC := hideE (show c < 3 ∧ gk = 3 - c ∧ Al n fr (pollG y5 c) ∧ (pollG y5 c).s.t 0 = at_ + r + 2 ∧ (pollG y5 c).s.m 0 = at_ + k + 1 ∧ (∀ d, d < 3 → ((pollG y5 c).s.ring d).length ≤ 1) ∧ (∀ d, d < c + 1 → (pollG y5 c).s.ring d = []) ∧ (∀ (j : Nat) (g : Snt), ((pollG y5 c).L 0)[j]? = some g → g.filled = true) from ⟨hc3, hgn, p1, by rw [p2]; exact s2, by rw [p3]; exact s3, fun d hd3 => by
                          by_cases e : d = c
                          · subst e; rw [q1, List.length_tail]; have := s4 d hd3; omega
                          · rw [q2 d e]; exact s4 d hd3, fun d hdc => by
                          by_cases e : d = c
                          · subst e; rw [q1]; exact List.eq_nil_of_length_eq_zero (by rw [List.length_tail]; have := s4 d hc3; omega)
                          · rw [q2 d e]; exact s5 d (by omega), fun j z hz => by
                          obtain ⟨z0, e1, rfl | rfl⟩ := poll_L0 y5 c j z hz
                          · exact s6 j _ e1
                          · exact s6 j z0 e1⟩)
                        clear hd s1 s2 s3 s4 s5 s6 p1 p2 p3 q1 q2 hc hc3 hgn
                        go_wp2_with fail
                        refine po.mono ?_
                        rintro e wb ⟨rfl, hd⟩
                        have HD5 := hideE hd
                        clear po hd
                        go_wp2
                        go_roundg (3 - (c + 1))
                        case measure => have := HC.out; omega
                        case rel => exact ⟨c + 1, _, rfl, HC.out.1, rfl, HD5.out, HC.out.2.2.1, HC.out.2.2.2.1, HC.out.2.2.2.2.1, HC.out.2.2.2.2.2.1, HC.out.2.2.2.2.2.2.1, HC.out.2.2.2.2.2.2.2⟩
                      · have ec : c = 3 := by omega
                        subst ec
                        have HE := hideE (show Duo w xb yb x1 y5 (4 + 34 * (at_ + k)) (4 + 36 * at_ + 17 * k + 19 * (r + 1)) wr ∧ Sd n fr y5 (at_ + k + 1) (at_ + (r + 1) + 1) ∧ ∀ (j : Nat) (g : Snt), (y5.L 0)[j]? = some g → g.filled = true from ⟨hd.more (Nat.le_refl _) (by omega), ⟨s1, fun d hd3 => s5 d hd3, s3, by rw [s2]; omega⟩, s6⟩)
                        clear hd s1 s2 s3 s4 s5 s6 hc hc3 hgn
                        go_wp2
                        go_roundg (k - (r + 1))
                        case measure => rw [← HGR.out]; have := HR.out; omega
                        case rel => exact ⟨r + 1, y5, rfl, HR.out.1, rfl, HE.out.1, HE.out.2.1, HE.out.2.2⟩
                  · have er : r = k := by omega
                    subst er
                    have HZ := hideE (show Duo w xb yb x1 y3 (4 + 34 * (at_ + r)) (4 + 36 * (at_ + r)) wr ∧ Sd n fr y3 (at_ + r + 1) (at_ + r + 1) ∧ at_ + r ≤ len from ⟨hd.more (Nat.le_refl _) (by omega), hy3, by have := HN1.out; have := HO.out; omega⟩)
                    have at2 : (at_ : Int) ≤ 17592186043904 := by have := HO.out; omega
                    clear hd hy3 hfull hgn hr hrk
                    go_wp2
                    go_roundg (len - (at_ + r))
                    case measure => rw [← HGO.out]; have := HN1.out; have := HO.out; omega
                    case rel => exact ⟨at_ + r, x1, y3, rfl, HZ.out.2.2, rfl, HZ.out.1, HX.out.2.1, HZ.out.2.1⟩
      · obtain ⟨n1, hn1⟩ : ∃ n1, n1 = U := ⟨_, rfl⟩
        have HN1 := hideE (show 1 ≤ n1 ∧ n1 ≤ U ∧ n1 ≤ len - at_ from by omega)
        have h1 : ¬ ((len : Int) - (at_ : Int) < (n1 : Int)) := by omega
        rw [← hn1] at c2
        clear hat hgn hd hx hy hal hcase hn1 hgo
        have hn16 : n1 ≤ 16 := by have := HN1.out; omega
        have hlenb : len ≤ 17592186043904 := hl
        clear hU16
        go_wp2
        clear c2 h1
        go_loopg [11] n1 (fun gn iv wq => ∃ (i : Nat) (x1 y1 : Gm), iv = .int .i64 i ∧ i ≤ n1 ∧ gn = n1 - i ∧ Duo w xb yb x1 y1 (4 + 34 * (at_ + i)) (4 + 36 * at_ + 16 * i) wq ∧ Sd n fr x1 (at_ + i + 1) (at_ + i + 1) ∧ Sd n fr y1 (at_ + i + 1) (at_ + 1) ∧ ∀ (k : Nat) (g : Snt), at_ + 1 ≤ k → (y1.L 0)[k]? = some g → g.filled = false)
        case atStart =>
          refine ⟨0, x, y, rfl, Nat.zero_le _, rfl, HO.out.1.more (by omega) (by omega), HO.out.2.1, HO.out.2.2.1, fun k g hk hg => ?_⟩
          have := HO.out.1.play.2.inv.1.lt (i := 0) (by omega) hg
          have := HO.out.2.2.1.m
          omega
        case round =>
          obtain ⟨i, x1, y1, rfl, hi, hgn, hd, hx1, hy1, hun⟩ := hrel
          by_cases hin : i < n1
          · have i1 : (i : Int) < (n1 : Int) := by omega
            have i2 : (i : Int) ≤ 16 := by omega
            have hj : at_ + i < len := by have := HN1.out; omega
            obtain ⟨b, off, rfl, e1, r1⟩ := (HM.out.keep hd.keep).get (at_ + i) hj
            have hidx : (at_ : Int) + (i : Int) = ((at_ + i : Nat) : Int) := by omega
            have hlt : ((at_ + i : Nat) : Int) < (len : Int) := by omega
            have pk := fun W => pick_any (fr (at_ + i)) 3 W (by omega) (by omega) r1.1 r1.2
            obtain ⟨t1, t2⟩ := tdiv8 r1.1 r1.2
            obtain ⟨j, hjj⟩ : ∃ j, j = at_ + i := ⟨_, rfl⟩
            have hc3 : cOf fr j < 3 := pickN_lt _ _ (by omega)
            rw [← hjj] at e1 hidx hlt pk hx1 hj r1 t1 t2
            have pk' : ∀ W, Calls Try.prog 18 #[.int .i64 (fr j), .int .i64 3] W fun e w' => e = .returned (.int .i64 (cOf fr j)) ∧ W = w' := pk
            obtain ⟨ix, ox⟩ := hd.play.1.inv
            obtain ⟨iy, oy⟩ := hd.play.2.inv
            have hszx : x1.s.n 0 = U := by rw [hx1.al.sz]; exact HU.out.1.symm
            have hszy : y1.s.n 0 = U := by rw [hy1.al.sz]; exact HU.out.1.symm
            have hlx : (x1.L 0).length = j + 1 := by rw [ix.len 0 (by omega), hx1.m]
            have hmx := sd_may hx1 (by have := HU.out; omega)
            have hmy := sd_may hy1 (by have := HN1.out; rw [hszy]; omega)
            have HI := hideE (show i < n1 ∧ gk = n1 - i ∧ j = at_ + i ∧ Sd n fr x1 (j + 1) (j + 1) ∧ Sd n fr y1 (at_ + i + 1) (at_ + 1) ∧ (∀ (k : Nat) (g : Snt), at_ + 1 ≤ k → (y1.L 0)[k]? = some g → g.filled = false) ∧ GInv x1 ∧ Ok x1.s (4 + 34 * (at_ + i)) ∧ GInv y1 ∧ Ok y1.s (4 + 36 * at_ + 16 * i) ∧ mayClaim y1 0 = true ∧ -9223372036854775808 ≤ (fr j).tdiv 8 ∧ (fr j).tdiv 8 ≤ 9223372036854775807 ∧ j < len from ⟨hin, hgn, hjj, hx1, hy1, hun, ix, ox, iy, oy, hmy, t1, t2, hj⟩)
            have cx := hd.callX (fun own hG => g_claim_yesS hG (by omega) (cOf fr j) 0 hc3 (by omega) hmx (by rw [hlx]; omega))
            rw [hlx] at cx
            have hwr : IntKind.i64.wrap ((fr j).tdiv 8) = (fr j).tdiv 8 := by rw [IntKind.wrap_i64]; omega
            clear hd hx1 hy1 hun hgn hin hi hj pk ix ox iy oy hszx hszy hlx hmx hmy hjj r1 t1 t2
            go_wp2_with fail
            refine (pk' _).mono ?_
            rintro e wz ⟨rfl, rfl⟩
            clear pk'
            go_wp2_with fail
            refine cx.mono ?_
            rintro e wa ⟨rfl, hd⟩
            obtain ⟨x2, hx2⟩ : ∃ x2, x2 = claimG x1 (cOf fr j) 0 := ⟨_, rfl⟩
            rw [← hx2] at hd
            obtain ⟨i2x, o2x⟩ := hd.play.1.inv
            have g2 : (x2.L 0)[j + 1]? = some (Snt.new (cOf fr j) (0 : Nat)) := by
              have hl := HI.out.2.2.2.2.2.2.1.len 0 (by omega)
              rw [HI.out.2.2.2.1.m] at hl
              have := new_at x1 (cOf fr j) 0
              rw [hl, ← hx2] at this
              exact this
            have ht2 : x2.s.t 0 ≤ j + 1 := by rw [hx2]; exact Nat.le_of_eq HI.out.2.2.2.1.t
            have fx := hd.callX (fun own hG => g_fillS hG (by have := HI.out; omega) 0 (j + 1) (by omega) (Snt.new (cOf fr j) (0 : Nat)) g2 rfl ht2 ((fr j).tdiv 8) HI.out.2.2.2.2.2.2.2.2.2.2.2.1 HI.out.2.2.2.2.2.2.2.2.2.2.2.2.1)
            have e2 := ((HM.out.keep hd.keep).get j HI.out.2.2.2.2.2.2.2.2.2.2.2.2.2)
            obtain ⟨b', off', eb, e2, _⟩ := e2
            simp only [Option.some.injEq, Addr.mk.injEq, and_true] at eb
            obtain ⟨rfl, rfl⟩ := eb
            have H2 := hideE (show x2 = claimG x1 (cOf fr j) 0 ∧ GInv x2 from ⟨hx2, i2x⟩)
            clear cx hd i2x o2x g2 ht2 hx2
            go_wp2_with fail
            refine fx.mono ?_
            rintro e wb ⟨rfl, hd⟩
            obtain ⟨x3, hx3⟩ : ∃ x3, x3 = fillG x2 0 (j + 1) (pickN ((fr j).tdiv 8) 1099511627776) (Snt.new (cOf fr j) (0 : Nat)) := ⟨_, rfl⟩
            rw [← hx3] at hd
            have H3 := hideE (show x3 = fillG x2 0 (j + 1) (nOf fr j) (Snt.new (cOf fr j) (0 : Nat)) ∧ GInv x3 ∧ Ok x3.s (4 + 34 * (at_ + i) + 17) from ⟨hx3, hd.play.1.inv.1, hd.play.1.inv.2.more (by omega)⟩)
            have hS := sd_szx HI.out.2.2.2.1 HI.out.2.2.2.2.2.2.1 HI.out.2.2.2.2.2.2.2.1 x2 x3 H2.out.1 H3.out.1 H2.out.2 H3.out.2.1 H3.out.2.2
            have kx := hd.callX (fun own hG => g_coreS hG (by omega) (by have := HI.out; omega) hS)
            clear fx hd hx3 e2 hS
            go_wp2_with fail
            refine kx.mono ?_
            rintro e wc ⟨rfl, hd⟩
            have px := hd.callX (fun own hG => g_pollS hG (by have := HI.out; omega) (cOf fr j) hc3)
            clear kx hd
            go_wp2_with fail
            refine px.mono ?_
            rintro e wd ⟨rfl, hd⟩
            have cy := hd.callY (fun own hG => g_claim_yesS hG (by have := HI.out; omega) (cOf fr j) 0 hc3 (by omega) HI.out.2.2.2.2.2.2.2.2.2.2.1 (by rw [HI.out.2.2.2.2.2.2.2.2.1.len 0 (by omega), HI.out.2.2.2.2.1.m]; have := HI.out; omega))
            clear px hd
            go_wp2_with fail
            refine cy.mono ?_
            rintro e we ⟨rfl, hd⟩
            have HD2 := hideE hd
            clear cy hd
            go_wp2
            go_roundg (n1 - (i + 1))
            case measure => have := HI.out; omega
            case rel =>
              obtain ⟨q1, q2, q3, q4, q5, q6, q7, q8, q9, q10, _⟩ := HI.out
              have sx := sd_x q4 q7 q8 x2 x3 (coreG x3) H2.out.1 H3.out.1 rfl H2.out.2 H3.out.2.1 H3.out.2.2
              have sy := sd_claim q5 q9 q10 (cOf fr j)
              refine ⟨i + 1, _, _, rfl, q1, rfl, HD2.out.more (by omega) (by omega), ?_, ?_, fun k g hk hg => ?_⟩
              · have ej : at_ + (i + 1) + 1 = j + 2 := by omega
                rw [ej]
                exact sx
              · exact sy
              · rcases claim_L0 k g hg with hg | ⟨_, _, rfl⟩
                · exact q6 k g hk hg
                · rfl
          · have ei : i = n1 := by omega
            subst ei
            have hholes : (holesG y1 0).length = i := by
              unfold holesG
              rw [holesF_all _ _ (fun g hg => by
                obtain ⟨m, hm⟩ := List.mem_iff_getElem?.1 hg
                rw [List.getElem?_drop] at hm
                exact hun _ g (by rw [hy1.t]; omega) hm), List.length_drop, hd.play.2.inv.1.len 0 (by omega), hy1.m, hy1.t]
              omega
            have HX := hideE (show Duo w xb yb x1 y1 (4 + 34 * (at_ + i)) (4 + 36 * at_ + 16 * i) wr ∧ Sd n fr x1 (at_ + i + 1) (at_ + i + 1) ∧ Sd n fr y1 (at_ + i + 1) (at_ + 1) ∧ (holesG y1 0).length = i from ⟨hd, hx1, hy1, hholes⟩)
            clear hi hgn hd hx1 hy1 hun hin hholes
            go_wp2
            go_loopg [14] i (fun gn kv wq => ∃ (k : Nat) (y2 : Gm), kv = .int .i64 k ∧ k ≤ i ∧ gn = i - k ∧ Duo w xb yb x1 y2 (4 + 34 * (at_ + i)) (4 + 36 * at_ + 16 * i + k) wq ∧ Sd n fr y2 (at_ + i + 1) (at_ + 1) ∧ (holesG y2 0).length = i - k)
            case atStart => exact ⟨0, y1, rfl, Nat.zero_le _, rfl, HX.out.1, HX.out.2.2.1, HX.out.2.2.2⟩
            case round =>
              obtain ⟨k, y2, rfl, hk, hgn, hd, hy2, hhl⟩ := hrel
              by_cases hki : k < i
              · have k1 : (k : Int) < (i : Int) := by omega
                have k2 : (k : Int) ≤ 16 := by omega
                by_cases hz : len2 = 0
                · obtain ⟨kk, hkk⟩ : ∃ kk : Int, kk = (k : Int) := ⟨_, rfl⟩
                  have hkb : i64B kk := ⟨by omega, by omega⟩
                  obtain ⟨p, hpp⟩ := holeG_any (x := y2) (i := 0) kk (by omega)
                  obtain ⟨g, g1, g2, g3⟩ := holeG_some hpp
                  obtain ⟨q, rfl⟩ : ∃ q, p = q + 1 := ⟨p - 1, by rw [hy2.t] at g3; omega⟩
                  have hqm := hd.play.2.inv.1.lt (i := 0) (by omega) g1
                  rw [hy2.m] at hqm
                  have hol := hd.callY (F := 15) (args := #[.pointer (some ⟨yb, 0, none⟩), .int .i64 0, .int .i64 kk]) (r := .int .i64 ((q + 1 : Nat) : Int)) (y' := y2) (M' := 4 + 36 * at_ + 16 * i + k) (fun own hG => by
                    refine (hole_walkS hG (by have := HN1.out; omega) 0 (by rw [hG.inv.len 0 (by omega), hy2.m]; have := HN1.out; omega) (.inl rfl) kk hkb.1 hkb.2).mono ?_
                    rintro e w' ⟨rfl, hb⟩
                    rw [hpp]
                    exact ⟨rfl, GGo.refl hG (Keep.ofBelow hb)⟩)
                  obtain ⟨sa, sq⟩ := al_fill hy2.al hy2.q hd.play.2.inv.1 q g g1 g2 g3
                  have hfh := fill_holes 0 (q + 1) (nOf fr q) g g1 g2 g3
                  have HS3 := hideE (show Sd n fr (fillG y2 0 (q + 1) (nOf fr q) g) (at_ + i + 1) (at_ + 1) ∧ (holesG (fillG y2 0 (q + 1) (nOf fr q) g) 0).length + 1 = (holesG y2 0).length from ⟨⟨sa, sq, hy2.m, hy2.t⟩, hfh⟩)
                  have HG := hideE (show (y2.L 0)[q + 1]? = some g ∧ g.filled = false ∧ y2.s.t 0 ≤ q + 1 from ⟨g1, g2, g3⟩)
                  have HK := hideE (show k < i ∧ gk = i - k ∧ (holesG y2 0).length = i - k ∧ q < len ∧ at_ < len ∧ i ≤ 16 ∧ len ≤ 17592186043904 from ⟨hki, hgn, hhl, by have := HN1.out; omega, by have := HO.out; omega, hn16, hlenb⟩)
                  clear hd hy2 hhl hgn hki hk g1 g2 g3 hpp hqm sa sq hfh
                  have z1 : ¬ (0 < (len2 : Int)) := by omega
                  rw [hkk] at hol
                  clear hz hkb hkk
                  go_wp2_with fail
                  refine hol.mono ?_
                  rintro e wa ⟨rfl, hd⟩
                  have hq := hd.play.2.inv
                  obtain ⟨b, off, rfl, ef, rf⟩ := (HM.out.keep hd.keep).get q (by have := HK.out; omega)
                  have by_ := bytes_walk yb (q + 1) b off len cap (at_ : Int) (fr q) wa (by have := HK.out; omega) hlenb ef rf
                  have t12 := tdiv8 rf.1 rf.2
                  have fy := hd.callY (fun own hG => g_fillS hG (by have := HK.out; omega) 0 (q + 1) (by omega) g HG.out.1 HG.out.2.1 HG.out.2.2 ((fr q).tdiv 8) t12.1 t12.2)
                  clear hol hd hq ef rf t12
                  go_wp2_with fail
                  refine by_.mono ?_
                  rintro e wb ⟨rfl, rfl⟩
                  clear by_
                  go_wp2_with fail
                  refine fy.mono ?_
                  rintro e wc ⟨rfl, hd⟩
                  have HD3 := hideE hd
                  clear fy hd
                  go_wp2
                  go_roundg (i - (k + 1))
                  case measure => have := HK.out; omega
                  case rel =>
                    have z9 : (holesG (fillG y2 0 (q + 1) (nOf fr q) g) 0).length + 1 = (holesG y2 0).length := HS3.out.2
                    have z8 := HK.out
                    exact ⟨k + 1, _, rfl, HK.out.1, rfl, HD3.out, HS3.out.1, (by show (holesG (fillG y2 0 (q + 1) (nOf fr q) g) 0).length = i - (k + 1); omega)⟩
                · obtain ⟨idx, hidx⟩ : ∃ idx, idx = (at_ + k) % len2 := ⟨_, rfl⟩
                  have hil : idx < len2 := by rw [hidx]; exact Nat.mod_lt _ (by omega)
                  obtain ⟨tb, to_, rfl, et, rt⟩ := (HM2.out.keep hd.keep).get idx hil
                  obtain ⟨kk, hkk⟩ : ∃ kk : Int, kk = tn idx := ⟨_, rfl⟩
                  rw [← hkk] at et rt
                  have hkb : i64B kk := rt
                  obtain ⟨p, hpp⟩ := holeG_any (x := y2) (i := 0) kk (by omega)
                  obtain ⟨g, g1, g2, g3⟩ := holeG_some hpp
                  obtain ⟨q, rfl⟩ : ∃ q, p = q + 1 := ⟨p - 1, by rw [hy2.t] at g3; omega⟩
                  have hqm := hd.play.2.inv.1.lt (i := 0) (by omega) g1
                  rw [hy2.m] at hqm
                  have hol := hd.callY (F := 15) (args := #[.pointer (some ⟨yb, 0, none⟩), .int .i64 0, .int .i64 kk]) (r := .int .i64 ((q + 1 : Nat) : Int)) (y' := y2) (M' := 4 + 36 * at_ + 16 * i + k) (fun own hG => by
                    refine (hole_walkS hG (by have := HN1.out; omega) 0 (by rw [hG.inv.len 0 (by omega), hy2.m]; have := HN1.out; omega) (.inl rfl) kk hkb.1 hkb.2).mono ?_
                    rintro e w' ⟨rfl, hb⟩
                    rw [hpp]
                    exact ⟨rfl, GGo.refl hG (Keep.ofBelow hb)⟩)
                  obtain ⟨sa, sq⟩ := al_fill hy2.al hy2.q hd.play.2.inv.1 q g g1 g2 g3
                  have hfh := fill_holes 0 (q + 1) (nOf fr q) g g1 g2 g3
                  have HS3 := hideE (show Sd n fr (fillG y2 0 (q + 1) (nOf fr q) g) (at_ + i + 1) (at_ + 1) ∧ (holesG (fillG y2 0 (q + 1) (nOf fr q) g) 0).length + 1 = (holesG y2 0).length from ⟨⟨sa, sq, hy2.m, hy2.t⟩, hfh⟩)
                  have HG := hideE (show (y2.L 0)[q + 1]? = some g ∧ g.filled = false ∧ y2.s.t 0 ≤ q + 1 from ⟨g1, g2, g3⟩)
                  have HK := hideE (show k < i ∧ gk = i - k ∧ (holesG y2 0).length = i - k ∧ q < len ∧ at_ < len ∧ i ≤ 16 ∧ len ≤ 17592186043904 from ⟨hki, hgn, hhl, by have := HN1.out; omega, by have := HO.out; omega, hn16, hlenb⟩)
                  clear hd hy2 hhl hgn hki hk g1 g2 g3 hpp hqm sa sq hfh
                  have z1 : 0 < (len2 : Int) := by omega
                  have z2 : ((at_ : Int) + (k : Int)) % (len2 : Int) = (idx : Int) := by rw [hidx]; rfl
                  have z3 : (idx : Int) < (len2 : Int) := by omega
                  have z4 : ((len2 : Int) == 0) = false := beq_eq_false_iff_ne.2 (by omega)
                  have z5 : (at_ : Int) ≤ 17592186043904 := by have := HK.out; omega
                  clear hz hkb hkk hidx hil rt
                  go_wp2_with fail
                  refine hol.mono ?_
                  rintro e wa ⟨rfl, hd⟩
                  have hq := hd.play.2.inv
                  obtain ⟨b, off, rfl, ef, rf⟩ := (HM.out.keep hd.keep).get q (by have := HK.out; omega)
                  have by_ := bytes_walk yb (q + 1) b off len cap (at_ : Int) (fr q) wa (by have := HK.out; omega) hlenb ef rf
                  have t12 := tdiv8 rf.1 rf.2
                  have fy := hd.callY (fun own hG => g_fillS hG (by have := HK.out; omega) 0 (q + 1) (by omega) g HG.out.1 HG.out.2.1 HG.out.2.2 ((fr q).tdiv 8) t12.1 t12.2)
                  clear hol hd hq ef rf t12
                  go_wp2_with fail
                  refine by_.mono ?_
                  rintro e wb ⟨rfl, rfl⟩
                  clear by_
                  go_wp2_with fail
                  refine fy.mono ?_
                  rintro e wc ⟨rfl, hd⟩
                  have HD3 := hideE hd
                  clear fy hd
                  go_wp2
                  go_roundg (i - (k + 1))
                  case measure => have := HK.out; omega
                  case rel =>
                    have z9 : (holesG (fillG y2 0 (q + 1) (nOf fr q) g) 0).length + 1 = (holesG y2 0).length := HS3.out.2
                    have z8 := HK.out
                    exact ⟨k + 1, _, rfl, HK.out.1, rfl, HD3.out, HS3.out.1, (by show (holesG (fillG y2 0 (q + 1) (nOf fr q) g) 0).length = i - (k + 1); omega)⟩
              · have ek : k = i := by omega
                subst ek
                have hfull : ∀ (j : Nat) (g : Snt), (y2.L 0)[j]? = some g → g.filled = true := by
                  intro j g hg
                  have hnil : holesG y2 0 = [] := List.eq_nil_of_length_eq_zero (by omega)
                  exact holes_done hd.play.2.inv.1 hd.play.2.inv.2 0 (by omega) (by unfold holeG; rw [hnil]; rfl) j g hg
                have HY := hideE (show Duo w xb yb x1 y2 (4 + 34 * (at_ + k)) (4 + 36 * at_ + 17 * k) wr ∧ Sd n fr y2 (at_ + k + 1) (at_ + 1) ∧ ∀ (j : Nat) (g : Snt), (y2.L 0)[j]? = some g → g.filled = true from ⟨hd.more (Nat.le_refl _) (by omega), hy2, hfull⟩)
                clear hk hgn hd hy2 hhl hki hfull
                go_wp2
                go_loopg [17] k (fun gn iv wq => ∃ (r : Nat) (y3 : Gm), iv = .int .i64 r ∧ r ≤ k ∧ gn = k - r ∧ Duo w xb yb x1 y3 (4 + 34 * (at_ + k)) (4 + 36 * at_ + 17 * k + 19 * r) wq ∧ Sd n fr y3 (at_ + k + 1) (at_ + r + 1) ∧ ∀ (j : Nat) (g : Snt), (y3.L 0)[j]? = some g → g.filled = true)
                case atStart => exact ⟨0, y2, rfl, Nat.zero_le _, rfl, HY.out.1, HY.out.2.1, HY.out.2.2⟩
                case round =>
                  obtain ⟨r, y3, rfl, hr, hgn, hd, hy3, hfull⟩ := hrel
                  by_cases hrk : r < k
                  · have r1 : (r : Int) < (k : Int) := by omega
                    have r2 : (r : Int) ≤ 16 := by omega
                    obtain ⟨iy, oy⟩ := hd.play.2.inv
                    have hlen3 : (y3.L 0).length = at_ + k + 1 := by rw [iy.len 0 (by omega), hy3.m]
                    have hgg := List.getElem?_eq_getElem (show at_ + r + 1 < (y3.L 0).length by omega)
                    generalize hgv : (y3.L 0)[at_ + r + 1] = g at hgg
                    obtain ⟨a1', a2', a3', a4', a5', a6'⟩ := al_core hy3.al hy3.q iy oy (at_ + r) hy3.t g hgg (hfull _ g hgg)
                    have hq3 := hy3.q
                    have co := hd.callY (fun own hG => g_coreS hG (by omega) (by have := HN1.out; have := HO.out; omega) (al_sz hy3.al iy oy))
                    obtain ⟨gk_r, hgr⟩ : ∃ g0, g0 = gk := ⟨_, rfl⟩
                    rw [← hgr] at hgn
                    have HGR := hideE hgr
                    have hm3 := hy3.m
                    obtain ⟨y4, hy4⟩ : ∃ y4, y4 = coreG y3 := ⟨_, rfl⟩
                    rw [← hy4] at a1' a2' a3' a4' a5' a6' co
                    have HR := hideE (show r < k ∧ gk_r = k - r ∧ Al n fr y4 ∧ y4.s.t 0 = at_ + r + 2 ∧ y4.s.m 0 = at_ + k + 1 ∧ (∀ d, d < 3 → (y4.s.ring d).length ≤ 1) ∧ (∀ (j : Nat) (g : Snt), (y4.L 0)[j]? = some g → g.filled = true) ∧ at_ < len ∧ k ≤ 16 ∧ len ≤ 17592186043904 from ⟨hrk, hgn, a1', a2', by rw [a3']; exact hm3, fun d hd3 => by
                      by_cases e : d = g.client.toNat
                      · rw [e]; exact a5'
                      · rw [a4' d e, hq3 d hd3]; simp, fun j z hz => by
                      obtain ⟨z0, e1, e2, _⟩ := a6' j z hz
                      rw [e2]; exact hfull j z0 e1, HO.out.2.2.2.1, hn16, hlenb⟩)
                    clear hd hy3 hfull hgn hr hrk iy oy hlen3 hgg hgv a1' a2' a3' a4' a5' a6' hq3 hgr hm3 hy4
                    go_wp2_with fail
                    refine co.mono ?_
                    rintro e wa ⟨rfl, hd⟩
                    have HD4 := hideE hd
                    clear co hd
                    go_wp2
                    go_loopg [18] 3 (fun gn cv wq => ∃ (c : Nat) (y5 : Gm), cv = .int .i64 c ∧ c ≤ 3 ∧ gn = 3 - c ∧ Duo w xb yb x1 y5 (4 + 34 * (at_ + k)) (4 + 36 * at_ + 17 * k + 19 * r + 16 + c) wq ∧ Al n fr y5 ∧ y5.s.t 0 = at_ + r + 2 ∧ y5.s.m 0 = at_ + k + 1 ∧ (∀ d, d < 3 → (y5.s.ring d).length ≤ 1) ∧ (∀ d, d < c → y5.s.ring d = []) ∧ (∀ (j : Nat) (g : Snt), (y5.L 0)[j]? = some g → g.filled = true))
                    case atStart => exact ⟨0, y4, rfl, by omega, rfl, HD4.out, HR.out.2.2.1, HR.out.2.2.2.1, HR.out.2.2.2.2.1, HR.out.2.2.2.2.2.1, fun d hd => by omega, HR.out.2.2.2.2.2.2.1⟩
                    case round =>
                      obtain ⟨c, y5, rfl, hc, hgn, hd, s1, s2, s3, s4, s5, s6⟩ := hrel
                      by_cases hc3 : c < 3
                      · have c1 : (c : Int) < 3 := by omega
                        have po := hd.callY (fun own hG => g_pollS hG (by have := HR.out; omega) c hc3)
                        obtain ⟨p1, p2, p3⟩ := al_poll s1 c
                        obtain ⟨q1, q2, _⟩ := poll_rings y5 c
                        have HC := hideE (show c < 3 ∧ gk = 3 - c ∧ Al n fr (pollG y5 c) ∧ (pollG y5 c).s.t 0 = at_ + r + 2 ∧ (pollG y5 c).s.m 0 = at_ + k + 1 ∧ (∀ d, d < 3 → ((pollG y5 c).s.ring d).length ≤ 1) ∧ (∀ d, d < c + 1 → (pollG y5 c).s.ring d = []) ∧ (∀ (j : Nat) (g : Snt), ((pollG y5 c).L 0)[j]? = some g → g.filled = true) from ⟨hc3, hgn, p1, by rw [p2]; exact s2, by rw [p3]; exact s3, fun d hd3 => by
                          by_cases e : d = c
                          · subst e; rw [q1, List.length_tail]; have := s4 d hd3; omega
                          · rw [q2 d e]; exact s4 d hd3, fun d hdc => by
                          by_cases e : d = c
                          · subst e; rw [q1]; exact List.eq_nil_of_length_eq_zero (by rw [List.length_tail]; have := s4 d hc3; omega)
                          · rw [q2 d e]; exact s5 d (by omega), fun j z hz => by
                          obtain ⟨z0, e1, rfl | rfl⟩ := poll_L0 y5 c j z hz
                          · exact s6 j _ e1
                          · exact s6 j z0 e1⟩)
                        clear hd s1 s2 s3 s4 s5 s6 p1 p2 p3 q1 q2 hc hc3 hgn
                        go_wp2_with fail
                        refine po.mono ?_
                        rintro e wb ⟨rfl, hd⟩
                        have HD5 := hideE hd
                        clear po hd
                        go_wp2
                        go_roundg (3 - (c + 1))
                        case measure => have := HC.out; omega
                        case rel => exact ⟨c + 1, _, rfl, HC.out.1, rfl, HD5.out, HC.out.2.2.1, HC.out.2.2.2.1, HC.out.2.2.2.2.1, HC.out.2.2.2.2.2.1, HC.out.2.2.2.2.2.2.1, HC.out.2.2.2.2.2.2.2⟩
                      · have ec : c = 3 := by omega
                        subst ec
                        have HE := hideE (show Duo w xb yb x1 y5 (4 + 34 * (at_ + k)) (4 + 36 * at_ + 17 * k + 19 * (r + 1)) wr ∧ Sd n fr y5 (at_ + k + 1) (at_ + (r + 1) + 1) ∧ ∀ (j : Nat) (g : Snt), (y5.L 0)[j]? = some g → g.filled = true from ⟨hd.more (Nat.le_refl _) (by omega), ⟨s1, fun d hd3 => s5 d hd3, s3, by rw [s2]; omega⟩, s6⟩)
                        clear hd s1 s2 s3 s4 s5 s6 hc hc3 hgn
                        go_wp2
                        go_roundg (k - (r + 1))
                        case measure => rw [← HGR.out]; have := HR.out; omega
                        case rel => exact ⟨r + 1, y5, rfl, HR.out.1, rfl, HE.out.1, HE.out.2.1, HE.out.2.2⟩
                  · have er : r = k := by omega
                    subst er
                    have HZ := hideE (show Duo w xb yb x1 y3 (4 + 34 * (at_ + r)) (4 + 36 * (at_ + r)) wr ∧ Sd n fr y3 (at_ + r + 1) (at_ + r + 1) ∧ at_ + r ≤ len from ⟨hd.more (Nat.le_refl _) (by omega), hy3, by have := HN1.out; have := HO.out; omega⟩)
                    have at2 : (at_ : Int) ≤ 17592186043904 := by have := HO.out; omega
                    clear hd hy3 hfull hgn hr hrk
                    go_wp2
                    go_roundg (len - (at_ + r))
                    case measure => rw [← HGO.out]; have := HN1.out; have := HO.out; omega
                    case rel => exact ⟨at_ + r, x1, y3, rfl, HZ.out.2.2, rfl, HZ.out.1, HX.out.2.1, HZ.out.2.1⟩
    · have eat : at_ = len := by omega
      subst eat
      obtain ⟨hpx, hpy⟩ := hd.play
      have cx := hpx.c15
      have cy := hpy.c15
      have hlx : (x.L 0).length = at_ + 1 := by rw [hpx.inv.1.len 0 (by omega), hx.m]
      have hly : (y.L 0).length = at_ + 1 := by rw [hpy.inv.1.len 0 (by omega), hy.m]
      obtain ⟨xa, xc, x7, _, xrow⟩ := hpx.row0
      obtain ⟨ya, yc, y7, _, yrow⟩ := hpy.row0
      rw [hlx] at x7 xrow
      rw [hly] at y7 yrow
      have HR : Hid (∀ k, k < at_ + 1 → ∃ rx px ry py cd kd, xa = some ⟨rx, 0, none⟩ ∧ ya = some ⟨ry, 0, none⟩ ∧ wr.cell? ⟨rx, k, none⟩ = some (.pointer (some ⟨px, 0, none⟩)) ∧ wr.cell? ⟨ry, k, none⟩ = some (.pointer (some ⟨py, 0, none⟩)) ∧ wr.cell? ⟨px, 12, none⟩ = some (.bool true) ∧ wr.cell? ⟨py, 12, none⟩ = some (.bool true) ∧ wr.cell? ⟨px, 14, none⟩ = some (.int .i64 cd) ∧ wr.cell? ⟨py, 14, none⟩ = some (.int .i64 cd) ∧ wr.cell? ⟨px, 2, none⟩ = some (.int .i64 kd) ∧ wr.cell? ⟨py, 2, none⟩ = some (.int .i64 kd)) := fun k hk => by
        obtain ⟨rx, px, g, e1, e2, e3, e4⟩ := xrow k hk
        obtain ⟨ry, py, h, f1, f2, f3, f4⟩ := yrow k hk
        obtain ⟨tx, dx⟩ := al_told hx.al hx.q hpx.inv.1 k g e3 (by rw [hx.t]; exact hk)
        obtain ⟨ty, dy⟩ := al_told hy.al hy.q hpy.inv.1 k h f3 (by rw [hy.t]; exact hk)
        have px' := hpx.inv.1.pl 0 k g (by omega) e3
        have py' := hpy.inv.1.pl 0 k h (by omega) f3
        have kx : g.taken = true := (px'.told tx).1
        have ky : h.taken = true := (py'.told ty).1
        have fx : g.filled = true := by rw [← px'.fil]; exact hpx.inv.2.full 0 k (by omega) (by rw [hx.t]; exact hk)
        have fy : h.filled = true := by rw [← py'.fil]; exact hpy.inv.2.full 0 k (by omega) (by rw [hy.t]; exact hk)
        have same : h.given = g.given ∧ h.kind = g.kind := by
          match k, e3, f3 with
          | 0, e3, f3 =>
            have a1 := hx.al.p0 g e3
            have a2 := hy.al.p0 h f3
            exact ⟨by rw [a1.2, a2.2], by rw [a1.1, a2.1]⟩
          | k + 1, e3, f3 =>
            have a1 := hx.al.pl k g e3
            have a2 := hy.al.pl k h f3
            exact ⟨by rw [a1.2 kx, a2.2 ky], by rw [(a1.1 fx).1, (a2.1 fy).1]⟩
        have s12 := sc12 e4
        have s14 := sc14 e4
        have r12 := sc12 f4
        have r14 := sc14 f4
        have r2 := sc2 f4
        rw [tx] at s12
        rw [ty] at r12
        rw [dx] at s14
        rw [dy, same.1] at r14
        rw [same.2] at r2
        exact ⟨rx, px, ry, py, g.given, g.kind, e1, f1, e2, f2, s12, r12, s14, r14, sc2 e4, r2⟩
      have HB := hideE hpx.below
      have hlb : at_ + 1 ≤ 17592186043905 := by omega
      clear hpx hpy hlx hly xrow yrow hd hx hy hgn hat hal
      obtain ⟨L, hL⟩ : ∃ L, L = at_ + 1 := ⟨_, rfl⟩
      rw [← hL] at x7 y7 HR hlb
      clear hL
      go_wp2
      generalize hWW : wr = WW at *
      clear hWW
      go_region
      have HX7 := hideE (show WW.cell? ⟨xb, 7, none⟩ = some (.slice xa L xc) ∧ WW.cell? ⟨yb, 7, none⟩ = some (.slice ya L yc) from ⟨x7, y7⟩)
      clear cx cy x7 y7
      go_wp2
      go_loopg [19] L (fun gn iv wq => ∃ j : Nat, iv = .int .i64 j ∧ j ≤ L ∧ gn = L - j ∧ Keep (fun _ => True) WW wq)
      case atStart => exact ⟨0, rfl, Nat.zero_le _, rfl, (Keep.refl _ WW).drew⟩
      case round =>
        obtain ⟨j, rfl, hj, hgn, hk⟩ := hrel
        have x7 := keep_cell hk HX7.out.1
        have y7 := keep_cell hk HX7.out.2
        by_cases hjL : j < L
        · have j1 : (j : Int) < (L : Int) := by omega
          obtain ⟨rx, px, ry, py, cd, kd, rfl, rfl, e1, e2, e3, e4, e5, e6, e7, e8⟩ := HR.out j hjL
          have f1 := keep_cell hk e1
          have f2 := keep_cell hk e2
          have f3 := keep_cell hk e3
          have f4 := keep_cell hk e4
          have f5 := keep_cell hk e5
          have f6 := keep_cell hk e6
          have f7 := keep_cell hk e7
          have f8 := keep_cell hk e8
          have HJ := hideE (show j < L ∧ gk = L - j ∧ Keep (fun _ => True) WW wr from ⟨hjL, hgn, hk⟩)
          clear hj hgn hk hjL e1 e2 e3 e4 e5 e6 e7 e8
          go_wp2
          go_region
          all_goals
            go_wp2
            go_roundg (L - (j + 1))
            case measure => have := HJ.out; omega
            case rel => exact ⟨j + 1, rfl, HJ.out.1, rfl, HJ.out.2.2.drew⟩
        · have ej : j = L := by omega
          subst ej
          have HBB := hideE (show Below w.heap.size w wr from below_trans HB.out (Keep.below (B := w.heap.size) (hk.mono (fun _ _ _ => trivial)) HB.out.size) (Nat.le_refl _))
          clear hj hgn hk hjL
          go_wp2
          go_ret
          exact ⟨rfl, HBB.out⟩

end Go.Proofs.Ytjhifhoniimfgaa

