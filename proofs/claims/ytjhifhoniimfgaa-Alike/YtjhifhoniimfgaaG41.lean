import Derived.Test.YtjhifhoniimfgaaG40
import Derived.Test.YtjhifhoniimfgaaG30
import Derived.Test.YtjhifhoniimfgaaG38
import Derived.Test.YtjhifhoniimfgaaG39
import Derived.Test.YtjhifhoniimfgaaRows
import Derived.ProofKit
import Derived.OpenShut
import Derived.SizedLaws
import Derived.Deep.Slices
/-
  A game begins.
-/
namespace Go.Proofs.Ytjhifhoniimfgaa
open Go.RowKit

/-- The blocks of a game that has begun. -/
def begX (gb b xb : Nat) : XB := ⟨xb, gb, b, fun i => if i = 0 then .slice (some ⟨xb + 2, 0, none⟩) 1 1 else .slice none 0 0, fun _ _ => xb + 1⟩

theorem heap4 (w : World) (o1 o2 o3 o4 : Obj) : ((((w.alloc o1).alloc o2).alloc o3).alloc o4).heap[w.heap.size + 1]? = some o2 ∧ ((((w.alloc o1).alloc o2).alloc o3).alloc o4).heap[w.heap.size + 1 + 1]? = some o3 ∧ ((((w.alloc o1).alloc o2).alloc o3).alloc o4).heap[w.heap.size + 1 + 2]? = some o4 := by
  have e2 := heap_alloc_new (w.alloc o1) o2
  have e3 := heap_alloc_new ((w.alloc o1).alloc o2) o3
  have e4 := heap_alloc_new (((w.alloc o1).alloc o2).alloc o3) o4
  simp only [World.size_alloc] at e2 e3 e4
  refine ⟨?_, ?_, ?_⟩
  · rw [Below.heap_alloc _ _ _ (by simp only [World.size_alloc]; omega), Below.heap_alloc _ _ _ (by simp only [World.size_alloc]; omega)]
    exact e2
  · rw [Below.heap_alloc _ _ _ (by simp only [World.size_alloc]; omega)]
    exact e3
  · exact e4

theorem get_one {α : Type} {x y : α} {k : Nat} (h : [x][k]? = some y) : k = 0 ∧ y = x := by
  match k, h with
  | 0, h => simp at h; exact ⟨rfl, h.symm⟩

/-- The game's own blocks, as it begins. -/
theorem beg_at {own : Nat → Nat} {w7 : World} {gb b : Nat} {lim : Nat → Nat → Int} (v : XV) (L : Nat → List Snt) (h0 : L 0 = [begS]) (h1 : L 1 = []) (ob : own b = 301) (lb : b < w7.heap.size) (ha : AccAt w7 (some ⟨b, 0, none⟩) 2 lim) (o1 : Obj) :
    XAt (ext own w7.heap.size 300) 300 ((((w7.alloc o1).alloc (.cells (xCells (begX gb b (w7.heap.size + 1)) v) 37)).alloc (.cells (sCells begS) 43)).alloc (.cells #[.pointer (some ⟨w7.heap.size + 1 + 1, 0, none⟩)] 41)) (begX gb b (w7.heap.size + 1)) lim v L := by
  obtain ⟨q2, q3, q4⟩ := heap4 w7 o1 (.cells (xCells (begX gb b (w7.heap.size + 1)) v) 37) (.cells (sCells begS) 43) (.cells #[.pointer (some ⟨w7.heap.size + 1 + 1, 0, none⟩)] 41)
  have kk : Keep (fun _ => True) w7 ((((w7.alloc o1).alloc (.cells (xCells (begX gb b (w7.heap.size + 1)) v) 37)).alloc (.cells (sCells begS) 43)).alloc (.cells #[.pointer (some ⟨w7.heap.size + 1 + 1, 0, none⟩)] 41)) := ((((Keep.refl _ w7).alloc _).alloc _).alloc _).alloc _
  have two : ∀ i, i < 2 → i = 0 ∨ i = 1 := fun i h => by omega
  refine ⟨q2, fun i hi => ?_, fun i k g hi hg => ?_, fun i k j l hi hj hk hl e => ?_, fun c hc => ?_, ha.keep kk (fun _ _ => trivial), ext_ge (by show w7.heap.size ≤ w7.heap.size + 1; omega), fun i c hi hc => ?_, fun i k hi hk => ext_ge (by show w7.heap.size ≤ w7.heap.size + 1 + 1; omega), by rw [show (begX gb b (w7.heap.size + 1)).ab = b from rfl, ext_lt lb]; exact ob⟩
  · rcases two i hi with rfl | rfl
    · rw [h0]
      refine ⟨rfl, .inr ⟨w7.heap.size + 1 + 2, 1, #[.pointer (some ⟨w7.heap.size + 1 + 1, 0, none⟩)], rfl, Nat.zero_le _, q4, by simp, by simp [maxLen], by simp, ?_⟩⟩
      rfl
    · rw [h1]
      exact World.ownsRow_nil _ _ _ _
  · rcases two i hi with rfl | rfl
    · rw [h0] at hg
      obtain ⟨rfl, rfl⟩ := get_one hg
      exact q3
    · rw [h1] at hg
      simp at hg
  · rcases two i hi with rfl | rfl
    · rcases two j hj with rfl | rfl
      · rw [h0] at hk hl
        simp at hk hl
        exact ⟨rfl, by omega⟩
      · rw [h1] at hl
        simp at hl
    · rw [h1] at hk
      simp at hk
  · intro e
    cases e
  · rcases two i hi with rfl | rfl
    · have hc : (Value.slice (some ⟨w7.heap.size + 1 + 2, 0, none⟩) 1 1).ownBlock = some c := hc
      simp [Value.ownBlock] at hc
      subst hc
      exact ext_ge (by omega)
    · cases hc

theorem beg_wt (n : Nat) : Wt (begG n).s 4 := fun i hi => by
  obtain ⟨_, e0, e1, e2, e3, _⟩ := bg_poll n
  rcases (show i = 0 ∨ i = 1 by omega) with rfl | rfl
  · have := (beg_inv n).len 0 (by omega)
    rw [e0] at this
    rw [e2, ← this]
    decide
  · have := (beg_inv n).len 1 (by omega)
    rw [e1] at this
    rw [e3, ← this]
    decide

set_option maxRecDepth 100000 in
set_option maxHeartbeats 2000000 in
theorem g_begun (raw : Int) (h1 : -9223372036854775808 ≤ raw) (h2 : raw ≤ 9223372036854775807) (w : World) :
    Calls Try.prog 8 #[.int .i64 raw] w fun e w' => ∃ xb own, e = .returned (.pointer (some ⟨xb, 0, none⟩)) ∧ GAt own 200 w' xb (begG (pickN raw 1073741824)) 4 ∧ Keep (fun _ => True) w w' ∧ w.heap.size ≤ xb ∧ ∀ b, b < w.heap.size → OutG own 200 b := by
  obtain ⟨n, hn⟩ : ∃ n, n = pickN raw 1073741824 := ⟨_, rfl⟩
  have st0 := fun w => settings_any raw n hn h1 h2 w
  obtain ⟨co, hco⟩ : ∃ co, co = szOf (n % 4) := ⟨_, rfl⟩
  obtain ⟨ur, hur⟩ : ∃ ur, ur = szOf (n / 4 % 4) := ⟨_, rfl⟩
  obtain ⟨an, han⟩ : ∃ an, an = szOf (n / 16 % 4) := ⟨_, rfl⟩
  obtain ⟨ch, hch⟩ : ∃ ch, ch = 1 + n / 64 % 4 := ⟨_, rfl⟩
  have st : ∀ w, Calls Try.prog 27 #[.int .i64 raw] w fun e w' => ∃ b, e = .returned (.agg #[.int .i64 3, .int .i64 co, .int .i64 ur, .int .i64 an, .int .i64 ch, .slice (some ⟨b, 0, none⟩) 2 2]) ∧ Below w.heap.size w w' ∧ AccAt w' (some ⟨b, 0, none⟩) 2 (kLim n) ∧ w.heap.size ≤ b := fun w => by
    refine (st0 w).mono ?_
    rintro e w' ⟨b, he, h3, h4⟩
    exact ⟨b, by rw [he, hco, hur, han, hch]; rfl, h3, h4⟩
  have hmay := k_may n
  rw [← hco, ← hur, ← han, ← hch] at hmay
  have HG0 : Hid (newS 3 an ch 2 (kLim n) (fun i => if i = 0 then co else ur) = (gm0 n).s) := by rw [hco, hur, han, hch]; rfl
  have HV := hideE (show ∀ a b, vOf (begG n).s a b = ⟨fun i => if i = 0 then co else ur, an, ch, (begG n).s.t, 0, a, b, false, false⟩ from fun a b => by
    obtain ⟨_, _, _, _, _, e5, e6, _⟩ := bg_poll n
    obtain ⟨f1, f2, f3, f4⟩ := beg_set n
    unfold vOf
    rw [f2, f3, f4, e5, e6, hco, hur, han, hch])
  have HMAY := hideE hmay
  rw [← hn]
  clear hn h1 h2 st0 hco hur han hch hmay
  go_enter Try.func8, Try.ntmps8
  go_wp2_with fail
  refine (st _).mono ?_
  rintro e w1 ⟨b, rfl, hb1, hacc, hbw⟩
  have kk1 : Keep (fun _ => True) w w1 := Keep.ofBelow hb1
  have hbl : b < w1.heap.size := by
    rcases hacc with h0 | ⟨b', off, e, h1⟩
    · omega
    · simp only [Option.some.injEq, Addr.mk.injEq, and_true] at e
      obtain ⟨rfl, rfl⟩ := e
      exact World.block_lt_of_cell? w1 _ (h1 0 0 (by omega) (by omega))
  have hcf : (w1.alloc (.cells #[.int .i64 3, .int .i64 co, .int .i64 ur, .int .i64 an, .int .i64 ch, .slice (some ⟨b, 0, none⟩) 2 2] 31)).heap[w1.heap.size]? = some (.cells #[.int .i64 3, .int .i64 co, .int .i64 ur, .int .i64 an, .int .i64 ch, .slice (some ⟨b, 0, none⟩) 2 2] 31 (0, 0)) := heap_alloc_new w1 _
  have kA : Keep (fun _ => True) w1 (w1.alloc (.cells #[.int .i64 3, .int .i64 co, .int .i64 ur, .int .i64 an, .int .i64 ch, .slice (some ⟨b, 0, none⟩) 2 2] 31)) := (Keep.refl _ w1).alloc _
  have nw := gNew_yes (own := fun k => if k = b then 301 else 0) (T := 200) (by omega) 3 co ur an ch (some ⟨b, 0, none⟩) 2 2 (kLim n) (hacc.keep kA (fun _ _ => trivial)) HMAY.out
  obtain ⟨cb, hcb⟩ : ∃ cb, cb = w1.heap.size := ⟨_, rfl⟩
  have HCB := hideE hcb
  rw [← hcb] at hcf
  have HB0 := hideE hbw
  clear hbw
  have H1 := hideE (show Keep (fun _ => True) w w1 ∧ AccAt (w1.alloc (.cells #[.int .i64 3, .int .i64 co, .int .i64 ur, .int .i64 an, .int .i64 ch, .slice (some ⟨b, 0, none⟩) 2 2] 31)) (some ⟨b, 0, none⟩) 2 (kLim n) ∧ b < w1.heap.size from ⟨kk1, hacc.keep kA (fun _ _ => trivial), hbl⟩)
  clear st hb1 hacc kk1 hbl
  go_wp2_with fail
  generalize hW1 : w1.alloc (.cells #[.int .i64 3, .int .i64 co, .int .i64 ur, .int .i64 an, .int .i64 ch, .slice (some ⟨b, 0, none⟩) 2 2] 31) = W1 at *
  have HW1 := hideE (show Keep (fun _ => True) w1 W1 ∧ W1.heap[cb]? = _ from ⟨kA, hcf⟩)
  rw [← hcb]
  clear hW1 kA hcf hcb
  refine nw.mono ?_
  rintro e w2 ⟨gb, rfl, own2, B2, rfl, p2, s2, k2⟩
  rw [HG0.out] at p2
  have cl := gClaim p2 (gm0_ok n) (by omega) 2 0
  rw [bg_claim] at cl
  have H2 := hideE (show Same (fun k => if k = b then 301 else 0) own2 W1 ∧ Keep (fun _ => True) W1 w2 from ⟨s2, k2⟩)
  clear nw p2 s2 k2
  go_wp2_with fail
  refine cl.mono ?_
  rintro e w3 ⟨rfl, own3, B3, p3, l3, s3, k3⟩
  have H3 := hideE (show PG own3 200 w3 B3 (bg1 n).s 1 ∧ B2.Like B3 ∧ Same own2 own3 w2 ∧ Keep (Out own2 200) w2 w3 from ⟨p3, l3, s3, k3⟩)
  have egb3 : B3.gb = B2.gb := l3.gb
  clear cl p3 l3 s3 k3
  go_wp2_with fail
  refine (order_any 1 0 5 3 2 1 _).mono ?_
  rintro e w4 ⟨rfl, hb4⟩
  have k4 : Keep (fun _ => True) w3 w4 := Keep.ofBelow hb4
  have p4 : PG own3 200 w4 B3 (bg1 n).s 1 := H3.out.1.keep (bg1_ok n).cl.2 (bg1_ok n).na.2 k4 (fun _ _ _ _ => trivial) (Same.refl _ _)
  have pb := gPublish p4 (bg1_ok n) (by omega) 2 0 0 (orderB 1 0 5 3 2 1)
  rw [bg_pub, egb3] at pb
  have H4 := hideE (show Keep (fun _ => True) w3 w4 from k4)
  clear hb4 k4 p4
  go_wp2_with fail
  refine pb.mono ?_
  rintro e w5 ⟨rfl, own5, B5, p5, l5, s5, k5⟩
  have egb5 : B5.gb = B2.gb := by rw [l5.gb, egb3]
  have co5 := gCore p5 (bg2_ok n) (by omega) (by omega)
  rw [egb5] at co5
  rw [(bg_core n).1] at co5
  have H5 := hideE (show Same own3 own5 w4 ∧ Keep (Out own3 200) w4 w5 from ⟨s5, k5⟩)
  clear pb p5 l5 s5 k5
  go_wp2_with fail
  refine co5.mono ?_
  rintro e w6 ⟨rfl, own6, B6, p6, l6, s6, k6⟩
  have egb6 : B6.gb = B2.gb := by rw [l6.gb, egb5]
  have po := gPoll p6 (bg3_ok n) (by omega) 2
  rw [egb6] at po
  have e9 : pollS (coreS (bg2 n).s).2 2 = ((0, 0), 0, (begG n).s) := (bg_poll n).1
  rw [e9] at po
  have H6 := hideE (show Same own5 own6 w5 ∧ Keep (Out own5 200) w5 w6 from ⟨s6, k6⟩)
  clear co5 p6 l6 s6 k6 e9
  go_wp2_with fail
  refine po.mono ?_
  rintro e w7 ⟨rfl, own7, B7, p7, l7, s7, k7⟩
  have egb7 : B7.gb = B2.gb := by rw [l7.gb, egb6]
  -- tags and blocks, from the start on
  have big : Hid ((∀ k, k < W1.heap.size → own7 k = if k = b then 301 else 0) ∧ Keep (fun k => k < W1.heap.size) W1 w7) := by
    obtain ⟨s2, k2⟩ := H2.out
    obtain ⟨_, _, s3, k3⟩ := H3.out
    obtain ⟨s5, k5⟩ := H5.out
    obtain ⟨s6, k6⟩ := H6.out
    have z2 := k2.size
    have z3 := k3.size
    have z4 := H4.out.size
    have z5 := k5.size
    have z6 := k6.size
    have t2 : ∀ k, k < W1.heap.size → own2 k = if k = b then 301 else 0 := fun k hk => s2 k hk
    have t3 : ∀ k, k < W1.heap.size → own3 k = if k = b then 301 else 0 := fun k hk => by rw [s3 k (by omega)]; exact t2 k hk
    have t5 : ∀ k, k < W1.heap.size → own5 k = if k = b then 301 else 0 := fun k hk => by rw [s5 k (by omega)]; exact t3 k hk
    have t6 : ∀ k, k < W1.heap.size → own6 k = if k = b then 301 else 0 := fun k hk => by rw [s6 k (by omega)]; exact t5 k hk
    have t7 : ∀ k, k < W1.heap.size → own7 k = if k = b then 301 else 0 := fun k hk => by rw [s7 k (by omega)]; exact t6 k hk
    have out : ∀ (o : Nat → Nat) k, o k = (if k = b then 301 else 0) → Out o 200 k := fun o k e => by
      unfold Out
      rw [e]
      split <;> omega
    refine ⟨t7, ?_⟩
    have q2 : Keep (fun k => k < W1.heap.size) W1 w2 := k2.mono (fun _ _ _ => trivial)
    have q3 := q2.trans' k3 (fun k hk _ => out own2 k (t2 k hk))
    have q4 := q3.trans' H4.out (fun _ _ _ => trivial)
    have q5 := q4.trans' k5 (fun k hk _ => out own3 k (t3 k hk))
    have q6 := q5.trans' k6 (fun k hk _ => out own5 k (t5 k hk))
    exact q6.trans' k7 (fun k hk _ => out own6 k (t6 k hk))
  have cc : w7.heap[cb]? = some (.cells #[.int .i64 3, .int .i64 co, .int .i64 ur, .int .i64 an, .int .i64 ch, .slice (some ⟨b, 0, none⟩) 2 2] 31 (0, 0)) := big.out.2.get HW1.out.2 (block_lt HW1.out.2)
  have f0 := cellAt (i := 0) cc rfl
  have f1 := cellAt (i := 1) cc rfl
  have f2 := cellAt (i := 2) cc rfl
  have f3 := cellAt (i := 3) cc rfl
  have f4 := cellAt (i := 4) cc rfl
  have f5 := cellAt (i := 5) cc rfl
  have lcb := block_lt cc
  have H7 := hideE (show PG own7 200 w7 B7 (begG n).s 4 ∧ B7.gb = B2.gb from ⟨p7, egb7⟩)
  clear po p7 l7 s7 k7 cc egb3 egb5 egb6 egb7
  dsimp only [List.getElem_toArray, List.getElem_cons_zero, List.getElem_cons_succ] at f0 f1 f2 f3 f4 f5
  go_wp2_with fail
  have KEY : Hid (GAt (ext own7 w7.heap.size 300) 200 ((((w7.alloc (.cells #[.int .i64 0, .int .i64 0] 66)).alloc (.cells #[.pointer (some ⟨B2.gb, 0, none⟩), .int .i64 3, .int .i64 co, .int .i64 ur, .int .i64 an, .int .i64 ch, .slice (some ⟨b, 0, none⟩) 2 2, .slice (some ⟨w7.heap.size + 1 + 1 + 1, 0, none⟩) 1 1, .slice none 0 0, .int .i64 1, .int .i64 0, .int .i64 0, .bool false, .bool false, .bool false, .bool false] 37)).alloc (.cells #[.int .i64 2, .int .i64 0, .int .i64 1, .int .i64 1, .int .i64 0, .int .i64 5, .int .i64 3, .int .i64 2, .int .i64 1, .int .i64 0, .bool true, .bool true, .bool true, .bool false, .int .i64 0] 43)).alloc (.cells #[.pointer (some ⟨w7.heap.size + 1 + 1, 0, none⟩)] 41)) (w7.heap.size + 1) (begG n) 4) := by
    obtain ⟨_, e0, e1, e2, e3, e4, e5, _⟩ := bg_poll n
    have hl : (begG n).s.lim = kLim n := (beg_set n).1
    have hbW : b < W1.heap.size := Nat.lt_of_lt_of_le H1.out.2.2 HW1.out.1.size
    have ob : own7 b = 301 := by rw [big.out.1 b hbW, if_pos rfl]
    have lb7 : b < w7.heap.size := Nat.lt_of_lt_of_le hbW big.out.2.size
    have a7 : AccAt w7 (some ⟨b, 0, none⟩) 2 (kLim n) := H1.out.2.1.keep big.out.2 (fun x hx => by simp only [Option.some.injEq] at hx; subst hx; exact hbW)
    have xa := beg_at (own := own7) (gb := B2.gb) (vOf (begG n).s false false) (begG n).L e0 e1 ob lb7 a7 (.cells #[.int .i64 0, .int .i64 0] 66)
    have kk : Keep (fun _ => True) w7 ((((w7.alloc (.cells #[.int .i64 0, .int .i64 0] 66)).alloc (.cells (xCells (begX B2.gb b (w7.heap.size + 1)) (vOf (begG n).s false false)) 37)).alloc (.cells (sCells begS) 43)).alloc (.cells #[.pointer (some ⟨w7.heap.size + 1 + 1, 0, none⟩)] 41)) := ((((Keep.refl _ w7).alloc _).alloc _).alloc _).alloc _
    have pk := H7.out.1.keep (beg_ok n).cl.2 (beg_ok n).na.2 kk (fun _ _ _ _ => trivial) (Same.ext own7 w7 300)
    have hx : xCells (begX B2.gb b (w7.heap.size + 1)) (vOf (begG n).s false false) = #[.pointer (some ⟨B2.gb, 0, none⟩), .int .i64 3, .int .i64 co, .int .i64 ur, .int .i64 an, .int .i64 ch, .slice (some ⟨b, 0, none⟩) 2 2, .slice (some ⟨w7.heap.size + 1 + 1 + 1, 0, none⟩) 1 1, .slice none 0 0, .int .i64 1, .int .i64 0, .int .i64 0, .bool false, .bool false, .bool false, .bool false] := by
      rw [HV.out]
      unfold xCells
      simp only [e2, e3]
      rfl
    rw [hx] at xa pk
    refine ⟨B7, begX B2.gb b (w7.heap.size + 1), false, false, ⟨pk, beg_ok n, ?_, H7.out.2.symm, beg_inv n, beg_wt n⟩, rfl⟩
    rw [hl]
    exact xa
  have KE2 : Hid (∀ o1 o2 o3 o4, Keep (fun _ => True) w ((((w7.alloc o1).alloc o2).alloc o3).alloc o4) ∧ w.heap.size ≤ w7.heap.size + 1 ∧ ∀ c, c < w.heap.size → OutG (ext own7 w7.heap.size 300) 200 c) := by
    intro o1 o2 o3 o4
    have z1 := H1.out.1.size
    have z2 := HW1.out.1.size
    have z3 := big.out.2.size
    refine ⟨?_, by omega, fun c hc => ?_⟩
    · have q1 : Keep (fun k => k < w.heap.size) w w7 := ((H1.out.1.mono (T := fun k => k < w.heap.size) (fun _ _ _ => trivial)).trans' HW1.out.1 (fun _ _ _ => trivial)).trans' big.out.2 (fun k hk _ => by omega)
      have q2 : Keep (fun _ => True) w w7 := q1.mono (fun k hk _ => hk)
      exact (((q2.alloc o1).alloc o2).alloc o3).alloc o4
    · unfold OutG
      rw [ext_lt (by omega), big.out.1 c (by omega)]
      split
      · rename_i e; have := H1.out.2.2; have := HB0.out; omega
      · omega
  go_ret
  exact ⟨w7.heap.size + 1, _, rfl, KEY.out, (KE2.out _ _ _ _).1, (KE2.out (.cells #[] 3) (.cells #[] 3) (.cells #[] 3) (.cells #[] 3)).2⟩

end Go.Proofs.Ytjhifhoniimfgaa

/-
  The law Once, walked.
-/
namespace Go.Proofs.Ytjhifhoniimfgaa
open Go.RowKit

def i64B (z : Int) : Prop := -9223372036854775808 ≤ z ∧ z ≤ 9223372036854775807

/-- A script in memory. -/
def MovesAt (w : World) (a : Option Addr) (len : Nat) (ms : Nat → Int × Int × Int) : Prop :=
  len = 0 ∨ ∃ b off, a = some ⟨b, off, none⟩ ∧ b < w.heap.size ∧ ∀ k, k < len → w.cell? ⟨b, off + k * 3, none⟩ = some (.int .i64 (ms k).1) ∧ w.cell? ⟨b, off + k * 3 + 1, none⟩ = some (.int .i64 (ms k).2.1) ∧ w.cell? ⟨b, off + k * 3 + 2, none⟩ = some (.int .i64 (ms k).2.2) ∧ i64B (ms k).1 ∧ i64B (ms k).2.1 ∧ i64B (ms k).2.2

/-- What came in stays: S holds of its blocks. -/
theorem MovesAt.keep {S : Nat → Prop} {w w' : World} {a : Option Addr} {len : Nat} {ms : Nat → Int × Int × Int} (h : MovesAt w a len ms) (hk : Keep S w w') (hs : ∀ b, b < w.heap.size → S b) : MovesAt w' a len ms := by
  rcases h with h | ⟨b, off, rfl, hb, h⟩
  · exact .inl h
  · have e : ∀ i, w'.cell? ⟨b, i, none⟩ = w.cell? ⟨b, i, none⟩ := fun i => World.cell?_of_block (w := w) (hk.block b hb (hs b hb))
    refine .inr ⟨b, off, rfl, Nat.lt_of_lt_of_le hb hk.size, fun k hk => ?_⟩
    rw [e, e, e]
    exact h k hk

theorem MovesAt.get {w : World} {a : Option Addr} {len : Nat} {ms : Nat → Int × Int × Int} (h : MovesAt w a len ms) (k : Nat) (hk : k < len) : ∃ b off, a = some ⟨b, off, none⟩ ∧ w.cell? ⟨b, off + k * 3, none⟩ = some (.int .i64 (ms k).1) ∧ w.cell? ⟨b, off + k * 3 + 1, none⟩ = some (.int .i64 (ms k).2.1) ∧ w.cell? ⟨b, off + k * 3 + 2, none⟩ = some (.int .i64 (ms k).2.2) ∧ i64B (ms k).1 ∧ i64B (ms k).2.1 ∧ i64B (ms k).2.2 := by
  rcases h with h | ⟨b, off, rfl, hb, h⟩
  · omega
  · exact ⟨b, off, rfl, h k hk⟩

theorem keeps_true : Keeps (fun _ => True) := ⟨fun _ _ _ _ _ _ _ _ _ _ _ => trivial, fun _ _ _ _ _ => trivial, fun _ _ _ _ _ => trivial, fun _ _ _ _ _ => trivial⟩

/-- A game that has begun, in the world w0 of the call: nothing that came in has turned. -/
structure Play (w0 : World) (xb : Nat) (x : Gm) (N : Nat) (w : World) : Prop where
  at_ : ∃ own, GAt own 200 w xb x N ∧ ∀ b, b < w0.heap.size → OutG own 200 b
  keep : Keep (fun _ => True) w0 w

theorem Play.go {w0 : World} {xb : Nat} {x' : Gm} {M : Nat} {w w' : World} {own : Nat → Nat} (hk : Keep (fun _ => True) w0 w) (ho : ∀ b, b < w0.heap.size → OutG own 200 b) (h : GGo own 200 w xb x' M w') : Play w0 xb x' M w' := by
  obtain ⟨own', h1, h2, h3⟩ := h
  exact ⟨⟨own', h1, fun b hb => h2 b (Nat.lt_of_lt_of_le hb hk.size) (ho b hb)⟩, hk.trans' h3 (fun b hb _ => ho b hb)⟩

theorem Play.c15 {w0 : World} {xb : Nat} {x : Gm} {N : Nat} {w : World} (h : Play w0 xb x N w) : w.cell? ⟨xb, 15, none⟩ = some (.bool false) := by
  obtain ⟨own, h1, _⟩ := h.at_
  exact (GGo.refl h1 (Keep.refl _ _)).c15

theorem Play.more {w0 : World} {xb : Nat} {x : Gm} {N M : Nat} {w : World} (h : Play w0 xb x N w) (hM : N ≤ M) : Play w0 xb x M w := by
  obtain ⟨own, h1, h2⟩ := h.at_
  exact ⟨⟨own, h1.more hM, h2⟩, h.keep⟩

theorem Play.below {w0 : World} {xb : Nat} {x : Gm} {N : Nat} {w : World} (h : Play w0 xb x N w) : Below w0.heap.size w0 w :=
  Keep.below (h.keep.mono (fun _ _ _ => trivial)) (Nat.le_refl _)

theorem Play.moves {w0 : World} {xb : Nat} {x : Gm} {N : Nat} {w : World} (h : Play w0 xb x N w) (hN : N < 280000000000000) (m : Int × Int × Int) (h1 : i64B m.1) (h2 : i64B m.2.1) (h3 : i64B m.2.2) :
    Calls Try.prog 9 #[.pointer (some ⟨xb, 0, none⟩), .agg #[.int .i64 m.1, .int .i64 m.2.1, .int .i64 m.2.2]] w fun e w' => e = .returned (.tuple #[]) ∧ Play w0 xb (movesG x m.1 m.2.1 m.2.2) (N + 18) w' := by
  obtain ⟨own, q1, q2⟩ := h.at_
  refine (g_moves q1 (by omega) (by omega) m.1 m.2.1 m.2.2 h1.1 h1.2 h2.1 h2.2 h3.1 h3.2).mono ?_
  rintro e w' ⟨rfl, hg⟩
  exact ⟨rfl, Play.go h.keep q2 hg⟩

theorem Play.movesW {w0 : World} {xb : Nat} {x : Gm} {N : Nat} {w : World} (h : Play w0 xb x N w) (hN : N < 280000000000000) (m : Int × Int × Int) (h1 : i64B m.1) (h2 : i64B m.2.1) (h3 : i64B m.2.2) (hk : pickN m.1 16 = 14) :
    Calls Try.prog 9 #[.pointer (some ⟨xb, 0, none⟩), .agg #[.int .i64 m.1, .int .i64 m.2.1, .int .i64 m.2.2]] w fun e w' => e = .returned (.tuple #[]) ∧ Play w0 xb (movesG x m.1 m.2.1 m.2.2) (N + 2) w' := by
  obtain ⟨own, q1, q2⟩ := h.at_
  refine (g_movesW q1 (by omega) (by omega) m.1 m.2.1 m.2.2 h1.1 h1.2 h2.1 h2.2 h3.1 h3.2 hk).mono ?_
  rintro e w' ⟨rfl, hg⟩
  exact ⟨rfl, Play.go h.keep q2 hg⟩

theorem Play.finish {w0 : World} {xb : Nat} {x : Gm} {N : Nat} {w : World} (J : Gm → Prop) (hJ : Keeps J) (hx : J x) (h : Play w0 xb x N w) (hN : N < 280000000000000) :
    Calls Try.prog 10 #[.pointer (some ⟨xb, 0, none⟩)] w fun e w' => e = .returned (.bool true) ∧ ∃ x', Play w0 xb x' (N + 10000) w' ∧ J x' ∧ AllTold x' := by
  obtain ⟨own, q1, q2⟩ := h.at_
  refine (g_finish J hJ q1 hx (by omega) hN).mono ?_
  rintro e w' ⟨rfl, x', hg, hj, ha⟩
  exact ⟨rfl, x', Play.go h.keep q2 hg, hj, ha⟩

theorem play_begun (raw : Int) (h : i64B raw) (w : World) :
    Calls Try.prog 8 #[.int .i64 raw] w fun e w' => ∃ xb, e = .returned (.pointer (some ⟨xb, 0, none⟩)) ∧ Play w xb (begG (pickN raw 1073741824)) 4 w' := by
  refine (g_begun raw h.1 h.2 w).mono ?_
  rintro e w' ⟨xb, own, rfl, h1, h2, _, h4⟩
  exact ⟨xb, rfl, ⟨own, h1, h4⟩, h2⟩

set_option maxRecDepth 100000 in
set_option maxHeartbeats 1000000 in
theorem once_walk (raw : Int) (hraw : i64B raw) (a : Option Addr) (len cap : Nat) (ms : Nat → Int × Int × Int) (w : World) (hm : MovesAt w a len ms) (hl : len ≤ 5864062014634) :
    Calls Try.prog 3 #[.int .i64 raw, .slice a len cap] w fun e w' => e = .returned (.bool true) ∧ Below w.heap.size w w' := by
  have bg := play_begun raw hraw w
  have HM := hideE hm
  clear hm hraw
  go_enter Try.func3, Try.ntmps3
  go_wp2_with fail
  refine bg.mono ?_
  rintro e w1 ⟨xb, rfl, hp⟩
  have HP := hideE hp
  clear bg hp
  go_wp2
  go_loopg [6] len (fun gn iv wr => ∃ (k : Nat) (x : Gm), iv = .int .i64 k ∧ k ≤ len ∧ gn = len - k ∧ Play w xb x (4 + 18 * k) wr)
  case atStart => exact ⟨0, _, rfl, Nat.zero_le _, rfl, HP.out⟩
  case round =>
    obtain ⟨k, x, rfl, hk, hgn, hp⟩ := hrel
    by_cases hkl : k < len
    · have k1 : (k : Int) < (len : Int) := by omega
      have k2 : (k : Int) ≤ 5864062014634 := by omega
      obtain ⟨b, off, rfl, e1, e2, e3, r1, r2, r3⟩ := (HM.out.keep hp.keep (fun _ _ => trivial)).get k hkl
      have mv := hp.moves (by omega) (ms k) r1 r2 r3
      have HK := hideE (show k < len ∧ gk = len - k from ⟨hkl, hgn⟩)
      clear hp hk hkl hgn r1 r2 r3
      go_wp2_with fail
      refine mv.mono ?_
      rintro e w2 ⟨rfl, hq⟩
      have c15 := hq.c15
      have HQ := hideE hq
      clear mv hq
      go_wp2
      go_roundg (len - (k + 1))
      case measure => have := HK.out; omega
      case rel => exact ⟨k + 1, _, rfl, HK.out.1, rfl, HQ.out⟩
    · have ek : k = len := by omega
      subst ek
      have fn := hp.finish _ keeps_true trivial (by omega)
      clear hp hk hkl hgn
      go_wp2_with fail
      refine fn.mono ?_
      rintro e w2 ⟨rfl, x', hq, _, _⟩
      have HQ := hideE hq.below
      clear fn hq
      go_wp2
      go_ret
      exact ⟨rfl, HQ.out⟩

end Go.Proofs.Ytjhifhoniimfgaa

/-
  How scripts and numbers that came in read.
-/
namespace Go.Proofs.Ytjhifhoniimfgaa
open Go.RowKit Go.Deep

theorem Try.cellsMove : Try.prog.cellsOf 27 = 3 := by kernel_rfl
theorem Try.cellsInt : Try.prog.cellsOf 3 = 1 := by kernel_rfl

/-- Numbers in memory. -/
def IntsAt (w : World) (a : Option Addr) (len : Nat) (ls : Nat → Int) : Prop :=
  len = 0 ∨ ∃ b off, a = some ⟨b, off, none⟩ ∧ b < w.heap.size ∧ ∀ k, k < len → w.cell? ⟨b, off + k, none⟩ = some (.int .i64 (ls k)) ∧ i64B (ls k)

section
variable {H : Type} {enc : TypeId × Value → H} {W : World} {held : Bool}

theorem three_of {α : Type} {l : List α} (h : l.length = 3) : ∃ a b c, l = [a, b, c] := by
  match l, h with
  | [a, b, c], _ => exact ⟨a, b, c, rfl⟩

theorem int_of {fuel : Nat} {v : Value} {x : DataW H × List MemPlace} (h : DataW.trod enc Try.prog W 0 (fun _ => true) held fuel 3 [v] = some x) : ∃ n : Int, v = .int .i64 n ∧ i64B n := by
  obtain ⟨n, e, _, wf⟩ := DataW.trod_int Try.underlying3 h
  simp only [List.cons.injEq, and_true] at e
  exact ⟨n, e, bounds_i64 wf⟩

theorem move_of {fuel : Nat} {cs : List Value} {x : DataW H × List MemPlace} (h : DataW.trod enc Try.prog W 0 (fun _ => true) held fuel 27 cs = some x) :
    ∃ m : Int × Int × Int, cs = [.int .i64 m.1, .int .i64 m.2.1, .int .i64 m.2.2] ∧ i64B m.1 ∧ i64B m.2.1 ∧ i64B m.2.2 := by
  obtain ⟨xs, n, _, _, hl, hxl, hf⟩ := DataW.trod_struct Try.underlying27 h
  rw [Try.cellsMove] at hl
  obtain ⟨c0, c1, c2, rfl⟩ := three_of hl
  obtain ⟨x0, x1, x2, rfl⟩ := three_of (show xs.length = 3 from hxl)
  have f0 : DataW.trod enc Try.prog W 0 (fun _ => true) held n 3 [c0] = some x0 := by simpa [Try.cellsInt] using hf 0 _ rfl
  have f1 : DataW.trod enc Try.prog W 0 (fun _ => true) held n 3 [c1] = some x1 := by simpa [Try.cellsInt] using hf 1 _ rfl
  have f2 : DataW.trod enc Try.prog W 0 (fun _ => true) held n 3 [c2] = some x2 := by simpa [Try.cellsInt] using hf 2 _ rfl
  obtain ⟨n0, rfl, b0⟩ := int_of (enc := enc) (W := W) (held := held) (x := x0) f0
  obtain ⟨n1, rfl, b1⟩ := int_of (enc := enc) (W := W) (held := held) (x := x1) f1
  obtain ⟨n2, rfl, b2⟩ := int_of (enc := enc) (W := W) (held := held) (x := x2) f2
  exact ⟨(n0, n1, n2), rfl, b0, b1, b2⟩

theorem bulk_pos (d : DataW H) : 1 ≤ Rows.uptoBulk d := by
  cases d with
  | lit l => cases l <;> simp only [Rows.uptoBulk] <;> omega
  | _ => simp only [Rows.uptoBulk] <;> omega

theorem bulk_len : ∀ l : List (DataW H), l.length ≤ Rows.uptoBulkAll l
  | [] => Nat.zero_le _
  | d :: r => by
    have h1 := bulk_pos d
    have h2 := bulk_len r
    simp only [Rows.uptoBulkAll, List.length_cons]
    omega

theorem moves_of {fuel : Nat} {a : Option Addr} {len cap : Nat} {x : DataW H × List MemPlace} (h : DataW.trod enc Try.prog W 0 (fun _ => true) held fuel 22 [.slice a len cap] = some x) :
    ∃ ms, MovesAt W a len ms ∧ len ≤ Rows.uptoBulk x.1 := by
  rcases open_slice Try.underlying22 h with ⟨hc, _⟩ | ⟨a', len', cap', m, n, D, Pl, hc, _, hl, _, hm, hx, hel⟩
  · simp only [List.cons.injEq, and_true, Value.slice.injEq] at hc
    obtain ⟨rfl, rfl, rfl⟩ := hc
    exact ⟨fun _ => (0, 0, 0), .inl rfl, Nat.zero_le _⟩
  · simp only [List.cons.injEq, and_true, Value.slice.injEq] at hc
    obtain ⟨rfl, rfl, rfl⟩ := hc
    simp only [if_true] at hm
    subst hm
    have hlen : len ≤ Rows.uptoBulk x.1 := by
      rw [hx]
      simp only [Rows.uptoBulk]
      have := bulk_len ((List.range len).map D)
      simp only [List.length_map, List.length_range] at this
      omega
    by_cases h0 : len = 0
    · exact ⟨fun _ => (0, 0, 0), .inl h0, hlen⟩
    rw [Try.cellsMove] at hel
    have hel2 : ∀ i, i < len → ∃ m : Int × Int × Int, (W.cell? ((a'.add (i * 3)).add 0) = some (.int .i64 m.1) ∧ W.cell? ((a'.add (i * 3)).add 1) = some (.int .i64 m.2.1) ∧ W.cell? ((a'.add (i * 3)).add 2) = some (.int .i64 m.2.2)) ∧ i64B m.1 ∧ i64B m.2.1 ∧ i64B m.2.2 := by
      intro i hi
      obtain ⟨cs', h1, h2⟩ := hel i (by omega)
      obtain ⟨m, rfl, b⟩ := move_of h2
      obtain ⟨_, _, h5⟩ := World.cells?_some h1
      exact ⟨m, ⟨by rw [h5 0 (by omega)]; rfl, by rw [h5 1 (by omega)]; rfl, by rw [h5 2 (by omega)]; rfl⟩, b⟩
    obtain ⟨ms, hms⟩ := choose_lt hel2
    obtain ⟨b, off, spot⟩ := a'
    have hs := World.cell?_spot (hms 0 (by omega)).1.1
    simp [Addr.add] at hs
    subst hs
    have e : ∀ k j, ((⟨b, off, none⟩ : Addr).add (k * 3)).add j = ⟨b, off + k * 3 + j, none⟩ := fun k j => by rw [Addr.add_lit, Addr.add_lit]
    have h00 := (hms 0 (by omega)).1.1
    rw [e] at h00
    refine ⟨ms, .inr ⟨b, off, rfl, World.block_lt_of_cell? W _ h00, fun k hk => ?_⟩, hlen⟩
    obtain ⟨⟨q0, q1, q2⟩, q3⟩ := hms k hk
    rw [e] at q0 q1 q2
    exact ⟨q0, q1, q2, q3⟩

theorem ints_of {fuel : Nat} {a : Option Addr} {len cap : Nat} {x : DataW H × List MemPlace} (h : DataW.trod enc Try.prog W 0 (fun _ => true) held fuel 57 [.slice a len cap] = some x) :
    ∃ ls, IntsAt W a len ls ∧ len ≤ Rows.uptoBulk x.1 := by
  rcases open_slice1 Try.underlying57 Try.cellsInt h with ⟨hc, _⟩ | ⟨a', len', cap', m, n, V, D, Pl, hc, _, hl, _, hm, hx, hel⟩
  · simp only [List.cons.injEq, and_true, Value.slice.injEq] at hc
    obtain ⟨rfl, rfl, rfl⟩ := hc
    exact ⟨fun _ => 0, .inl rfl, Nat.zero_le _⟩
  · simp only [List.cons.injEq, and_true, Value.slice.injEq] at hc
    obtain ⟨rfl, rfl, rfl⟩ := hc
    simp only [if_true] at hm
    subst hm
    have hlen : len ≤ Rows.uptoBulk x.1 := by
      rw [hx]
      simp only [Rows.uptoBulk]
      have := bulk_len ((List.range len).map D)
      simp only [List.length_map, List.length_range] at this
      omega
    by_cases h0 : len = 0
    · exact ⟨fun _ => 0, .inl h0, hlen⟩
    have h2 : ∀ i, i < len → ∃ s : Int, W.cell? (a'.add i) = some (.int .i64 s) ∧ i64B s := fun i hi => by
      obtain ⟨h3, h4⟩ := hel i (by omega)
      obtain ⟨s, e, b⟩ := int_of (enc := enc) (W := W) (held := held) (x := (D i, Pl i)) h4
      exact ⟨s, by rw [h3, e], b⟩
    obtain ⟨ls, hls⟩ := choose_lt h2
    obtain ⟨b, off, spot⟩ := a'
    have hs := World.cell?_spot (hls 0 (by omega)).1
    simp [Addr.add] at hs
    subst hs
    refine ⟨ls, .inr ⟨b, off, rfl, World.block_lt_of_cell? W _ (hls 0 (by omega)).1, fun k hk => ?_⟩, hlen⟩
    have := hls k hk
    rwa [Addr.add_lit] at this
end

end Go.Proofs.Ytjhifhoniimfgaa

/-
  How many steps a script that came in can have: by the reach of one slice.
-/
namespace Go.Proofs.Ytjhifhoniimfgaa
open Go.RowKit Go.Deep

theorem Try.bytesInt : Try.prog.bytesOf 3 = 8 := by kernel_rfl
theorem Try.bytesMove : Try.prog.bytesOf 27 = 24 := by kernel_rfl

section
variable {H : Type} {enc : TypeId × Value → H} {W : World} {held : Bool}

theorem moves_reach {fuel : Nat} {a : Option Addr} {len cap : Nat} {x : DataW H × List MemPlace} (h : DataW.trod enc Try.prog W 0 (fun _ => true) held fuel 22 [.slice a len cap] = some x)
    (hw : ∀ k ∈ x.1.weights Try.prog 22, k ≤ reachBytes) : ∃ ms, MovesAt W a len ms ∧ len ≤ 5864062014634 := by
  obtain ⟨ms, hms, _⟩ := moves_of h
  refine ⟨ms, hms, ?_⟩
  rcases open_slice Try.underlying22 h with ⟨hc, _⟩ | ⟨a', len', cap', m, n, D, Pl, hc, _, hl, _, hm, hx, _⟩
  · simp only [List.cons.injEq, and_true, Value.slice.injEq] at hc
    omega
  · simp only [List.cons.injEq, and_true, Value.slice.injEq] at hc
    obtain ⟨rfl, rfl, rfl⟩ := hc
    simp only [if_true] at hm
    subst hm
    rw [hx] at hw
    simp only [DataW.weights, Try.underlying22, List.mem_cons, List.length_map, List.length_range, Try.bytesMove, reachBytes] at hw
    have hb := hw _ (.inl rfl)
    omega

theorem ints_reach {fuel : Nat} {a : Option Addr} {len cap : Nat} {x : DataW H × List MemPlace} (h : DataW.trod enc Try.prog W 0 (fun _ => true) held fuel 57 [.slice a len cap] = some x)
    (hw : ∀ k ∈ x.1.weights Try.prog 57, k ≤ reachBytes) : ∃ ls, IntsAt W a len ls ∧ len ≤ 17592186043904 := by
  obtain ⟨ls, hls, _⟩ := ints_of h
  refine ⟨ls, hls, ?_⟩
  rcases open_slice1 Try.underlying57 Try.cellsInt h with ⟨hc, _⟩ | ⟨a', len', cap', m, n, V, D, Pl, hc, _, hl, _, hm, hx, _⟩
  · simp only [List.cons.injEq, and_true, Value.slice.injEq] at hc
    omega
  · simp only [List.cons.injEq, and_true, Value.slice.injEq] at hc
    obtain ⟨rfl, rfl, rfl⟩ := hc
    simp only [if_true] at hm
    subst hm
    rw [hx] at hw
    simp only [DataW.weights, Try.underlying57, List.mem_cons, List.length_map, List.length_range, Try.bytesInt, reachBytes] at hw
    have hb := hw _ (.inl rfl)
    omega
end

end Go.Proofs.Ytjhifhoniimfgaa

