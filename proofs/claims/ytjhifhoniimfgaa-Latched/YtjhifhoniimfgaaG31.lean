import Derived.Test.YtjhifhoniimfgaaG30
/-
  A game: a client polls.
-/
namespace Go.Proofs.Ytjhifhoniimfgaa
open Go.RowKit

set_option maxHeartbeats 400000 in
theorem g_poll_empty {own : Nat → Nat} {T : Nat} {w : World} {xb : Nat} {x : Gm} {N : Nat} (h : GAt own T w xb x N) (hN : N < 1000000000000000) (c : Nat) (hc : c < 3) (hr : x.s.ring c = []) :
    Calls Try.prog 25 #[.pointer (some ⟨xb, 0, none⟩), .int .i64 c] w fun e w' => e = .returned (.bool false) ∧ GGo own T w xb x (N + 1) w' := by
  obtain ⟨B, X, st0, st1, hm, rfl⟩ := h
  have hp : pollS x.s c = ((0, 0), 8, x.s) := by
    unfold pollS
    rw [if_neg (by rw [hm.inv.cl, show (0 : Int) = ((0 : Nat) : Int) from rfl, refuse_ok c 0 hc (by omega)]; simp), Int.toNat_natCast, hr]
  have c := gPoll hm.pg hm.ok (by omega) c
  rw [hp] at c
  have c0 := hm.at_.c0
  rw [hm.gb] at c0
  have HM := hideE hm
  clear hm hp
  go_enter Try.func25, Try.ntmps25
  go_wp2_with fail
  refine c.mono ?_
  rintro e w1 ⟨rfl, own', B', g1, g2, g3, g4⟩
  obtain ⟨q1, q2, q3, q4⟩ := HM.out.call g1 g2 g3 g4
  have d7 := q2.c15
  have z7 := q2.fz 15
  have lx := block_lt q2.game
  simp only [vOf] at d7
  have F1 := hideE g3
  have F2 := hideE q1
  have F3 := hideE q2
  have F4 := hideE q3
  have F5 := hideE q4
  clear c g1 g2 g3 g4 q1 q2 q3 q4 c0
  have KEY := hideE (show GGo own T w X.xb x (N + 1) ((w1.setCell ⟨X.xb, 15, none⟩ (.bool false)).alloc (.cells #[.int .i64 0, .int .i64 0] 66)) from
    ((GM.goes F2.out (HM.out.ok.more (Nat.le_succ N)) F3.out F4.out HM.out.inv (HM.out.sz.more (Nat.le_succ N)) F1.out F5.out (Keep.refl _ w1)).badF).keepT ((Keep.refl _ _).alloc _))
  go_wp2_with fail
  go_ret
  exact ⟨rfl, KEY.out⟩

set_option maxHeartbeats 1000000 in
theorem g_poll_some {own : Nat → Nat} {T : Nat} {w : World} {xb : Nat} {x : Gm} {N : Nat} (h : GAt own T w xb x N) (hN : N < 1000000000000000) (c : Nat) (hc : c < 3) (a : Ans) (r : List Ans) (hr : x.s.ring c = a :: r) :
    Calls Try.prog 25 #[.pointer (some ⟨xb, 0, none⟩), .int .i64 c] w fun e w' => e = .returned (.bool true) ∧ GGo own T w xb (pollG x c) (N + 1) w' := by
  obtain ⟨B, X, st0, st1, hm, rfl⟩ := h
  obtain ⟨p, q⟩ := a
  have hp : pollS x.s c = ((p, q), 0, { x.s with ring := upN x.s.ring c r }) := by
    unfold pollS
    rw [if_neg (by rw [hm.inv.cl, show (0 : Int) = ((0 : Nat) : Int) from rfl, refuse_ok c 0 hc (by omega)]; simp), Int.toNat_natCast, hr]
  have hpg : pollG x c = ⟨{ x.s with ring := upN x.s.ring c r }, upN x.L 0 (told1 c (x.L 0))⟩ := by unfold pollG; rw [hr]
  have cc := gPoll hm.pg hm.ok (by omega) c
  have ok := poll_ok hm.ok c
  rw [hp] at cc ok
  have inv := poll_inv hm.inv c hc
  rw [hpg] at inv ⊢
  have hu : unt c 0 (x.L 0) = (p, q) :: (r ++ heldOf x.s c) := by rw [← hm.inv.ring c hc, hr]; rfl
  have c0 := hm.at_.c0
  rw [hm.gb] at c0
  have HM := hideE hm
  have HOK := hideE (show Ok _ (N + 1) from ok)
  have HINV := hideE inv
  have HU := hideE hu
  clear hm hp hr hpg ok inv hu
  go_enter Try.func25, Try.ntmps25
  go_wp2_with fail
  refine cc.mono ?_
  rintro e w1 ⟨rfl, own', B', g1, g2, g3, g4⟩
  obtain ⟨q1, q2, q3, q4⟩ := HM.out.call g1 g2 g3 g4
  have F1 := hideE g3
  have F2 := hideE q1
  have F3 := hideE q2
  have F4 := hideE q3
  have F5 := hideE q4
  clear cc g1 g2 g3 g4 q1 q2 q3 q4 c0
  have kA : Keep (fun _ => True) w1 (w1.alloc (.cells #[.int .i64 p, .int .i64 q] 66)) := (Keep.refl _ w1).alloc _
  have xA := F3.out.keep (own' := own') kA (fun _ _ _ => trivial) (fun _ _ _ => rfl)
  have iv := HM.out.inv
  have tw : Calls Try.prog 42 #[.pointer (some ⟨X.xb, 0, none⟩), .int .i64 c, .int .i64 0, .agg #[.int .i64 p, .int .i64 q]] (w1.alloc (.cells #[.int .i64 p, .int .i64 q] 66)) fun e w' => e = .returned (.tuple #[]) ∧ XAt own' (T + 100) w' X x.s.lim (vOf x.s st0 st1) (upN x.L 0 (told1 c (x.L 0))) ∧ Keep (fun b => own' b ≠ T + 100) (w1.alloc (.cells #[.int .i64 p, .int .i64 q] 66)) w' :=
    told_walk xA rfl 0 (.inl rfl) c p q _ HU.out (fun k g hg => (iv.pl 0 k g (by omega) hg).taken) (by have := HM.out.ok.mt 0 (by omega); show x.s.t 0 ≤ _; omega) (fun k g hg ht => (iv.pl 0 k g (by omega) hg).size ht)
  have HK := hideE kA
  clear iv xA kA
  go_wp2_with fail
  refine tw.mono ?_
  rintro e w2 ⟨rfl, k1, k2⟩
  have d7 := k1.c15
  have z7 := k1.fz 15
  simp only [vOf] at d7
  have KEY := hideE (show GGo own T w X.xb ⟨{ x.s with ring := upN x.s.ring c r }, upN x.L 0 (told1 c (x.L 0))⟩ (N + 1) (w2.setCell ⟨X.xb, 15, none⟩ (.bool false)) from by
    have kk : Keep (fun b => own' b ≠ T + 100) w1 w2 := (HK.out.mono (T := fun b => own' b ≠ T + 100) (fun _ _ _ => trivial)).trans' k2 (fun _ _ h => h)
    exact (GM.goes (x' := ⟨{ x.s with ring := upN x.s.ring c r }, upN x.L 0 (told1 c (x.L 0))⟩) (F2.out.keep HOK.out.cl.2 HOK.out.na.2 kk (fun b _ _ _ => by omega) (Same.refl _ _)) HOK.out k1 F4.out HINV.out (HM.out.sz.same rfl rfl (Nat.le_succ N)) F1.out F5.out kk).badF)
  clear k1 k2 tw
  go_wp2_with fail
  go_ret
  exact ⟨rfl, KEY.out⟩

theorem g_pollS {own : Nat → Nat} {T : Nat} {w : World} {xb : Nat} {x : Gm} {N : Nat} (h : GAt own T w xb x N) (hN : N < 1000000000000000) (c : Nat) (hc : c < 3) :
    Calls Try.prog 25 #[.pointer (some ⟨xb, 0, none⟩), .int .i64 c] w fun e w' => e = .returned (.bool !(x.s.ring c).isEmpty) ∧ GGo own T w xb (pollG x c) (N + 1) w' := by
  cases hr : x.s.ring c with
  | nil =>
    have : pollG x c = x := by unfold pollG; rw [hr]
    rw [this]
    exact g_poll_empty h hN c hc hr
  | cons a r => exact g_poll_some h hN c hc a r hr

theorem g_poll {own : Nat → Nat} {T : Nat} {w : World} {xb : Nat} {x : Gm} {N : Nat} (h : GAt own T w xb x N) (hN : N < 281000000000000) (c : Nat) (hc : c < 3) :
    Calls Try.prog 25 #[.pointer (some ⟨xb, 0, none⟩), .int .i64 c] w fun e w' => e = .returned (.bool !(x.s.ring c).isEmpty) ∧ GGo own T w xb (pollG x c) (N + 1) w' :=
  g_pollS h (by omega) c hc

end Go.Proofs.Ytjhifhoniimfgaa

/-
  A game: a client's acks.
-/
namespace Go.Proofs.Ytjhifhoniimfgaa
open Go.RowKit

theorem ansFlat_at : ∀ (l : List Ans) (j : Nat) (a : Ans), l[j]? = some a → (ansFlat l)[j * 2]? = some (.int .i64 a.1) ∧ (ansFlat l)[j * 2 + 1]? = some (.int .i64 a.2)
  | [], j, a, h => by simp at h
  | b :: l, 0, a, h => by simp at h; subst h; exact ⟨rfl, rfl⟩
  | b :: l, j + 1, a, h => by
    have := ansFlat_at l j a (by simpa using h)
    rw [show (j + 1) * 2 = j * 2 + 1 + 1 by omega]
    exact this

theorem ack_cells {w : World} {v : Value} {l : List Ans} (h : AckAt w v l) (j : Nat) (a : Ans) (hj : l[j]? = some a) : ∃ g cap, v = .slice (some ⟨g, 0, none⟩) l.length cap ∧ w.cell? ⟨g, j * 2, none⟩ = some (.int .i64 a.1) ∧ w.cell? ⟨g, j * 2 + 1, none⟩ = some (.int .i64 a.2) := by
  have hlt := (List.getElem?_eq_some_iff.1 hj).1
  obtain ⟨g, cap, cs, q1, q2, q3⟩ := ownsRow_cells h (by omega)
  obtain ⟨f1, f2⟩ := ansFlat_at l j _ hj
  exact ⟨g, cap, q1, cellAt q2 (q3 _ _ f1), cellAt q2 (q3 _ _ f2)⟩

theorem toldN_succ (c : Int) : ∀ (j : Nat) (l : List Snt), told1 c (toldN c j l) = toldN c (j + 1) l
  | 0, _ => rfl
  | j + 1, l => by rw [toldN, toldN_succ c j (told1 c l)]; rfl

theorem upN_upN {α : Type} (m : Nat → α) (i : Nat) (x y : α) : upN (upN m i x) i y = upN m i y := by
  funext j
  unfold upN
  split <;> rfl

set_option maxRecDepth 100000 in
set_option maxHeartbeats 1000000 in
theorem g_acks {own : Nat → Nat} {T : Nat} {w : World} {xb : Nat} {x : Gm} {N : Nat} (h : GAt own T w xb x N) (hT : 0 < T) (hN : N < 281000000000000) (c : Nat) (hc : c < 3) :
    Calls Try.prog 32 #[.pointer (some ⟨xb, 0, none⟩), .int .i64 c] w fun e w' => e = .returned (.tuple #[]) ∧ GGo own T w xb (acksG x c) (N + 1) w' := by
  obtain ⟨B, X, st0, st1, hm, rfl⟩ := h
  obtain ⟨l, hl⟩ : ∃ l, l = x.s.acks c := ⟨_, rfl⟩
  have hp : acksS x.s c = (l, 0, (acksG x c).s) := by
    unfold acksS
    rw [if_neg (by rw [hm.inv.cl, show (0 : Int) = ((0 : Nat) : Int) from rfl, refuse_ok c 0 hc (by omega)]; simp), Int.toNat_natCast, hl]
    rfl
  have cc := gAcks hm.pg hm.ok 0 c
  have ok := acks_ok hm.ok c
  rw [hp] at cc ok
  have inv := acks_inv hm.inv c hc
  have hlen : l.length ≤ N := by rw [hl]; exact hm.ok.acks c
  have hu : unt c 0 (x.L 1) = l := by rw [hl]; exact (hm.inv.acks c hc).symm
  have hgL : (acksG x c).L = upN x.L 1 (toldN c l.length (x.L 1)) := by rw [hl]; rfl
  have hgs : (acksG x c).s.lim = x.s.lim ∧ (∀ a b, vOf (acksG x c).s a b = vOf x.s a b) := ⟨rfl, fun _ _ => rfl⟩
  have wt : Wt (acksG x c).s (N + 1) := hm.sz.same rfl rfl (Nat.le_succ N)
  obtain ⟨x', hx'⟩ : ∃ x', x' = acksG x c := ⟨_, rfl⟩
  rw [← hx'] at cc ok inv wt hgL hgs ⊢
  have c0 := hm.at_.c0
  rw [hm.gb] at c0
  have HM := hideE hm
  have HOK := hideE (show Ok _ (N + 1) from ok)
  have HINV := hideE inv
  have HWT := hideE wt
  have HU := hideE hu
  have HL := hideE hgL
  have HS := hideE hgs
  clear hm hp ok inv wt hu hl hgL hgs hx'
  go_enter Try.func32, Try.ntmps32
  go_wp2_with fail
  refine cc.mono ?_
  rintro e w1 ⟨v, rfl, a1, a2, a3, a4, a5⟩
  have xA : XAt (retag own v 0) (T + 100) w1 X x.s.lim (vOf x.s st0 st1) x.L := HM.out.at_.keep a5 (fun b h1 h2 => .inr (by omega)) (fun b hb h2 => retag_ne (fun e => by have := a2 b e; omega))
  obtain ⟨va, vc, hv⟩ := a1.slice
  have kO : Keep (OutG own T) w w1 := a5.mono (fun b _ hb => by unfold OutG at hb; unfold Out; omega)
  have hO : ∀ b, b < w.heap.size → OutG own T b → OutG (retag own v 0) T b := fun b hb h1 => by
    unfold OutG at h1 ⊢
    by_cases e : v.ownBlock = some b
    · rw [retag_eq e]; omega
    · rw [retag_ne e]; exact h1
  obtain ⟨own1, ho1⟩ : ∃ own1, own1 = retag own v 0 := ⟨_, rfl⟩
  have hv0 : ∀ b, v.ownBlock = some b → own1 b ≠ T + 100 := fun b hb => by rw [ho1, retag_eq hb]; omega
  rw [← ho1] at xA a3 hO
  clear ho1
  subst hv
  have d7 := xA.c15
  have z7 := xA.fz 15
  simp only [vOf] at d7
  have F1 := hideE a1
  have F2 := hideE a3
  have F3 := hideE xA
  have F4 := hideE kO
  have F5 := hideE hO
  have F6 := hideE hv0
  clear cc a1 a2 a3 a4 a5 xA kO hO hv0 c0
  have HT := hideE hT
  clear hT
  go_wp2
  go_loopw [6] (fun iv wr => ∃ j : Nat, iv = .int .i64 j ∧ j ≤ l.length ∧ XAt own1 (T + 100) wr X x.s.lim (vOf x.s st0 st1) (upN x.L 1 (toldN c j (x.L 1))) ∧ Keep (fun b => own1 b ≠ T + 100) w1 wr) (fun iv _ => l.length - (intOf iv).toNat)
  case atStart =>
    refine ⟨0, rfl, Nat.zero_le _, ?_, (Keep.refl _ w1).setCell _ (fun _ h => h F3.out.og) _⟩
    show XAt own1 (T + 100) _ X x.s.lim _ (upN x.L 1 (x.L 1))
    rw [upN_self]
    exact F3.out.vset 15 (.bool false) _ rfl
  case round =>
    obtain ⟨j, rfl, hj, hx, hk⟩ := hrel
    by_cases hjl : j < l.length
    · obtain ⟨⟨p, q⟩, ha⟩ : ∃ a, l[j]? = some a := ⟨_, List.getElem?_eq_getElem hjl⟩
      have hak : AckAt wr (.slice va l.length vc) l := F1.out.keep hk (fun b hb => F6.out b hb)
      obtain ⟨g, cap, e1, e2, e3⟩ := ack_cells hak j _ ha
      simp only [Value.slice.injEq, true_and] at e1
      obtain ⟨rfl, rfl⟩ := e1
      have iv := HM.out.inv
      have hdrop : unt c 0 (toldN c j (x.L 1)) = (p, q) :: l.drop (j + 1) := by
        rw [toldN_unt, if_pos rfl, HU.out, List.drop_eq_getElem_cons hjl]
        rw [List.getElem?_eq_getElem hjl] at ha
        simp only [Option.some.injEq] at ha
        rw [ha]
      have hpl : ∀ (k : Nat) (y : Snt), (toldN c j (x.L 1))[k]? = some y → y.taken = decide (k < x.s.t 1) ∧ (y.taken = true → (y.kind = 0 ↔ y.given = 1) ∧ y.given = 0) := fun k y hy => by
        obtain ⟨g0, h0, e | ⟨q1, q2, q3, e⟩⟩ := toldN_get c j _ k y hy
        · have hp := iv.pl 1 k g0 (by omega) h0
          subst e
          exact ⟨hp.taken, fun ht => ⟨hp.size ht, hp.zero ht rfl⟩⟩
        · have hp := iv.pl 1 k g0 (by omega) h0
          subst e
          exact ⟨hp.taken, fun ht => ⟨hp.size ht, hp.zero ht rfl⟩⟩
      have hq : q = 0 := by
        obtain ⟨m, y, y1, y2, y3, _⟩ := told1_at c _ 0 _ _ hdrop
        simp only [Prod.mk.injEq] at y2
        rw [y2.2]
        exact ((hpl m y y1).2 y3).2
      have htw := HM.out.ok.mt 1 (by omega)
      have tw : Calls Try.prog 42 #[.pointer (some ⟨X.xb, 0, none⟩), .int .i64 c, .int .i64 1, .agg #[.int .i64 p, .int .i64 q]] wr fun e w' => e = .returned (.tuple #[]) ∧ XAt own1 (T + 100) w' X x.s.lim (vOf x.s st0 st1) (upN x.L 1 (toldN c (j + 1) (x.L 1))) ∧ Keep (fun b => own1 b ≠ T + 100) wr w' := by
        have := told_walk hx rfl 1 (.inr rfl) c p q _ (by rw [upN_same]; exact hdrop) (fun k y hy => by rw [upN_same] at hy; exact (hpl k y hy).1) (by show x.s.t 1 ≤ _; omega) (fun k y hy ht => by rw [upN_same] at hy; exact ((hpl k y hy).2 ht).1)
        rw [upN_same, upN_upN, toldN_succ] at this
        exact this
      have l1 : (j : Int) < (l.length : Int) := by omega
      have HK := hideE hk
      have HA := hideE ha
      have hlen' : l.length ≤ 281000000000000 := by omega
      subst hq
      clear iv hpl hdrop hak hx hk ha htw
      go_wp2_with fail
      refine tw.mono ?_
      rintro e w2 ⟨rfl, k1, k2⟩
      have kk : Keep (fun b => own1 b ≠ T + 100) w1 w2 := HK.out.trans' k2 (fun _ _ h => h)
      have hak2 : AckAt w2 (.slice (some ⟨g, 0, none⟩) l.length vc) l := F1.out.keep kk (fun b hb => F6.out b hb)
      obtain ⟨g', cap', e1', e2', e3'⟩ := ack_cells hak2 j _ HA.out
      simp only [Value.slice.injEq, Option.some.injEq, Addr.mk.injEq, and_true, true_and] at e1'
      obtain ⟨rfl, rfl⟩ := e1'
      have d7' := k1.c15
      have z7' := k1.fz 15
      simp only [vOf] at d7'
      have KEY := hideE (show XAt own1 (T + 100) (w2.setCell ⟨X.xb, 15, none⟩ (.bool false)) X x.s.lim (vOf x.s st0 st1) (upN x.L 1 (toldN c (j + 1) (x.L 1))) ∧ Keep (fun b => own1 b ≠ T + 100) w1 (w2.setCell ⟨X.xb, 15, none⟩ (.bool false)) from
        ⟨k1.vset 15 (.bool false) _ rfl, kk.setCell _ (fun _ h => h k1.og) _⟩)
      clear tw k1 k2 kk hak2
      go_wp2_with fail
      go_roundw
      case rel => exact ⟨j + 1, rfl, hjl, KEY.out.1, KEY.out.2⟩
      case measure => simp [intOf]; omega
    · have ej : j = l.length := by omega
      subst ej
      have hnl : ¬ ((l.length : Int) < (l.length : Int)) := by omega
      have KEY := hideE (show GGo own T w X.xb x' (N + 1) wr from by
        refine ⟨own1, ⟨B, X, st0, st1, ⟨F2.out.keep HOK.out.cl.2 HOK.out.na.2 hk (fun b _ _ _ => by omega) (Same.refl _ _), HOK.out, ?_, HM.out.gb, HINV.out, HWT.out⟩, rfl⟩, F5.out, F4.out.trans' hk (fun b hb hO => ?_)⟩
        · rw [HL.out, HS.out.1, HS.out.2]; exact hx
        · have := F5.out b hb hO
          unfold OutG at this
          omega)
      clear hx hk
      go_wp2_with fail
      go_end0
      exact ⟨rfl, KEY.out⟩

end Go.Proofs.Ytjhifhoniimfgaa

/-
  A game: does the core wait?
-/
namespace Go.Proofs.Ytjhifhoniimfgaa
open Go.RowKit

theorem unt_snoc (c : Int) (l : List Snt) (k : Nat) (g : Snt) (hg : l[k]? = some g) : unt c 0 (l.take (k + 1)) = unt c 0 (l.take k) ++ (if g.taken = true ∧ g.told = false ∧ g.client = c then [((k : Int), g.given)] else []) := by
  have hlt := (List.getElem?_eq_some_iff.1 hg).1
  have e : l.take (k + 1) = l.take k ++ [g] := by
    rw [List.take_add_one, hg]; rfl
  have hl : (l.take k).length = k := by rw [List.length_take]; omega
  rw [e, unt_append, hl, Nat.zero_add, unt, unt]

theorem unt_rest (c : Int) (l : List Snt) (t : Nat) (ht : ∀ (k : Nat) (g : Snt), l[k]? = some g → g.taken = decide (k < t)) : unt c 0 (l.take t) = unt c 0 l := by
  conv => rhs; rw [← List.take_append_drop t l]
  rw [unt_append, unt_not c (l.drop t), List.append_nil]
  intro g hg
  obtain ⟨m, hm⟩ := List.mem_iff_getElem?.1 hg
  rw [List.getElem?_drop] at hm
  rw [ht _ g hm]
  exact decide_eq_false (by omega)

set_option maxRecDepth 100000 in
set_option maxHeartbeats 1000000 in
theorem waits_walk {own : Nat → Nat} {T : Nat} {w : World} {X : XB} {lim : Nat → Nat → Int} {v : XV} {L : Nat → List Snt} (h : XAt own T w X lim v L) (ht : ∀ (k : Nat) (g : Snt), (L 0)[k]? = some g → g.taken = decide (k < v.t 0)) (htl : v.t 0 ≤ (L 0).length) (htb : v.t 0 ≤ 1000000000000000)
    (b : Bool) (hb : b = true ↔ ∃ c : Nat, c < 3 ∧ v.an < (unt c 0 (L 0)).length) :
    Calls Try.prog 39 #[.pointer (some ⟨X.xb, 0, none⟩)] w fun e w' => e = .returned (.bool b) ∧ w = w' := by
  have c9 := h.c9
  have c7 := h.c7
  have c4 := h.c4
  obtain ⟨tt, htt⟩ : ∃ tt, tt = v.t 0 := ⟨_, rfl⟩
  obtain ⟨ln, hln⟩ : ∃ ln, ln = (L 0).length := ⟨_, rfl⟩
  obtain ⟨la, lc, hlv⟩ := h.laneV 0 (by omega)
  rw [hlv, ← hln] at c7
  rw [← htt] at c9 htl htb
  rw [← hln] at htl
  have HR : Hid (∀ k, k < tt → ∃ r g, la = some ⟨r, 0, none⟩ ∧ w.cell? ⟨r, k, none⟩ = some (.pointer (some ⟨X.pb 0 k, 0, none⟩)) ∧ (L 0)[k]? = some g ∧ w.heap[X.pb 0 k]? = some (.cells (sCells g) 43 (0, 0)) ∧ g.taken = true) := fun k hk => by
    obtain ⟨r, cap, e1, e2, e3, e4⟩ := h.rowcell 0 (by omega) (by omega)
    rw [hlv] at e1
    simp only [Value.slice.injEq] at e1
    obtain ⟨g, g1, g2⟩ := h.get 0 k (by omega) (by omega)
    exact ⟨r, g, e1.1, e2 k (by omega), g1, g2, by rw [ht k g g1]; exact decide_eq_true (by omega)⟩
  have HU : Hid (∀ c : Int, unt c 0 ((L 0).take tt) = unt c 0 (L 0)) := fun c => by rw [htt]; exact unt_rest c _ _ ht
  have HB := hideE hb
  clear h ht hlv hln htt hb
  go_enter Try.func39, Try.ntmps39
  go_wp2
  go_loopw [3] (fun cv wr => ∃ c : Nat, cv = .int .i64 c ∧ c ≤ 3 ∧ (∀ d : Nat, d < c → (unt d 0 (L 0)).length ≤ v.an) ∧ w = wr) (fun cv _ => 3 - (intOf cv).toNat)
  case atStart => exact ⟨0, rfl, by omega, fun d hd => by omega, rfl⟩
  case round =>
    obtain ⟨c, rfl, hc, hd, rfl⟩ := hrel
    have HD := hideE hd
    clear hd
    by_cases hc3 : c < 3
    · have l3 : (c : Int) < 3 := by omega
      go_wp2
      go_loopw [4, 5] (fun nv iv wr => ∃ k : Nat, iv = .int .i64 k ∧ k ≤ tt ∧ nv = .int .i64 (unt c 0 ((L 0).take k)).length ∧ (unt c 0 ((L 0).take k)).length ≤ k ∧ w = wr) (fun _ iv _ => tt - (intOf iv).toNat)
      case atStart => exact ⟨0, rfl, by omega, rfl, Nat.le_refl _, rfl⟩
      case round =>
        obtain ⟨k, rfl, hk, rfl, hle, rfl⟩ := hrel
        by_cases hkt : k < tt
        · obtain ⟨r, g, rfl, e1, e2, e3, e4⟩ := HR.out k hkt
          have s0 := sc0 e3
          have s12 := sc12 e3
          have l1 : (k : Int) < (tt : Int) := by omega
          have l2 : (k : Int) < (ln : Int) := by omega
          have hsn := unt_snoc c (L 0) k g e2
          rw [e4] at hsn
          obtain ⟨m, hm⟩ : ∃ m, m = (unt c 0 ((L 0).take k)).length := ⟨_, rfl⟩
          by_cases hcl : g.client = (c : Int)
          · have hcl' : (g.client == (c : Int)) = true := by simp [hcl]
            cases htd : g.told with
            | true =>
              rw [htd] at s12
              have hsn' : (unt c 0 ((L 0).take (k + 1))).length = m := by rw [hsn, htd, if_neg (by simp), List.append_nil, hm]
              rw [← hm] at hle ⊢
              have HN := hideE hsn'
              clear e2 e3 e4 hsn hcl htd hsn' hm
              go_wp2
              go_roundw
              case rel => exact ⟨k + 1, rfl, hkt, by rw [HN.out], by rw [HN.out]; omega, trivial⟩
              case measure => simp [intOf]; omega
            | false =>
              rw [htd] at s12
              have hsn' : (unt c 0 ((L 0).take (k + 1))).length = m + 1 := by rw [hsn, htd, if_pos ⟨rfl, rfl, hcl⟩, List.length_append, hm]; rfl
              rw [← hm] at hle ⊢
              have HN := hideE hsn'
              clear e2 e3 e4 hsn hcl htd hsn' hm
              go_wp2
              go_roundw
              case rel => exact ⟨k + 1, rfl, hkt, by rw [HN.out]; rfl, by rw [HN.out]; omega, trivial⟩
              case measure => simp [intOf]; omega
          · have hcl' : (g.client == (c : Int)) = false := by simp [hcl]
            have hsn' : (unt c 0 ((L 0).take (k + 1))).length = m := by rw [hsn, if_neg (fun h => hcl h.2.2), List.append_nil, hm]
            rw [← hm] at hle ⊢
            have HN := hideE hsn'
            clear e2 e3 e4 hsn hcl hsn' hm
            go_wp2
            go_roundw
            case rel => exact ⟨k + 1, rfl, hkt, by rw [HN.out], by rw [HN.out]; omega, trivial⟩
            case measure => simp [intOf]; omega
        · have ek : k = tt := by omega
          subst ek
          rw [HU.out c]
          have l1 : ¬ ((k : Int) < (k : Int)) := by omega
          obtain ⟨m, hm⟩ : ∃ m, m = (unt c 0 (L 0)).length := ⟨_, rfl⟩
          rw [← hm]
          by_cases hw : v.an < m
          · have hbt : b = true := HB.out.2 ⟨c, hc3, by rw [← hm]; exact hw⟩
            subst hbt
            have hw' : (v.an : Int) < (m : Int) := by omega
            clear hle hm
            go_wp2
            go_ret
            exact ⟨rfl, rfl⟩
          · have hw' : ¬ ((v.an : Int) < (m : Int)) := by omega
            have HW := hideE (show (unt c 0 (L 0)).length ≤ v.an by omega)
            clear hle hm
            go_wp2
            go_roundw
            case rel =>
              refine ⟨c + 1, rfl, hc3, fun d hd => ?_, trivial⟩
              by_cases e : d = c
              · subst e; exact HW.out
              · exact HD.out d (by omega)
            case measure => simp [intOf]; omega
    · have hc3' : c = 3 := by omega
      subst hc3'
      have hbf : b = false := by
        cases e : b with
        | false => rfl
        | true =>
          obtain ⟨d, h1, h2⟩ := HB.out.1 e
          have := HD.out d h1
          omega
      subst hbf
      go_wp2
      go_ret
      exact ⟨rfl, rfl⟩

end Go.Proofs.Ytjhifhoniimfgaa

