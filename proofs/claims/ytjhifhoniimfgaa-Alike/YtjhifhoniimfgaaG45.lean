import Derived.Test.YtjhifhoniimfgaaG43
import Derived.Test.YtjhifhoniimfgaaG40
/-
  The same frames, taken in the same order: no code.
-/
namespace Go.Proofs.Ytjhifhoniimfgaa
open Go.RowKit

def cOf (fr : Nat → Int) (j : Nat) : Nat := pickN (fr j) 3
def nOf (fr : Nat → Int) (j : Nat) : Nat := pickN ((fr j).tdiv 8) 1099511627776
def eOf (fr : Nat → Int) (j : Nat) : Snt := (saidK (Snt.new (cOf fr j) (0 : Nat)) (nOf fr j)).1

def bkf (n : Nat) (fr : Nat → Int) : Nat → Nat → List Ent
  | 0 => (begG n).s.book
  | j + 1 => (doS { (begG n).s with book := bkf n fr j } (saidG (eOf fr j))).2.book

def cdf (n : Nat) (fr : Nat → Int) (j : Nat) : Int := (doS { (begG n).s with book := bkf n fr j } (saidG (eOf fr j))).1

theorem doS_congr {s s' : St} (h1 : s.lim = s'.lim) (h2 : s.stop = s'.stop) (h3 : s.time = s'.time) (h4 : s.shut = s'.shut) (h5 : s.book = s'.book) (y : Said) : (doS s y).1 = (doS s' y).1 ∧ (doS s y).2.book = (doS s' y).2.book := by
  have ho : ∀ a, s.opens a = s'.opens a := fun a => by unfold St.opens; rw [h5, h3]
  cases y with
  | new a sd num p q l =>
    have hn : newsV s a.toNat sd num p.toNat q.toNat = newsV s' a.toNat sd num p.toNat q.toNat := by unfold newsV; rw [h4, h1, h2, ho, h3, h5]
    rw [doS_new, doS_new, hn]
    refine ⟨rfl, ?_⟩
    by_cases hz : newsV s' a.toNat sd num p.toNat q.toNat = 0
    · rw [if_pos hz, if_pos hz]
      show upN s.book _ _ = upN s'.book _ _
      rw [h5, h3]
    · rw [if_neg hz, if_neg hz]; exact h5
  | cancel a num =>
    rw [doS_cancel, doS_cancel, ho]
    by_cases hz : (s'.opens a.toNat).any (fun x => x.order == num) = true
    · rw [if_pos hz, if_pos hz]
      refine ⟨rfl, ?_⟩
      show upN s.book _ _ = upN s'.book _ _
      rw [h5, h3]
    · rw [if_neg hz, if_neg hz]; exact ⟨rfl, h5⟩
  | kill a => exact ⟨rfl, h5⟩
  | unkill a => exact ⟨rfl, h5⟩
  | wrong c => exact ⟨rfl, h5⟩

theorem jCode_rate {lim : Nat → Int} {st B : Bool} {S : Int} {p q : Nat} {W0 Q0 T : Int} (h : jCode lim st B S p q W0 Q0 T = 0) : T < lim 4 := by
  unfold jCode at h
  split at h
  · omega
  split at h
  · omega
  split at h
  · omega
  split at h
  · omega
  split at h
  · omega
  split at h
  · omega
  split at h
  · omega
  split at h
  · omega
  omega

theorem cntGt_all (T : Int) : ∀ l : List Ent, (∀ x, x ∈ l → T < x.frm) → cntGt T l = l.length
  | [], _ => rfl
  | x :: l, h => by
    rw [cntGt, if_pos (h x (.head _)), cntGt_all T l (fun y hy => h y (.tail _ hy))]
    simp
    omega

theorem kLim_rate (n a : Nat) : kLim n a 4 ≤ 1000 ∧ 1 ≤ kLim n a 5 := by
  unfold kLim
  constructor
  · repeat' split
    all_goals omega
  · repeat' split
    all_goals omega

/-- Time stands: no account lets more orders through than its rate. -/
theorem bkf_len (n : Nat) (fr : Nat → Int) : ∀ j a, (∀ x, x ∈ bkf n fr j a → x.frm = 0) ∧ (bkf n fr j a).length ≤ 1000
  | 0, a => by
    have ho := beg_ok n
    have ht := (bg_poll n).2.2.2.2.2.1
    refine ⟨fun x hx => ?_, Nat.le_trans (ho.len a) (by omega)⟩
    have := (ho.ents a x hx).frm
    rw [ht] at this
    omega
  | j + 1, a => by
    obtain ⟨h1, h2⟩ := bkf_len n fr j a
    have ht := (bg_poll n).2.2.2.2.2.1
    show (∀ x, x ∈ (doS { (begG n).s with book := bkf n fr j } (saidG (eOf fr j))).2.book a → x.frm = 0) ∧ ((doS { (begG n).s with book := bkf n fr j } (saidG (eOf fr j))).2.book a).length ≤ 1000
    generalize saidG (eOf fr j) = y
    cases y with
    | wrong c => exact ⟨h1, h2⟩
    | kill b => exact ⟨h1, h2⟩
    | unkill b => exact ⟨h1, h2⟩
    | cancel b num =>
      rw [doS_cancel]
      split
      · show (∀ x, x ∈ upN (bkf n fr j) b.toNat (goneL _ num (bkf n fr j b.toNat)) a → x.frm = 0) ∧ (upN (bkf n fr j) b.toNat (goneL _ num (bkf n fr j b.toNat)) a).length ≤ 1000
        by_cases e : a = b.toNat
        · subst e
          rw [upN_same, goneL_len]
          refine ⟨fun x hx => ?_, h2⟩
          obtain ⟨z, hz, e | e⟩ := goneL_mem _ _ _ _ hx
          · rw [e]; exact h1 z hz
          · rw [e]; exact h1 z hz
        · rw [upN_ne _ _ _ _ e]; exact ⟨h1, h2⟩
      · exact ⟨h1, h2⟩
    | new b sd num p q l =>
      rw [doS_new]
      by_cases hz : newsV { (begG n).s with book := bkf n fr j } b.toNat sd num p.toNat q.toNat = 0
      · rw [if_pos hz]
        show (∀ x, x ∈ upN (bkf n fr j) b.toNat (bkf n fr j b.toNat ++ [_]) a → x.frm = 0) ∧ (upN (bkf n fr j) b.toNat (bkf n fr j b.toNat ++ [_]) a).length ≤ 1000
        by_cases e : a = b.toNat
        · subst e
          rw [upN_same]
          refine ⟨fun x hx => ?_, ?_⟩
          · rcases List.mem_append.1 hx with hx | hx
            · exact h1 x hx
            · simp at hx
              rw [hx]
              show ((begG n).s.time : Int) = 0
              rw [ht]; rfl
          · have hj : cntGt (((begG n).s.time : Int) - (begG n).s.lim b.toNat 5) (bkf n fr j b.toNat) < (begG n).s.lim b.toNat 4 := jCode_rate (newsV_zero hz).2
            rw [(beg_set n).1, ht] at hj
            obtain ⟨k1, k2⟩ := kLim_rate n b.toNat
            rw [cntGt_all _ _ (fun x hx => by rw [h1 x hx]; simp; omega)] at hj
            rw [List.length_append]
            simp only [List.length_cons, List.length_nil]
            omega
        · rw [upN_ne _ _ _ _ e]; exact ⟨h1, h2⟩
      · rw [if_neg hz]; exact ⟨h1, h2⟩

structure Al (n : Nat) (fr : Nat → Int) (x : Gm) : Prop where
  lim : x.s.lim = (begG n).s.lim
  stop : x.s.stop = (begG n).s.stop
  time : x.s.time = (begG n).s.time
  shut : x.s.shut = false
  sz : x.s.n = (begG n).s.n
  m1 : x.s.m 1 = 0
  held : x.s.held = none
  t0 : 1 ≤ x.s.t 0
  book : x.s.book = bkf n fr (x.s.t 0 - 1)
  pl : ∀ (k : Nat) (g : Snt), (x.L 0)[k + 1]? = some g → (g.filled = true → g.kind = (eOf fr k).kind ∧ saidG g = saidG (eOf fr k)) ∧ (g.taken = true → g.given = cdf n fr k)
  p0 : ∀ g : Snt, (x.L 0)[0]? = some g → g.kind = 1 ∧ g.given = 0

theorem al_sz {n : Nat} {fr : Nat → Int} {x : Gm} {N : Nat} (h : Al n fr x) (hi : GInv x) (ho : Ok x.s N) : Sz x.s := by
  refine ⟨fun a _ => ?_, fun c hc => ?_⟩
  · rw [h.book]
    have := (bkf_len n fr (x.s.t 0 - 1) a).2
    omega
  · rw [hi.cl] at hc
    have h1 := hi.ak c hc
    have h2 := (ho.mt 1 (by omega)).1
    have h3 := h.m1
    omega

def Quiet (x : Gm) : Prop := ∀ c, c < 3 → x.s.ring c = []

theorem said_same (g : Snt) (c : Int) (n : Nat) (hl : g.lane = 0) (hk : g.kind = 0) : (saidK g n).1.kind = (saidK (Snt.new c (0 : Nat)) n).1.kind ∧ saidG (saidK g n).1 = saidG (saidK (Snt.new c (0 : Nat)) n).1 := by
  unfold saidK
  rw [hl, if_neg (by omega), if_neg (show ¬ (Snt.new c (0 : Nat)).lane = 1 by simp [Snt.new])]
  split
  · exact ⟨rfl, rfl⟩
  · split
    · unfold saidQ saidG
      simp [hk, Snt.new]
    · exact ⟨rfl, rfl⟩

theorem beg_al (n : Nat) (fr : Nat → Int) : Al n fr (begG n) ∧ Quiet (begG n) ∧ (begG n).s.m 0 = 1 ∧ (begG n).s.t 0 = 1 := by
  obtain ⟨_, e0, e1, e2, e3, e4, e5, e6⟩ := bg_poll n
  have hm0 := (beg_inv n).len 0 (by omega)
  have hm1 := (beg_inv n).len 1 (by omega)
  rw [e0] at hm0
  rw [e1] at hm1
  refine ⟨⟨rfl, rfl, rfl, e5, rfl, hm1.symm, e6, by omega, ?_, fun k g hg => ?_, fun g hg => ?_⟩, fun c hc => ?_, hm0.symm, e2⟩
  · rw [e2]; rfl
  · rw [e0] at hg; simp at hg
  · rw [e0] at hg
    simp at hg
    subst hg
    exact ⟨rfl, rfl⟩
  · have hu := (beg_inv n).ring c hc
    rw [e0] at hu
    have : unt (c : Int) 0 [begS] = [] := by
      rw [unt, if_neg (by simp [begS])]
      rfl
    rw [this] at hu
    exact (List.append_eq_nil_iff.1 hu).1

theorem al_claim {n : Nat} {fr : Nat → Int} {x : Gm} {N : Nat} (h : Al n fr x) (hq : Quiet x) (hi : GInv x) (ho : Ok x.s N) (c : Nat) : Al n fr (claimG x c 0) ∧ Quiet (claimG x c 0) := by
  refine ⟨⟨h.lim, h.stop, h.time, h.shut, h.sz, ?_, h.held, h.t0, h.book, fun k g hg => ?_, fun g hg => ?_⟩, hq⟩
  · show upN x.s.m 0 (x.s.m 0 + 1) 1 = 0
    rw [upN_ne _ _ _ _ (by omega)]; exact h.m1
  · rcases claim_L0 _ g hg with hg | ⟨_, _, rfl⟩
    · exact h.pl k g hg
    · exact ⟨fun e => (by cases e), fun e => (by cases e)⟩
  · rcases claim_L0 _ g hg with hg | ⟨_, e, rfl⟩
    · exact h.p0 g hg
    · have h1 := h.t0
      have h2 := (ho.mt 0 (by omega)).1
      rw [hi.len 0 (by omega)] at e
      omega

theorem al_fill {n : Nat} {fr : Nat → Int} {x : Gm} (h : Al n fr x) (hq : Quiet x) (hi : GInv x) (k : Nat) (g : Snt) (hg : (x.L 0)[k + 1]? = some g) (hf : g.filled = false) (ht : x.s.t 0 ≤ k + 1) : Al n fr (fillG x 0 (k + 1) (nOf fr k) g) ∧ Quiet (fillG x 0 (k + 1) (nOf fr k) g) := by
  have hp := hi.pl 0 (k + 1) g (by omega) hg
  refine ⟨⟨h.lim, h.stop, h.time, h.shut, h.sz, h.m1, h.held, h.t0, h.book, fun j y hy => ?_, fun y hy => ?_⟩, hq⟩
  · rcases fill_L0 hg _ y hy with hy | ⟨_, e, rfl⟩
    · exact h.pl j y hy
    · have ej : j = k := by omega
      subst ej
      refine ⟨fun _ => said_same g (cOf fr j) (nOf fr j) hp.lane (hp.nums.empty hf), fun e => ?_⟩
      rw [(saidK_flags g (nOf fr j)).2.2.2.1, hp.taken] at e
      have := of_decide_eq_true e
      omega
  · rcases fill_L0 hg _ y hy with hy | ⟨_, e, _⟩
    · exact h.p0 y hy
    · omega

/-- The core takes the next frame, and its answer lies in its client's ring. -/
theorem al_core {n : Nat} {fr : Nat → Int} {x : Gm} {N : Nat} (h : Al n fr x) (hq : Quiet x) (hi : GInv x) (ho : Ok x.s N) (k : Nat) (hk : x.s.t 0 = k + 1) (g : Snt) (hg : (x.L 0)[k + 1]? = some g) (hf : g.filled = true) :
    Al n fr (coreG x) ∧ (coreG x).s.t 0 = k + 2 ∧ (coreG x).s.m = x.s.m ∧ (∀ d, d ≠ g.client.toNat → (coreG x).s.ring d = x.s.ring d) ∧ ((coreG x).s.ring g.client.toNat).length ≤ 1 ∧ (∀ (j : Nat) (y : Snt), ((coreG x).L 0)[j]? = some y → ∃ y0, (x.L 0)[j]? = some y0 ∧ y.filled = y0.filled ∧ y.client = y0.client) := by
  have cs : (coreG x).s = (coreS x.s).2 := rfl
  have hp := hi.pl 0 (k + 1) g (by omega) hg
  have m0 := ho.mt 0 (by omega)
  have m1 := ho.mt 1 (by omega)
  have han : 2 ≤ x.s.an := (pow_pos' ho.an).1
  have hc3 : g.client.toNat < 3 := by have := hp.cl; omega
  cases core_case hi ho with
  | rush g' hn hg' hp' hf' hr hL =>
    obtain ⟨_, _, _, _, _, _, _, _, _, hlt⟩ := hi.next ho 1 (by omega) hn
    have := h.m1
    omega
  | free c a hn hh hl hr hL => rw [h.held] at hh; cases hh
  | wait c a hn hh hl hr hL => rw [h.held] at hh; cases hh
  | hold g' hn1 hh hn hg' hp' hf' hl hr hL =>
    rw [hk, hg] at hg'
    simp only [Option.some.injEq] at hg'
    subst hg'
    rw [hq _ hc3] at hl
    simp at hl
    omega
  | idle hn1 hh hn hr hL =>
    unfold St.hasNext at hn
    rw [hk, hp.fil, hf] at hn
    cases hn
  | serve g' hn1 hh hn hg' hp' hf' hl hr hL =>
    rw [hk, hg] at hg'
    simp only [Option.some.injEq] at hg'
    subst hg'
    obtain ⟨q1, q2⟩ := h.pl k g hg
    have hsg := (q1 hf).2
    have hb : x.s.book = bkf n fr k := by rw [h.book, hk]; rfl
    obtain ⟨d1, d2⟩ := doS_congr (s := x.s) (s' := { (begG n).s with book := bkf n fr k }) h.lim h.stop h.time (h.shut.trans (bg_poll n).2.2.2.2.2.2.1.symm) hb (saidG g)
    rw [hsg] at d1 d2
    rw [hsg] at hr hL
    have hcode : (doS x.s (saidG (eOf fr k))).1 = cdf n fr k := d1
    refine ⟨⟨?_, ?_, ?_, ?_, ?_, ?_, ?_, ?_, ?_, fun j y hy => ?_, fun y hy => ?_⟩, ?_, ?_, fun d hd => ?_, ?_, fun j y hy => ?_⟩
    · rw [cs, hr]; exact h.lim
    · rw [cs, hr]
      show (doS x.s (saidG (eOf fr k))).2.stop = _
      rw [← hsg, do_stop hp.nums]; exact h.stop
    · rw [cs, hr]; exact h.time
    · rw [cs, hr]; exact h.shut
    · rw [cs, hr]; exact h.sz
    · rw [cs, hr]; exact h.m1
    · rw [cs, hr]; exact h.held
    · rw [cs, hr]
      show 1 ≤ upN x.s.t 0 (x.s.t 0 + 1) 0
      rw [upN_same]; omega
    · rw [cs, hr]
      show (doS x.s (saidG (eOf fr k))).2.book = bkf n fr (upN x.s.t 0 (x.s.t 0 + 1) 0 - 1)
      rw [upN_same, hk, d2]
      rfl
    · rw [hL, upN_same, hk] at hy
      rcases set_get hg hy with ⟨e, rfl⟩ | ⟨e, hy⟩
      · have ej : j = k := by omega
        subst ej
        exact ⟨fun _ => q1 hf, fun _ => hcode⟩
      · exact h.pl j y hy
    · rw [hL, upN_same, hk] at hy
      rcases set_get hg hy with ⟨e, _⟩ | ⟨e, hy⟩
      · omega
      · exact h.p0 y hy
    · rw [cs, hr]
      show upN x.s.t 0 (x.s.t 0 + 1) 0 = _
      rw [upN_same]; omega
    · rw [cs, hr]
    · rw [cs, hr]
      exact upN_ne x.s.ring _ _ d hd
    · rw [cs, hr]
      show (upN x.s.ring g.client.toNat _ g.client.toNat).length ≤ 1
      rw [upN_same, hq _ hc3]
      simp
    · rw [hL, upN_same, hk] at hy
      rcases set_get hg hy with ⟨rfl, rfl⟩ | ⟨e, hy⟩
      · exact ⟨g, hg, rfl, rfl⟩
      · exact ⟨y, hy, rfl, rfl⟩

theorem al_poll {n : Nat} {fr : Nat → Int} {x : Gm} (h : Al n fr x) (c : Nat) : Al n fr (pollG x c) ∧ (pollG x c).s.t = x.s.t ∧ (pollG x c).s.m = x.s.m := by
  obtain ⟨q1, q2, q3, q4, q5, q6⟩ := poll_fields x c
  have hf : (pollG x c).s.lim = x.s.lim ∧ (pollG x c).s.n = x.s.n ∧ (pollG x c).s.held = x.s.held := by
    unfold pollG
    cases x.s.ring c <;> exact ⟨rfl, rfl, rfl⟩
  refine ⟨⟨by rw [hf.1]; exact h.lim, by rw [q4]; exact h.stop, by rw [q6]; exact h.time, by rw [q1]; exact h.shut, by rw [hf.2.1]; exact h.sz, by rw [q3]; exact h.m1, by rw [hf.2.2]; exact h.held, by rw [q2]; exact h.t0, by rw [q5, q2]; exact h.book, fun k y hy => ?_, fun y hy => ?_⟩, q2, q3⟩
  · obtain ⟨g, hg, rfl | rfl⟩ := poll_L0 x c _ y hy
    · exact h.pl k _ hg
    · exact h.pl k g hg
  · obtain ⟨g, hg, rfl | rfl⟩ := poll_L0 x c _ y hy
    · exact h.p0 _ hg
    · exact h.p0 g hg

theorem al_told {n : Nat} {fr : Nat → Int} {x : Gm} (h : Al n fr x) (hq : Quiet x) (hi : GInv x) (k : Nat) (g : Snt) (hg : (x.L 0)[k]? = some g) (ht : k < x.s.t 0) : g.told = true ∧ g.code = g.given := by
  have hp := hi.pl 0 k g (by omega) hg
  have htk : g.taken = true := by rw [hp.taken]; exact decide_eq_true ht
  obtain ⟨c, hc⟩ := Int.eq_ofNat_of_zero_le hp.cl.1
  have hc3 : c < 3 := by have := hp.cl.2; omega
  have hu : unt c 0 (x.L 0) = [] := by
    rw [← hi.ring c hc3, hq c hc3]
    unfold heldOf
    rw [h.held]
    rfl
  have := unt_nil c _ _ hu g (List.mem_iff_getElem?.2 ⟨k, hg⟩)
  have htd : g.told = true := by
    cases e : g.told with
    | true => rfl
    | false => exact absurd ⟨htk, e, hc⟩ this
  exact ⟨htd, (hp.told htd).2⟩

end Go.Proofs.Ytjhifhoniimfgaa

