import Derived.Test.YtjhifhoniimfgaaG42
/-
  An account that is stopped: no code.
-/
namespace Go.Proofs.Ytjhifhoniimfgaa
open Go.RowKit

/-- A place is filled with any frame. -/
def putG (x : Gm) (i k : Nat) (g' : Snt) (fr : ByteArray) : Gm := ⟨{ x.s with f := upN x.s.f i (upd (x.s.f i) k ((x.s.f i k).1, true, fr)) }, upN x.L i ((x.L i).set k g')⟩

theorem put_inv {x : Gm} (h : GInv x) (i k : Nat) (g g' : Snt) (fr : ByteArray) (hi : i < 2) (hg : (x.L i)[k]? = some g) (ht : x.s.t i ≤ k) (q1 : g'.client = g.client) (q2 : g'.lane = g.lane) (q3 : g'.filled = true) (q4 : g'.taken = g.taken) (q5 : g'.told = g.told) (q6 : g'.gone = g.gone) (q7 : g'.code = g.code) (q9 : g'.frm = g.frm)
    (z1 : saidOf 2 i fr = saidG g') (z2 : NumOk i g') : GInv (putG x i k g' fr) := by
  have hp := h.pl i k g hi hg
  have hlt := (List.getElem?_eq_some_iff.1 hg).1
  have htk : g.taken = false := by rw [hp.taken]; exact decide_eq_false (by omega)
  have untE : ∀ (d : Int) j, unt d 0 (upN x.L i ((x.L i).set k g') j) = unt d 0 (x.L j) := fun d j => by
    by_cases e : j = i
    · subst e; rw [upN_same]; exact unt_set d hg htk (by rw [q4]; exact htk)
    · rw [upN_ne _ _ _ _ e]
  refine ⟨h.cl, h.na, fun j hj => ?_, fun j l y hj hy => ?_, fun d hd => ?_, fun d hd => ?_, h.bk⟩
  · show (upN x.L i ((x.L i).set k g') j).length = x.s.m j
    by_cases e : j = i
    · subst e; rw [upN_same, List.length_set]; exact h.len j hj
    · rw [upN_ne _ _ _ _ e]; exact h.len j hj
  · have hy : (upN x.L i ((x.L i).set k g') j)[l]? = some y := hy
    by_cases e : j = i
    · subst e
      rw [upN_same] at hy
      rcases set_get hg hy with ⟨rfl, rfl⟩ | ⟨e2, hy⟩
      · have hfk : (putG x j l y fr).s.f j l = ((x.s.f j l).1, true, fr) := by
          show upN x.s.f j _ j l = _
          rw [upN_same, upd, if_pos rfl]
        exact { lane := by rw [q2]; exact hp.lane, cl := by rw [q1]; exact hp.cl, who := by rw [hfk, q1]; exact hp.who, fil := by rw [hfk, q3], says := fun _ => by rw [hfk]; exact z1, nums := z2, taken := by rw [q4]; exact hp.taken,
                told := fun e => (by rw [q5] at e; have := (hp.told e).1; rw [htk] at this; cases this), code := fun e => (by rw [q7]; rw [q5] at e; exact hp.code e), gone := by rw [q6]; exact hp.gone, frm := by rw [q9]; exact hp.frm,
                size := fun e => (by rw [q4, htk] at e; cases e), zero := fun e => (by rw [q4, htk] at e; cases e) }
      · refine (h.pl j l y hj hy).congr ?_ rfl (Nat.le_refl _)
        show upN x.s.f j _ j l = _
        rw [upN_same, upd, if_neg e2]
    · rw [upN_ne _ _ _ _ e] at hy
      refine (h.pl j l y hj hy).congr ?_ rfl (Nat.le_refl _)
      show upN x.s.f i _ j l = _
      rw [upN_ne _ _ _ _ e]
  · show x.s.ring d ++ heldOf x.s d = unt d 0 (upN x.L i ((x.L i).set k g') 0)
    rw [untE]; exact h.ring d hd
  · show x.s.acks d = unt d 0 (upN x.L i ((x.L i).set k g') 1)
    rw [untE]; exact h.acks d hd

/-- A Kill that is laid into the urgent lane. -/
def killS (a : Nat) : Snt := ⟨0, 1, 3, a, 0, 0, 0, 0, 0, 0, true, false, false, false, 0, 0⟩

def killG (x : Gm) (a : Nat) : Gm := putG (claimG x 0 1) 1 (x.L 1).length (killS a) (otherB 3 a 0)

theorem kill_L (x : Gm) (a : Nat) : (killG x a).L = upN x.L 1 (x.L 1 ++ [killS a]) := by
  show upN (upN x.L 1 (x.L 1 ++ [Snt.new (0 : Nat) (1 : Nat)])) 1 (((upN x.L 1 (x.L 1 ++ [Snt.new (0 : Nat) (1 : Nat)])) 1).set (x.L 1).length (killS a)) = _
  rw [upN_upN, upN_same]
  congr 1
  rw [List.set_append_right _ _ (Nat.le_refl _)]
  simp

theorem kill_inv {x : Gm} (h : GInv x) {N : Nat} (ho : Ok x.s N) (a : Nat) (ha : a < 2) : GInv (killG x a) := by
  refine put_inv (claim_inv h ho 0 1 (by omega) (by omega)) 1 (x.L 1).length (Snt.new (0 : Nat) (1 : Nat)) (killS a) (otherB 3 a 0) (by omega) (new_at x 0 1) ?_ rfl rfl rfl rfl rfl rfl rfl rfl ?_ ?_
  · show x.s.t 1 ≤ (x.L 1).length
    rw [h.len 1 (by omega)]
    exact (ho.mt 1 (by omega)).1
  · exact said_kill a ha
  · constructor <;> simp [killS] <;> omega

theorem kill_pub {x : Gm} (h : GInv x) {N : Nat} (ho : Ok x.s N) (a : Nat) : pubS (claimG x 0 1).s 0 1 (x.s.m 1) (otherB 3 a 0) = (0, (killG x a).s) := by
  have hp := (claim_inv h ho 0 1 (by omega) (by omega)).pl 1 (x.L 1).length _ (by omega) (new_at x 0 1)
  have hl := h.len 1 (by omega)
  unfold pubS
  rw [if_neg (by
    show ¬ refuse (x.s.cl : Nat) 0 1 ≠ 0
    rw [h.cl]
    decide)]
  have hb : fillB ((claimG x 0 1).s.m (1 : Int).toNat) ((claimG x 0 1).s.f (1 : Int).toNat) 0 (x.s.m 1 : Int) = true := by
    unfold fillB
    have e1 : ((claimG x 0 1).s.f 1 (x.s.m 1)) = ((0 : Int), false, ByteArray.empty) := by
      show upN x.s.f 1 (upd (x.s.f 1) (x.s.m 1) (((0 : Nat) : Int), false, ByteArray.empty)) 1 (x.s.m 1) = _
      rw [upN_same]
      exact if_pos rfl
    have e2 : (claimG x 0 1).s.m 1 = x.s.m 1 + 1 := upN_same x.s.m 1 (x.s.m 1 + 1)
    rw [Int.toNat_natCast]
    show (decide (0 ≤ (x.s.m 1 : Int)) && decide ((x.s.m 1 : Int) < ((claimG x 0 1).s.m 1 : Int)) && decide (((claimG x 0 1).s.f 1 (x.s.m 1)).1 = 0) && !((claimG x 0 1).s.f 1 (x.s.m 1)).2.1) = true
    rw [e1, e2]
    simp
    omega
  rw [if_pos hb]
  unfold killG putG
  rw [hl]
  rfl

/-- What is known while the core takes the urgent places, up to the Kill at n. -/
structure Kl (x : Gm) (n a : Nat) : Prop where
  m : x.s.m 1 = n + 1
  fill : ∀ (k : Nat) (g : Snt), (x.L 1)[k]? = some g → g.filled = true
  last : ∃ g, (x.L 1)[n]? = some g ∧ g.kind = 3 ∧ g.account = (a : Int)
  stop : x.s.t 1 = n + 1 → x.s.stop a = true

theorem kl_start {x : Gm} (h : GInv x) {N : Nat} (ho : Ok x.s N) (a : Nat) (hf : ∀ (k : Nat) (g : Snt), (x.L 1)[k]? = some g → g.filled = true) : Kl (killG x a) (x.s.m 1) a := by
  have hl := h.len 1 (by omega)
  have ht := (ho.mt 1 (by omega)).1
  refine ⟨upN_same x.s.m 1 (x.s.m 1 + 1), fun k g hg => ?_, ⟨killS a, ?_, rfl, rfl⟩, fun e => ?_⟩
  · rw [kill_L, upN_same] at hg
    by_cases hk : k < (x.L 1).length
    · rw [List.getElem?_append_left hk] at hg
      exact hf k g hg
    · have h2 := (List.getElem?_eq_some_iff.1 hg).1
      simp only [List.length_append, List.length_singleton] at h2
      have ek : k = (x.L 1).length := by omega
      subst ek
      rw [List.getElem?_append_right (Nat.le_refl _)] at hg
      simp at hg
      subst hg
      rfl
  · rw [kill_L, upN_same, ← hl, List.getElem?_append_right (Nat.le_refl _)]
    simp
  · have e : x.s.t 1 = x.s.m 1 + 1 := e
    omega

theorem kl_core {x : Gm} {n a : Nat} (h : Kl x n a) (hi : GInv x) {N : Nat} (ho : Ok x.s N) (ht : x.s.t 1 ≤ n) : (coreS x.s).1 = 1 ∧ Kl (coreG x) n a ∧ (coreG x).s.t 1 = x.s.t 1 + 1 ∧ (coreG x).s.n = x.s.n := by
  have cs : (coreG x).s = (coreS x.s).2 := rfl
  have hn1 : x.s.hasNext 1 = true := by
    have hl : x.s.t 1 < (x.L 1).length := by rw [hi.len 1 (by omega), h.m]; omega
    have hg := List.getElem?_eq_getElem hl
    have hp := hi.pl 1 _ _ (by omega) hg
    unfold St.hasNext
    rw [hp.fil]
    exact h.fill _ _ hg
  cases core_case hi ho with
  | rush g hn hg hp hf hr hL =>
    refine ⟨by rw [hr], ⟨?_, fun k y hy => ?_, ?_, fun e => ?_⟩, ?_, by rw [cs, hr]⟩
    · rw [cs, hr]; exact h.m
    · rw [hL, upN_same] at hy
      rcases set_get hg hy with ⟨rfl, rfl⟩ | ⟨_, hy⟩
      · exact hf
      · exact h.fill k y hy
    · obtain ⟨g0, e0, e1, e2⟩ := h.last
      rw [hL, upN_same]
      by_cases e : x.s.t 1 = n
      · rw [e] at hg ⊢
        rw [e0] at hg
        simp only [Option.some.injEq] at hg
        subst hg
        exact ⟨_, List.getElem?_set_self (List.getElem?_eq_some_iff.1 e0).1, e1, e2⟩
      · exact ⟨g0, by rw [List.getElem?_set_ne e]; exact e0, e1, e2⟩
    · have e : (coreG x).s.t 1 = n + 1 := e
      rw [cs, hr] at e ⊢
      have e : upN x.s.t 1 (x.s.t 1 + 1) 1 = n + 1 := e
      rw [upN_same] at e
      obtain ⟨g0, e0, e1, e2⟩ := h.last
      have en : x.s.t 1 = n := by omega
      rw [en, e0] at hg
      simp only [Option.some.injEq] at hg
      subst hg
      show (doS x.s (saidG g0)).2.stop a = true
      unfold saidG
      rw [if_neg (by omega), if_neg (by omega), if_pos e1, e2]
      show upN x.s.stop ((a : Int).toNat) true a = true
      rw [Int.toNat_natCast, upN_same]
    · rw [cs, hr]
      exact upN_same x.s.t 1 (x.s.t 1 + 1)
  | free c b hn hh hl hr hL => rw [hn1] at hn; cases hn
  | wait c b hn hh hl hr hL => rw [hn1] at hn; cases hn
  | serve g hn hh hn' hg hp hf hl hr hL => rw [hn1] at hn; cases hn
  | hold g hn hh hn' hg hp hf hl hr hL => rw [hn1] at hn; cases hn
  | idle hn hh hn' hr hL => rw [hn1] at hn; cases hn

/-- An account that is stopped, and no urgent place is left: no New of it is let through. -/
structure Stop4 (a first : Nat) (x : Gm) : Prop where
  stop : x.s.stop a = true
  ur : x.s.m 1 = x.s.t 1
  t : first ≤ x.s.t 0
  new : ∀ (k : Nat) (g : Snt), first ≤ k → (x.L 0)[k]? = some g → g.taken = true → g.kind = 1 → g.account = (a : Int) → g.given = 10 ∨ g.given = 9

theorem do_stop {s : St} {g : Snt} (h : NumOk 0 g) : (doS s (saidG g)).2.stop = s.stop := by
  unfold saidG
  rcases h.kind with ⟨_, e | e | e⟩ | ⟨q, _⟩
  · rw [e]; rfl
  · rw [if_pos e, doS_new]
    by_cases q : newsV s g.account.toNat g.side g.number g.price.toNat g.qty.toNat = 0
    · rw [if_pos q]
    · rw [if_neg q]
  · rw [if_neg (by omega), if_pos e, doS_cancel]
    split <;> rfl
  · omega

theorem core_stop4 {a first : Nat} {x : Gm} (h : Stop4 a first x) (hi : GInv x) {N : Nat} (ho : Ok x.s N) : (coreG x).s.stop = x.s.stop ∧ (coreG x).s.t 1 = x.s.t 1 := by
  have cs : (coreG x).s = (coreS x.s).2 := rfl
  cases core_case hi ho with
  | rush g hn hg hp hf hr hL =>
    obtain ⟨_, _, _, _, _, _, _, _, _, hlt⟩ := hi.next ho 1 (by omega) hn
    have := h.ur
    omega
  | free c b hn hh hl hr hL => rw [cs, hr]; exact ⟨rfl, rfl⟩
  | wait c b hn hh hl hr hL => rw [cs, hr]; exact ⟨rfl, rfl⟩
  | serve g hn hh hn' hg hp hf hl hr hL => rw [cs, hr]; exact ⟨do_stop hp.nums, upN_ne x.s.t 0 (x.s.t 0 + 1) 1 (by omega)⟩
  | hold g hn hh hn' hg hp hf hl hr hL => rw [cs, hr]; exact ⟨do_stop hp.nums, upN_ne x.s.t 0 (x.s.t 0 + 1) 1 (by omega)⟩
  | idle hn hh hn' hr hL => rw [cs, hr]; exact ⟨rfl, rfl⟩

theorem stop_keeps (a first : Nat) : KeepsAll (Stop4 a first) (fun i => i = 0) where
  fill := fun x i k n g hi h h2 hg hf ht => by
    have hi0 : i = 0 := by
      have hl := hi.lt h2 hg
      have := h.ur
      rcases (show i = 0 ∨ i = 1 by omega) with rfl | rfl
      · rfl
      · omega
    subst hi0
    refine ⟨h.stop, h.ur, h.t, fun j y hj hy htk hkd hac => ?_⟩
    rcases fill_L0 hg j y hy with hy | ⟨_, rfl, rfl⟩
    · exact h.new j y hj hy htk hkd hac
    · have hp := hi.pl 0 j g h2 hg
      rw [(saidK_flags g n).2.2.2.1, hp.taken] at htk
      have := of_decide_eq_true htk
      omega
  core := fun x N hi ho h => by
    obtain ⟨q1, q2⟩ := core_t0 hi ho
    obtain ⟨q3, q4⟩ := core_stop4 h hi ho
    refine ⟨by rw [q3]; exact h.stop, by rw [q2, q4]; exact h.ur, Nat.le_trans h.t q1, fun j y hj hy htk hkd hac => ?_⟩
    rcases core_L0 hi ho j y hy with hy | ⟨_, g, hg, hp, hf, rfl⟩
    · exact h.new j y hj hy htk hkd hac
    · have hkd : g.kind = 1 := hkd
      have hac : g.account = (a : Int) := hac
      show (doS x.s (saidG g)).1 = 10 ∨ (doS x.s (saidG g)).1 = 9
      unfold saidG
      rw [if_pos hkd, doS_new, hac]
      show newsV x.s (a : Int).toNat _ _ _ _ = 10 ∨ newsV x.s (a : Int).toNat _ _ _ _ = 9
      rw [Int.toNat_natCast]
      unfold newsV
      cases hs : x.s.shut with
      | true => exact .inr (if_pos rfl)
      | false =>
        rw [if_neg (by simp)]
        unfold jCode
        rw [if_pos h.stop]
        exact .inl rfl
  poll := fun x c hc hi h => by
    obtain ⟨q1, q2, q3, q4, _⟩ := poll_fields x c
    refine ⟨by rw [q4]; exact h.stop, by rw [q3, q2]; exact h.ur, by rw [q2]; exact h.t, fun j y hj hy htk hkd hac => ?_⟩
    obtain ⟨g, hg, rfl | rfl⟩ := poll_L0 x c j y hy
    · exact h.new j _ hj hg htk hkd hac
    · exact h.new j g hj hg htk hkd hac
  acks := fun x c hc hi h => ⟨h.stop, h.ur, h.t, fun j y hj hy htk hkd hac => by
    have hy : (upN x.L 1 (toldN c (x.s.acks c).length (x.L 1)) 0)[j]? = some y := hy
    rw [upN_ne _ _ _ _ (by omega)] at hy
    exact h.new j y hj hy htk hkd hac⟩
  claim := fun x N c i hi ho hc h2 h0 hm h => by
    subst h0
    refine ⟨h.stop, ?_, h.t, fun j y hj hy htk hkd hac => ?_⟩
    · show upN x.s.m 0 (x.s.m 0 + 1) 1 = x.s.t 1
      rw [upN_ne _ _ _ _ (by omega)]
      exact h.ur
    · rcases claim_L0 j y hy with hy | ⟨_, _, rfl⟩
      · exact h.new j y hj hy htk hkd hac
      · cases htk
  tick := fun x hi h => ⟨h.stop, h.ur, h.t, h.new⟩
  watch := fun x hi h => by
    obtain ⟨b, c, d, e', e⟩ := watch_frame x.s
    refine ⟨?_, ?_, ?_, h.new⟩
    · show (watchS x.s).2.stop a = true; rw [e]; exact h.stop
    · show (watchS x.s).2.m 1 = (watchS x.s).2.t 1; rw [e]; exact h.ur
    · show first ≤ (watchS x.s).2.t 0; rw [e]; exact h.t

end Go.Proofs.Ytjhifhoniimfgaa

