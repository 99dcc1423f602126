import Derived.Test.YtjhifhoniimfgaaG36
import Derived.Deep.LoopGhost
/-
  A game comes to its end: no code.
-/
namespace Go.Proofs.Ytjhifhoniimfgaa
open Go.RowKit

/-- All places are filled. -/
def NoHoles (x : Gm) : Prop := ∀ (i k : Nat) (g : Snt), i < 2 → (x.L i)[k]? = some g → g.filled = true

def mu (x : Gm) : Nat := (x.s.m 1 - x.s.t 1) + 2 * (x.s.m 0 - x.s.t 0) + (if x.s.held.isSome then 1 else 0)

/-- Each place of the next is one of before, with the same flag. -/
theorem set_get {l : List Snt} {k m : Nat} {g g' y : Snt} (hg : l[k]? = some g) (hy : (l.set k g')[m]? = some y) : (m = k ∧ y = g') ∨ (m ≠ k ∧ l[m]? = some y) := by
  have hlt := (List.getElem?_eq_some_iff.1 hg).1
  by_cases e : m = k
  · subst e
    rw [List.getElem?_set_self hlt] at hy
    simp at hy
    exact .inl ⟨rfl, hy.symm⟩
  · rw [List.getElem?_set_ne (fun e2 => e e2.symm)] at hy
    exact .inr ⟨e, hy⟩

theorem NoHoles.take {x : Gm} (h : NoHoles x) (i : Nat) (g : Snt) (hi : i < 2) (hg : (x.L i)[x.s.t i]? = some g) (t c : Int) (L' : Nat → List Snt) (hL : L' = upN x.L i ((x.L i).set (x.s.t i) (tookG g t c))) : ∀ (j k : Nat) (y : Snt), j < 2 → (L' j)[k]? = some y → y.filled = true := by
  intro j k y hj hy
  rw [hL] at hy
  by_cases e : j = i
  · subst e
    rw [upN_same] at hy
    rcases set_get hg hy with ⟨rfl, rfl⟩ | ⟨_, hy⟩
    · exact h j _ g hj hg
    · exact h j k y hj hy
  · rw [upN_ne _ _ _ _ e] at hy
    exact h j k y hj hy

theorem core_holes {x : Gm} (hi : GInv x) {N : Nat} (ho : Ok x.s N) (h : NoHoles x) : NoHoles (coreG x) := by
  cases core_case hi ho with
  | rush g hn hg hp hf hr hL => exact h.take 1 g (by omega) hg _ _ _ hL
  | free c a hn hh hl hr hL => intro j k y hj hy; rw [hL] at hy; exact h j k y hj hy
  | wait c a hn hh hl hr hL => intro j k y hj hy; rw [hL] at hy; exact h j k y hj hy
  | serve g hn1 hh hn hg hp hf hl hr hL => exact h.take 0 g (by omega) hg _ _ _ hL
  | hold g hn1 hh hn hg hp hf hl hr hL => exact h.take 0 g (by omega) hg _ _ _ hL
  | idle hn1 hh hn hr hL => intro j k y hj hy; rw [hL] at hy; exact h j k y hj hy

theorem poll_holes {x : Gm} (h : NoHoles x) (c : Nat) : NoHoles (pollG x c) := by
  unfold pollG
  cases x.s.ring c with
  | nil => exact h
  | cons a r =>
    intro j k y hj hy
    have hy : (upN x.L 0 (told1 c (x.L 0)) j)[k]? = some y := hy
    by_cases e : j = 0
    · subst e
      rw [upN_same] at hy
      obtain ⟨g0, h0, e | ⟨_, _, _, rfl⟩⟩ := told1_get c _ k y hy
      · subst e; exact h 0 k _ hj h0
      · exact h 0 k g0 hj h0
    · rw [upN_ne _ _ _ _ e] at hy
      exact h j k y hj hy

theorem acks_holes {x : Gm} (h : NoHoles x) (c : Nat) : NoHoles (acksG x c) := by
  intro j k y hj hy
  have hy : (upN x.L 1 (toldN c (x.s.acks c).length (x.L 1)) j)[k]? = some y := hy
  by_cases e : j = 1
  · subst e
    rw [upN_same] at hy
    obtain ⟨g0, h0, e | ⟨_, _, _, rfl⟩⟩ := toldN_get c _ _ k y hy
    · subst e; exact h 1 k _ hj h0
    · exact h 1 k g0 hj h0
  · rw [upN_ne _ _ _ _ e] at hy
    exact h j k y hj hy

theorem mu_poll (x : Gm) (c : Nat) : mu (pollG x c) = mu x := by
  unfold pollG
  cases x.s.ring c <;> rfl

theorem mu_acks (x : Gm) (c : Nat) : mu (acksG x c) = mu x := rfl

theorem hasNext_of {x : Gm} (hi : GInv x) (h : NoHoles x) (i : Nat) (hi2 : i < 2) (hlt : x.s.t i < x.s.m i) : x.s.hasNext i = true := by
  have hl : x.s.t i < (x.L i).length := by rw [hi.len i hi2]; exact hlt
  have hg := List.getElem?_eq_getElem hl
  have hp := hi.pl i _ _ hi2 hg
  unfold St.hasNext
  rw [hp.fil]
  exact h i _ _ hi2 hg

theorem mu_core {x : Gm} (hi : GInv x) {N : Nat} (ho : Ok x.s N) (h : NoHoles x) : mu (coreG x) ≤ mu x ∧ ((∀ c, c < 3 → x.s.ring c = []) → mu (coreG x) ≤ mu x - 1) := by
  have m0 := ho.mt 0 (by omega)
  have m1 := ho.mt 1 (by omega)
  have han : 2 ≤ x.s.an := (pow_pos' ho.an).1
  have cs : (coreG x).s = (coreS x.s).2 := rfl
  unfold mu
  cases core_case hi ho with
  | rush g hn hg hp hf hr hL =>
    obtain ⟨_, _, _, _, _, _, _, _, _, hlt⟩ := hi.next ho 1 (by omega) hn
    rw [cs, hr]
    simp only [upN_same, upN_ne _ 1 _ 0 (by omega)]
    omega
  | free c a hn hh hl hr hL =>
    rw [cs, hr, hh]
    simp
  | wait c a hn hh hl hr hL =>
    rw [cs, hr]
    refine ⟨Nat.le_refl _, fun hz => ?_⟩
    have hc := ho.held c a hh
    rw [hi.cl] at hc
    rw [hz c hc] at hl
    simp at hl
    omega
  | serve g hn1 hh hn hg hp hf hl hr hL =>
    obtain ⟨_, _, _, _, _, _, _, _, _, hlt⟩ := hi.next ho 0 (by omega) hn
    rw [cs, hr, hh]
    simp only [upN_same, upN_ne _ 0 _ 1 (by omega)]
    simp
    omega
  | hold g hn1 hh hn hg hp hf hl hr hL =>
    obtain ⟨_, _, _, _, _, _, _, _, _, hlt⟩ := hi.next ho 0 (by omega) hn
    rw [cs, hr, hh]
    simp only [upN_same, upN_ne _ 0 _ 1 (by omega)]
    refine ⟨by simp; omega, fun hz => ?_⟩
    rw [hz g.client.toNat (by have := hp.cl; omega)] at hl
    simp at hl
    omega
  | idle hn1 hh hn hr hL =>
    rw [cs, hr, hh]
    have e1 : ¬ x.s.t 1 < x.s.m 1 := fun q => by rw [hasNext_of hi h 1 (by omega) q] at hn1; cases hn1
    have e0 : ¬ x.s.t 0 < x.s.m 0 := fun q => by rw [hasNext_of hi h 0 (by omega) q] at hn; cases hn
    simp
    omega

def AllTold (x : Gm) : Prop := ∀ (i k : Nat) (g : Snt), i < 2 → (x.L i)[k]? = some g → g.told = true

theorem unt_nil (c : Int) : ∀ (l : List Snt) (k : Nat), unt c k l = [] → ∀ g, g ∈ l → ¬ (g.taken = true ∧ g.told = false ∧ g.client = c)
  | [], _, _, g, h => by cases h
  | y :: r, k, e, g, h => by
    rw [unt] at e
    by_cases hc : y.taken = true ∧ y.told = false ∧ y.client = c
    · rw [if_pos hc] at e; cases e
    · rw [if_neg hc] at e
      rcases List.mem_cons.1 h with rfl | h
      · exact hc
      · exact unt_nil c r (k + 1) e g h

theorem all_told {x : Gm} (hi : GInv x) {N : Nat} (ho : Ok x.s N) (hm : mu x = 0) (hr : ∀ c, c < 3 → x.s.ring c = []) (ha : ∀ c, c < 3 → x.s.acks c = []) : AllTold x := by
  intro i k g hi2 hg
  have m0 := ho.mt 0 (by omega)
  have m1 := ho.mt 1 (by omega)
  have hheld : x.s.held = none := by
    cases e : x.s.held with
    | none => rfl
    | some a => unfold mu at hm; rw [e] at hm; simp at hm
  unfold mu at hm
  rw [hheld] at hm
  simp at hm
  have hp := hi.pl i k g hi2 hg
  have hlt := hi.lt hi2 hg
  obtain ⟨c, hc⟩ := Int.eq_ofNat_of_zero_le hp.cl.1
  have hc3 : c < 3 := by have := hp.cl.2; omega
  have htk : g.taken = true := by
    rw [hp.taken]
    refine decide_eq_true ?_
    rcases (show i = 0 ∨ i = 1 by omega) with rfl | rfl <;> omega
  have hu : unt c 0 (x.L i) = [] := by
    rcases (show i = 0 ∨ i = 1 by omega) with rfl | rfl
    · rw [← hi.ring c hc3, hr c hc3]
      unfold heldOf
      rw [hheld]
      rfl
    · rw [← hi.acks c hc3, ha c hc3]
  have := unt_nil c _ _ hu g (List.mem_iff_getElem?.2 ⟨k, hg⟩)
  cases e : g.told with
  | true => rfl
  | false => exact absurd ⟨htk, e, hc⟩ this

theorem holesF_set : ∀ (l : List Snt) (k m : Nat) (g g' : Snt), l[m]? = some g → g.filled = false → g'.filled = true → (holesF k (l.set m g')).length + 1 = (holesF k l).length
  | [], k, m, g, g', h, _, _ => by simp at h
  | y :: r, k, 0, g, g', h, h1, h2 => by
    simp at h
    subst h
    simp [holesF, h1, h2]
  | y :: r, k, m + 1, g, g', h, h1, h2 => by
    have := holesF_set r (k + 1) m g g' (by simpa using h) h1 h2
    rw [List.set_cons_succ, holesF, holesF]
    split
    · simp only [List.length_cons]; omega
    · exact this

/-- A place that is filled is a hole less. -/
theorem fill_holes {x : Gm} (i k n : Nat) (g : Snt) (hg : (x.L i)[k]? = some g) (hf : g.filled = false) (ht : x.s.t i ≤ k) : (holesG (fillG x i k n g) i).length + 1 = (holesG x i).length := by
  unfold holesG
  show (holesF (x.s.t i) ((upN x.L i ((x.L i).set k (saidK g n).1) i).drop (x.s.t i))).length + 1 = _
  rw [upN_same, List.drop_set, if_neg (by omega)]
  exact holesF_set _ _ (k - x.s.t i) g _ (by rw [List.getElem?_drop, show x.s.t i + (k - x.s.t i) = k by omega]; exact hg) hf (saidK_flags g n).2.2.1

theorem holes_le {x : Gm} (hi : GInv x) {N : Nat} (ho : Ok x.s N) (i : Nat) (h2 : i < 2) : (holesG x i).length ≤ 16 := by
  have := holesF_len ((x.L i).drop (x.s.t i)) (x.s.t i)
  rw [List.length_drop, hi.len i h2] at this
  have m := ho.mt i h2
  have p := pow_pos' (ho.n i h2)
  unfold holesG
  omega

/-- No hole is left in a lane: all its places are filled. -/
theorem holes_done {x : Gm} (hi : GInv x) {N : Nat} (ho : Ok x.s N) (i : Nat) (h2 : i < 2) (hn : holeG x i 0 = none) : ∀ (k : Nat) (g : Snt), (x.L i)[k]? = some g → g.filled = true := by
  intro k g hg
  by_cases hk : x.s.t i ≤ k
  · exact holeG_none hn k g hg hk
  · have hp := hi.pl i k g h2 hg
    have := ho.full i k h2 (by omega)
    rw [hp.fil] at this
    exact this

theorem mu_start {x : Gm} {N : Nat} (ho : Ok x.s N) : mu x ≤ 49 := by
  have m0 := ho.mt 0 (by omega)
  have m1 := ho.mt 1 (by omega)
  have p0 := pow_pos' (ho.n 0 (by omega))
  have p1 := pow_pos' (ho.n 1 (by omega))
  unfold mu
  split <;> omega

theorem poll_rings (x : Gm) (c : Nat) : (pollG x c).s.ring c = (x.s.ring c).tail ∧ (∀ d, d ≠ c → (pollG x c).s.ring d = x.s.ring d) ∧ (pollG x c).s.acks = x.s.acks := by
  unfold pollG
  cases hr : x.s.ring c with
  | nil => exact ⟨hr, fun _ _ => rfl, rfl⟩
  | cons a r => exact ⟨upN_same _ _ _, fun d hd => upN_ne _ _ _ _ hd, rfl⟩

theorem acks_acks (x : Gm) (c : Nat) : (acksG x c).s.acks c = [] ∧ (∀ d, d ≠ c → (acksG x c).s.acks d = x.s.acks d) ∧ (acksG x c).s.ring = x.s.ring :=
  ⟨upN_same _ _ _, fun _ hd => upN_ne _ _ _ _ hd, rfl⟩

end Go.Proofs.Ytjhifhoniimfgaa

/-
  A game comes to its end.
-/
namespace Go.Proofs.Ytjhifhoniimfgaa
open Go.RowKit

theorem GGo.c15 {own : Nat → Nat} {T : Nat} {w w' : World} {xb : Nat} {x : Gm} {N : Nat} (h : GGo own T w xb x N w') : w'.cell? ⟨xb, 15, none⟩ = some (.bool false) := by
  obtain ⟨own', ⟨B, X, st0, st1, hm, rfl⟩, _, _⟩ := h
  exact hm.at_.c15

/-- What stays true of a game whatever is filled, taken, polled. -/
structure Keeps (J : Gm → Prop) : Prop where
  fill : ∀ x i k n g, GInv x → J x → i < 2 → (x.L i)[k]? = some g → g.filled = false → x.s.t i ≤ k → J (fillG x i k n g)
  core : ∀ x N, GInv x → Ok x.s N → J x → J (coreG x)
  poll : ∀ x c, c < 3 → GInv x → J x → J (pollG x c)
  acks : ∀ x c, c < 3 → GInv x → J x → J (acksG x c)

theorem GGo.inv {own : Nat → Nat} {T : Nat} {w w' : World} {xb : Nat} {x : Gm} {N : Nat} (h : GGo own T w xb x N w') : GInv x ∧ Ok x.s N := by
  obtain ⟨own', h1, _, _⟩ := h
  exact ⟨h1.inv, h1.ok⟩

/-- The first hole of a lane, as the program tells it. -/
def holeI (x : Gm) (i : Nat) : Int := match holeG x i 0 with | some k => (k : Int) | none => -1

theorem g_hole {own : Nat → Nat} {T : Nat} {w : World} {xb : Nat} {x : Gm} {N : Nat} (h : GAt own T w xb x N) (hN : N < 281000000000000) (i : Nat) (hi : i < 2) :
    Calls Try.prog 15 #[.pointer (some ⟨xb, 0, none⟩), .int .i64 i, .int .i64 0] w fun e w' => e = .returned (.int .i64 (holeI x i)) ∧ GGo own T w xb x N w' := by
  refine (hole_walk h hN i (by omega) 0 (by omega) (by omega)).mono ?_
  rintro e w' ⟨rfl, hb⟩
  exact ⟨rfl, GGo.refl h (Keep.ofBelow hb)⟩

theorem holeI_cases (x : Gm) (i : Nat) : (holeI x i = -1 ∧ holeG x i 0 = none) ∨ ∃ k : Nat, holeI x i = k ∧ holeG x i 0 = some k := by
  unfold holeI
  cases h : holeG x i 0 with
  | none => exact .inl ⟨rfl, rfl⟩
  | some k => exact .inr ⟨k, rfl, rfl⟩

/-- What is known while the holes of lane l are filled: lanes ahead of it are full. -/
def FullTo (x : Gm) (l : Nat) : Prop := ∀ (i k : Nat) (g : Snt), i < l → (x.L i)[k]? = some g → g.filled = true

theorem FullTo.fill {x : Gm} {l : Nat} (h : FullTo x l) (k n : Nat) (g : Snt) : FullTo (fillG x l k n g) l := by
  intro i j y hi hy
  have hy : (upN x.L l ((x.L l).set k (saidK g n).1) i)[j]? = some y := hy
  rw [upN_ne _ _ _ _ (by omega)] at hy
  exact h i j y hi hy

theorem FullTo.next {x : Gm} {l : Nat} (h : FullTo x l) (hl : l < 2) (hi : GInv x) {N : Nat} (ho : Ok x.s N) (hn : holeG x l 0 = none) : FullTo x (l + 1) := by
  intro i j y hi2 hy
  by_cases e : i = l
  · subst e; exact holes_done hi ho i hl hn j y hy
  · exact h i j y (by omega) hy

/-- Of each client ahead of c: nothing is to be polled. -/
def Empty (x : Gm) (c : Nat) : Prop := ∀ d, d < c → x.s.ring d = [] ∧ x.s.acks d = []

structure Rd (J : Gm → Prop) (x : Gm) (r : Nat) : Prop where
  j : J x
  holes : NoHoles x
  mu : mu x ≤ 50 - r
  empty : 1 ≤ r → Empty x 3

structure Rc (J : Gm → Prop) (x : Gm) (r c : Nat) : Prop where
  j : J x
  holes : NoHoles x
  mu : mu x ≤ 50 - (r + 1)
  empty : Empty x c

theorem Rd.core {J : Gm → Prop} (hJ : Keeps J) {x : Gm} {r N : Nat} (h : Rd J x r) (hi : GInv x) (ho : Ok x.s N) : Rc J (coreG x) r 0 := by
  obtain ⟨m1, m2⟩ := mu_core hi ho h.holes
  refine ⟨hJ.core x N hi ho h.j, core_holes hi ho h.holes, ?_, fun d hd => by omega⟩
  by_cases hr : 1 ≤ r
  · have := m2 (fun c hc => (h.empty hr c hc).1)
    have := h.mu
    omega
  · have := mu_start ho
    omega

theorem Rc.poll {J : Gm → Prop} (hJ : Keeps J) {x : Gm} {r c : Nat} (h : Rc J x r c) (hi : GInv x) (hc : c < 3) : Rc J (pollG x c) r c := by
  refine ⟨hJ.poll x c hc hi h.j, poll_holes h.holes c, by rw [mu_poll]; exact h.mu, fun d hd => ?_⟩
  obtain ⟨_, q2, q3⟩ := poll_rings x c
  rw [q2 d (by omega), q3]
  exact h.empty d hd

theorem Rc.acks {J : Gm → Prop} (hJ : Keeps J) {x : Gm} {r c : Nat} (h : Rc J x r c) (hi : GInv x) (hc : c < 3) (he : x.s.ring c = []) : Rc J (acksG x c) r (c + 1) := by
  refine ⟨hJ.acks x c hc hi h.j, acks_holes h.holes c, h.mu, fun d hd => ?_⟩
  obtain ⟨q1, q2, q3⟩ := acks_acks x c
  rw [q3]
  by_cases e : d = c
  · subst e; exact ⟨he, q1⟩
  · rw [q2 d e]; exact h.empty d (by omega)

theorem Rc.next {J : Gm → Prop} {x : Gm} {r : Nat} (h : Rc J x r 3) : Rd J x (r + 1) := ⟨h.j, h.holes, h.mu, fun _ => h.empty⟩

set_option maxRecDepth 100000 in
set_option maxHeartbeats 2000000 in
theorem g_finish {own : Nat → Nat} {T : Nat} {w : World} {xb : Nat} {x : Gm} {N : Nat} (J : Gm → Prop) (hJ : Keeps J) (h : GAt own T w xb x N) (hx : J x) (hT : 0 < T) (hN : N < 280000000000000) :
    Calls Try.prog 10 #[.pointer (some ⟨xb, 0, none⟩)] w fun e w' => e = .returned (.bool true) ∧ ∃ x', GGo own T w xb x' (N + 10000) w' ∧ J x' ∧ AllTold x' := by
  have HJ := hideE hJ
  have H0 := hideE (show GGo own T w xb x N w from GGo.refl h (Keep.refl _ _))
  have HX := hideE hx
  have HN := hideE (show 0 < T ∧ N < 280000000000000 from ⟨hT, hN⟩)
  clear hJ h hx hT hN
  go_enter Try.func10, Try.ntmps10
  go_wp2
  go_loopg [3] 2 (fun gn lv wr => ∃ (l : Nat) (x1 : Gm), lv = .int .i64 l ∧ l ≤ 2 ∧ gn = 2 - l ∧ GGo own T w xb x1 (N + 16 * l) wr ∧ J x1 ∧ FullTo x1 l)
  case atStart => exact ⟨0, x, rfl, by omega, rfl, H0.out, HX.out, fun i k g hi => by omega⟩
  case round =>
    obtain ⟨l, x1, rfl, hl, hgn, hG, hj, hfl⟩ := hrel
    by_cases hl2 : l < 2
    · have l1 : (l : Int) < 2 := by omega
      obtain ⟨own1, hG1, ho1, hk1⟩ := hG
      have hole := g_hole hG1 (by have := HN.out; omega) l hl2
      obtain ⟨gk_out, hgo⟩ : ∃ g0, g0 = gk := ⟨_, rfl⟩
      rw [← hgo] at hgn
      have HGO := hideE hgo
      have HL := hideE (show (∀ b, b < w.heap.size → OutG own T b → OutG own1 T b) ∧ Keep (OutG own T) w wr ∧ J x1 ∧ FullTo x1 l ∧ l < 2 ∧ gk_out = 2 - l from ⟨ho1, hk1, hj, hfl, hl2, hgn⟩)
      clear hG1 ho1 hk1 hj hfl hl hl2 hgn hgo
      go_wp2_with fail
      refine hole.mono ?_
      rintro e wa ⟨rfl, hg⟩
      have HS := hideE (show ∃ x2 : Gm, holeI x1 l = holeI x2 l ∧ (holesG x1 l).length = (holesG x2 l).length ∧ GGo own T w xb x2 (N + 16 * l + (16 - (holesG x2 l).length)) wa ∧ J x2 ∧ FullTo x2 l from
        ⟨x1, rfl, rfl, (GGo.trans HL.out.1 HL.out.2.1 hg).more (by omega), HL.out.2.2.1, HL.out.2.2.2.1⟩)
      clear hole hg
      generalize hhi : holeI x1 l = hv
      generalize hhl : (holesG x1 l).length = hn0
      have HS2 : Hid (∃ x2 : Gm, hv = holeI x2 l ∧ hn0 = (holesG x2 l).length ∧ GGo own T w xb x2 (N + 16 * l + (16 - (holesG x2 l).length)) wa ∧ J x2 ∧ FullTo x2 l) := by rw [← hhi, ← hhl]; exact HS.out
      clear hhi hhl HS
      go_wp2
      go_loopg [4] hn0 (fun gn pv wq => ∃ x2 : Gm, gn = (holesG x2 l).length ∧ pv = .int .i64 (holeI x2 l) ∧ GGo own T w xb x2 (N + 16 * l + (16 - (holesG x2 l).length)) wq ∧ J x2 ∧ FullTo x2 l)
      case atStart =>
        obtain ⟨x2, q1, q2, q3, q4, q5⟩ := HS2.out
        exact ⟨x2, q2, by rw [q1], q3, q4, q5⟩
      case round =>
        obtain ⟨x2, hgn2, rfl, hG2, hj2, hf2⟩ := hrel
        obtain ⟨hi2, hok2⟩ := hG2.inv
        have hle := holes_le hi2 hok2 l HL.out.2.2.2.2.1
        rcases holeI_cases x2 l with ⟨e1, e2⟩ | ⟨k, e1, e2⟩
        · rw [e1]
          have HE := hideE (show GGo own T w xb x2 (N + 16 * (l + 1)) wr ∧ J x2 ∧ FullTo x2 (l + 1) ∧ l + 1 ≤ 2 from
            ⟨hG2.more (by omega), hj2, hf2.next HL.out.2.2.2.2.1 hi2 hok2 e2, by have := HL.out.2.2.2.2.1; omega⟩)
          have l2 : (l : Int) ≤ 1 := by omega
          have hmeas := HL.out.2.2.2.2.2
          have hl9 := HL.out.2.2.2.2.1
          have HMS := hideE (show 2 - (l + 1) < gk_out from by omega)
          clear hG2 hj2 hf2 hi2 hok2 hle e1 e2 hgn2 hmeas hl9
          go_wp2
          go_roundg (2 - (l + 1))
          case measure => rw [← HGO.out]; exact HMS.out
          case rel => exact ⟨l + 1, x2, rfl, HE.out.2.2.2, rfl, HE.out.1, HE.out.2.1, HE.out.2.2.1⟩
        · rw [e1]
          obtain ⟨g, g1, g2, g3⟩ := holeG_some e2
          have hl9 := HL.out.2.2.2.2.1
          have hfh := fill_holes l k (pickN 3 1099511627776) g g1 g2 g3
          obtain ⟨own2, hA2, ho2, hk2⟩ := hG2
          have fl := g_fill hA2 (by have := HN.out; omega) l k hl9 g g1 g2 g3 3 (by omega) (by omega)
          have HF := hideE (show (∀ b, b < w.heap.size → OutG own T b → OutG own2 T b) ∧ Keep (OutG own T) w wr ∧ J (fillG x2 l k (pickN 3 1099511627776) g) ∧ FullTo (fillG x2 l k (pickN 3 1099511627776) g) l ∧ (holesG (fillG x2 l k (pickN 3 1099511627776) g) l).length + 1 = (holesG x2 l).length ∧ (holesG x2 l).length ≤ 16 ∧ gk = (holesG x2 l).length from
            ⟨ho2, hk2, HJ.out.fill x2 l k _ g hi2 hj2 hl9 g1 g2 g3, hf2.fill k _ g, hfh, hle, hgn2⟩)
          obtain ⟨x3, hx3⟩ : ∃ x3, x3 = fillG x2 l k (pickN 3 1099511627776) g := ⟨_, rfl⟩
          rw [← hx3] at fl HF
          clear hA2 ho2 hk2 hj2 hf2 hi2 hok2 e1 e2 hgn2 g1 g2 g3 hl9 hfh hle hx3
          go_wp2_with fail
          refine fl.mono ?_
          rintro e wb ⟨rfl, hg⟩
          have hg3 := GGo.trans HF.out.1 HF.out.2.1 hg
          have c15 := hg3.c15
          obtain ⟨own3, hA3, ho3, hk3⟩ := hg3
          have hole3 := g_hole hA3 (by have := HN.out; have := HL.out.2.2.2.2.1; omega) l HL.out.2.2.2.2.1
          have HO3 := hideE (show (∀ b, b < w.heap.size → OutG own T b → OutG own3 T b) ∧ Keep (OutG own T) w wb from ⟨ho3, hk3⟩)
          clear fl hg hA3 ho3 hk3
          go_wp2_with fail
          refine hole3.mono ?_
          rintro e wd ⟨rfl, hg⟩
          have HG4 := hideE (GGo.trans HO3.out.1 HO3.out.2 hg)
          clear hole3 hg c15
          go_wp2
          go_roundg ((holesG x3 l).length)
          case measure => have := HF.out.2.2.2.2; omega
          case rel => exact ⟨x3, rfl, rfl, HG4.out.more (by have := HF.out.2.2.2.2; omega), HF.out.2.2.1, HF.out.2.2.2.1⟩
    · have el : l = 2 := by omega
      subst el
      have HR := hideE (show GGo own T w xb x1 (N + 32) wr ∧ Rd J x1 0 from ⟨hG.more (by omega), hj, fun i k g hi hg => hfl i k g hi hg, by have := mu_start hG.inv.2; omega, fun h => by omega⟩)
      clear hG hj hfl hl hl2 hgn
      go_wp2
      go_loopg [5] 100 (fun gn rv wq => ∃ (r : Nat) (x2 : Gm), rv = .int .i64 r ∧ r ≤ 100 ∧ gn = 100 - r ∧ GGo own T w xb x2 (N + 32 + 82 * r) wq ∧ Rd J x2 r)
      case atStart => exact ⟨0, x1, rfl, by omega, rfl, HR.out.1, HR.out.2⟩
      case round =>
        obtain ⟨r, x2, rfl, hr, hgn, hG2, hrd⟩ := hrel
        by_cases hr2 : r < 100
        · have r1 : (r : Int) < 100 := by omega
          obtain ⟨own2, hA2, ho2, hk2⟩ := hG2
          have cc := g_core hA2 HN.out.1 (by have := HN.out; omega)
          have hrc := hrd.core HJ.out hA2.inv hA2.ok
          obtain ⟨gk_o, hgo⟩ : ∃ g0, g0 = gk := ⟨_, rfl⟩
          rw [← hgo] at hgn
          have HGO := hideE hgo
          have HL := hideE (show (∀ b, b < w.heap.size → OutG own T b → OutG own2 T b) ∧ Keep (OutG own T) w wr ∧ Rc J (coreG x2) r 0 ∧ r < 100 ∧ gk_o = 100 - r from ⟨ho2, hk2, hrc, hr2, hgn⟩)
          clear hA2 ho2 hk2 hrd hr hr2 hgn hgo hrc
          go_wp2_with fail
          refine cc.mono ?_
          rintro e wa ⟨rfl, hg⟩
          have HS := hideE (GGo.trans HL.out.1 HL.out.2.1 hg)
          clear cc hg
          go_wp2
          go_loopg [6] 3 (fun gn cv wq => ∃ (c : Nat) (x3 : Gm), cv = .int .i64 c ∧ c ≤ 3 ∧ gn = 3 - c ∧ GGo own T w xb x3 (N + 32 + 82 * r + 16 + 22 * c) wq ∧ Rc J x3 r c)
          case atStart => exact ⟨0, coreG x2, rfl, by omega, rfl, HS.out, HL.out.2.2.1⟩
          case round =>
            obtain ⟨c, x3, rfl, hc, hgn3, hG3, hrc3⟩ := hrel
            obtain ⟨gk_c, hgc⟩ : ∃ g0, g0 = gk := ⟨_, rfl⟩
            rw [← hgc] at hgn3
            have HGC := hideE hgc
            by_cases hc3 : c < 3
            · have c1 : (c : Int) < 3 := by omega
              have HP := hideE (show GGo own T w xb x3 (N + 32 + 82 * r + 16 + 22 * c) wr ∧ Rc J x3 r c ∧ c < 3 ∧ gk_c = 3 - c ∧ (x3.s.ring c).length ≤ 16 from ⟨hG3, hrc3, hc3, hgn3, Nat.le_trans (hG3.inv.2.ring c) (pow_pos' hG3.inv.2.an).2⟩)
              clear hG3 hrc3 hc hc3 hgn3 hgc
              go_wp2
              go_loopg [7] 20 (fun gn nv wq => ∃ (n : Nat) (x4 : Gm), nv = .int .i64 n ∧ n ≤ 20 ∧ gn = 20 - n ∧ GGo own T w xb x4 (N + 32 + 82 * r + 16 + 22 * c + n) wq ∧ Rc J x4 r c ∧ (x4.s.ring c).length ≤ 16 - n)
              case atStart => exact ⟨0, x3, rfl, by omega, rfl, HP.out.1, HP.out.2.1, HP.out.2.2.2.2⟩
              case round =>
                obtain ⟨n, x4, rfl, hn, hgn4, hG4, hrc4, hlen⟩ := hrel
                by_cases hn20 : n < 20
                · have n1 : (n : Int) < 20 := by omega
                  obtain ⟨own4, hA4, ho4, hk4⟩ := hG4
                  have pp := g_poll hA4 (by have := HN.out; have := HL.out.2.2.2.1; have := HP.out.2.2.1; omega) c HP.out.2.2.1
                  have hrc5 := hrc4.poll HJ.out hA4.inv HP.out.2.2.1
                  have H4 := hideE (show (∀ b, b < w.heap.size → OutG own T b → OutG own4 T b) ∧ Keep (OutG own T) w wr ∧ Rc J (pollG x4 c) r c ∧ n < 20 ∧ gk = 20 - n ∧ ((pollG x4 c).s.ring c).length ≤ 16 - (n + 1) from ⟨ho4, hk4, hrc5, hn20, hgn4, by rw [(poll_rings x4 c).1, List.length_tail]; omega⟩)
                  have H5 := hideE (show ∀ wb, GGo own T w xb (pollG x4 c) (N + 32 + 82 * r + 16 + 22 * c + n + 1) wb → x4.s.ring c = [] → GGo own T w xb x4 (N + 32 + 82 * r + 16 + 22 * c + n + 1) wb ∧ Rc J x4 r c from fun wb hg he => by
                    have : pollG x4 c = x4 := by unfold pollG; rw [he]
                    rw [this] at hg
                    exact ⟨hg, hrc4⟩)
                  cases hre : x4.s.ring c with
                  | nil =>
                    rw [hre] at pp
                    have HRE := hideE hre
                    clear hA4 ho4 hk4 hrc4 hlen hn20 hgn4 hrc5 hn hre
                    go_wp2_with fail
                    refine pp.mono ?_
                    rintro e wb ⟨rfl, hg⟩
                    obtain ⟨hg5, hr5⟩ := H5.out wb (GGo.trans H4.out.1 H4.out.2.1 hg) HRE.out
                    obtain ⟨own5, hA5, ho5, hk5⟩ := hg5
                    have aa := g_acks hA5 HN.out.1 (by have := HN.out; have := HL.out.2.2.2.1; have := HP.out.2.2.1; have := H4.out.2.2.2.1; omega) c HP.out.2.2.1
                    have hr6 := hr5.acks HJ.out hA5.inv HP.out.2.2.1 HRE.out
                    have H6 := hideE (show (∀ b, b < w.heap.size → OutG own T b → OutG own5 T b) ∧ Keep (OutG own T) w wb ∧ Rc J (acksG x4 c) r (c + 1) from ⟨ho5, hk5, hr6⟩)
                    clear pp hg hA5 ho5 hk5 hr5 hr6
                    go_wp2_with fail
                    refine aa.mono ?_
                    rintro e wd ⟨rfl, hg⟩
                    have H7 := hideE (GGo.trans H6.out.1 H6.out.2.1 hg)
                    clear aa hg
                    go_wp2
                    go_roundg (3 - (c + 1))
                    case measure => rw [← HGC.out]; have := HP.out.2.2; omega
                    case rel => exact ⟨c + 1, acksG x4 c, rfl, HP.out.2.2.1, rfl, H7.out.more (by have := H4.out.2.2.2.1; omega), H6.out.2.2⟩
                  | cons a l =>
                    rw [hre] at pp
                    clear hA4 ho4 hk4 hrc4 hlen hn20 hgn4 hrc5 hn hre
                    go_wp2_with fail
                    refine pp.mono ?_
                    rintro e wb ⟨rfl, hg⟩
                    have H8 := hideE (GGo.trans H4.out.1 H4.out.2.1 hg)
                    clear pp hg
                    go_wp2
                    go_roundg (20 - (n + 1))
                    case measure => have := H4.out.2.2.2; omega
                    case rel => exact ⟨n + 1, pollG x4 c, rfl, H4.out.2.2.2.1, rfl, H8.out, H4.out.2.2.1, H4.out.2.2.2.2.2⟩
                · have en : n = 20 := by omega
                  subst en
                  have hre : x4.s.ring c = [] := List.eq_nil_of_length_eq_zero (by omega)
                  obtain ⟨own5, hA5, ho5, hk5⟩ := hG4
                  have aa := g_acks hA5 HN.out.1 (by have := HN.out; have := HL.out.2.2.2.1; have := HP.out.2.2.1; omega) c HP.out.2.2.1
                  have hr6 := hrc4.acks HJ.out hA5.inv HP.out.2.2.1 hre
                  have H6 := hideE (show (∀ b, b < w.heap.size → OutG own T b → OutG own5 T b) ∧ Keep (OutG own T) w wr ∧ Rc J (acksG x4 c) r (c + 1) from ⟨ho5, hk5, hr6⟩)
                  clear hA5 ho5 hk5 hr6 hrc4 hlen hn20 hgn4 hn hre
                  go_wp2_with fail
                  refine aa.mono ?_
                  rintro e wd ⟨rfl, hg⟩
                  have H7 := hideE (GGo.trans H6.out.1 H6.out.2.1 hg)
                  clear aa hg
                  go_wp2
                  go_roundg (3 - (c + 1))
                  case measure => rw [← HGC.out]; have := HP.out.2.2; omega
                  case rel => exact ⟨c + 1, acksG x4 c, rfl, HP.out.2.2.1, rfl, H7.out.more (by omega), H6.out.2.2⟩
            · have ec : c = 3 := by omega
              subst ec
              have HQ := hideE (show GGo own T w xb x3 (N + 32 + 82 * (r + 1)) wr ∧ Rd J x3 (r + 1) from ⟨hG3.more (by omega), hrc3.next⟩)
              clear hG3 hrc3 hc hc3 hgn3 hgc
              have r2 : (r : Int) ≤ 100 := by omega
              go_wp2
              go_roundg (100 - (r + 1))
              case measure => rw [← HGO.out]; have := HL.out.2.2.2; omega
              case rel => exact ⟨r + 1, x3, rfl, HL.out.2.2.2.1, rfl, HQ.out.1, HQ.out.2⟩
        · have er : r = 100 := by omega
          subst er
          obtain ⟨hi2, hok2⟩ := hG2.inv
          have hat : AllTold x2 := all_told hi2 hok2 (by have := hrd.mu; omega) (fun c hc => (hrd.empty (by omega) c hc).1) (fun c hc => (hrd.empty (by omega) c hc).2)
          have HF := hideE (show (∃ x', GGo own T w xb x' (N + 10000) wr ∧ J x' ∧ AllTold x') from ⟨x2, hG2.more (by omega), hrd.j, hat⟩)
          have c15 := hG2.c15
          have HM : Hid (∀ l : Nat, l < 2 → ∃ a cap, wr.cell? ⟨xb, 7 + l, none⟩ = some (.slice a (x2.L l).length cap) ∧ (x2.L l).length ≤ 281000000000000 ∧ ∀ k, k < (x2.L l).length → ∃ rb pb, a = some ⟨rb, 0, none⟩ ∧ wr.cell? ⟨rb, k, none⟩ = some (.pointer (some ⟨pb, 0, none⟩)) ∧ wr.cell? ⟨pb, 12, none⟩ = some (.bool true)) := by
            intro l hl
            obtain ⟨own2, ⟨B, X, st0, st1, hm, rfl⟩, _, _⟩ := hG2
            obtain ⟨a, cap, hlv⟩ := hm.at_.laneV l hl
            have cL := hm.at_.cL l hl
            rw [hlv] at cL
            refine ⟨a, cap, cL, by rw [hm.inv.len l hl]; have := hm.ok.mt l hl; have := HN.out; omega, fun k hk => ?_⟩
            obtain ⟨rb, cap', e1, e2, _, _⟩ := hm.at_.rowcell l hl (by omega)
            rw [hlv] at e1
            simp only [Value.slice.injEq] at e1
            obtain ⟨g, g1, g2⟩ := hm.at_.get l k hl hk
            have s12 := sc12 g2
            rw [hat l k g hl g1] at s12
            exact ⟨rb, X.pb l k, e1.1, e2 k hk, s12⟩
          clear hG2 hrd hr hr2 hgn hi2 hok2 hat
          go_wp2
          generalize hWW : wr = WW at *
          clear hWW
          go_loopg [9] 2 (fun gn lv wq => (lv = .int .i64 0 ∧ gn = 2 ∨ lv = .int .i64 1 ∧ gn = 1 ∨ lv = .int .i64 2 ∧ gn = 0) ∧ WW = wq)
          case atStart => exact ⟨.inl ⟨rfl, rfl⟩, rfl⟩
          case round =>
            obtain ⟨⟨rfl, hgn⟩ | ⟨rfl, hgn⟩ | ⟨rfl, hgn⟩, rfl⟩ := hrel
            · obtain ⟨a, cap, cL, hll, hcell⟩ := HM.out 0 (by omega)
              have HC := hideE hcell
              obtain ⟨ln, hln⟩ : ∃ ln, ln = (x2.L 0).length := ⟨_, rfl⟩
              rw [← hln] at cL hll
              simp only [Nat.add_zero] at cL
              have HLN := hideE hln
              clear hcell hln
              obtain ⟨gk_l, hgl⟩ : ∃ g0, g0 = gk := ⟨_, rfl⟩
              rw [← hgl] at hgn
              have HGL := hideE (show gk_l = gk ∧ gk_l = 2 from ⟨hgl, hgn⟩)
              clear hgl hgn
              go_wp2
              go_loopg [10] ln (fun gn kv wq => ∃ k : Nat, kv = .int .i64 k ∧ k ≤ ln ∧ gn = ln - k ∧ WW = wq)
              case atStart => exact ⟨0, rfl, Nat.zero_le _, rfl, rfl⟩
              case round =>
                obtain ⟨k, rfl, hk, hgk, rfl⟩ := hrel
                by_cases hkl : k < ln
                · obtain ⟨rb, pb, rfl, e1, e2⟩ := HC.out k (by rw [← HLN.out]; exact hkl)
                  have k1 : (k : Int) < (ln : Int) := by omega
                  have HK := hideE (show k < ln ∧ gk = ln - k from ⟨hkl, hgk⟩)
                  clear hkl hgk hk
                  go_wp2
                  go_roundg (ln - (k + 1))
                  case measure => have := HK.out; omega
                  case rel => exact ⟨k + 1, rfl, HK.out.1, rfl, rfl⟩
                · have ek : k = ln := by omega
                  subst ek
                  clear hkl hgk hk
                  go_wp2
                  go_roundg 1
                  case measure => rw [← HGL.out.1, HGL.out.2]; omega
                  case rel => exact ⟨.inr (.inl ⟨rfl, rfl⟩), rfl⟩
            · obtain ⟨a, cap, cL, hll, hcell⟩ := HM.out 1 (by omega)
              have HC := hideE hcell
              obtain ⟨ln, hln⟩ : ∃ ln, ln = (x2.L 1).length := ⟨_, rfl⟩
              rw [← hln] at cL hll
              simp only [Nat.reduceAdd] at cL
              have HLN := hideE hln
              clear hcell hln
              obtain ⟨gk_l, hgl⟩ : ∃ g0, g0 = gk := ⟨_, rfl⟩
              rw [← hgl] at hgn
              have HGL := hideE (show gk_l = gk ∧ gk_l = 1 from ⟨hgl, hgn⟩)
              clear hgl hgn
              go_wp2
              go_loopg [10] ln (fun gn kv wq => ∃ k : Nat, kv = .int .i64 k ∧ k ≤ ln ∧ gn = ln - k ∧ WW = wq)
              case atStart => exact ⟨0, rfl, Nat.zero_le _, rfl, rfl⟩
              case round =>
                obtain ⟨k, rfl, hk, hgk, rfl⟩ := hrel
                by_cases hkl : k < ln
                · obtain ⟨rb, pb, rfl, e1, e2⟩ := HC.out k (by rw [← HLN.out]; exact hkl)
                  have k1 : (k : Int) < (ln : Int) := by omega
                  have HK := hideE (show k < ln ∧ gk = ln - k from ⟨hkl, hgk⟩)
                  clear hkl hgk hk
                  go_wp2
                  go_roundg (ln - (k + 1))
                  case measure => have := HK.out; omega
                  case rel => exact ⟨k + 1, rfl, HK.out.1, rfl, rfl⟩
                · have ek : k = ln := by omega
                  subst ek
                  clear hkl hgk hk
                  go_wp2
                  go_roundg 0
                  case measure => rw [← HGL.out.1, HGL.out.2]; omega
                  case rel => exact ⟨.inr (.inr ⟨rfl, rfl⟩), rfl⟩
            · clear hgn
              go_wp2
              go_ret
              exact ⟨rfl, HF.out⟩

end Go.Proofs.Ytjhifhoniimfgaa

