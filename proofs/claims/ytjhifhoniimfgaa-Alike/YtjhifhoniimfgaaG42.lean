import Derived.Test.YtjhifhoniimfgaaG41
/-
  What stays true of a game, whatever a script says.
-/
namespace Go.Proofs.Ytjhifhoniimfgaa
open Go.RowKit

/-- What stays true of a game whatever is done (P: of the lanes in which places are claimed). -/
structure KeepsAll (J : Gm → Prop) (P : Nat → Prop) : Prop extends Keeps J where
  claim : ∀ x N c i, GInv x → Ok x.s N → c < 3 → i < 2 → P i → mayClaim x i = true → J x → J (claimG x c i)
  tick : ∀ x, GInv x → J x → J (tickG x)
  watch : ∀ x, GInv x → J x → J (watchG x)

theorem new_at (x : Gm) (c i : Nat) : ((claimG x c i).L i)[(x.L i).length]? = some (Snt.new c i) := by
  show (upN x.L i (x.L i ++ [Snt.new c i]) i)[(x.L i).length]? = _
  rw [upN_same, List.getElem?_append_right (Nat.le_refl _)]
  simp

theorem moves_J {J : Gm → Prop} {P : Nat → Prop} (hJ : KeepsAll J P) {x : Gm} {N : Nat} (hi : GInv x) (ho : Ok x.s N) (hx : J x) (K A B : Int) (hP : P (pickN B 8 / 7)) : J (movesG x K A B) := by
  have hc : pickN A 3 < 3 := pickN_lt _ _ (by omega)
  have hq : pickN B 8 < 8 := pickN_lt _ _ (by omega)
  unfold movesG
  obtain ⟨i, hi'⟩ : ∃ i, i = pickN B 8 / 7 := ⟨_, rfl⟩
  rw [← hi'] at hP ⊢
  have hi2 : i < 2 := by omega
  split
  · cases hm : mayClaim x i with
    | false => exact hx
    | true =>
      have ci := claim_inv hi ho (pickN A 3) i hc hi2
      exact hJ.fill _ i _ _ _ ci (hJ.claim x N _ i hi ho hc hi2 hP hm hx) hi2 (new_at x _ i) rfl (by
        show x.s.t i ≤ (x.L i).length
        rw [hi.len i hi2]
        exact (ho.mt i hi2).1)
  split
  · cases hm : mayClaim x i with
    | false => exact hx
    | true => exact hJ.claim x N _ i hi ho hc hi2 hP hm hx
  split
  · unfold fillAt
    cases hh : holeG x i A with
    | none => exact hx
    | some j =>
      obtain ⟨g, g1, g2, g3⟩ := holeG_some hh
      simp only [g1]
      exact hJ.fill x i j _ g hi hx hi2 g1 g2 g3
  split
  · exact hJ.core x N hi ho hx
  split
  · exact hJ.poll x _ hc hi hx
  split
  · exact hJ.acks x _ hc hi hx
  split
  · exact hJ.tick x hi hx
  split
  · exact hJ.watch x hi hx
  · exact hJ.watch _ (core_inv (tick_inv hi) (tick_ok ho)) (hJ.core _ _ (tick_inv hi) (tick_ok ho) (hJ.tick x hi hx))

theorem Play.inv {w0 : World} {xb : Nat} {x : Gm} {N : Nat} {w : World} (h : Play w0 xb x N w) : GInv x ∧ Ok x.s N := by
  obtain ⟨own, h1, _⟩ := h.at_
  exact ⟨h1.inv, h1.ok⟩

set_option maxRecDepth 100000 in
set_option maxHeartbeats 1000000 in
theorem Play.play {w0 : World} {xb : Nat} {x : Gm} {N : Nat} {w : World} (J : Gm → Prop) (hJ : KeepsAll J (fun _ => True)) (hx : J x) (h : Play w0 xb x N w) (a : Option Addr) (len cap : Nat) (ms : Nat → Int × Int × Int) (hm : MovesAt w0 a len ms) (hl : len ≤ 5864062014634) (hN : N < 125000000000000) :
    Calls Try.prog 11 #[.pointer (some ⟨xb, 0, none⟩), .slice a len cap] w fun e w' => e = .returned (.tuple #[]) ∧ ∃ x', Play w0 xb x' (N + 18 * len) w' ∧ J x' := by
  have HJ := hideE hJ
  have H0 := hideE (show Play w0 xb x N w ∧ J x from ⟨h, hx⟩)
  have HM := hideE hm
  clear hJ h hx hm
  go_enter Try.func11, Try.ntmps11
  go_wp2
  go_loopg [4] len (fun gn iv wr => ∃ (k : Nat) (x1 : Gm), iv = .int .i64 k ∧ k ≤ len ∧ gn = len - k ∧ Play w0 xb x1 (N + 18 * k) wr ∧ J x1)
  case atStart => exact ⟨0, x, rfl, Nat.zero_le _, rfl, H0.out.1, H0.out.2⟩
  case round =>
    obtain ⟨k, x1, rfl, hk, hgn, hp, hj⟩ := hrel
    by_cases hkl : k < len
    · have k1 : (k : Int) < (len : Int) := by omega
      have k2 : (k : Int) ≤ 5864062014634 := by omega
      obtain ⟨b, off, rfl, e1, e2, e3, r1, r2, r3⟩ := (HM.out.keep hp.keep (fun _ _ => trivial)).get k hkl
      have mv := hp.moves (by omega) (ms k) r1 r2 r3
      have HK := hideE (show k < len ∧ gk = len - k ∧ J (movesG x1 (ms k).1 (ms k).2.1 (ms k).2.2) from ⟨hkl, hgn, moves_J HJ.out hp.inv.1 hp.inv.2 hj _ _ _ trivial⟩)
      clear hp hk hkl hgn r1 r2 r3 hj
      go_wp2_with fail
      refine mv.mono ?_
      rintro e w2 ⟨rfl, hq⟩
      have HQ := hideE hq
      clear mv hq
      go_wp2
      go_roundg (len - (k + 1))
      case measure => have := HK.out; omega
      case rel => exact ⟨k + 1, _, rfl, HK.out.1, rfl, HQ.out, HK.out.2.2⟩
    · have ek : k = len := by omega
      subst ek
      have HQ := hideE (show ∃ x', Play w0 xb x' (N + 18 * k) wr ∧ J x' from ⟨x1, hp, hj⟩)
      clear hp hk hkl hgn hj
      go_wp2
      go_end0
      exact ⟨rfl, HQ.out⟩

end Go.Proofs.Ytjhifhoniimfgaa

/-
  A gate that is shut: no code.
-/
namespace Go.Proofs.Ytjhifhoniimfgaa
open Go.RowKit

theorem core_stepped {x : Gm} (h : GInv x) {N : Nat} (ho : Ok x.s N) : (coreG x).s.stepped = true := by
  have e : (coreG x).s = (coreS x.s).2 := rfl
  cases core_case h ho with
  | rush g hn hg hp hf hr hL => rw [e, hr]
  | free c a hn hh hl hr hL => rw [e, hr]
  | wait c a hn hh hl hr hL => rw [e, hr]
  | serve g hn1 hh hn hg hp hf hl hr hL => rw [e, hr]
  | hold g hn1 hh hn hg hp hf hl hr hL => rw [e, hr]
  | idle hn1 hh hn hr hL => rw [e, hr]

theorem poll_fields (x : Gm) (c : Nat) : (pollG x c).s.shut = x.s.shut ∧ (pollG x c).s.t = x.s.t ∧ (pollG x c).s.m = x.s.m ∧ (pollG x c).s.stop = x.s.stop ∧ (pollG x c).s.book = x.s.book ∧ (pollG x c).s.time = x.s.time := by
  unfold pollG
  cases x.s.ring c <;> exact ⟨rfl, rfl, rfl, rfl, rfl, rfl⟩

/-- The watch, behind a step of the core, leaves the gate open. -/
theorem watch_open {x : Gm} {N : Nat} (ho : Ok x.s N) (h1 : x.s.shut = false) (h2 : x.s.stepped = true) : (watchG x).s.shut = false := by
  have := ho.ch
  unfold watchG watchS
  by_cases q : x.s.ticked = false
  · rw [if_pos q]; exact h1
  · rw [if_neg q]
    show (x.s.shut || decide (x.s.ch ≤ (if x.s.stepped = true then 0 else x.s.misses + 1))) = false
    rw [h1, h2, if_pos rfl]
    simp
    omega

/-- Each step of the first script leaves the gate open. -/
theorem moves_open {x : Gm} {N : Nat} (hi : GInv x) (ho : Ok x.s N) (h1 : x.s.shut = false) (K A B : Int) (h14 : pickN K 16 = 14 → x.s.stepped = true) : (movesG x K A B).s.shut = false := by
  unfold movesG
  split
  · split
    · exact h1
    · exact h1
  split
  · split
    · exact h1
    · exact h1
  split
  · unfold fillAt
    split
    · split
      · exact h1
      · exact h1
    · exact h1
  split
  · rw [(core_lim x hi ho).2.2.2.2.2]; exact h1
  split
  · rw [(poll_fields x _).1]; exact h1
  split
  · exact h1
  split
  · exact h1
  split
  · rename_i e; exact watch_open ho h1 (h14 e)
  · have ti := tick_inv hi
    have to_ := tick_ok ho
    exact watch_open (core_ok to_) (by rw [(core_lim (tickG x) ti to_).2.2.2.2.2]; exact h1) (core_stepped ti to_)

/-- What the watch knows when the core has stood still for i checks. -/
structure Still (s : St) (i : Nat) : Prop where
  misses : s.misses = i
  ticked : s.ticked = false
  stepped : s.stepped = false
  shut : s.shut = decide (s.ch ≤ i)

theorem still_start {x : Gm} {N : Nat} (hi : GInv x) (ho : Ok x.s N) (h1 : x.s.shut = false) : Still (watchG (coreG (tickG x))).s 0 := by
  have ti := tick_inv hi
  have to_ := tick_ok ho
  have e1 := core_stepped ti to_
  have e2 : (coreG (tickG x)).s.shut = false := by rw [(core_lim (tickG x) ti to_).2.2.2.2.2]; exact h1
  have e3 : (coreG (tickG x)).s.ticked = true := by
    have e : (coreG (tickG x)).s = (coreS (tickG x).s).2 := rfl
    cases core_case ti to_ with
    | rush g hn hg hp hf hr hL => rw [e, hr]; rfl
    | free c a hn hh hl hr hL => rw [e, hr]; rfl
    | wait c a hn hh hl hr hL => rw [e, hr]; rfl
    | serve g hn1 hh hn hg hp hf hl hr hL => rw [e, hr]; rfl
    | hold g hn1 hh hn hg hp hf hl hr hL => rw [e, hr]; rfl
    | idle hn1 hh hn hr hL => rw [e, hr]; rfl
  unfold watchG watchS
  rw [if_neg (by rw [e3]; simp)]
  refine ⟨?_, rfl, rfl, ?_⟩
  · show (if (coreG (tickG x)).s.stepped = true then 0 else _) = 0
    rw [e1, if_pos rfl]
  · show ((coreG (tickG x)).s.shut || decide ((coreG (tickG x)).s.ch ≤ (if (coreG (tickG x)).s.stepped = true then 0 else _))) = _
    rw [e2, e1, if_pos rfl]
    rfl

theorem still_next {x : Gm} {i : Nat} (h : Still x.s i) : Still (watchG (tickG x)).s (i + 1) ∧ watchG (watchG (tickG x)) = watchG (tickG x) := by
  have e : (watchG (tickG x)).s = { x.s with time := x.s.time + 1, ticked := false, stepped := false, misses := i + 1, shut := decide (x.s.ch ≤ i + 1) } := by
    unfold watchG watchS tickG tickS
    rw [if_neg (by simp)]
    simp only [h.stepped, h.misses, h.shut, Bool.false_eq_true, if_false]
    have : (decide (x.s.ch ≤ i) || decide (x.s.ch ≤ i + 1)) = decide (x.s.ch ≤ i + 1) := by
      by_cases q : x.s.ch ≤ i + 1
      · simp [q]
      · simp [q]; omega
    rw [this]
  refine ⟨?_, ?_⟩
  · rw [e]; exact ⟨rfl, rfl, rfl, rfl⟩
  · have : (watchS (watchG (tickG x)).s).2 = (watchG (tickG x)).s := by
      unfold watchS
      rw [if_pos (by rw [e])]
    show (⟨(watchS (watchG (tickG x)).s).2, (watchG (tickG x)).L⟩ : Gm) = _
    rw [this]

/-- Places of the common lane behind a step. -/
theorem core_L0 {x : Gm} (h : GInv x) {N : Nat} (ho : Ok x.s N) (k : Nat) (y : Snt) (hy : ((coreG x).L 0)[k]? = some y) :
    (x.L 0)[k]? = some y ∨ (k = x.s.t 0 ∧ ∃ g, (x.L 0)[k]? = some g ∧ PlOk x.s 0 k g ∧ g.filled = true ∧ y = tookG g x.s.time (doS x.s (saidG g)).1) := by
  cases core_case h ho with
  | rush g hn hg hp hf hr hL => rw [hL, upN_ne _ _ _ _ (by omega)] at hy; exact .inl hy
  | free c a hn hh hl hr hL => rw [hL] at hy; exact .inl hy
  | wait c a hn hh hl hr hL => rw [hL] at hy; exact .inl hy
  | serve g hn1 hh hn hg hp hf hl hr hL =>
    rw [hL, upN_same] at hy
    rcases set_get hg hy with ⟨rfl, rfl⟩ | ⟨_, hy⟩
    · exact .inr ⟨rfl, g, hg, hp, hf, rfl⟩
    · exact .inl hy
  | hold g hn1 hh hn hg hp hf hl hr hL =>
    rw [hL, upN_same] at hy
    rcases set_get hg hy with ⟨rfl, rfl⟩ | ⟨_, hy⟩
    · exact .inr ⟨rfl, g, hg, hp, hf, rfl⟩
    · exact .inl hy
  | idle hn1 hh hn hr hL => rw [hL] at hy; exact .inl hy

theorem fill_L0 {x : Gm} {i k n : Nat} {g : Snt} (hg : (x.L i)[k]? = some g) (j : Nat) (y : Snt) (hy : ((fillG x i k n g).L 0)[j]? = some y) : (x.L 0)[j]? = some y ∨ (i = 0 ∧ j = k ∧ y = (saidK g n).1) := by
  have hy : (upN x.L i ((x.L i).set k (saidK g n).1) 0)[j]? = some y := hy
  by_cases e : i = 0
  · subst e
    rw [upN_same] at hy
    rcases set_get hg hy with ⟨rfl, rfl⟩ | ⟨_, hy⟩
    · exact .inr ⟨rfl, rfl, rfl⟩
    · exact .inl hy
  · rw [upN_ne _ _ _ _ (fun q => e q.symm)] at hy; exact .inl hy

theorem poll_L0 (x : Gm) (c : Nat) (j : Nat) (y : Snt) (hy : ((pollG x c).L 0)[j]? = some y) : ∃ g, (x.L 0)[j]? = some g ∧ (y = g ∨ y = { g with told := true, code := g.given }) := by
  unfold pollG at hy
  cases hr : x.s.ring c with
  | nil => rw [hr] at hy; exact ⟨y, hy, .inl rfl⟩
  | cons a r =>
    rw [hr] at hy
    have hy : (upN x.L 0 (told1 c (x.L 0)) 0)[j]? = some y := hy
    rw [upN_same] at hy
    obtain ⟨g0, h0, e | ⟨_, _, _, e⟩⟩ := told1_get c _ j y hy
    · exact ⟨g0, h0, .inl e⟩
    · exact ⟨g0, h0, .inr e⟩

theorem claim_L0 {x : Gm} {c i : Nat} (j : Nat) (y : Snt) (hy : ((claimG x c i).L 0)[j]? = some y) : (x.L 0)[j]? = some y ∨ (i = 0 ∧ j = (x.L 0).length ∧ y = Snt.new c i) := by
  have hy : (upN x.L i (x.L i ++ [Snt.new c i]) 0)[j]? = some y := hy
  by_cases e : i = 0
  · subst e
    rw [upN_same] at hy
    by_cases hj : j < (x.L 0).length
    · rw [List.getElem?_append_left hj] at hy; exact .inl hy
    · have hl := (List.getElem?_eq_some_iff.1 hy).1
      simp only [List.length_append, List.length_singleton] at hl
      have ej : j = (x.L 0).length := by omega
      subst ej
      rw [List.getElem?_append_right (Nat.le_refl _)] at hy
      simp at hy
      exact .inr ⟨rfl, rfl, hy.symm⟩
  · rw [upN_ne _ _ _ _ (fun q => e q.symm)] at hy; exact .inl hy

theorem core_t0 {x : Gm} (h : GInv x) {N : Nat} (ho : Ok x.s N) : x.s.t 0 ≤ (coreG x).s.t 0 ∧ (coreG x).s.m = x.s.m := by
  have e : (coreG x).s = (coreS x.s).2 := rfl
  cases core_case h ho with
  | rush g hn hg hp hf hr hL => rw [e, hr]; exact ⟨by show x.s.t 0 ≤ upN x.s.t 1 (x.s.t 1 + 1) 0; rw [upN_ne _ _ _ _ (by omega)]; exact Nat.le_refl _, rfl⟩
  | free c a hn hh hl hr hL => rw [e, hr]; exact ⟨Nat.le_refl _, rfl⟩
  | wait c a hn hh hl hr hL => rw [e, hr]; exact ⟨Nat.le_refl _, rfl⟩
  | serve g hn1 hh hn hg hp hf hl hr hL => rw [e, hr]; exact ⟨by show x.s.t 0 ≤ upN x.s.t 0 (x.s.t 0 + 1) 0; rw [upN_same]; omega, rfl⟩
  | hold g hn1 hh hn hg hp hf hl hr hL => rw [e, hr]; exact ⟨by show x.s.t 0 ≤ upN x.s.t 0 (x.s.t 0 + 1) 0; rw [upN_same]; omega, rfl⟩
  | idle hn1 hh hn hr hL => rw [e, hr]; exact ⟨Nat.le_refl _, rfl⟩

/-- A gate that is shut: no place is claimed, no New let through. -/
structure Shut4 (many first : Nat) (x : Gm) : Prop where
  shut : x.s.shut = true
  m : x.s.m 0 = many
  t : first ≤ x.s.t 0
  new : ∀ (k : Nat) (g : Snt), first ≤ k → (x.L 0)[k]? = some g → g.taken = true → g.kind = 1 → g.given = 9

theorem shut_keeps (many first : Nat) : KeepsAll (Shut4 many first) (fun _ => True) where
  fill := fun x i k n g hi h h2 hg hf ht => by
    refine ⟨h.shut, h.m, h.t, fun j y hj hy htk hkd => ?_⟩
    rcases fill_L0 hg j y hy with hy | ⟨rfl, rfl, rfl⟩
    · exact h.new j y hj hy htk hkd
    · have hp := hi.pl 0 j g h2 hg
      rw [(saidK_flags g n).2.2.2.1, hp.taken] at htk
      have := of_decide_eq_true htk
      omega
  core := fun x N hi ho h => by
    obtain ⟨q1, q2⟩ := core_t0 hi ho
    refine ⟨by rw [(core_lim x hi ho).2.2.2.2.2]; exact h.shut, by rw [q2]; exact h.m, Nat.le_trans h.t q1, fun j y hj hy htk hkd => ?_⟩
    rcases core_L0 hi ho j y hy with hy | ⟨_, g, hg, hp, hf, rfl⟩
    · exact h.new j y hj hy htk hkd
    · have hkd : g.kind = 1 := hkd
      show (doS x.s (saidG g)).1 = 9
      unfold saidG
      rw [if_pos hkd, doS_new]
      show newsV _ _ _ _ _ _ = 9
      unfold newsV
      rw [if_pos h.shut]
  poll := fun x c hc hi h => by
    obtain ⟨q1, q2, q3, _⟩ := poll_fields x c
    refine ⟨by rw [q1]; exact h.shut, by rw [q3]; exact h.m, by rw [q2]; exact h.t, fun j y hj hy htk hkd => ?_⟩
    obtain ⟨g, hg, rfl | rfl⟩ := poll_L0 x c j y hy
    · exact h.new j _ hj hg htk hkd
    · exact h.new j g hj hg htk hkd
  acks := fun x c hc hi h => ⟨h.shut, h.m, h.t, fun j y hj hy htk hkd => by
    have hy : (upN x.L 1 (toldN c (x.s.acks c).length (x.L 1)) 0)[j]? = some y := hy
    rw [upN_ne _ _ _ _ (by omega)] at hy
    exact h.new j y hj hy htk hkd⟩
  claim := fun x N c i hi ho hc h2 _ hm h => by
    unfold mayClaim at hm
    rw [h.shut] at hm
    cases hm
  tick := fun x hi h => ⟨h.shut, h.m, h.t, h.new⟩
  watch := fun x hi h => by
    have : (watchG x).s.shut = true := by
      unfold watchG watchS
      by_cases q : x.s.ticked = false
      · rw [if_pos q]; exact h.shut
      · rw [if_neg q]
        show (x.s.shut || decide (x.s.ch ≤ (if x.s.stepped = true then 0 else x.s.misses + 1))) = true
        rw [h.shut]; rfl
    obtain ⟨a, b, c, d, e⟩ := watch_frame x.s
    exact ⟨this, by show (watchS x.s).2.m 0 = _; rw [e]; exact h.m, by show _ ≤ (watchS x.s).2.t 0; rw [e]; exact h.t, h.new⟩

end Go.Proofs.Ytjhifhoniimfgaa

/-
  A game: its steps, and what its blocks say.
-/
namespace Go.Proofs.Ytjhifhoniimfgaa
open Go.RowKit

section
variable {w0 : World} {xb : Nat} {x : Gm} {N : Nat} {w : World}

theorem Play.tick (h : Play w0 xb x N w) (hN : N < 280000000000000) :
    Calls Try.prog 22 #[.pointer (some ⟨xb, 0, none⟩)] w fun e w' => e = .returned (.tuple #[]) ∧ Play w0 xb (tickG x) (N + 1) w' := by
  obtain ⟨own, q1, q2⟩ := h.at_
  refine (g_tick q1 (by omega)).mono ?_
  rintro e w' ⟨rfl, hg⟩
  exact ⟨rfl, Play.go h.keep q2 hg⟩

theorem Play.core (h : Play w0 xb x N w) (hN : N < 280000000000000) :
    Calls Try.prog 21 #[.pointer (some ⟨xb, 0, none⟩)] w fun e w' => e = .returned (.int .i64 (coreS x.s).1) ∧ Play w0 xb (coreG x) (N + 16) w' := by
  obtain ⟨own, q1, q2⟩ := h.at_
  refine (g_core q1 (by omega) (by omega)).mono ?_
  rintro e w' ⟨rfl, hg⟩
  exact ⟨rfl, Play.go h.keep q2 hg⟩

theorem Play.watch (h : Play w0 xb x N w) (hN : N < 280000000000000) :
    Calls Try.prog 23 #[.pointer (some ⟨xb, 0, none⟩)] w fun e w' => e = .returned (.tuple #[]) ∧ Play w0 xb (watchG x) (N + 1) w' := by
  obtain ⟨own, q1, q2⟩ := h.at_
  refine (g_watch q1 (by omega)).mono ?_
  rintro e w' ⟨rfl, hg⟩
  exact ⟨rfl, Play.go h.keep q2 hg⟩

theorem Play.alloc (h : Play w0 xb x N w) (O : Obj) : Play w0 xb x N (w.alloc O) := by
  obtain ⟨own, q1, q2⟩ := h.at_
  exact ⟨⟨own, q1.keep (S := fun _ => True) ((Keep.refl _ w).alloc _) (fun _ _ _ _ => trivial) (Same.refl _ _), q2⟩, h.keep.trans' ((Keep.refl (fun _ => True) w).alloc O) (fun _ _ _ => trivial)⟩

/-- A step of the core, with a box beside the game. -/
theorem Play.coreB (h : Play w0 xb x N w) (hN : N < 280000000000000) (O : Obj) :
    Calls Try.prog 21 #[.pointer (some ⟨xb, 0, none⟩)] (w.alloc O) fun e w' => e = .returned (.int .i64 (coreS x.s).1) ∧ Play w0 xb (coreG x) (N + 16) w' ∧ w'.heap[w.heap.size]? = some O := by
  obtain ⟨own, q1, q2⟩ := h.at_
  obtain ⟨b1, b2, b3, _⟩ := q1.box (by omega) O
  refine (g_core b1 (by omega) (by omega)).mono ?_
  rintro e w' ⟨rfl, hg⟩
  refine ⟨rfl, Play.go (h.alloc O).keep (fun b hb => b3 b (Nat.lt_of_lt_of_le hb h.keep.size) (q2 b hb)) hg, hg.mem (heap_alloc_new w O) b2⟩

theorem Play.c14 (h : Play w0 xb x N w) : w.cell? ⟨xb, 14, none⟩ = some (.bool x.s.shut) := by
  obtain ⟨own, ⟨B, X, st0, st1, hm, rfl⟩, _⟩ := h.at_
  exact hm.at_.c14
theorem Play.c5 (h : Play w0 xb x N w) : w.cell? ⟨xb, 5, none⟩ = some (.int .i64 x.s.ch) := by
  obtain ⟨own, ⟨B, X, st0, st1, hm, rfl⟩, _⟩ := h.at_
  exact hm.at_.c5
theorem Play.c9 (h : Play w0 xb x N w) : w.cell? ⟨xb, 9, none⟩ = some (.int .i64 (x.s.t 0)) := by
  obtain ⟨own, ⟨B, X, st0, st1, hm, rfl⟩, _⟩ := h.at_
  exact hm.at_.c9
theorem Play.c10 (h : Play w0 xb x N w) : w.cell? ⟨xb, 10, none⟩ = some (.int .i64 (x.s.t 1)) := by
  obtain ⟨own, ⟨B, X, st0, st1, hm, rfl⟩, _⟩ := h.at_
  exact hm.at_.c10
theorem Play.c3 (h : Play w0 xb x N w) : w.cell? ⟨xb, 3, none⟩ = some (.int .i64 (x.s.n 1)) := by
  obtain ⟨own, ⟨B, X, st0, st1, hm, rfl⟩, _⟩ := h.at_
  exact hm.at_.c3

/-- The row of the common lane, and its places. -/
theorem Play.row0 (h : Play w0 xb x N w) : ∃ a cap, w.cell? ⟨xb, 7, none⟩ = some (.slice a (x.L 0).length cap) ∧ (x.L 0).length ≤ N ∧ ∀ k, k < (x.L 0).length → ∃ rb pb g, a = some ⟨rb, 0, none⟩ ∧ w.cell? ⟨rb, k, none⟩ = some (.pointer (some ⟨pb, 0, none⟩)) ∧ (x.L 0)[k]? = some g ∧ w.heap[pb]? = some (.cells (sCells g) 43 (0, 0)) := by
  obtain ⟨own, ⟨B, X, st0, st1, hm, rfl⟩, _⟩ := h.at_
  obtain ⟨a, cap, hlv⟩ := hm.at_.laneV 0 (by omega)
  have cL := hm.at_.c7
  rw [hlv] at cL
  refine ⟨a, cap, cL, by rw [hm.inv.len 0 (by omega)]; exact (hm.ok.mt 0 (by omega)).2.2, fun k hk => ?_⟩
  obtain ⟨rb, cap', e1, e2, _, _⟩ := hm.at_.rowcell 0 (by omega) (by omega)
  rw [hlv] at e1
  simp only [Value.slice.injEq] at e1
  obtain ⟨g, g1, g2⟩ := hm.at_.get 0 k (by omega) hk
  exact ⟨rb, X.pb 0 k, g, e1.1, e2 k hk, g1, g2⟩

end

end Go.Proofs.Ytjhifhoniimfgaa

/-
  The law Latched, walked.
-/
namespace Go.Proofs.Ytjhifhoniimfgaa
open Go.RowKit

set_option maxRecDepth 100000 in
set_option maxHeartbeats 2000000 in
theorem latched_walk (raw : Int) (hraw : i64B raw) (a : Option Addr) (len cap : Nat) (ms : Nat → Int × Int × Int) (a2 : Option Addr) (len2 cap2 : Nat) (ms2 : Nat → Int × Int × Int) (w : World) (hm : MovesAt w a len ms) (hl : len ≤ 5864062014634) (hm2 : MovesAt w a2 len2 ms2) (hl2 : len2 ≤ 5864062014634) :
    Calls Try.prog 6 #[.int .i64 raw, .slice a len cap, .slice a2 len2 cap2] w fun e w' => e = .returned (.bool true) ∧ Below w.heap.size w w' := by
  have bg := play_begun raw hraw w
  have HM := hideE hm
  have HM2 := hideE hm2
  have HL2 := hideE hl2
  clear hm hraw hm2 hl2
  go_enter Try.func6, Try.ntmps6
  go_wp2_with fail
  refine bg.mono ?_
  rintro e w1 ⟨xb, rfl, hp⟩
  have HP := hideE hp
  clear bg hp
  go_wp2
  go_loopg [8] len (fun gn iv wr => ∃ (k : Nat) (x : Gm), iv = .int .i64 k ∧ k ≤ len ∧ gn = len - k ∧ Play w xb x (4 + 18 * k) wr ∧ x.s.shut = false)
  case atStart => exact ⟨0, _, rfl, Nat.zero_le _, rfl, HP.out, (bg_poll _).2.2.2.2.2.2.1⟩
  case round =>
    obtain ⟨k, x, rfl, hk, hgn, hp, hs⟩ := hrel
    by_cases hkl : k < len
    · have k1 : (k : Int) < (len : Int) := by omega
      have k2 : (k : Int) ≤ 5864062014634 := by omega
      obtain ⟨b, off, rfl, e1, e2, e3, r1, r2, r3⟩ := (HM.out.keep hp.keep (fun _ _ => trivial)).get k hkl
      have pk := fun W => pick_any (ms k).1 16 W (by omega) (by omega) r1.1 r1.2
      have h16 : pickN (ms k).1 16 < 16 := pickN_lt _ _ (by omega)
      have HK := hideE (show k < len ∧ gk = len - k ∧ i64B (ms k).1 ∧ i64B (ms k).2.1 ∧ i64B (ms k).2.2 from ⟨hkl, hgn, r1, r2, r3⟩)
      have HPP := hideE hp
      have HS := hideE hs
      by_cases h14 : pickN (ms k).1 16 = 14
      · have pk2 : ∀ W, Calls Try.prog 18 #[.int .i64 (ms k).1, .int .i64 16] W fun e w' => e = .returned (.int .i64 14) ∧ W = w' := fun W => by have := pk W; rw [h14] at this; exact this
        have H14 := hideE h14
        clear hp hs hk hkl hgn r1 r2 r3 pk h16 h14
        go_wp2_with fail
        refine (pk2 _).mono ?_
        rintro e wz ⟨rfl, rfl⟩
        clear pk2
        go_wp2_with fail
        refine (HPP.out.coreB (by have := HK.out; omega) (.cells #[.int .i64 (ms k).1, .int .i64 (ms k).2.1, .int .i64 (ms k).2.2] 27)).mono ?_
        rintro e w2 ⟨rfl, hq, hbx⟩
        have y0 : w2.cell? ⟨wr.heap.size, 0, none⟩ = some (.int .i64 (ms k).1) := cellAt (i := 0) hbx rfl
        have y1 : w2.cell? ⟨wr.heap.size, 1, none⟩ = some (.int .i64 (ms k).2.1) := cellAt (i := 1) hbx rfl
        have y2 : w2.cell? ⟨wr.heap.size, 2, none⟩ = some (.int .i64 (ms k).2.2) := cellAt (i := 2) hbx rfl
        have mv := hq.movesW (by have := HK.out; omega) (ms k) HK.out.2.2.1 HK.out.2.2.2.1 HK.out.2.2.2.2 H14.out
        have HO := hideE (show (movesG (coreG x) (ms k).1 (ms k).2.1 (ms k).2.2).s.shut = false from moves_open hq.inv.1 hq.inv.2 (by rw [(core_lim x HPP.out.inv.1 HPP.out.inv.2).2.2.2.2.2]; exact HS.out) _ _ _ (fun _ => core_stepped HPP.out.inv.1 HPP.out.inv.2))
        clear hq hbx
        go_wp2_with fail
        refine mv.mono ?_
        rintro e w3 ⟨rfl, hq⟩
        have c14 := hq.c14
        rw [HO.out] at c14
        have c15 := hq.c15
        have HQ := hideE hq
        clear mv hq y0 y1 y2
        go_wp2
        go_roundg (len - (k + 1))
        case measure => have := HK.out; omega
        case rel => exact ⟨k + 1, _, rfl, HK.out.1, rfl, HQ.out.more (by omega), HO.out⟩
      · have hne : ((pickN (ms k).1 16 : Int) == 14) = false := beq_eq_false_iff_ne.2 (by omega)
        have mv := (hp.alloc (.cells #[.int .i64 (ms k).1, .int .i64 (ms k).2.1, .int .i64 (ms k).2.2] 27)).moves (by omega) (ms k) r1 r2 r3
        have HO := hideE (show (movesG x (ms k).1 (ms k).2.1 (ms k).2.2).s.shut = false from moves_open hp.inv.1 hp.inv.2 hs _ _ _ (fun e => absurd e h14))
        clear hp hs hk hkl hgn r1 r2 r3 h16 h14
        go_wp2_with fail
        refine (pk _).mono ?_
        rintro e wz ⟨rfl, rfl⟩
        clear pk
        go_wp2_with fail
        refine mv.mono ?_
        rintro e w3 ⟨rfl, hq⟩
        have c14 := hq.c14
        rw [HO.out] at c14
        have c15 := hq.c15
        have HQ := hideE hq
        clear mv hq
        go_wp2
        go_roundg (len - (k + 1))
        case measure => have := HK.out; omega
        case rel => exact ⟨k + 1, _, rfl, HK.out.1, rfl, HQ.out.more (by omega), HO.out⟩
    · have ek : k = len := by omega
      subst ek
      have ti := hp.tick (by omega)
      have HST := hideE (still_start hp.inv.1 hp.inv.2 hs)
      clear hp hk hkl hgn hs
      go_wp2_with fail
      refine ti.mono ?_
      rintro e w2 ⟨rfl, hq⟩
      have co := hq.core (by omega)
      clear ti hq
      go_wp2_with fail
      refine co.mono ?_
      rintro e w3 ⟨rfl, hq⟩
      have wa := hq.watch (by omega)
      clear co hq
      go_wp2_with fail
      refine wa.mono ?_
      rintro e w4 ⟨rfl, hq⟩
      have HQ := hideE hq
      clear wa hq
      obtain ⟨ch, hch⟩ : ∃ ch, ch = (watchG (coreG (tickG x))).s.ch := ⟨_, rfl⟩
      have HCH := hideE hch
      have hc100 : ch ≤ 100 := by rw [hch]; exact HQ.out.inv.2.ch.2
      clear hch
      go_wp2
      go_loopg [10] ch (fun gn iv wr => ∃ (i : Nat) (x1 : Gm), iv = .int .i64 i ∧ i ≤ ch ∧ gn = ch - i ∧ Play w xb x1 (4 + 18 * k + 18 + 3 * i) wr ∧ Still x1.s i ∧ x1.s.ch = ch)
      case atStart => exact ⟨0, _, rfl, Nat.zero_le _, rfl, HQ.out.more (by omega), HST.out, HCH.out.symm⟩
      case round =>
        obtain ⟨i, x1, rfl, hi, hgn, hp, hst, hch⟩ := hrel
        have c5 := hp.c5
        rw [hch] at c5
        have c14 := hp.c14
        by_cases hic : i < ch
        · have i1 : (i : Int) < (ch : Int) := by omega
          have i2 : (i : Int) ≤ 100 := by omega
          have hsf : x1.s.shut = false := by rw [hst.shut, hch]; exact decide_eq_false (by omega)
          rw [hsf] at c14
          obtain ⟨n1, n2⟩ := still_next hst
          have ti := hp.tick (by omega)
          have HI := hideE (show i < ch ∧ gk = ch - i ∧ Still (watchG (tickG x1)).s (i + 1) ∧ watchG (watchG (tickG x1)) = watchG (tickG x1) ∧ (watchG (tickG x1)).s.ch = ch ∧ ch ≤ 100 from ⟨hic, hgn, n1, n2, by
            obtain ⟨q1, q2, q3, q4, e⟩ := watch_frame (tickG x1).s
            show (watchS (tickG x1).s).2.ch = ch
            rw [e]; exact hch, hc100⟩)
          clear hp hi hgn hst hch hic hsf n1 n2
          go_wp2_with fail
          refine ti.mono ?_
          rintro e w5 ⟨rfl, hq⟩
          have wa := hq.watch (by have := HI.out; omega)
          clear ti hq c5 c14
          go_wp2_with fail
          refine wa.mono ?_
          rintro e w6 ⟨rfl, hq⟩
          have c14 := hq.c14
          have wb := hq.watch (by have := HI.out; omega)
          rw [HI.out.2.2.2.1] at wb
          clear wa hq
          go_wp2_with fail
          refine wb.mono ?_
          rintro e w7 ⟨rfl, hq⟩
          have d14 := hq.c14
          have HQ2 := hideE hq
          clear wb hq c14
          generalize (watchG (tickG x1)).s.shut = sh at d14
          go_wp2
          go_roundg (ch - (i + 1))
          case measure => have := HI.out; omega
          case rel => exact ⟨i + 1, _, rfl, HI.out.1, rfl, HQ2.out.more (by omega), HI.out.2.2.1, HI.out.2.2.2.2.1⟩
        · have ei : i = ch := by omega
          subst ei
          have hsf : x1.s.shut = true := by rw [hst.shut, hch]; exact decide_eq_true (Nat.le_refl _)
          rw [hsf] at c14
          have c9 := hp.c9
          obtain ⟨ra, rc, c7, hlen, _⟩ := hp.row0
          have hJ0 : Shut4 (x1.s.m 0) (x1.s.t 0) x1 := ⟨hsf, rfl, Nat.le_refl _, fun k g hk hg htk _ => by
            rw [(hp.inv.1.pl 0 k g (by omega) hg).taken] at htk
            have := of_decide_eq_true htk
            omega⟩
          have hlm := hp.inv.1.len 0 (by omega)
          have pl := hp.play _ (shut_keeps (x1.s.m 0) (x1.s.t 0)) hJ0 a2 len2 cap2 ms2 HM2.out HL2.out (by omega)
          obtain ⟨many, hmany⟩ : ∃ many, many = x1.s.m 0 := ⟨_, rfl⟩
          obtain ⟨first, hfirst⟩ : ∃ first, first = x1.s.t 0 := ⟨_, rfl⟩
          have hft : first ≤ many := by rw [hfirst, hmany]; exact (hp.inv.2.mt 0 (by omega)).1
          have hmb : many ≤ 281000000000000 := by rw [hmany, ← hlm]; omega
          rw [hlm, ← hmany] at c7
          rw [← hfirst] at c9
          rw [← hmany, ← hfirst] at pl
          have HN4 := hideE (show 4 + 18 * k + 18 + 3 * i + 18 * len2 < 280000000000000 from by have := HL2.out; omega)
          clear hp hi hgn hst hch hic hsf hJ0 hlm hmany hfirst hlen
          go_wp2_with fail
          refine pl.mono ?_
          rintro e w5 ⟨rfl, x2, hq, hj⟩
          have fn := hq.finish _ (shut_keeps many first).toKeeps hj HN4.out
          clear pl hq hj c5 c14 c9 c7
          go_wp2_with fail
          refine fn.mono ?_
          rintro e w6 ⟨rfl, x3, hq, hj, hat⟩
          have d14 := hq.c14
          rw [hj.shut] at d14
          obtain ⟨sa, sc, d7, hl3, hrow⟩ := hq.row0
          have hl4 : (x3.L 0).length = many := by rw [hq.inv.1.len 0 (by omega)]; exact hj.m
          rw [hl4] at d7 hrow
          have HR : Hid (∀ k, k < many → ∃ rb pb, sa = some ⟨rb, 0, none⟩ ∧ w6.cell? ⟨rb, k, none⟩ = some (.pointer (some ⟨pb, 0, none⟩)) ∧ ∃ kd cd, w6.cell? ⟨pb, 2, none⟩ = some (.int .i64 kd) ∧ w6.cell? ⟨pb, 14, none⟩ = some (.int .i64 cd) ∧ (first ≤ k → kd = 1 → cd = 9)) := fun k hk => by
            obtain ⟨rb, pb, g, e1, e2, e3, e4⟩ := hrow k hk
            refine ⟨rb, pb, e1, e2, g.kind, g.code, sc2 e4, sc14 e4, fun hf hkd => ?_⟩
            have hp := hq.inv.1.pl 0 k g (by omega) e3
            have htd := hat 0 k g (by omega) e3
            obtain ⟨q1, q2⟩ := hp.told htd
            rw [q2]
            exact hj.new k g hf e3 q1 hkd
          have HB := hideE hq.below
          clear fn hq hj hat hrow hl3 hl4
          go_wp2
          generalize hWW : w6 = WW at *
          clear hWW
          go_loopg [15] (many - first) (fun gn iv wr => ∃ j : Nat, iv = .int .i64 j ∧ first ≤ j ∧ j ≤ many ∧ gn = many - j ∧ WW = wr)
          case atStart => exact ⟨first, rfl, Nat.le_refl _, hft, rfl, rfl⟩
          case round =>
            obtain ⟨j, rfl, hj1, hj2, hgn, rfl⟩ := hrel
            by_cases hjm : j < many
            · obtain ⟨rb, pb, rfl, e1, kd, cd, e2, e3, e4⟩ := HR.out j hjm
              have j1 : (j : Int) < (many : Int) := by omega
              have HJ := hideE (show first ≤ j ∧ j < many ∧ gk = many - j from ⟨hj1, hjm, hgn⟩)
              by_cases hkd : kd = 1
              · have hcd := e4 hj1 hkd
                subst hkd hcd
                clear hj1 hj2 hgn hjm e4
                go_wp2
                go_roundg (many - (j + 1))
                case measure => have := HJ.out; omega
                case rel => exact ⟨j + 1, rfl, by have := HJ.out; omega, HJ.out.2.1, rfl, rfl⟩
              · have hk' : (kd == 1) = false := beq_eq_false_iff_ne.2 hkd
                clear hj1 hj2 hgn hjm e4 hkd
                go_wp2
                go_roundg (many - (j + 1))
                case measure => have := HJ.out; omega
                case rel => exact ⟨j + 1, rfl, by have := HJ.out; omega, HJ.out.2.1, rfl, rfl⟩
            · have ej : j = many := by omega
              subst ej
              clear hj1 hj2 hgn hjm
              go_wp2
              go_ret
              exact ⟨rfl, HB.out⟩

end Go.Proofs.Ytjhifhoniimfgaa

