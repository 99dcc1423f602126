import Derived.Test.YtjhifhoniimfgaaG10
/-
  The settings: which settings may be, by the program and by the document's answer.
-/
namespace Go.Proofs.Ytjhifhoniimfgaa
open Go.RowKit

def limB (n : Int) : Bool := decide (0 ≤ n ∧ n ≤ 4611686018427387904)
def winB (n : Int) : Bool := decide (1 ≤ n ∧ n ≤ 1000)
/-- May the limits of an account be so? -/
def limsB (a b c d e g : Int) : Bool := limB a && limB b && limB c && limB d && limB e && winB g

set_option maxHeartbeats 1000000 in
theorem limitsMayBe_any (a b c d e g : Int) (w : World) :
    Calls Try.prog 68 #[.agg #[.int .i64 a, .int .i64 b, .int .i64 c, .int .i64 d, .int .i64 e, .int .i64 g]] w
      fun e' w' => e' = .returned (.bool (limsB a b c d e g)) ∧ Below w.heap.size w w' := by
  have i0 : ∀ w, (Instr.index 151 (.agg #[.int .i64 a, .int .i64 b, .int .i64 c, .int .i64 d, .int .i64 e]) (.int .i64 0)).run Try.prog w = .ok (.int .i64 a) w := fun _ => by kernel_rfl
  have i1 : ∀ w, (Instr.index 151 (.agg #[.int .i64 a, .int .i64 b, .int .i64 c, .int .i64 d, .int .i64 e]) (.int .i64 1)).run Try.prog w = .ok (.int .i64 b) w := fun _ => by kernel_rfl
  have i2 : ∀ w, (Instr.index 151 (.agg #[.int .i64 a, .int .i64 b, .int .i64 c, .int .i64 d, .int .i64 e]) (.int .i64 2)).run Try.prog w = .ok (.int .i64 c) w := fun _ => by kernel_rfl
  have i3 : ∀ w, (Instr.index 151 (.agg #[.int .i64 a, .int .i64 b, .int .i64 c, .int .i64 d, .int .i64 e]) (.int .i64 3)).run Try.prog w = .ok (.int .i64 d) w := fun _ => by kernel_rfl
  have i4 : ∀ w, (Instr.index 151 (.agg #[.int .i64 a, .int .i64 b, .int .i64 c, .int .i64 d, .int .i64 e]) (.int .i64 4)).run Try.prog w = .ok (.int .i64 e) w := fun _ => by kernel_rfl
  go_enter Try.func68, Try.ntmps68
  go_wp2
  go_loop [4, 16] (fun _ i => i = .int .i64 0 ∨ (i = .int .i64 1 ∧ limB a = true) ∨ (i = .int .i64 2 ∧ limB a = true ∧ limB b = true) ∨ (i = .int .i64 3 ∧ limB a = true ∧ limB b = true ∧ limB c = true) ∨ (i = .int .i64 4 ∧ limB a = true ∧ limB b = true ∧ limB c = true ∧ limB d = true) ∨ (i = .int .i64 5 ∧ limB a = true ∧ limB b = true ∧ limB c = true ∧ limB d = true ∧ limB e = true)) (fun _ i => 5 - (intOf i).toNat)
  case atStart => exact .inl rfl
  case round =>
    rcases hrel with rfl | ⟨rfl, ha⟩ | ⟨rfl, ha, hb⟩ | ⟨rfl, ha, hb, hc⟩ | ⟨rfl, ha, hb, hc, hd⟩ | ⟨rfl, ha, hb, hc, hd, he⟩
    · cases h : limB a
      · have h' : decide (0 ≤ a ∧ a ≤ 4611686018427387904) = false := h
        go_wp2_with (go_at_call 60; refine (within_any _ _ _ _).mono ?_; rintro e w' ⟨rfl, rfl⟩; rw [h'])
        go_ret
        exact ⟨by simp [limsB, h], (Below.refl _ _).alloc (Nat.le_refl _) _⟩
      · have h' : decide (0 ≤ a ∧ a ≤ 4611686018427387904) = true := h
        go_wp2_with (go_at_call 60; refine (within_any _ _ _ _).mono ?_; rintro e w' ⟨rfl, rfl⟩; rw [h'])
        go_round
        case rel => exact .inr (.inl ⟨rfl, by first | exact h | trivial⟩)
        case measure => simp [intOf]
    · cases h : limB b
      · have h' : decide (0 ≤ b ∧ b ≤ 4611686018427387904) = false := h
        go_wp2_with (go_at_call 60; refine (within_any _ _ _ _).mono ?_; rintro e w' ⟨rfl, rfl⟩; rw [h'])
        go_ret
        exact ⟨by simp [limsB, h], (Below.refl _ _).alloc (Nat.le_refl _) _⟩
      · have h' : decide (0 ≤ b ∧ b ≤ 4611686018427387904) = true := h
        go_wp2_with (go_at_call 60; refine (within_any _ _ _ _).mono ?_; rintro e w' ⟨rfl, rfl⟩; rw [h'])
        go_round
        case rel => exact .inr (.inr (.inl ⟨rfl, ha, by first | exact h | trivial⟩))
        case measure => simp [intOf]
    · cases h : limB c
      · have h' : decide (0 ≤ c ∧ c ≤ 4611686018427387904) = false := h
        go_wp2_with (go_at_call 60; refine (within_any _ _ _ _).mono ?_; rintro e w' ⟨rfl, rfl⟩; rw [h'])
        go_ret
        exact ⟨by simp [limsB, h], (Below.refl _ _).alloc (Nat.le_refl _) _⟩
      · have h' : decide (0 ≤ c ∧ c ≤ 4611686018427387904) = true := h
        go_wp2_with (go_at_call 60; refine (within_any _ _ _ _).mono ?_; rintro e w' ⟨rfl, rfl⟩; rw [h'])
        go_round
        case rel => exact .inr (.inr (.inr (.inl ⟨rfl, ha, hb, by first | exact h | trivial⟩)))
        case measure => simp [intOf]
    · cases h : limB d
      · have h' : decide (0 ≤ d ∧ d ≤ 4611686018427387904) = false := h
        go_wp2_with (go_at_call 60; refine (within_any _ _ _ _).mono ?_; rintro e w' ⟨rfl, rfl⟩; rw [h'])
        go_ret
        exact ⟨by simp [limsB, h], (Below.refl _ _).alloc (Nat.le_refl _) _⟩
      · have h' : decide (0 ≤ d ∧ d ≤ 4611686018427387904) = true := h
        go_wp2_with (go_at_call 60; refine (within_any _ _ _ _).mono ?_; rintro e w' ⟨rfl, rfl⟩; rw [h'])
        go_round
        case rel => exact .inr (.inr (.inr (.inr (.inl ⟨rfl, ha, hb, hc, by first | exact h | trivial⟩))))
        case measure => simp [intOf]
    · cases h : limB e
      · have h' : decide (0 ≤ e ∧ e ≤ 4611686018427387904) = false := h
        go_wp2_with (go_at_call 60; refine (within_any _ _ _ _).mono ?_; rintro e w' ⟨rfl, rfl⟩; rw [h'])
        go_ret
        exact ⟨by simp [limsB, h], (Below.refl _ _).alloc (Nat.le_refl _) _⟩
      · have h' : decide (0 ≤ e ∧ e ≤ 4611686018427387904) = true := h
        go_wp2_with (go_at_call 60; refine (within_any _ _ _ _).mono ?_; rintro e w' ⟨rfl, rfl⟩; rw [h'])
        go_round
        case rel => exact .inr (.inr (.inr (.inr (.inr ⟨rfl, ha, hb, hc, hd, by first | exact h | trivial⟩))))
        case measure => simp [intOf]
    · go_wp2_with (go_at_call 60; refine (within_any _ _ _ _).mono ?_; rintro e w' ⟨rfl, rfl⟩)
      go_ret
      exact ⟨by simp [limsB, winB, ha, hb, hc, hd, he], (Below.refl _ _).alloc (Nat.le_refl _) _⟩

/-- The slice at a, of n accounts, reads so in w: field j of account k is lim k j. -/
def AccAt (w : World) (a : Option Addr) (n : Nat) (lim : Nat → Nat → Int) : Prop :=
  n = 0 ∨ ∃ b off, a = some ⟨b, off, none⟩ ∧ ∀ k j, k < n → j < 6 → w.cell? ⟨b, off + k * 6 + j, none⟩ = some (.int .i64 (lim k j))

theorem AccAt.keep {S : Nat → Prop} {w w' : World} {a : Option Addr} {n : Nat} {lim : Nat → Nat → Int} (h : AccAt w a n lim) (hk : Keep S w w') (hs : ∀ x, a = some x → S x.block) : AccAt w' a n lim := by
  rcases h with h | ⟨b, off, rfl, h⟩
  · exact .inl h
  · refine .inr ⟨b, off, rfl, fun k j h1 h2 => ?_⟩
    have h3 := h k j h1 h2
    rw [World.cell?_of_block (w := w) (hk.block b (World.block_lt_of_cell? w _ h3) (hs _ rfl))]
    exact h3

theorem AccAt.below {w w' : World} {a : Option Addr} {n : Nat} {lim : Nat → Nat → Int} (h : AccAt w a n lim) (hk : Below w.heap.size w w') : AccAt w' a n lim :=
  h.keep (Keep.ofBelow (S := fun _ => True) hk) fun _ _ => trivial

theorem AccAt.six {w : World} {b off : Nat} {n : Nat} {lim : Nat → Nat → Int} (h : AccAt w (some ⟨b, off, none⟩) n lim) (k : Nat) (hk : k < n) :
    w.cell? ⟨b, off + k * 6, none⟩ = some (.int .i64 (lim k 0)) ∧ w.cell? ⟨b, off + k * 6 + 1, none⟩ = some (.int .i64 (lim k 1)) ∧ w.cell? ⟨b, off + k * 6 + 2, none⟩ = some (.int .i64 (lim k 2)) ∧ w.cell? ⟨b, off + k * 6 + 3, none⟩ = some (.int .i64 (lim k 3)) ∧ w.cell? ⟨b, off + k * 6 + 4, none⟩ = some (.int .i64 (lim k 4)) ∧ w.cell? ⟨b, off + k * 6 + 5, none⟩ = some (.int .i64 (lim k 5)) := by
  rcases h with h | ⟨b', off', e, h⟩
  · omega
  · simp only [Option.some.injEq, Addr.mk.injEq, and_true] at e
    obtain ⟨rfl, rfl⟩ := e
    exact ⟨h k 0 hk (by omega), h k 1 hk (by omega), h k 2 hk (by omega), h k 3 hk (by omega), h k 4 hk (by omega), h k 5 hk (by omega)⟩

theorem AccAt.some_of {w : World} {a : Option Addr} {n : Nat} {lim : Nat → Nat → Int} (h : AccAt w a n lim) (hn : 0 < n) : ∃ b off, a = some ⟨b, off, none⟩ := by
  rcases h with h | ⟨b, off, e, _⟩
  · omega
  · exact ⟨b, off, e⟩

def limOk (lim : Nat → Nat → Int) (k : Nat) : Bool := limsB (lim k 0) (lim k 1) (lim k 2) (lim k 3) (lim k 4) (lim k 5)

def allOk (lim : Nat → Nat → Int) (n : Nat) : Bool := (List.range n).all (limOk lim)

theorem allOk_iff {lim : Nat → Nat → Int} {n : Nat} : allOk lim n = true ↔ ∀ k, k < n → limOk lim k = true := by
  simp [allOk]

def accB (n : Nat) (lim : Nat → Nat → Int) : Bool := decide (1 ≤ (n : Int) ∧ (n : Int) ≤ 4) && allOk lim n

theorem accB_no {n k : Nat} {lim : Nat → Nat → Int} (hk : k < n) (h : limOk lim k = false) : accB n lim = false := by
  simp only [accB, Bool.and_eq_false_iff]
  right
  cases e : allOk lim n
  · rfl
  · rw [allOk_iff.1 e k hk] at h; cases h

set_option maxHeartbeats 1000000 in
theorem accountsMayBe_any (a : Option Addr) (n c : Nat) (lim : Nat → Nat → Int) (w : World) (ha : AccAt w a n lim) :
    Calls Try.prog 62 #[.slice a n c] w
      fun e' w' => e' = .returned (.bool (accB n lim)) ∧ Below w.heap.size w w' := by
  cases h4 : decide (1 ≤ (n : Int) ∧ (n : Int) ≤ 4)
  · clear ha
    go_enter Try.func62, Try.ntmps62
    go_wp2_with (go_at_call 60; refine (within_any _ _ _ _).mono ?_; rintro e w' ⟨rfl, rfl⟩; rw [h4])
    go_ret
    exact ⟨by simp [accB, h4], Below.refl _ _⟩
  · have h5 : 1 ≤ n ∧ n ≤ 4 := by simp at h4; omega
    obtain ⟨h1, h4'⟩ := h5
    obtain ⟨b, off, rfl⟩ := ha.some_of (by omega)
    go_enter Try.func62, Try.ntmps62
    go_wp2_with (go_at_call 60; refine (within_any _ _ _ _).mono ?_; rintro e w' ⟨rfl, rfl⟩; rw [h4])
    go_loopw [4, 11] (fun _ i wr => ∃ k : Nat, k ≤ n ∧ i = .int .i64 k ∧ (∀ j, j < k → limOk lim j = true) ∧ Below w.heap.size w wr) (fun _ i _ => n - (intOf i).toNat)
    case atStart => exact ⟨0, Nat.zero_le _, rfl, fun _ h => by omega, Below.refl _ _⟩
    case round =>
      obtain ⟨k, hk, rfl, hok, hb⟩ := hrel
      have HO : Hid (∀ j, j < k → limOk lim j = true) := hok
      clear hok
      by_cases hlt : k < n
      · have hlt' : (k : Int) < (n : Int) := by omega
        obtain ⟨c0, c1, c2, c3, c4, c5⟩ := (ha.below hb).six k hlt
        clear ha
        have hsz := hb.size
        cases h : limOk lim k
        · have h' : limsB (lim k 0) (lim k 1) (lim k 2) (lim k 3) (lim k 4) (lim k 5) = false := h
          have HN : Hid (accB n lim = false) := accB_no hlt h
          clear h
          go_wp2_with (go_at_call 68; refine (limitsMayBe_any _ _ _ _ _ _ _).mono ?_; rintro e w' ⟨rfl, hb2⟩; rw [h'])
          go_ret
          exact ⟨by rw [HN.out]; rfl, hb.trans ((((Below.refl _ _).alloc (by omega) _).trans (hb2.mono (by simp; omega))))⟩
        · have h' : limsB (lim k 0) (lim k 1) (lim k 2) (lim k 3) (lim k 4) (lim k 5) = true := h
          have HN : Hid (limOk lim k = true) := h
          clear h
          go_wp2_with (go_at_call 68; refine (limitsMayBe_any _ _ _ _ _ _ _).mono ?_; rintro e w' ⟨rfl, hb2⟩; rw [h'])
          go_roundw
          case rel =>
            refine ⟨k + 1, by omega, by go_num, fun j hj => ?_, hb.trans ((((Below.refl _ _).alloc (by omega) _).trans (hb2.mono (by simp; omega))))⟩
            by_cases e : j = k
            · rw [e]; exact HN.out
            · exact HO.out j (by omega)
          case measure => simp [intOf]; omega
      · have hge : ¬ (k : Int) < (n : Int) := by omega
        have e : k = n := by omega
        have HA : Hid (accB n lim = true) := by
          show accB n lim = true
          simp only [accB, h4, Bool.true_and]
          exact allOk_iff.2 fun j hj => HO.out j (by omega)
        clear e ha
        go_wp2
        go_ret
        exact ⟨by rw [HA.out]; rfl, hb⟩

def inB (lo n hi : Int) : Bool := decide (lo ≤ n ∧ n ≤ hi)

theorem within_B (n lo hi : Int) (w : World) :
    Calls Try.prog 60 #[.int .i64 n, .int .i64 lo, .int .i64 hi] w fun e w' => e = .returned (.bool (inB lo n hi)) ∧ w = w' := within_any n lo hi w

/-- May the settings be so? -/
def mayB (cl co ur an ch : Int) (n : Nat) (lim : Nat → Nat → Int) : Bool :=
  inB 1 cl 8 && powB co && powB ur && powB an && inB 1 ch 100 && accB n lim

set_option maxHeartbeats 1000000 in
theorem mayBe_any (cl co ur an ch : Int) (a : Option Addr) (n c : Nat) (lim : Nat → Nat → Int) (w : World) (ha : AccAt w a n lim) :
    Calls Try.prog 43 #[.agg #[.int .i64 cl, .int .i64 co, .int .i64 ur, .int .i64 an, .int .i64 ch, .slice a n c]] w
      fun e' w' => e' = .returned (.bool (mayB cl co ur an ch n lim)) ∧ Below w.heap.size w w' := by
  have ha2 : AccAt (w.alloc (.cells #[.int .i64 cl, .int .i64 co, .int .i64 ur, .int .i64 an, .int .i64 ch, .slice a n c] 31)) a n lim :=
    ha.below ((Below.refl _ _).alloc (Nat.le_refl _) _)
  have HA : Hid (AccAt (w.alloc (.cells #[.int .i64 cl, .int .i64 co, .int .i64 ur, .int .i64 an, .int .i64 ch, .slice a n c] 31)) a n lim) := ha2
  clear ha ha2
  cases h1 : inB 1 cl 8
  · go_enter Try.func43, Try.ntmps43
    go_wp2_with (first | (go_at_call 60; refine (within_B _ _ _ _).mono ?_; rintro e w' ⟨rfl, rfl⟩; rw [h1]))
    go_ret
    exact ⟨by simp [mayB, h1], (Below.refl _ _).alloc (Nat.le_refl _) _⟩
  cases h2 : powB co
  · go_enter Try.func43, Try.ntmps43
    go_wp2_with (first | (go_at_call 60; refine (within_B _ _ _ _).mono ?_; rintro e w' ⟨rfl, rfl⟩; rw [h1]) | (go_at_call 61; refine (isRing_any _ _).mono ?_; rintro e w' ⟨rfl, rfl⟩; rw [h2]))
    go_ret
    exact ⟨by simp [mayB, h2], (Below.refl _ _).alloc (Nat.le_refl _) _⟩
  cases h3 : powB ur
  · go_enter Try.func43, Try.ntmps43
    go_wp2_with (first | (go_at_call 60; refine (within_B _ _ _ _).mono ?_; rintro e w' ⟨rfl, rfl⟩; rw [h1]) | (go_at_call 61; refine (isRing_any _ _).mono ?_; rintro e w' ⟨rfl, rfl⟩; first | rw [h2] | rw [h3]))
    go_ret
    exact ⟨by simp [mayB, h3], (Below.refl _ _).alloc (Nat.le_refl _) _⟩
  cases h4 : powB an
  · go_enter Try.func43, Try.ntmps43
    go_wp2_with (first | (go_at_call 60; refine (within_B _ _ _ _).mono ?_; rintro e w' ⟨rfl, rfl⟩; rw [h1]) | (go_at_call 61; refine (isRing_any _ _).mono ?_; rintro e w' ⟨rfl, rfl⟩; first | rw [h2] | rw [h3] | rw [h4]))
    go_ret
    exact ⟨by simp [mayB, h4], (Below.refl _ _).alloc (Nat.le_refl _) _⟩
  cases h5 : inB 1 ch 100
  · go_enter Try.func43, Try.ntmps43
    go_wp2_with (first | (go_at_call 60; refine (within_B _ _ _ _).mono ?_; rintro e w' ⟨rfl, rfl⟩; first | rw [h1] | rw [h5]) | (go_at_call 61; refine (isRing_any _ _).mono ?_; rintro e w' ⟨rfl, rfl⟩; first | rw [h2] | rw [h3] | rw [h4]))
    go_ret
    exact ⟨by simp [mayB, h5], (Below.refl _ _).alloc (Nat.le_refl _) _⟩
  cases h6 : accB n lim
  all_goals
    go_enter Try.func43, Try.ntmps43
    go_wp2_with (first | (go_at_call 60; refine (within_B _ _ _ _).mono ?_; rintro e w' ⟨rfl, rfl⟩; first | rw [h1] | rw [h5]) | (go_at_call 61; refine (isRing_any _ _).mono ?_; rintro e w' ⟨rfl, rfl⟩; first | rw [h2] | rw [h3] | rw [h4]) | (go_at_call 62; refine (accountsMayBe_any a n c lim _ HA.out).mono ?_; rintro e w' ⟨rfl, hb⟩; rw [h6]))
    go_ret
    exact ⟨by simp [mayB, h1, h2, h3, h4, h5, h6], ((Below.refl _ _).alloc (Nat.le_refl _) _).trans (hb.mono (by simp))⟩

end Go.Proofs.Ytjhifhoniimfgaa

