/-
  The document's New, where the settings fall ahead of the accounts.
-/
import Derived.Test.YtncljickkoihhaaWRef
namespace Go.Proofs.Ytncljickkoihhaa
open Go.RowKit

theorem limit_B (n : Int) (w : World) :
    Calls Try.prog 41 #[.int .i64 n] w fun e w' => e = .returned (.bool (limB n)) ∧ w = w' := limit_any n w

/-- What of the settings is asked ahead of the accounts. -/
def statOk (cl co ur an ch : Int) (n : Nat) : Prop := powB co = true ∧ powB ur = true ∧ powB an = true ∧ 1 ≤ cl ∧ cl ≤ 8 ∧ 1 ≤ ch ∧ ch ≤ 100 ∧ 1 ≤ n ∧ n ≤ 4

theorem stat_cases (cl co ur an ch : Int) (n : Nat) : statOk cl co ur an ch n ∨
    powB co = false ∨ (powB co = true ∧ powB ur = false) ∨ (powB co = true ∧ powB ur = true ∧ powB an = false) ∨
    (powB co = true ∧ powB ur = true ∧ powB an = true ∧ (cl < 1 ∨ (1 ≤ cl ∧ 8 < cl) ∨ (1 ≤ cl ∧ cl ≤ 8 ∧ ch < 1) ∨ (1 ≤ cl ∧ cl ≤ 8 ∧ 1 ≤ ch ∧ 100 < ch) ∨
      (1 ≤ cl ∧ cl ≤ 8 ∧ 1 ≤ ch ∧ ch ≤ 100 ∧ (n : Int) < 1) ∨ (1 ≤ cl ∧ cl ≤ 8 ∧ 1 ≤ ch ∧ ch ≤ 100 ∧ 1 ≤ (n : Int) ∧ 4 < (n : Int)))) := by
  unfold statOk
  cases powB co <;> cases powB ur <;> cases powB an <;> simp
  omega

set_option maxRecDepth 100000 in
set_option maxHeartbeats 1000000 in
theorem rNew_stat (cl co ur an ch : Int) (a : Option Addr) (n c : Nat) (w : World) (hno : ¬ statOk cl co ur an ch n) :
    Calls Try.prog 22 #[.agg #[.int .i64 cl, .int .i64 co, .int .i64 ur, .int .i64 an, .int .i64 ch, .slice a n c]] w
      fun e w' => e = .returned (.tuple #[.pointer none, .int .i64 2]) ∧ Below w.heap.size w w' := by
  rcases stat_cases cl co ur an ch n with h | h1 | ⟨h1, h2⟩ | ⟨h1, h2, h3⟩ | ⟨h1, h2, h3, h4 | ⟨h4, h5⟩ | ⟨h4, h5, h6⟩ | ⟨h4, h5, h6, h7⟩ | ⟨h4, h5, h6, h7, h8⟩ | ⟨h4, h5, h6, h7, h8, h9⟩⟩
  · exact absurd h hno
  · clear hno
    cases hu : powB ur <;> cases hx : powB an
    all_goals
      go_enter Try.func22, Try.ntmps22
      go_wp2_with (go_at_call 40; refine (power_any _ _).mono ?_; rintro e w' ⟨rfl, rfl⟩; first | rw [h1] | rw [hu] | rw [hx])
      go_ret2
      exact ⟨rfl, (Below.refl _ _).alloc (Nat.le_refl _) _⟩
  · clear hno
    cases hx : powB an
    all_goals
      go_enter Try.func22, Try.ntmps22
      go_wp2_with (go_at_call 40; refine (power_any _ _).mono ?_; rintro e w' ⟨rfl, rfl⟩; first | rw [h1] | rw [h2] | rw [hx])
      go_ret2
      exact ⟨rfl, (Below.refl _ _).alloc (Nat.le_refl _) _⟩
  all_goals
    clear hno
    go_enter Try.func22, Try.ntmps22
    go_wp2_with (go_at_call 40; refine (power_any _ _).mono ?_; rintro e w' ⟨rfl, rfl⟩; first | rw [h1] | rw [h2] | rw [h3])
    go_ret2
    exact ⟨rfl, (Below.refl _ _).alloc (Nat.le_refl _) _⟩

end Go.Proofs.Ytncljickkoihhaa
