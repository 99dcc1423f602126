/-
  The leaf functions of sluice and of the document's answer: what each call does to the world.
-/
import Derived.Test.YtncljickkoihhaaProg
import Derived.Test.YtncljickkoihhaaMem
namespace Go.Proofs.Ytncljickkoihhaa
open Go.RowKit

set_option maxHeartbeats 400000 in
theorem within_any (n lo hi : Int) (w : World) :
    Calls Try.prog 36 #[.int .i64 n, .int .i64 lo, .int .i64 hi] w fun e w' => e = .returned (.bool (decide (lo ≤ n ∧ n ≤ hi))) ∧ w = w' := by
  by_cases h1 : lo ≤ n <;> by_cases h2 : n ≤ hi
  all_goals
    go_enter Try.func36, Try.ntmps36
    go_wp2
    go_ret
    exact ⟨by simp [h1, h2], rfl⟩

set_option maxHeartbeats 400000 in
theorem limit_any (n : Int) (w : World) :
    Calls Try.prog 41 #[.int .i64 n] w fun e w' => e = .returned (.bool (decide (0 ≤ n ∧ n ≤ 4611686018427387904))) ∧ w = w' := by
  by_cases h1 : 0 ≤ n <;> by_cases h2 : n ≤ 4611686018427387904
  all_goals
    go_enter Try.func41, Try.ntmps41
    go_wp2
    go_ret
    exact ⟨by simp [h1, h2], rfl⟩

/-- A power of two from 2 to 16. -/
def powB (n : Int) : Bool := n == 2 || n == 4 || n == 8 || n == 16

theorem powB_cases {n : Int} (h : powB n = true) : n = 2 ∨ n = 4 ∨ n = 8 ∨ n = 16 := by
  simp [powB] at h; omega

theorem powB_no {n : Int} (h : powB n = false) : n ≠ 2 ∧ n ≠ 4 ∧ n ≠ 8 ∧ n ≠ 16 := by
  simp [powB] at h; omega

set_option maxHeartbeats 400000 in
theorem isRing_any (n : Int) (w : World) :
    Calls Try.prog 37 #[.int .i64 n] w fun e w' => e = .returned (.bool (powB n)) ∧ w = w' := by
  by_cases h : 2 ≤ n ∧ n ≤ 16
  · have hd : n = 2 ∨ n = 3 ∨ n = 4 ∨ n = 5 ∨ n = 6 ∨ n = 7 ∨ n = 8 ∨ n = 9 ∨ n = 10 ∨ n = 11 ∨ n = 12 ∨ n = 13 ∨ n = 14 ∨ n = 15 ∨ n = 16 := by omega
    clear h
    rcases hd with rfl | rfl | rfl | rfl | rfl | rfl | rfl | rfl | rfl | rfl | rfl | rfl | rfl | rfl | rfl
    all_goals
      go_enter Try.func37, Try.ntmps37
      go_wp2
      go_ret
      exact ⟨by first | rfl | simp [powB] | (congr 1), rfl⟩
  · have hp : powB n = false := by simp [powB]; omega
    have hd : decide (2 ≤ n ∧ n ≤ 16) = false := by simpa using h
    go_enter Try.func37, Try.ntmps37
    go_wp2_with (go_at_call 36; refine (within_any _ _ _ _).mono ?_; rintro e w' ⟨rfl, rfl⟩; rw [hd])
    go_ret
    exact ⟨by simp [hp], rfl⟩

set_option maxHeartbeats 400000 in
theorem power_any (n : Int) (w : World) :
    Calls Try.prog 40 #[.int .i64 n] w fun e w' => e = .returned (.bool (powB n)) ∧ w = w' := by
  cases hp : powB n
  · have h := powB_no hp
    have h2 : (n == 2) = false := by simp; omega
    have h4 : (n == 4) = false := by simp; omega
    have h8 : (n == 8) = false := by simp; omega
    have h16 : (n == 16) = false := by simp; omega
    clear h hp
    go_enter Try.func40, Try.ntmps40
    go_wp2
    go_loop [3] (fun k => k = .int .i64 2 ∨ k = .int .i64 4 ∨ k = .int .i64 8 ∨ k = .int .i64 16 ∨ k = .int .i64 32) (fun k => 64 - (intOf k).toNat)
    case atStart => exact .inl rfl
    case round =>
      rcases hrel with rfl | rfl | rfl | rfl | rfl
      · go_wp2
        go_round
        case rel => exact .inr (.inl rfl)
        case measure => simp [intOf]
      · go_wp2
        go_round
        case rel => exact .inr (.inr (.inl rfl))
        case measure => simp [intOf]
      · go_wp2
        go_round
        case rel => exact .inr (.inr (.inr (.inl rfl)))
        case measure => simp [intOf]
      · go_wp2
        go_round
        case rel => exact .inr (.inr (.inr (.inr rfl)))
        case measure => simp [intOf]
      · go_wp2
        go_ret
        exact ⟨rfl, rfl⟩
  · have h := powB_cases hp
    clear hp
    have hs : ∀ m : Int, m = 2 ∨ m = 4 ∨ m = 8 ∨ m = 16 → m < n → 2 * m = 4 ∨ 2 * m = 8 ∨ 2 * m = 16 := by omega
    go_enter Try.func40, Try.ntmps40
    go_wp2
    go_loop [3] (fun k => ∃ m : Int, k = .int .i64 m ∧ (m = 2 ∨ m = 4 ∨ m = 8 ∨ m = 16) ∧ m ≤ n) (fun k => 64 - (intOf k).toNat)
    case atStart => exact ⟨2, rfl, .inl rfl, by omega⟩
    case round =>
      obtain ⟨m, rfl, hm, hle⟩ := hrel
      have h16 : m ≤ 16 := by omega
      have h2 : 2 ≤ m := by omega
      by_cases he : m = n
      · subst he
        have hb : (m == m) = true := by simp
        clear hs hle h hm
        go_wp2
        go_ret
        exact ⟨rfl, rfl⟩
      · have hb : (n == m) = false := by simp; omega
        have hx := hs m hm (by omega)
        have hlt : 2 * m ≤ n := by omega
        have HX : Hid (2 * m = 4 ∨ 2 * m = 8 ∨ 2 * m = 16) := hx
        clear hs hx h hm he
        go_wp2
        go_round
        case rel => exact ⟨2 * m, rfl, .inr HX.out, hlt⟩
        case measure => simp [intOf]; omega

end Go.Proofs.Ytncljickkoihhaa
