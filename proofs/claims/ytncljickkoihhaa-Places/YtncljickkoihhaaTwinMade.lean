/-
  A gate more on both sides, or none.
-/
import Derived.Test.YtncljickkoihhaaTwin
import Derived.Test.YtncljickkoihhaaWMade
namespace Go.Proofs.Ytncljickkoihhaa
open Go.RowKit

theorem mayB_stat {cl co ur an ch : Int} {n : Nat} {lim : Nat → Nat → Int} : mayB cl co ur an ch n lim = true ↔ statOk cl co ur an ch n ∧ allOk lim n = true := by
  unfold mayB statOk accB inB
  cases powB co <;> cases powB ur <;> cases powB an <;> cases allOk lim n <;> simp
  omega

theorem rNew_no (cl co ur an ch : Int) (a : Option Addr) (n c : Nat) (lim : Nat → Nat → Int) (w : World) (ha : AccAt w a n lim) (hm : mayB cl co ur an ch n lim = false) :
    Calls Try.prog 22 #[.agg #[.int .i64 cl, .int .i64 co, .int .i64 ur, .int .i64 an, .int .i64 ch, .slice a n c]] w
      fun e w' => e = .returned (.tuple #[.pointer none, .int .i64 2]) ∧ Below w.heap.size w w' := by
  by_cases hs : statOk cl co ur an ch n
  · have hal : allOk lim n = false := by
      cases h : allOk lim n
      · rfl
      · rw [mayB_stat.2 ⟨hs, h⟩] at hm; cases hm
    obtain ⟨co', rfl⟩ := Int.eq_ofNat_of_zero_le (show 0 ≤ co by have := powB_cases hs.1; omega)
    obtain ⟨ur', rfl⟩ := Int.eq_ofNat_of_zero_le (show 0 ≤ ur by have := powB_cases hs.2.1; omega)
    refine (rNew_rest cl co' ur' an ch a n c lim w ha hs).mono ?_
    rintro e w' (⟨_, he, hb⟩ | ⟨h, _⟩)
    · exact ⟨he, hb⟩
    · rw [hal] at h; cases h
  · exact rNew_stat cl co ur an ch a n c w hs

theorem rNew_yes (cl : Int) (co ur : Nat) (an ch : Int) (a : Option Addr) (n c : Nat) (lim : Nat → Nat → Int) (w : World) (ha : AccAt w a n lim) (hm : mayB cl co ur an ch n lim = true) :
    Calls Try.prog 22 #[.agg #[.int .i64 cl, .int .i64 co, .int .i64 ur, .int .i64 an, .int .i64 ch, .slice a n c]] w
      fun e w' => ∃ rb, e = .returned (.tuple #[.pointer (some ⟨rb, 0, none⟩), .int .i64 0]) ∧ Below w.heap.size w w' ∧
        RGate w' rb cl (fun i => if i = 0 then co else ur) (fun _ => 0) (fun _ _ => zeroPl) (fun _ => .slice none 0 0) ∧ w.heap.size ≤ rb := by
  obtain ⟨hs, hal⟩ := mayB_stat.1 hm
  refine (rNew_rest cl co ur an ch a n c lim w ha hs).mono ?_
  rintro e w' (⟨h, _⟩ | ⟨_, h⟩)
  · rw [hal] at h; cases h
  · exact h

theorem made_no (cl co ur an ch : Int) (a : Option Addr) (n c : Nat) (lim : Nat → Nat → Int) (w : World) (ha : AccAt w a n lim) (hn : n ≤ 2932031007317) (hm : mayB cl co ur an ch n lim = false) :
    Calls Try.prog 11 #[.agg #[.int .i64 cl, .int .i64 co, .int .i64 ur, .int .i64 an, .int .i64 ch, .slice a n c]] w
      fun e w' => e = .returned (.tuple #[.agg #[.pointer none, .pointer none], .bool true]) ∧ Below w.heap.size w w' := by
  refine (made_core cl co ur an ch a n c lim w ha hn 2 (fun _ => none) (fun _ => none) (fun _ _ _ => True) (fun _ _ _ => True) ?_ ?_ (.inl ⟨fun _ => rfl, fun _ => rfl⟩)).mono ?_
  · intro W a' c' hA
    refine (gNew_no cl co ur an ch a' n c' lim W hA hm).mono ?_
    rintro e w' ⟨rfl, hb⟩
    exact ⟨0, rfl, hb, trivial⟩
  · intro W a' c' hA
    refine (rNew_no cl co ur an ch a' n c' lim W hA hm).mono ?_
    rintro e w' ⟨rfl, hb⟩
    exact ⟨0, rfl, hb, trivial⟩
  · rintro e w' ⟨bx, bY, rfl, _, _, _, _, _, _, _, _, _, _, hb⟩
    exact ⟨rfl, hb⟩

theorem made_yes (cl co ur an ch : Int) (a : Option Addr) (n c : Nat) (lim : Nat → Nat → Int) (w : World) (ha : AccAt w a n lim) (hn : n ≤ 2932031007317) (hm : mayB cl co ur an ch n lim = true) :
    Calls Try.prog 11 #[.agg #[.int .i64 cl, .int .i64 co, .int .i64 ur, .int .i64 an, .int .i64 ch, .slice a n c]] w
      fun e w' => ∃ bx bY, e = .returned (.tuple #[.agg #[.pointer (some ⟨bx, 0, none⟩), .pointer (some ⟨bY, 0, none⟩)], .bool true]) ∧ Below w.heap.size w w' ∧
        ∀ (own : Nat → Nat) (t : Nat), ∃ own' : Nat → Nat, (∀ b, b < w.heap.size → own' b = own b) ∧ (∀ b, w.heap.size ≤ b → own' b = 2 * t ∨ own' b = 2 * t + 1) ∧ TwinAt own' t w' (.pointer (some ⟨bx, 0, none⟩)) (.pointer (some ⟨bY, 0, none⟩)) := by
  obtain ⟨hs, _⟩ := mayB_stat.1 hm
  obtain ⟨co', rfl⟩ := Int.eq_ofNat_of_zero_le (show 0 ≤ co by have := powB_cases hs.1; omega)
  obtain ⟨ur', rfl⟩ := Int.eq_ofNat_of_zero_le (show 0 ≤ ur by have := powB_cases hs.2.1; omega)
  refine (made_core cl co' ur' an ch a n c lim w ha hn 0 (fun b => some ⟨b, 0, none⟩) (fun b => some ⟨b, 0, none⟩)
    (fun W w' gb => ∃ cb lb sb, PGate w' gb cb cl lb sb (fun i => if i = 0 then co' else ur') (fun _ => 0) (fun _ _ => zeroPl) ∧ W.heap.size ≤ gb ∧ W.heap.size ≤ cb ∧ ∀ i, i < 2 → W.heap.size ≤ lb i ∧ W.heap.size ≤ sb i)
    (fun W w' rb => RGate w' rb cl (fun i => if i = 0 then co' else ur') (fun _ => 0) (fun _ _ => zeroPl) (fun _ => .slice none 0 0) ∧ W.heap.size ≤ rb) ?_ ?_ (.inr ⟨fun _ => rfl, fun _ => rfl⟩)).mono ?_
  · intro W a' c' hA
    refine (gNew_yes cl co' ur' an ch a' n c' lim W hA hm).mono ?_
    rintro e w' ⟨gb, cb, lb, sb, rfl, hb, hp, h1, h2, h3⟩
    exact ⟨gb, rfl, hb, cb, lb, sb, hp, h1, h2, h3⟩
  · intro W a' c' hA
    refine (rNew_yes cl co' ur' an ch a' n c' lim W hA hm).mono ?_
    rintro e w' ⟨rb, rfl, hb, hr, h1⟩
    exact ⟨rb, rfl, hb, hr, h1⟩
  · rintro e w' ⟨bx, bY, rfl, W1, w1, W2, w2, ⟨cb, lb, sb, hp, p1, p2, p3⟩, ⟨hr, r1⟩, q1, q2, q3, q4, hb⟩
    refine ⟨bx, bY, rfl, hb, fun own t => ⟨fun b => if b < w.heap.size then own b else if b < w1.heap.size then 2 * t else 2 * t + 1, fun b h => if_pos h, fun b h => ?_, ?_⟩⟩
    · simp only [if_neg (show ¬ b < w.heap.size by omega)]
      by_cases h2 : b < w1.heap.size
      · rw [if_pos h2]; exact .inl rfl
      · rw [if_neg h2]; exact .inr rfl
    · have l1 := block_lt hp.gate
      have l2 := block_lt hp.chan
      have hp2 := hp.keep (Keep.ofBelow (S := fun _ => True) q3) trivial trivial (fun _ _ => ⟨trivial, trivial⟩)
      have hp3 := hp2.keep q4 p1 p2 p3
      have hw12 : W1.heap.size ≤ w1.heap.size := by omega
      have hr3 := hr.keep q4 (show W1.heap.size ≤ bY by omega) (fun i b _ hb => by simp [Value.ownBlock] at hb)
      refine .inr ⟨bx, cb, cl, lb, sb, _, _, _, bY, _, rfl, rfl, hp3, hr3, ?_, ?_, ?_, ?_, ?_, fun _ _ _ _ => rfl⟩
      · simp only [if_neg (show ¬ bx < w.heap.size by omega), if_pos l1]
      · simp only [if_neg (show ¬ cb < w.heap.size by omega), if_pos l2]
      · intro i hi
        have l3 := (hp.lane i hi).lt
        have l4 := p3 i hi
        simp only [if_neg (show ¬ lb i < w.heap.size by omega), if_pos l3.1, if_neg (show ¬ sb i < w.heap.size by omega), if_pos l3.2, and_self]
      · simp only [if_neg (show ¬ bY < w.heap.size by omega), if_neg (show ¬ bY < w1.heap.size by omega)]
      · intro i b _ hb; simp [Value.ownBlock] at hb

end Go.Proofs.Ytncljickkoihhaa
