import Derived.Test.YtjhifhoniimfgaaG01
/-
  What the bytes of a frame say: the code of one that is wrong; what one says that is right.
-/
namespace Go.Proofs.Ytjhifhoniimfgaa
open Go.RowKit

def isOfB (k lane : Int) : Bool := if lane = 1 then decide (k = 3 ∨ k = 4) else decide (k = 1 ∨ k = 2)

set_option maxHeartbeats 1000000 in
theorem isOf_any (k a s r n : Int) (p q l : Nat) (lane : Int) (w : World) :
    Calls Try.prog 81 #[fAgg k a s r n p q l, .int .i64 lane] w fun e w' => e = .returned (.bool (isOfB k lane)) ∧ w.alloc (.cells #[.int .i64 k, .int .i64 a, .int .i64 s, .int .i64 r, .int .i64 n, .int .u64 p, .int .u64 q, .int .u64 l] 156) = w' := by
  unfold fAgg
  by_cases h : lane = 1
  · subst h
    rcases (show k = 3 ∨ (k ≠ 3 ∧ k = 4) ∨ (k ≠ 3 ∧ k ≠ 4) by omega) with h1 | ⟨h1, h2⟩ | ⟨h1, h2⟩
    · subst h1
      go_enter Try.func81, Try.ntmps81
      go_wp2
      go_ret
      exact ⟨rfl, rfl⟩
    · subst h2
      go_enter Try.func81, Try.ntmps81
      go_wp2
      go_ret
      exact ⟨rfl, rfl⟩
    · have e1 : (k == 3) = false := by simp; omega
      have e2 : (k == 4) = false := by simp; omega
      go_enter Try.func81, Try.ntmps81
      go_wp2
      go_ret
      exact ⟨by simp [isOfB, h1, h2], rfl⟩
  · have e0 : (lane == 1) = false := by simp; omega
    rcases (show k = 1 ∨ (k ≠ 1 ∧ k = 2) ∨ (k ≠ 1 ∧ k ≠ 2) by omega) with h1 | ⟨h1, h2⟩ | ⟨h1, h2⟩
    · subst h1
      go_enter Try.func81, Try.ntmps81
      go_wp2
      go_ret
      exact ⟨by simp [isOfB, h], rfl⟩
    · subst h2
      go_enter Try.func81, Try.ntmps81
      go_wp2
      go_ret
      exact ⟨by simp [isOfB, h], rfl⟩
    · have e1 : (k == 1) = false := by simp; omega
      have e2 : (k == 2) = false := by simp; omega
      go_enter Try.func81, Try.ntmps81
      go_wp2
      go_ret
      exact ⟨by simp [isOfB, h, h1, h2], rfl⟩

/-- Is it a number from 1 to high? -/
def inU (n : Nat) (hi : Int) : Bool := decide (1 ≤ (n : Int) ∧ (n : Int) ≤ hi)

set_option maxHeartbeats 400000 in
theorem uwithin (n : Nat) (hi : Int) (w : World) :
    Calls Try.prog 83 #[.int .u64 n, .int .u64 hi] w fun e w' => e = .returned (.bool (inU n hi)) ∧ w = w' := by
  unfold inU
  by_cases h1 : (1 : Int) ≤ (n : Int) <;> by_cases h2 : (n : Int) ≤ hi
  all_goals
    go_enter Try.func83, Try.ntmps83
    go_wp2
    go_ret
    exact ⟨by simp [h1, h2], rfl⟩

def hasRestB (k s r n : Int) (p q l : Nat) : Bool :=
  if r ≠ 0 then true else if k = 1 then false else if s ≠ 0 ∨ p ≠ 0 ∨ q ≠ 0 ∨ l ≠ 0 then true else decide (k ≠ 2 ∧ n ≠ 0)

set_option maxHeartbeats 2000000 in
theorem hasRest_any (k a s r n : Int) (p q l : Nat) (w : World) :
    Calls Try.prog 82 #[fAgg k a s r n p q l] w fun e w' => e = .returned (.bool (hasRestB k s r n p q l)) ∧ w.alloc (.cells #[.int .i64 k, .int .i64 a, .int .i64 s, .int .i64 r, .int .i64 n, .int .u64 p, .int .u64 q, .int .u64 l] 156) = w' := by
  have ne : ∀ (x y : Int), x ≠ y → (x == y) = false := fun x y h => by simpa using h
  have ne2 : ∀ (x y : Int), x ≠ y → (x != y) = true := fun x y h => by simpa using h
  unfold fAgg
  by_cases h1 : r ≠ 0
  · have HV : Hid (hasRestB k s r n p q l = true) := if_pos h1
    have e1 := ne2 _ _ h1
    clear ne ne2
    go_enter Try.func82, Try.ntmps82
    go_wp2
    go_ret
    exact ⟨by rw [HV.out]; rfl, rfl⟩
  obtain rfl : r = 0 := by omega
  by_cases h2 : k = 1
  · subst h2
    have HV : Hid (hasRestB 1 s 0 n p q l = false) := rfl
    clear ne ne2
    go_enter Try.func82, Try.ntmps82
    go_wp2
    go_ret
    exact ⟨by rw [HV.out]; rfl, rfl⟩
  have e2 := ne _ _ h2
  by_cases h3 : s ≠ 0
  · have HV : Hid (hasRestB k s 0 n p q l = true) := by show _ = _; simp [hasRestB, h2, h3]
    have e3 := ne2 _ _ h3
    clear ne ne2
    go_enter Try.func82, Try.ntmps82
    go_wp2
    go_ret
    exact ⟨by rw [HV.out]; rfl, rfl⟩
  obtain rfl : s = 0 := by omega
  by_cases h4 : p ≠ 0
  · have HV : Hid (hasRestB k 0 0 n p q l = true) := by show _ = _; simp [hasRestB, h2, h4]
    have e3 : ((p : Int) != 0) = true := ne2 _ _ (by omega)
    clear ne ne2
    go_enter Try.func82, Try.ntmps82
    go_wp2
    go_ret
    exact ⟨by rw [HV.out]; rfl, rfl⟩
  obtain rfl : p = 0 := by omega
  by_cases h5 : q ≠ 0
  · have HV : Hid (hasRestB k 0 0 n 0 q l = true) := by show _ = _; simp [hasRestB, h2, h5]
    have e3 : ((q : Int) != 0) = true := ne2 _ _ (by omega)
    clear ne ne2
    go_enter Try.func82, Try.ntmps82
    go_wp2
    go_ret
    exact ⟨by rw [HV.out]; rfl, rfl⟩
  obtain rfl : q = 0 := by omega
  by_cases h6 : l ≠ 0
  · have HV : Hid (hasRestB k 0 0 n 0 0 l = true) := by show _ = _; simp [hasRestB, h2, h6]
    have e3 : ((l : Int) != 0) = true := ne2 _ _ (by omega)
    clear ne ne2
    go_enter Try.func82, Try.ntmps82
    go_wp2
    go_ret
    exact ⟨by rw [HV.out]; rfl, rfl⟩
  obtain rfl : l = 0 := by omega
  by_cases h7 : k = 2
  · subst h7
    have HV : Hid (hasRestB 2 0 0 n 0 0 0 = false) := by show _ = _; simp [hasRestB]
    clear ne ne2
    go_enter Try.func82, Try.ntmps82
    go_wp2
    go_ret
    exact ⟨by rw [HV.out]; rfl, rfl⟩
  have e7 := ne2 _ _ h7
  by_cases h8 : n ≠ 0
  · have HV : Hid (hasRestB k 0 0 n 0 0 0 = true) := by show _ = _; simp [hasRestB, h2, h7, h8]
    have e8 := ne2 _ _ h8
    clear ne ne2
    go_enter Try.func82, Try.ntmps82
    go_wp2
    go_ret
    exact ⟨by rw [HV.out]; rfl, rfl⟩
  · obtain rfl : n = 0 := by omega
    have HV : Hid (hasRestB k 0 0 0 0 0 0 = false) := by show _ = _; simp [hasRestB]
    clear ne ne2
    go_enter Try.func82, Try.ntmps82
    go_wp2
    go_ret
    exact ⟨by rw [HV.out]; rfl, rfl⟩

def codeV (B1 B2 : Bool) (U : Nat → Int → Bool) (k a s : Int) (p q l : Nat) (accounts : Int) : Int :=
  if B1 = false then 2 else if accounts ≤ a then 3 else if k = 1 ∧ 1 < s then 4 else if B2 = true then 5 else if k ≠ 1 then 0
  else if U p 9223372036854775807 = false then 6 else if U q 9223372036854775807 = false then 7 else if U l 1000000 = false then 8 else 0

set_option maxRecDepth 100000 in
set_option maxHeartbeats 4000000 in
theorem code_walk (k a s r n : Int) (p q l : Nat) (lane accounts : Int) (B1 B2 : Bool) (U : Nat → Int → Bool) (w : World)
    (hc1 : ∀ W, Calls Try.prog 81 #[.agg #[.int .i64 k, .int .i64 a, .int .i64 s, .int .i64 r, .int .i64 n, .int .u64 p, .int .u64 q, .int .u64 l], .int .i64 lane] W fun e w' => e = .returned (.bool B1) ∧ W.alloc (.cells #[.int .i64 k, .int .i64 a, .int .i64 s, .int .i64 r, .int .i64 n, .int .u64 p, .int .u64 q, .int .u64 l] 156) = w')
    (hc2 : ∀ W, Calls Try.prog 82 #[.agg #[.int .i64 k, .int .i64 a, .int .i64 s, .int .i64 r, .int .i64 n, .int .u64 p, .int .u64 q, .int .u64 l]] W fun e w' => e = .returned (.bool B2) ∧ W.alloc (.cells #[.int .i64 k, .int .i64 a, .int .i64 s, .int .i64 r, .int .i64 n, .int .u64 p, .int .u64 q, .int .u64 l] 156) = w')
    (hcw : ∀ (x : Nat) (hi : Int) W, Calls Try.prog 83 #[.int .u64 x, .int .u64 hi] W fun e w' => e = .returned (.bool (U x hi)) ∧ W = w') :
    Calls Try.prog 73 #[.agg #[.int .i64 k, .int .i64 a, .int .i64 s, .int .i64 r, .int .i64 n, .int .u64 p, .int .u64 q, .int .u64 l], .int .i64 lane, .int .i64 accounts] w fun e w' => e = .returned (.int .i64 (codeV B1 B2 U k a s p q l accounts)) ∧ Below w.heap.size w w' := by
  cases hB1 : B1
  · subst hB1
    have HV : Hid (codeV false B2 U k a s p q l accounts = 2) := by show _ = _; unfold codeV; simp
    generalize codeV false B2 U k a s p q l accounts = V at *
    go_enter Try.func73, Try.ntmps73
    go_wp2_with (first | (go_at_call 81; refine (hc1 _).mono ?_; rintro e w' ⟨rfl, rfl⟩) | (go_at_call 82; refine (hc2 _).mono ?_; rintro e w' ⟨rfl, rfl⟩) | (go_at_call 83; refine (hcw _ _ _).mono ?_; rintro e w' ⟨rfl, rfl⟩))
    go_ret
    refine ⟨by rw [HV.out]; rfl, ?_⟩
    (repeat (refine Below.alloc ?_ (by first | exact Nat.le_refl _ | (simp only [World.size_alloc]; omega)) _)); exact Below.refl _ _
  subst hB1
  by_cases h1 : accounts ≤ a
  · skip
    have HV : Hid (codeV true B2 U k a s p q l accounts = 3) := by show _ = _; unfold codeV; simp [h1]
    generalize codeV true B2 U k a s p q l accounts = V at *
    go_enter Try.func73, Try.ntmps73
    go_wp2_with (first | (go_at_call 81; refine (hc1 _).mono ?_; rintro e w' ⟨rfl, rfl⟩) | (go_at_call 82; refine (hc2 _).mono ?_; rintro e w' ⟨rfl, rfl⟩) | (go_at_call 83; refine (hcw _ _ _).mono ?_; rintro e w' ⟨rfl, rfl⟩))
    go_ret
    refine ⟨by rw [HV.out]; rfl, ?_⟩
    (repeat (refine Below.alloc ?_ (by first | exact Nat.le_refl _ | (simp only [World.size_alloc]; omega)) _)); exact Below.refl _ _
  by_cases hk : k = 1
  · subst hk
    by_cases h2 : 1 < s
    · skip
      have HV : Hid (codeV true B2 U 1 a s p q l accounts = 4) := by show _ = _; unfold codeV; simp [h1, h2]
      generalize codeV true B2 U 1 a s p q l accounts = V at *
      go_enter Try.func73, Try.ntmps73
      go_wp2_with (first | (go_at_call 81; refine (hc1 _).mono ?_; rintro e w' ⟨rfl, rfl⟩) | (go_at_call 82; refine (hc2 _).mono ?_; rintro e w' ⟨rfl, rfl⟩) | (go_at_call 83; refine (hcw _ _ _).mono ?_; rintro e w' ⟨rfl, rfl⟩))
      go_ret
      refine ⟨by rw [HV.out]; rfl, ?_⟩
      (repeat (refine Below.alloc ?_ (by first | exact Nat.le_refl _ | (simp only [World.size_alloc]; omega)) _)); exact Below.refl _ _
    cases hB2 : B2
    rotate_left
    · subst hB2
      have HV : Hid (codeV true true U 1 a s p q l accounts = 5) := by show _ = _; unfold codeV; simp [h1, h2]
      generalize codeV true true U 1 a s p q l accounts = V at *
      go_enter Try.func73, Try.ntmps73
      go_wp2_with (first | (go_at_call 81; refine (hc1 _).mono ?_; rintro e w' ⟨rfl, rfl⟩) | (go_at_call 82; refine (hc2 _).mono ?_; rintro e w' ⟨rfl, rfl⟩) | (go_at_call 83; refine (hcw _ _ _).mono ?_; rintro e w' ⟨rfl, rfl⟩))
      go_ret
      refine ⟨by rw [HV.out]; rfl, ?_⟩
      (repeat (refine Below.alloc ?_ (by first | exact Nat.le_refl _ | (simp only [World.size_alloc]; omega)) _)); exact Below.refl _ _
    subst hB2
    cases u1 : U p 9223372036854775807
    · skip
      have HV : Hid (codeV true false U 1 a s p q l accounts = 6) := by show _ = _; unfold codeV; simp [h1, h2, u1]
      generalize codeV true false U 1 a s p q l accounts = V at *
      go_enter Try.func73, Try.ntmps73
      go_wp2_with (first | (go_at_call 81; refine (hc1 _).mono ?_; rintro e w' ⟨rfl, rfl⟩) | (go_at_call 82; refine (hc2 _).mono ?_; rintro e w' ⟨rfl, rfl⟩) | (go_at_call 83; refine (hcw _ _ _).mono ?_; rintro e w' ⟨rfl, rfl⟩))
      go_ret
      refine ⟨by rw [HV.out]; rfl, ?_⟩
      (repeat (refine Below.alloc ?_ (by first | exact Nat.le_refl _ | (simp only [World.size_alloc]; omega)) _)); exact Below.refl _ _
    cases u2 : U q 9223372036854775807
    · skip
      have HV : Hid (codeV true false U 1 a s p q l accounts = 7) := by show _ = _; unfold codeV; simp [h1, h2, u1, u2]
      generalize codeV true false U 1 a s p q l accounts = V at *
      go_enter Try.func73, Try.ntmps73
      go_wp2_with (first | (go_at_call 81; refine (hc1 _).mono ?_; rintro e w' ⟨rfl, rfl⟩) | (go_at_call 82; refine (hc2 _).mono ?_; rintro e w' ⟨rfl, rfl⟩) | (go_at_call 83; refine (hcw _ _ _).mono ?_; rintro e w' ⟨rfl, rfl⟩))
      go_ret
      refine ⟨by rw [HV.out]; rfl, ?_⟩
      (repeat (refine Below.alloc ?_ (by first | exact Nat.le_refl _ | (simp only [World.size_alloc]; omega)) _)); exact Below.refl _ _
    cases u3 : U l 1000000
    · skip
      have HV : Hid (codeV true false U 1 a s p q l accounts = 8) := by show _ = _; unfold codeV; simp [h1, h2, u1, u2, u3]
      generalize codeV true false U 1 a s p q l accounts = V at *
      go_enter Try.func73, Try.ntmps73
      go_wp2_with (first | (go_at_call 81; refine (hc1 _).mono ?_; rintro e w' ⟨rfl, rfl⟩) | (go_at_call 82; refine (hc2 _).mono ?_; rintro e w' ⟨rfl, rfl⟩) | (go_at_call 83; refine (hcw _ _ _).mono ?_; rintro e w' ⟨rfl, rfl⟩))
      go_ret
      refine ⟨by rw [HV.out]; rfl, ?_⟩
      (repeat (refine Below.alloc ?_ (by first | exact Nat.le_refl _ | (simp only [World.size_alloc]; omega)) _)); exact Below.refl _ _
    · skip
      have HV : Hid (codeV true false U 1 a s p q l accounts = 0) := by show _ = _; unfold codeV; simp [h1, h2, u1, u2, u3]
      generalize codeV true false U 1 a s p q l accounts = V at *
      go_enter Try.func73, Try.ntmps73
      go_wp2_with (first | (go_at_call 81; refine (hc1 _).mono ?_; rintro e w' ⟨rfl, rfl⟩) | (go_at_call 82; refine (hc2 _).mono ?_; rintro e w' ⟨rfl, rfl⟩) | (go_at_call 83; refine (hcw _ _ _).mono ?_; rintro e w' ⟨rfl, rfl⟩))
      go_ret
      refine ⟨by rw [HV.out]; rfl, ?_⟩
      (repeat (refine Below.alloc ?_ (by first | exact Nat.le_refl _ | (simp only [World.size_alloc]; omega)) _)); exact Below.refl _ _
  have hk2 : (k == 1) = false := by simp; omega
  cases hB2 : B2
  · subst hB2
    have HV : Hid (codeV true false U k a s p q l accounts = 0) := by show _ = _; unfold codeV; simp [h1, hk]
    generalize codeV true false U k a s p q l accounts = V at *
    go_enter Try.func73, Try.ntmps73
    go_wp2_with (first | (go_at_call 81; refine (hc1 _).mono ?_; rintro e w' ⟨rfl, rfl⟩) | (go_at_call 82; refine (hc2 _).mono ?_; rintro e w' ⟨rfl, rfl⟩) | (go_at_call 83; refine (hcw _ _ _).mono ?_; rintro e w' ⟨rfl, rfl⟩))
    go_ret
    refine ⟨by rw [HV.out]; rfl, ?_⟩
    (repeat (refine Below.alloc ?_ (by first | exact Nat.le_refl _ | (simp only [World.size_alloc]; omega)) _)); exact Below.refl _ _
  · subst hB2
    have HV : Hid (codeV true true U k a s p q l accounts = 5) := by show _ = _; unfold codeV; simp [h1, hk]
    generalize codeV true true U k a s p q l accounts = V at *
    go_enter Try.func73, Try.ntmps73
    go_wp2_with (first | (go_at_call 81; refine (hc1 _).mono ?_; rintro e w' ⟨rfl, rfl⟩) | (go_at_call 82; refine (hc2 _).mono ?_; rintro e w' ⟨rfl, rfl⟩) | (go_at_call 83; refine (hcw _ _ _).mono ?_; rintro e w' ⟨rfl, rfl⟩))
    go_ret
    refine ⟨by rw [HV.out]; rfl, ?_⟩
    (repeat (refine Below.alloc ?_ (by first | exact Nat.le_refl _ | (simp only [World.size_alloc]; omega)) _)); exact Below.refl _ _

end Go.Proofs.Ytjhifhoniimfgaa

/-
  What the bytes of a frame say: Read, whole.
-/
namespace Go.Proofs.Ytjhifhoniimfgaa
open Go.RowKit

theorem fold_zero : ∀ (l : List UInt8) (n : Nat), l.foldl (fun n c => 256 * n + c.toNat) n = 0 ↔ n = 0 ∧ l.all (· == 0) = true
  | [], n => by simp
  | c :: r, n => by
    rw [List.foldl_cons, fold_zero r, List.all_cons]
    have hc : c.toNat = 0 ↔ (c == 0) = true := by
      rw [beq_iff_eq, ← UInt8.toNat_inj]; rfl
    constructor
    · rintro ⟨h1, h2⟩
      exact ⟨by omega, by simp [h2, hc.1 (by omega)]⟩
    · rintro ⟨h1, h2⟩
      simp only [Bool.and_eq_true] at h2
      exact ⟨by have := hc.2 h2.1; omega, h2.2⟩

theorem val_zero (s : ByteArray) : val s.data.toList = 0 ↔ zeroB s = true := by
  unfold val zeroB
  rw [fold_zero]
  simp

theorem extract_toList (s : ByteArray) (a b : Nat) : (s.extract a b).data.toList = (s.data.toList.drop a).take (b - a) := by
  rw [ByteArray.data_extract, Array.toList_extract, List.extract_eq_take_drop]

theorem zeroB_three (s : ByteArray) : zeroB (s.extract 8 32) = (zeroB (s.extract 8 16) && zeroB (s.extract 16 24) && zeroB (s.extract 24 32)) := by
  unfold zeroB
  rw [extract_toList, extract_toList, extract_toList, extract_toList]
  generalize s.data.toList = l
  have h1 : (l.drop 8).take (32 - 8) = (l.drop 8).take (16 - 8) ++ ((l.drop 16).take (24 - 16) ++ (l.drop 24).take (32 - 24)) := by
    have e1 : (l.drop 8).take 24 = (l.drop 8).take 8 ++ ((l.drop 8).drop 8).take 16 := by
      rw [← List.take_add]
    have e2 : (l.drop 16).take 16 = (l.drop 16).take 8 ++ ((l.drop 16).drop 8).take 8 := by
      rw [← List.take_add]
    rw [List.drop_drop] at e1 e2
    show (l.drop 8).take 24 = (l.drop 8).take 8 ++ ((l.drop 16).take 8 ++ (l.drop 24).take 8)
    rw [e1, e2]
  rw [h1, List.all_append, List.all_append, Bool.and_assoc]

theorem numOk_iff (s : ByteArray) : numOk s = true ↔ val s.data.toList ≤ 9223372036854775807 := by simp [numOk]

theorem inU_num (s : ByteArray) (hi : Int) (h : hi ≤ 9223372036854775807) : inU (val s.data.toList) hi = (numOk s && decide (1 ≤ numV s) && decide (numV s ≤ hi)) := by
  unfold inU numV
  by_cases h1 : numOk s = true
  · rw [if_pos h1, h1, Bool.true_and, ← Bool.decide_and]
  · have h2 := mt (numOk_iff s).2 h1
    rw [Bool.not_eq_true] at h1
    rw [h1, Bool.false_and, Bool.false_and]
    exact decide_eq_false (by omega)

theorem code_eq (n : Nat) (lane : Int) (s : ByteArray) (hs : s.size = 32) (hl : lane = 0 ∨ lane = 1) :
    codeV (isOfB (byteAt s 0) lane) (hasRestB (byteAt s 0) (byteAt s 2) (byteAt s 3) (val (s.extract 4 8).data.toList) (val (s.extract 8 16).data.toList) (val (s.extract 16 24).data.toList) (val (s.extract 24 32).data.toList))
      inU (byteAt s 0) (byteAt s 1) (byteAt s 2) (val (s.extract 8 16).data.toList) (val (s.extract 16 24).data.toList) (val (s.extract 24 32).data.toList) n = wrongV n lane s := by
  have z := zeroB_three s
  have z1 := val_zero (s.extract 8 16)
  have z2 := val_zero (s.extract 16 24)
  have z3 := val_zero (s.extract 24 32)
  have z4 := val_zero (s.extract 4 8)
  have u1 := inU_num (s.extract 8 16) 9223372036854775807 (by omega)
  have u2 := inU_num (s.extract 16 24) 9223372036854775807 (by omega)
  have u3 := inU_num (s.extract 24 32) 1000000 (by omega)
  have b1 := (numV_bd (s.extract 8 16)).2
  have b2 := (numV_bd (s.extract 16 24)).2
  unfold codeV wrongV newV
  rw [if_neg (show ¬ s.size ≠ 32 by omega), u1, u2, u3, z]
  generalize val (s.extract 8 16).data.toList = p at *
  generalize val (s.extract 16 24).data.toList = q at *
  generalize val (s.extract 24 32).data.toList = l at *
  generalize val (s.extract 4 8).data.toList = nn at *
  generalize numOk (s.extract 8 16) = o1 at *
  generalize numOk (s.extract 16 24) = o2 at *
  generalize numOk (s.extract 24 32) = o3 at *
  generalize numV (s.extract 8 16) = v1 at *
  generalize numV (s.extract 16 24) = v2 at *
  generalize numV (s.extract 24 32) = v3 at *
  generalize zeroB (s.extract 8 16) = y1 at *
  generalize zeroB (s.extract 16 24) = y2 at *
  generalize zeroB (s.extract 24 32) = y3 at *
  generalize zeroB (s.extract 4 8) = y4 at *
  generalize byteAt s 0 = k at *
  generalize byteAt s 1 = a at *
  generalize byteAt s 2 = sd at *
  generalize byteAt s 3 = r at *
  clear u1 u2 u3 z
  by_cases hk : isOfB k lane = false
  · rw [if_pos hk, if_pos]
    unfold isOfB at hk
    rcases hl with rfl | rfl <;> simp at hk <;> split <;> omega
  have hk2 : ¬ (k < 1 ∨ 4 < k ∨ (if k ≤ 2 then (0 : Int) else 1) ≠ lane) := by
    unfold isOfB at hk
    rcases hl with rfl | rfl <;> simp at hk <;> split <;> omega
  rw [if_neg hk, if_neg hk2]
  have hk3 : k = 1 ∨ k = 2 ∨ k = 3 ∨ k = 4 := by omega
  clear hk hk2 hl
  by_cases ha : n ≤ a
  · rw [if_pos (by omega), if_pos ha]
  rw [if_neg (by omega), if_neg ha]
  by_cases h4 : k = 1 ∧ 1 < sd
  · rw [if_pos (by omega), if_pos h4]
  rw [if_neg (by omega), if_neg h4]
  unfold hasRestB
  by_cases hr : r ≠ 0
  · rw [if_pos (show (if (r : Int) ≠ 0 then true else _) = true by rw [if_pos (by omega)]), if_pos hr]
  rw [if_neg (show ¬ (r : Int) ≠ 0 by omega), if_neg hr]
  rcases hk3 with rfl | hk3
  · have e1 : ((o1 && decide (1 ≤ v1) && decide (v1 ≤ 9223372036854775807)) = false) ↔ (o1 = false ∨ v1 < 1) := by cases o1 <;> simp <;> omega
    have e2 : ((o2 && decide (1 ≤ v2) && decide (v2 ≤ 9223372036854775807)) = false) ↔ (o2 = false ∨ v2 < 1) := by cases o2 <;> simp <;> omega
    have e3 : ((o3 && decide (1 ≤ v3) && decide (v3 ≤ 1000000)) = false) ↔ (o3 = false ∨ v3 < 1 ∨ 1000000 < v3) := by cases o3 <;> simp <;> omega
    simp only [e1, e2, e3]
    rfl
  · have c1 : ¬ (k : Int) = 1 := by omega
    have c2 : (k : Int) ≠ 1 := by omega
    have c3 : k ≠ 1 := by omega
    rw [if_neg c1]
    by_cases hz : sd ≠ 0 ∨ p ≠ 0 ∨ q ≠ 0 ∨ l ≠ 0
    · rw [if_pos (show (sd : Int) ≠ 0 ∨ p ≠ 0 ∨ q ≠ 0 ∨ l ≠ 0 by omega), if_pos rfl, if_pos]
      refine ⟨c3, ?_⟩
      rcases hz with h | h | h | h
      · exact .inl h
      · refine .inr ?_
        cases y1
        · rfl
        · exact absurd (z1.2 rfl) h
      · refine .inr ?_
        cases y2
        · cases y1 <;> rfl
        · exact absurd (z2.2 rfl) h
      · refine .inr ?_
        cases y3
        · cases y1 <;> cases y2 <;> rfl
        · exact absurd (z3.2 rfl) h
    · obtain rfl := z1.1 (by omega)
      obtain rfl := z2.1 (by omega)
      obtain rfl := z3.1 (by omega)
      obtain rfl : sd = 0 := by omega
      rw [if_neg (show ¬ (((0 : Nat) : Int) ≠ 0 ∨ p ≠ 0 ∨ q ≠ 0 ∨ l ≠ 0) by omega), if_neg (show ¬ (k ≠ 1 ∧ ((0 : Nat) ≠ 0 ∨ (true && true && true) = false)) by simp), if_pos c2]
      by_cases h2 : k = 2
      · subst h2
        simp
      · rw [if_pos (show 2 < k by omega)]
        cases y4
        · have h5 : nn ≠ 0 := fun h => by have := z4.1 h; cases this
          rw [if_pos (by simp; omega)]
          rfl
        · have h5 := z4.2 rfl
          rw [if_neg (by simp; omega)]
          rfl

end Go.Proofs.Ytjhifhoniimfgaa

/-
  Read: what a frame says.
-/
namespace Go.Proofs.Ytjhifhoniimfgaa
open Go.RowKit

/-- What a frame says. -/
inductive Said where
  | new (a s n p q l : Int)
  | cancel (a n : Int)
  | kill (a : Int)
  | unkill (a : Int)
  | wrong (c : Int)

def Said.val : Said → Value
  | .new a s n p q l => .iface 160 (.agg #[.int .i64 a, .int .i64 s, .int .i64 n, .int .i64 p, .int .i64 q, .int .i64 l])
  | .cancel a n => .iface 163 (.agg #[.int .i64 a, .int .i64 n])
  | .kill a => .iface 166 (.agg #[.int .i64 a])
  | .unkill a => .iface 167 (.agg #[.int .i64 a])
  | .wrong c => .iface 153 (.agg #[.int .i64 c])

set_option maxRecDepth 100000 in
set_option maxHeartbeats 1000000 in
theorem meaning_new (a s r n : Int) (p q l : Nat) (w : World) (hp : p ≤ 9223372036854775807) (hq : q ≤ 9223372036854775807) (hl : l ≤ 9223372036854775807) :
    Calls Try.prog 74 #[fAgg 1 a s r n p q l] w fun e w' => e = .returned (Said.new a s n p q l).val ∧ Below w.heap.size w w' := by
  unfold fAgg Said.val
  go_enter Try.func74, Try.ntmps74
  go_wp2
  go_ret
  exact ⟨rfl, (Below.refl _ _).alloc (Nat.le_refl _) _⟩

set_option maxRecDepth 100000 in
set_option maxHeartbeats 1000000 in
theorem meaning_cancel (a s r n : Int) (p q l : Nat) (w : World) :
    Calls Try.prog 74 #[fAgg 2 a s r n p q l] w fun e w' => e = .returned (Said.cancel a n).val ∧ Below w.heap.size w w' := by
  unfold fAgg Said.val
  go_enter Try.func74, Try.ntmps74
  go_wp2
  go_ret
  exact ⟨rfl, (Below.refl _ _).alloc (Nat.le_refl _) _⟩

set_option maxRecDepth 100000 in
set_option maxHeartbeats 1000000 in
theorem meaning_kill (a s r n : Int) (p q l : Nat) (w : World) :
    Calls Try.prog 74 #[fAgg 3 a s r n p q l] w fun e w' => e = .returned (Said.kill a).val ∧ Below w.heap.size w w' := by
  unfold fAgg Said.val
  go_enter Try.func74, Try.ntmps74
  go_wp2
  go_ret
  exact ⟨rfl, (Below.refl _ _).alloc (Nat.le_refl _) _⟩

set_option maxRecDepth 100000 in
set_option maxHeartbeats 1000000 in
theorem meaning_unkill (a s r n : Int) (p q l : Nat) (w : World) :
    Calls Try.prog 74 #[fAgg 4 a s r n p q l] w fun e w' => e = .returned (Said.unkill a).val ∧ Below w.heap.size w w' := by
  unfold fAgg Said.val
  go_enter Try.func74, Try.ntmps74
  go_wp2
  go_ret
  exact ⟨rfl, (Below.refl _ _).alloc (Nat.le_refl _) _⟩

def saidOf (n : Nat) (lane : Int) (s : ByteArray) : Said :=
  if wrongV n lane s ≠ 0 then .wrong (wrongV n lane s)
  else if byteAt s 0 = 1 then .new (byteAt s 1) (byteAt s 2) (numV (s.extract 4 8)) (numV (s.extract 8 16)) (numV (s.extract 16 24)) (numV (s.extract 24 32))
  else if byteAt s 0 = 2 then .cancel (byteAt s 1) (numV (s.extract 4 8))
  else if byteAt s 0 = 3 then .kill (byteAt s 1) else .unkill (byteAt s 1)

set_option maxRecDepth 100000 in
set_option maxHeartbeats 1000000 in
theorem read_wrong (lane accounts : Int) (s : ByteArray) (k a sd r n : Int) (p q l : Nat) (V : Int) (w : World) (hs : s.size = 32) (hv : (V != 0) = true)
    (h1 : ∀ W, Calls Try.prog 72 #[.string s] W fun e w' => e = .returned (.agg #[.int .i64 k, .int .i64 a, .int .i64 sd, .int .i64 r, .int .i64 n, .int .u64 p, .int .u64 q, .int .u64 l]) ∧ Below W.heap.size W w')
    (h2 : ∀ W, Calls Try.prog 73 #[.agg #[.int .i64 k, .int .i64 a, .int .i64 sd, .int .i64 r, .int .i64 n, .int .u64 p, .int .u64 q, .int .u64 l], .int .i64 lane, .int .i64 accounts] W fun e w' => e = .returned (.int .i64 V) ∧ Below W.heap.size W w') :
    Calls Try.prog 69 #[.int .i64 lane, .int .i64 accounts, .string s] w fun e w' => e = .returned (Said.wrong V).val ∧ Below w.heap.size w w' := by
  unfold Said.val
  have e0 : ((s.size : Int) != 32) = false := by simp; omega
  clear hs
  go_enter Try.func69, Try.ntmps69
  go_wp2_with (first | (go_at_call 72; refine (h1 _).mono ?_; rintro e w1 ⟨rfl, hb1⟩) | (go_at_call 73; refine (h2 _).mono ?_; rintro e w2 ⟨rfl, hb2⟩))
  go_ret
  exact ⟨rfl, below_alloc_step hb1 hb2⟩

set_option maxRecDepth 100000 in
set_option maxHeartbeats 1000000 in
theorem read_right (lane accounts : Int) (s : ByteArray) (k a sd r n : Int) (p q l : Nat) (M : Value) (w : World) (hs : s.size = 32)
    (h1 : ∀ W, Calls Try.prog 72 #[.string s] W fun e w' => e = .returned (.agg #[.int .i64 k, .int .i64 a, .int .i64 sd, .int .i64 r, .int .i64 n, .int .u64 p, .int .u64 q, .int .u64 l]) ∧ Below W.heap.size W w')
    (h2 : ∀ W, Calls Try.prog 73 #[.agg #[.int .i64 k, .int .i64 a, .int .i64 sd, .int .i64 r, .int .i64 n, .int .u64 p, .int .u64 q, .int .u64 l], .int .i64 lane, .int .i64 accounts] W fun e w' => e = .returned (.int .i64 0) ∧ Below W.heap.size W w')
    (h3 : ∀ W, Calls Try.prog 74 #[.agg #[.int .i64 k, .int .i64 a, .int .i64 sd, .int .i64 r, .int .i64 n, .int .u64 p, .int .u64 q, .int .u64 l]] W fun e w' => e = .returned M ∧ Below W.heap.size W w') :
    Calls Try.prog 69 #[.int .i64 lane, .int .i64 accounts, .string s] w fun e w' => e = .returned M ∧ Below w.heap.size w w' := by
  have e0 : ((s.size : Int) != 32) = false := by simp; omega
  clear hs
  have hcells : Hid (∀ (w1 w2 : World), Below (w1.alloc (.cells #[.int .i64 k, .int .i64 a, .int .i64 sd, .int .i64 r, .int .i64 n, .int .u64 p, .int .u64 q, .int .u64 l] 156)).heap.size (w1.alloc (.cells #[.int .i64 k, .int .i64 a, .int .i64 sd, .int .i64 r, .int .i64 n, .int .u64 p, .int .u64 q, .int .u64 l] 156)) w2 →
      w2.heap[w1.heap.size]? = some (.cells #[.int .i64 k, .int .i64 a, .int .i64 sd, .int .i64 r, .int .i64 n, .int .u64 p, .int .u64 q, .int .u64 l] 156)) := fun w1 w2 hb => by
    rw [hb.block _ (by simp)]; exact heap_alloc_new w1 _
  go_enter Try.func69, Try.ntmps69
  go_wp2_with (first | (go_at_call 72; refine (h1 _).mono ?_; rintro e w1 ⟨rfl, hb1⟩) | (go_at_call 73; refine (h2 _).mono ?_; rintro e w2 ⟨rfl, hb2⟩; have hx := hcells.out _ _ hb2; have k0 := cellAt (i := 0) hx rfl; have k1 := cellAt (i := 1) hx rfl; have k2 := cellAt (i := 2) hx rfl; have k3 := cellAt (i := 3) hx rfl; have k4 := cellAt (i := 4) hx rfl; have k5 := cellAt (i := 5) hx rfl; have k6 := cellAt (i := 6) hx rfl; have k7 := cellAt (i := 7) hx rfl) | (go_at_call 74; refine (h3 _).mono ?_; rintro e w3 ⟨rfl, hb3⟩))
  go_ret
  have hb := below_alloc_step hb1 hb2
  exact ⟨rfl, below_trans hb hb3 hb.size⟩

set_option maxHeartbeats 400000 in
theorem read_size (lane accounts : Int) (s : ByteArray) (w : World) (hs : s.size ≠ 32) :
    Calls Try.prog 69 #[.int .i64 lane, .int .i64 accounts, .string s] w fun e w' => e = .returned (Said.wrong 1).val ∧ Below w.heap.size w w' := by
  unfold Said.val
  have e0 : ((s.size : Int) != 32) = true := by simp; omega
  clear hs
  go_enter Try.func69, Try.ntmps69
  go_wp2
  go_ret
  exact ⟨rfl, Below.refl _ _⟩

theorem read_any (n : Nat) (lane : Int) (s : ByteArray) (w : World) (hl : lane = 0 ∨ lane = 1) :
    Calls Try.prog 69 #[.int .i64 lane, .int .i64 n, .string s] w fun e w' => e = .returned (saidOf n lane s).val ∧ Below w.heap.size w w' := by
  by_cases hs : s.size = 32
  rotate_left
  · have hv : wrongV n lane s = 1 := if_pos hs
    have : saidOf n lane s = .wrong 1 := by unfold saidOf; rw [hv, if_pos (by omega)]
    rw [this]
    exact read_size lane n s w hs
  have hcode : ∀ W, Calls Try.prog 73 #[fAgg (byteAt s 0) (byteAt s 1) (byteAt s 2) (byteAt s 3) (val (s.extract 4 8).data.toList) (val (s.extract 8 16).data.toList) (val (s.extract 16 24).data.toList) (val (s.extract 24 32).data.toList), .int .i64 lane, .int .i64 n] W fun e w' => e = .returned (.int .i64 (wrongV n lane s)) ∧ Below W.heap.size W w' := fun W => by
    rw [← code_eq n lane s hs hl]
    exact code_walk _ _ _ _ _ _ _ _ _ _ _ _ _ _ (fun W => isOf_any _ _ _ _ _ _ _ _ _ W) (fun W => hasRest_any _ _ _ _ _ _ _ _ W) (fun x hi W => uwithin x hi W)
  have hsplit := fun W => split_any s W hs
  by_cases hv : wrongV n lane s = 0
  rotate_left
  · have : saidOf n lane s = .wrong (wrongV n lane s) := if_pos hv
    rw [this]
    exact read_wrong lane n s _ _ _ _ _ _ _ _ _ w hs (by simpa using hv) hsplit hcode
  rw [hv] at hcode
  have hin : byteAt s 0 = 1 ∨ byteAt s 0 = 2 ∨ byteAt s 0 = 3 ∨ byteAt s 0 = 4 := by
    unfold wrongV at hv
    rw [if_neg (by omega)] at hv
    by_cases h : byteAt s 0 < 1 ∨ 4 < byteAt s 0 ∨ (if byteAt s 0 ≤ 2 then (0 : Int) else 1) ≠ lane
    · rw [if_pos h] at hv; omega
    · omega
  have h4 : numV (s.extract 4 8) = val (s.extract 4 8).data.toList := by
    have := val_bd4 (s.extract 4 8) (by rw [ByteArray.size_extract]; omega)
    unfold numV
    rw [if_pos ((numOk_iff _).2 (by omega))]
  unfold saidOf
  rw [if_neg (show ¬ wrongV n lane s ≠ 0 by omega)]
  rcases hin with hk | hk | hk | hk
  · rw [if_pos hk]
    have hn : newV s = 0 := by
      unfold wrongV at hv
      rw [if_neg (by omega)] at hv
      split at hv
      · omega
      split at hv
      · omega
      split at hv
      · omega
      split at hv
      · omega
      split at hv
      · omega
      split at hv
      · omega
      split at hv
      · omega
      rw [if_neg (by omega)] at hv
      exact hv
    have hok : numOk (s.extract 8 16) = true ∧ numOk (s.extract 16 24) = true ∧ numOk (s.extract 24 32) = true := by
      unfold newV at hn
      split at hn
      · omega
      split at hn
      · omega
      split at hn
      · omega
      rename_i a b c
      simp only [not_or, Bool.not_eq_false] at a b c
      exact ⟨a.1, b.1, c.1⟩
    obtain ⟨o1, o2, o3⟩ := hok
    have e1 : numV (s.extract 8 16) = val (s.extract 8 16).data.toList := by unfold numV; rw [if_pos o1]
    have e2 : numV (s.extract 16 24) = val (s.extract 16 24).data.toList := by unfold numV; rw [if_pos o2]
    have e3 : numV (s.extract 24 32) = val (s.extract 24 32).data.toList := by unfold numV; rw [if_pos o3]
    rw [e1, e2, e3, h4]
    rw [hk] at hsplit hcode
    exact read_right lane n s _ _ _ _ _ _ _ _ _ w hs hsplit hcode (fun W => meaning_new _ _ _ _ _ _ _ W ((numOk_iff _).1 o1) ((numOk_iff _).1 o2) ((numOk_iff _).1 o3))
  · rw [if_neg (by omega), if_pos hk, h4]
    rw [hk] at hsplit hcode
    exact read_right lane n s _ _ _ _ _ _ _ _ _ w hs hsplit hcode (fun W => meaning_cancel _ _ _ _ _ _ _ W)
  · rw [if_neg (by omega), if_neg (by omega), if_pos hk]
    rw [hk] at hsplit hcode
    exact read_right lane n s _ _ _ _ _ _ _ _ _ w hs hsplit hcode (fun W => meaning_kill _ _ _ _ _ _ _ W)
  · rw [if_neg (by omega), if_neg (by omega), if_neg (by omega)]
    rw [hk] at hsplit hcode
    exact read_right lane n s _ _ _ _ _ _ _ _ _ w hs hsplit hcode (fun W => meaning_unkill _ _ _ _ _ _ _ W)

end Go.Proofs.Ytjhifhoniimfgaa

