import Derived.Test.YtjhifhoniimfgaaGreatG22
import Derived.Test.YtjhifhoniimfgaaGreatG23
/-
  The document's reading of a frame: the code of one that is wrong, behind its account.
-/
namespace Go.Proofs.YtjhifhoniimfgaaGreat
open Go.RowKit

set_option maxRecDepth 100000 in
set_option maxHeartbeats 1000000 in
theorem wrong_kill_3  (gb : Nat) (a : Option Addr) (n c : Nat) (lane : Int) (s : ByteArray) (w : World) (_hc : w.cell? ⟨gb, 5, none⟩ = some (.slice a n c)) (hs : s.size = 32) (hk : byteAt s 0 = 3) (hl : lane = 1) (ha : byteAt s 1 < n) (h3 : byteAt s 3 = 0) (h2 : byteAt s 2 = 0) (hz : zeroB (s.extract 8 32) = true) (hz4 : zeroB (s.extract 4 8) = true) :
    Calls Tryz.prog 67 #[.pointer (some ⟨gb, 0, none⟩), .int .i64 lane, .string s] w fun e w' => e = .returned (.int .i64 (wrongV n lane s)) ∧ Below w.heap.size w w' := by
  have HV : Hid (wrongV n lane s = 0) := by
    show wrongV n lane s = 0
    unfold wrongV
    rw [hk]
    rw [if_neg (by omega), if_neg (by simp [hl]), if_neg (by omega)]
    rw [if_neg (by omega), if_neg (by omega), if_neg (by simp [h2, hz])]
    rw [if_pos (by omega), hz4]; rfl
  have hgb := World.block_lt_of_cell? w _ _hc
  have e0 : s[0].toNat = 3 := by rw [← byteAt_eq s 0 (by omega)]; exact hk
  have h255_1 : (s[1].toNat : Int) ≤ 255 := by have := UInt8.toNat_lt s[1]; omega
  have h255_2 : (s[2].toNat : Int) ≤ 255 := by have := UInt8.toNat_lt s[2]; omega
  have h255_3 : (s[3].toNat : Int) ≤ 255 := by have := UInt8.toNat_lt s[3]; omega
  have ha2 : (s[1].toNat : Int) < (n : Int) := by rw [byteAt_eq s 1 (by omega)] at ha; omega
  have h3b : ((s[3].toNat : Int) != 0) = false := by rw [byteAt_eq s 3 (by omega)] at h3; simp [h3]
  have h2b : ((s[2].toNat : Int) != 0) = false := by rw [byteAt_eq s 2 (by omega)] at h2; simp [h2]
  have HS : Hid (s.size = 32) := hs
  clear hk ha h3 h2
  go_enter Tryz.func67, Tryz.ntmps67
  go_wp2_with (first | (go_at_call 75; refine (zero_any _ _ (size_extract_le _ _ _ HS.out)).mono ?_; rintro e w' ⟨rfl, rfl⟩) | (go_at_call 68; refine (number_any _ _ (size_extract_le _ _ _ HS.out)).mono ?_; rintro e w' ⟨rfl, rfl⟩))
  go_quiet (fail)
  go_wp2_with (first | (go_at_call 75; refine (zero_any _ _ (size_extract_le _ _ _ HS.out)).mono ?_; rintro e w' ⟨rfl, rfl⟩) | (go_at_call 68; refine (number_any _ _ (size_extract_le _ _ _ HS.out)).mono ?_; rintro e w' ⟨rfl, rfl⟩))
  go_ret
  exact ⟨by rw [HV.out]; rfl, below_drewN ((Below.refl _ _).alloc (Nat.le_refl _) _) _⟩

set_option maxRecDepth 100000 in
set_option maxHeartbeats 1000000 in
theorem wrong_rest3_4  (gb : Nat) (a : Option Addr) (n c : Nat) (lane : Int) (s : ByteArray) (w : World) (_hc : w.cell? ⟨gb, 5, none⟩ = some (.slice a n c)) (hs : s.size = 32) (hk : byteAt s 0 = 4) (hl : lane = 1) (ha : byteAt s 1 < n) (h3 : byteAt s 3 ≠ 0) :
    Calls Tryz.prog 67 #[.pointer (some ⟨gb, 0, none⟩), .int .i64 lane, .string s] w fun e w' => e = .returned (.int .i64 (wrongV n lane s)) ∧ Below w.heap.size w w' := by
  have HV : Hid (wrongV n lane s = 5) := by
    show wrongV n lane s = 5
    unfold wrongV
    rw [hk]
    rw [if_neg (by omega), if_neg (by simp [hl]), if_neg (by omega)]
    rw [if_neg (by omega), if_pos h3]
  have hgb := World.block_lt_of_cell? w _ _hc
  have e0 : s[0].toNat = 4 := by rw [← byteAt_eq s 0 (by omega)]; exact hk
  have h255_1 : (s[1].toNat : Int) ≤ 255 := by have := UInt8.toNat_lt s[1]; omega
  have h255_2 : (s[2].toNat : Int) ≤ 255 := by have := UInt8.toNat_lt s[2]; omega
  have h255_3 : (s[3].toNat : Int) ≤ 255 := by have := UInt8.toNat_lt s[3]; omega
  have ha2 : (s[1].toNat : Int) < (n : Int) := by rw [byteAt_eq s 1 (by omega)] at ha; omega
  have h3b : ((s[3].toNat : Int) != 0) = true := by rw [byteAt_eq s 3 (by omega)] at h3; simp; omega
  have HS : Hid (s.size = 32) := hs
  clear hk ha h3
  go_enter Tryz.func67, Tryz.ntmps67
  go_wp2_with (first | (go_at_call 75; refine (zero_any _ _ (size_extract_le _ _ _ HS.out)).mono ?_; rintro e w' ⟨rfl, rfl⟩) | (go_at_call 68; refine (number_any _ _ (size_extract_le _ _ _ HS.out)).mono ?_; rintro e w' ⟨rfl, rfl⟩))
  go_quiet (fail)
  go_wp2_with (first | (go_at_call 75; refine (zero_any _ _ (size_extract_le _ _ _ HS.out)).mono ?_; rintro e w' ⟨rfl, rfl⟩) | (go_at_call 68; refine (number_any _ _ (size_extract_le _ _ _ HS.out)).mono ?_; rintro e w' ⟨rfl, rfl⟩))
  go_ret
  exact ⟨by rw [HV.out]; rfl, below_drewN ((Below.refl _ _).alloc (Nat.le_refl _) _) _⟩

set_option maxRecDepth 100000 in
set_option maxHeartbeats 1000000 in
theorem wrong_rest2_4  (gb : Nat) (a : Option Addr) (n c : Nat) (lane : Int) (s : ByteArray) (w : World) (_hc : w.cell? ⟨gb, 5, none⟩ = some (.slice a n c)) (hs : s.size = 32) (hk : byteAt s 0 = 4) (hl : lane = 1) (ha : byteAt s 1 < n) (h3 : byteAt s 3 = 0) (h2 : byteAt s 2 ≠ 0) :
    Calls Tryz.prog 67 #[.pointer (some ⟨gb, 0, none⟩), .int .i64 lane, .string s] w fun e w' => e = .returned (.int .i64 (wrongV n lane s)) ∧ Below w.heap.size w w' := by
  have HV : Hid (wrongV n lane s = 5) := by
    show wrongV n lane s = 5
    unfold wrongV
    rw [hk]
    rw [if_neg (by omega), if_neg (by simp [hl]), if_neg (by omega)]
    rw [if_neg (by omega), if_neg (by omega), if_pos ⟨by omega, .inl h2⟩]
  have hgb := World.block_lt_of_cell? w _ _hc
  have e0 : s[0].toNat = 4 := by rw [← byteAt_eq s 0 (by omega)]; exact hk
  have h255_1 : (s[1].toNat : Int) ≤ 255 := by have := UInt8.toNat_lt s[1]; omega
  have h255_2 : (s[2].toNat : Int) ≤ 255 := by have := UInt8.toNat_lt s[2]; omega
  have h255_3 : (s[3].toNat : Int) ≤ 255 := by have := UInt8.toNat_lt s[3]; omega
  have ha2 : (s[1].toNat : Int) < (n : Int) := by rw [byteAt_eq s 1 (by omega)] at ha; omega
  have h3b : ((s[3].toNat : Int) != 0) = false := by rw [byteAt_eq s 3 (by omega)] at h3; simp [h3]
  have h2b : ((s[2].toNat : Int) != 0) = true := by rw [byteAt_eq s 2 (by omega)] at h2; simp; omega
  have HS : Hid (s.size = 32) := hs
  clear hk ha h3 h2
  go_enter Tryz.func67, Tryz.ntmps67
  go_wp2_with (first | (go_at_call 75; refine (zero_any _ _ (size_extract_le _ _ _ HS.out)).mono ?_; rintro e w' ⟨rfl, rfl⟩) | (go_at_call 68; refine (number_any _ _ (size_extract_le _ _ _ HS.out)).mono ?_; rintro e w' ⟨rfl, rfl⟩))
  go_quiet (fail)
  go_wp2_with (first | (go_at_call 75; refine (zero_any _ _ (size_extract_le _ _ _ HS.out)).mono ?_; rintro e w' ⟨rfl, rfl⟩) | (go_at_call 68; refine (number_any _ _ (size_extract_le _ _ _ HS.out)).mono ?_; rintro e w' ⟨rfl, rfl⟩))
  go_ret
  exact ⟨by rw [HV.out]; rfl, below_drewN ((Below.refl _ _).alloc (Nat.le_refl _) _) _⟩

set_option maxRecDepth 100000 in
set_option maxHeartbeats 1000000 in
theorem wrong_restz_4  (gb : Nat) (a : Option Addr) (n c : Nat) (lane : Int) (s : ByteArray) (w : World) (_hc : w.cell? ⟨gb, 5, none⟩ = some (.slice a n c)) (hs : s.size = 32) (hk : byteAt s 0 = 4) (hl : lane = 1) (ha : byteAt s 1 < n) (h3 : byteAt s 3 = 0) (h2 : byteAt s 2 = 0) (hz : zeroB (s.extract 8 32) = false) :
    Calls Tryz.prog 67 #[.pointer (some ⟨gb, 0, none⟩), .int .i64 lane, .string s] w fun e w' => e = .returned (.int .i64 (wrongV n lane s)) ∧ Below w.heap.size w w' := by
  have HV : Hid (wrongV n lane s = 5) := by
    show wrongV n lane s = 5
    unfold wrongV
    rw [hk]
    rw [if_neg (by omega), if_neg (by simp [hl]), if_neg (by omega)]
    rw [if_neg (by omega), if_neg (by omega), if_pos ⟨by omega, .inr hz⟩]
  have hgb := World.block_lt_of_cell? w _ _hc
  have e0 : s[0].toNat = 4 := by rw [← byteAt_eq s 0 (by omega)]; exact hk
  have h255_1 : (s[1].toNat : Int) ≤ 255 := by have := UInt8.toNat_lt s[1]; omega
  have h255_2 : (s[2].toNat : Int) ≤ 255 := by have := UInt8.toNat_lt s[2]; omega
  have h255_3 : (s[3].toNat : Int) ≤ 255 := by have := UInt8.toNat_lt s[3]; omega
  have ha2 : (s[1].toNat : Int) < (n : Int) := by rw [byteAt_eq s 1 (by omega)] at ha; omega
  have h3b : ((s[3].toNat : Int) != 0) = false := by rw [byteAt_eq s 3 (by omega)] at h3; simp [h3]
  have h2b : ((s[2].toNat : Int) != 0) = false := by rw [byteAt_eq s 2 (by omega)] at h2; simp [h2]
  have HS : Hid (s.size = 32) := hs
  clear hk ha h3 h2
  go_enter Tryz.func67, Tryz.ntmps67
  go_wp2_with (first | (go_at_call 75; refine (zero_any _ _ (size_extract_le _ _ _ HS.out)).mono ?_; rintro e w' ⟨rfl, rfl⟩) | (go_at_call 68; refine (number_any _ _ (size_extract_le _ _ _ HS.out)).mono ?_; rintro e w' ⟨rfl, rfl⟩))
  go_quiet (fail)
  go_wp2_with (first | (go_at_call 75; refine (zero_any _ _ (size_extract_le _ _ _ HS.out)).mono ?_; rintro e w' ⟨rfl, rfl⟩) | (go_at_call 68; refine (number_any _ _ (size_extract_le _ _ _ HS.out)).mono ?_; rintro e w' ⟨rfl, rfl⟩))
  go_ret
  exact ⟨by rw [HV.out]; rfl, below_drewN ((Below.refl _ _).alloc (Nat.le_refl _) _) _⟩

set_option maxRecDepth 100000 in
set_option maxHeartbeats 1000000 in
theorem wrong_clean_4  (gb : Nat) (a : Option Addr) (n c : Nat) (lane : Int) (s : ByteArray) (w : World) (_hc : w.cell? ⟨gb, 5, none⟩ = some (.slice a n c)) (hs : s.size = 32) (hk : byteAt s 0 = 4) (hl : lane = 1) (ha : byteAt s 1 < n) (h3 : byteAt s 3 = 0) (h2 : byteAt s 2 = 0) (hz : zeroB (s.extract 8 32) = true) (hz4 : zeroB (s.extract 4 8) = false) :
    Calls Tryz.prog 67 #[.pointer (some ⟨gb, 0, none⟩), .int .i64 lane, .string s] w fun e w' => e = .returned (.int .i64 (wrongV n lane s)) ∧ Below w.heap.size w w' := by
  have HV : Hid (wrongV n lane s = 5) := by
    show wrongV n lane s = 5
    unfold wrongV
    rw [hk]
    rw [if_neg (by omega), if_neg (by simp [hl]), if_neg (by omega)]
    rw [if_neg (by omega), if_neg (by omega), if_neg (by simp [h2, hz])]
    rw [if_pos (by omega), hz4]; rfl
  have hgb := World.block_lt_of_cell? w _ _hc
  have e0 : s[0].toNat = 4 := by rw [← byteAt_eq s 0 (by omega)]; exact hk
  have h255_1 : (s[1].toNat : Int) ≤ 255 := by have := UInt8.toNat_lt s[1]; omega
  have h255_2 : (s[2].toNat : Int) ≤ 255 := by have := UInt8.toNat_lt s[2]; omega
  have h255_3 : (s[3].toNat : Int) ≤ 255 := by have := UInt8.toNat_lt s[3]; omega
  have ha2 : (s[1].toNat : Int) < (n : Int) := by rw [byteAt_eq s 1 (by omega)] at ha; omega
  have h3b : ((s[3].toNat : Int) != 0) = false := by rw [byteAt_eq s 3 (by omega)] at h3; simp [h3]
  have h2b : ((s[2].toNat : Int) != 0) = false := by rw [byteAt_eq s 2 (by omega)] at h2; simp [h2]
  have HS : Hid (s.size = 32) := hs
  clear hk ha h3 h2
  go_enter Tryz.func67, Tryz.ntmps67
  go_wp2_with (first | (go_at_call 75; refine (zero_any _ _ (size_extract_le _ _ _ HS.out)).mono ?_; rintro e w' ⟨rfl, rfl⟩) | (go_at_call 68; refine (number_any _ _ (size_extract_le _ _ _ HS.out)).mono ?_; rintro e w' ⟨rfl, rfl⟩))
  go_quiet (fail)
  go_wp2_with (first | (go_at_call 75; refine (zero_any _ _ (size_extract_le _ _ _ HS.out)).mono ?_; rintro e w' ⟨rfl, rfl⟩) | (go_at_call 68; refine (number_any _ _ (size_extract_le _ _ _ HS.out)).mono ?_; rintro e w' ⟨rfl, rfl⟩))
  go_ret
  exact ⟨by rw [HV.out]; rfl, below_drewN ((Below.refl _ _).alloc (Nat.le_refl _) _) _⟩

set_option maxRecDepth 100000 in
set_option maxHeartbeats 1000000 in
theorem wrong_kill_4  (gb : Nat) (a : Option Addr) (n c : Nat) (lane : Int) (s : ByteArray) (w : World) (_hc : w.cell? ⟨gb, 5, none⟩ = some (.slice a n c)) (hs : s.size = 32) (hk : byteAt s 0 = 4) (hl : lane = 1) (ha : byteAt s 1 < n) (h3 : byteAt s 3 = 0) (h2 : byteAt s 2 = 0) (hz : zeroB (s.extract 8 32) = true) (hz4 : zeroB (s.extract 4 8) = true) :
    Calls Tryz.prog 67 #[.pointer (some ⟨gb, 0, none⟩), .int .i64 lane, .string s] w fun e w' => e = .returned (.int .i64 (wrongV n lane s)) ∧ Below w.heap.size w w' := by
  have HV : Hid (wrongV n lane s = 0) := by
    show wrongV n lane s = 0
    unfold wrongV
    rw [hk]
    rw [if_neg (by omega), if_neg (by simp [hl]), if_neg (by omega)]
    rw [if_neg (by omega), if_neg (by omega), if_neg (by simp [h2, hz])]
    rw [if_pos (by omega), hz4]; rfl
  have hgb := World.block_lt_of_cell? w _ _hc
  have e0 : s[0].toNat = 4 := by rw [← byteAt_eq s 0 (by omega)]; exact hk
  have h255_1 : (s[1].toNat : Int) ≤ 255 := by have := UInt8.toNat_lt s[1]; omega
  have h255_2 : (s[2].toNat : Int) ≤ 255 := by have := UInt8.toNat_lt s[2]; omega
  have h255_3 : (s[3].toNat : Int) ≤ 255 := by have := UInt8.toNat_lt s[3]; omega
  have ha2 : (s[1].toNat : Int) < (n : Int) := by rw [byteAt_eq s 1 (by omega)] at ha; omega
  have h3b : ((s[3].toNat : Int) != 0) = false := by rw [byteAt_eq s 3 (by omega)] at h3; simp [h3]
  have h2b : ((s[2].toNat : Int) != 0) = false := by rw [byteAt_eq s 2 (by omega)] at h2; simp [h2]
  have HS : Hid (s.size = 32) := hs
  clear hk ha h3 h2
  go_enter Tryz.func67, Tryz.ntmps67
  go_wp2_with (first | (go_at_call 75; refine (zero_any _ _ (size_extract_le _ _ _ HS.out)).mono ?_; rintro e w' ⟨rfl, rfl⟩) | (go_at_call 68; refine (number_any _ _ (size_extract_le _ _ _ HS.out)).mono ?_; rintro e w' ⟨rfl, rfl⟩))
  go_quiet (fail)
  go_wp2_with (first | (go_at_call 75; refine (zero_any _ _ (size_extract_le _ _ _ HS.out)).mono ?_; rintro e w' ⟨rfl, rfl⟩) | (go_at_call 68; refine (number_any _ _ (size_extract_le _ _ _ HS.out)).mono ?_; rintro e w' ⟨rfl, rfl⟩))
  go_ret
  exact ⟨by rw [HV.out]; rfl, below_drewN ((Below.refl _ _).alloc (Nat.le_refl _) _) _⟩

end Go.Proofs.YtjhifhoniimfgaaGreat

/-
  The document's reading of a frame, whole.
-/
namespace Go.Proofs.YtjhifhoniimfgaaGreat
open Go.RowKit

theorem wrong_any (gb : Nat) (a : Option Addr) (n c : Nat) (lane : Int) (s : ByteArray) (w : World) (hc : w.cell? ⟨gb, 5, none⟩ = some (.slice a n c)) :
    Calls Tryz.prog 67 #[.pointer (some ⟨gb, 0, none⟩), .int .i64 lane, .string s] w fun e w' => e = .returned (.int .i64 (wrongV n lane s)) ∧ Below w.heap.size w w' := by
  by_cases hs : s.size = 32
  rotate_left
  · exact wrong_size gb a n c lane s w hc hs
  by_cases hk : byteAt s 0 < 1 ∨ 4 < byteAt s 0
  · exact wrong_kind gb a n c lane s w hc hs hk
  have hacc : ∀ (p : Prop), (n ≤ byteAt s 1 → p) → (byteAt s 1 < n → p) → p := fun p h1 h2 => by
    by_cases h : n ≤ byteAt s 1
    · exact h1 h
    · exact h2 (by omega)
  rcases (show byteAt s 0 = 1 ∨ byteAt s 0 = 2 ∨ byteAt s 0 = 3 ∨ byteAt s 0 = 4 by omega) with hk | hk | hk | hk
  · by_cases hl : lane = 0
    rotate_left
    · exact wrong_lane1 gb a n c lane s w hc hs hk hl
    refine hacc _ (fun ha => wrong_acc1 gb a n c lane s w hc hs hk hl ha) (fun ha => ?_)
    by_cases h2 : 1 < byteAt s 2
    · exact wrong_side gb a n c lane s w hc hs hk hl ha h2
    have h2 : byteAt s 2 ≤ 1 := by omega
    by_cases h3 : byteAt s 3 = 0
    rotate_left
    · exact wrong_rest1 gb a n c lane s w hc hs hk hl ha h2 h3
    cases hp : numOk (s.extract 8 16)
    · exact wrong_price1 gb a n c lane s w hc hs hk hl ha h2 h3 hp
    by_cases hp2 : numV (s.extract 8 16) < 1
    · exact wrong_price2 gb a n c lane s w hc hs hk hl ha h2 h3 hp hp2
    have hp2 : 1 ≤ numV (s.extract 8 16) := by omega
    cases hq : numOk (s.extract 16 24)
    · exact wrong_qty1 gb a n c lane s w hc hs hk hl ha h2 h3 hp hp2 hq
    by_cases hq2 : numV (s.extract 16 24) < 1
    · exact wrong_qty2 gb a n c lane s w hc hs hk hl ha h2 h3 hp hp2 hq hq2
    have hq2 : 1 ≤ numV (s.extract 16 24) := by omega
    cases hf : numOk (s.extract 24 32)
    · exact wrong_life1 gb a n c lane s w hc hs hk hl ha h2 h3 hp hp2 hq hq2 hf
    by_cases hf2 : numV (s.extract 24 32) < 1
    · exact wrong_life2 gb a n c lane s w hc hs hk hl ha h2 h3 hp hp2 hq hq2 hf hf2
    have hf2 : 1 ≤ numV (s.extract 24 32) := by omega
    by_cases hf3 : 1000000 < numV (s.extract 24 32)
    · exact wrong_life3 gb a n c lane s w hc hs hk hl ha h2 h3 hp hp2 hq hq2 hf hf2 hf3
    · exact wrong_new gb a n c lane s w hc hs hk hl ha h2 h3 hp hp2 hq hq2 hf hf2 (by omega)
  · by_cases hl : lane = 0
    rotate_left
    · exact wrong_lane2 gb a n c lane s w hc hs hk hl
    refine hacc _ (fun ha => wrong_acc2 gb a n c lane s w hc hs hk hl ha) (fun ha => ?_)
    by_cases h3 : byteAt s 3 = 0
    rotate_left
    · exact wrong_rest3_2 gb a n c lane s w hc hs hk hl ha h3
    by_cases h2 : byteAt s 2 = 0
    rotate_left
    · exact wrong_rest2_2 gb a n c lane s w hc hs hk hl ha h3 h2
    cases hz : zeroB (s.extract 8 32)
    · exact wrong_restz_2 gb a n c lane s w hc hs hk hl ha h3 h2 hz
    · exact wrong_cancel gb a n c lane s w hc hs hk hl ha h3 h2 hz
  · by_cases hl : lane = 1
    rotate_left
    · exact wrong_lane3 gb a n c lane s w hc hs hk hl
    refine hacc _ (fun ha => wrong_acc3 gb a n c lane s w hc hs hk hl ha) (fun ha => ?_)
    by_cases h3 : byteAt s 3 = 0
    rotate_left
    · exact wrong_rest3_3 gb a n c lane s w hc hs hk hl ha h3
    by_cases h2 : byteAt s 2 = 0
    rotate_left
    · exact wrong_rest2_3 gb a n c lane s w hc hs hk hl ha h3 h2
    cases hz : zeroB (s.extract 8 32)
    · exact wrong_restz_3 gb a n c lane s w hc hs hk hl ha h3 h2 hz
    cases hz4 : zeroB (s.extract 4 8)
    · exact wrong_clean_3 gb a n c lane s w hc hs hk hl ha h3 h2 hz hz4
    · exact wrong_kill_3 gb a n c lane s w hc hs hk hl ha h3 h2 hz hz4
  · by_cases hl : lane = 1
    rotate_left
    · exact wrong_lane4 gb a n c lane s w hc hs hk hl
    refine hacc _ (fun ha => wrong_acc4 gb a n c lane s w hc hs hk hl ha) (fun ha => ?_)
    by_cases h3 : byteAt s 3 = 0
    rotate_left
    · exact wrong_rest3_4 gb a n c lane s w hc hs hk hl ha h3
    by_cases h2 : byteAt s 2 = 0
    rotate_left
    · exact wrong_rest2_4 gb a n c lane s w hc hs hk hl ha h3 h2
    cases hz : zeroB (s.extract 8 32)
    · exact wrong_restz_4 gb a n c lane s w hc hs hk hl ha h3 h2 hz
    cases hz4 : zeroB (s.extract 4 8)
    · exact wrong_clean_4 gb a n c lane s w hc hs hk hl ha h3 h2 hz hz4
    · exact wrong_kill_4 gb a n c lane s w hc hs hk hl ha h3 h2 hz hz4

end Go.Proofs.YtjhifhoniimfgaaGreat

