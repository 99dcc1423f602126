import Derived.Test.YtjhifhoniimfgaaGreatG22
/-
  The document's reading of a frame: the code of one that is wrong, behind its account.
-/
namespace Go.Proofs.YtjhifhoniimfgaaGreat
open Go.RowKit

set_option maxRecDepth 100000 in
set_option maxHeartbeats 1000000 in
theorem wrong_life2  (gb : Nat) (a : Option Addr) (n c : Nat) (lane : Int) (s : ByteArray) (w : World) (_hc : w.cell? ⟨gb, 5, none⟩ = some (.slice a n c)) (hs : s.size = 32) (hk : byteAt s 0 = 1) (hl : lane = 0) (ha : byteAt s 1 < n) (h2 : byteAt s 2 ≤ 1) (h3 : byteAt s 3 = 0) (hp : numOk (s.extract 8 16) = true) (hp2 : 1 ≤ numV (s.extract 8 16)) (hq : numOk (s.extract 16 24) = true) (hq2 : 1 ≤ numV (s.extract 16 24)) (hf : numOk (s.extract 24 32) = true) (hf2 : numV (s.extract 24 32) < 1) :
    Calls Tryz.prog 67 #[.pointer (some ⟨gb, 0, none⟩), .int .i64 lane, .string s] w fun e w' => e = .returned (.int .i64 (wrongV n lane s)) ∧ Below w.heap.size w w' := by
  have HV : Hid (wrongV n lane s = 8) := by
    show wrongV n lane s = 8
    unfold wrongV
    rw [hk]
    rw [if_neg (by omega), if_neg (by simp [hl]), if_neg (by omega)]
    rw [if_neg (by omega), if_neg (by omega), if_neg (by simp), if_neg (by omega), if_neg (by omega)]
    unfold newV
    rw [if_neg (by rintro (h | h); (rw [hp] at h; cases h); omega), if_neg (by rintro (h | h); (rw [hq] at h; cases h); omega), if_pos (.inr (.inl hf2))]
  have hgb := World.block_lt_of_cell? w _ _hc
  have e0 : s[0].toNat = 1 := by rw [← byteAt_eq s 0 (by omega)]; exact hk
  have h255_1 : (s[1].toNat : Int) ≤ 255 := by have := UInt8.toNat_lt s[1]; omega
  have ha2 : (s[1].toNat : Int) < (n : Int) := by rw [byteAt_eq s 1 (by omega)] at ha; omega
  have h2b : (s[2].toNat : Int) ≤ 1 := by rw [byteAt_eq s 2 (by omega)] at h2; omega
  have h3b : ((s[3].toNat : Int) != 0) = false := by rw [byteAt_eq s 3 (by omega)] at h3; simp [h3]
  clear hk ha h2 h3
  have z8 := fun w => zero_any (s.extract 8 32) w (size_extract_le _ _ _ hs)
  have n8 := fun w => number_any (s.extract 8 16) w (size_extract_le _ _ _ hs)
  simp only [hp] at n8
  have n16 := fun w => number_any (s.extract 16 24) w (size_extract_le _ _ _ hs)
  simp only [hq] at n16
  have n24 := fun w => number_any (s.extract 24 32) w (size_extract_le _ _ _ hs)
  simp only [hf] at n24
  clear hp hq hf
  generalize zeroB (s.extract 8 32) = zb at z8
  generalize numV (s.extract 8 16) = v8 at *
  generalize numV (s.extract 16 24) = v16 at *
  generalize numV (s.extract 24 32) = v24 at *
  go_enter Tryz.func67, Tryz.ntmps67
  go_wp2_with fail
  go_quiet (fail)
  go_wp2_with fail
  refine (z8 _).mono ?_
  rintro e w' ⟨rfl, rfl⟩
  go_wp2_with fail
  refine (n8 _).mono ?_
  rintro e w' ⟨rfl, rfl⟩
  go_wp2_with fail
  refine (n16 _).mono ?_
  rintro e w' ⟨rfl, rfl⟩
  go_wp2_with fail
  refine (n24 _).mono ?_
  rintro e w' ⟨rfl, rfl⟩
  clear z8 n8 n16 n24
  go_wp2_with fail
  go_ret
  exact ⟨by rw [HV.out]; rfl, below_drewN ((Below.refl _ _).alloc (Nat.le_refl _) _) _⟩

set_option maxRecDepth 100000 in
set_option maxHeartbeats 1000000 in
theorem wrong_life3  (gb : Nat) (a : Option Addr) (n c : Nat) (lane : Int) (s : ByteArray) (w : World) (_hc : w.cell? ⟨gb, 5, none⟩ = some (.slice a n c)) (hs : s.size = 32) (hk : byteAt s 0 = 1) (hl : lane = 0) (ha : byteAt s 1 < n) (h2 : byteAt s 2 ≤ 1) (h3 : byteAt s 3 = 0) (hp : numOk (s.extract 8 16) = true) (hp2 : 1 ≤ numV (s.extract 8 16)) (hq : numOk (s.extract 16 24) = true) (hq2 : 1 ≤ numV (s.extract 16 24)) (hf : numOk (s.extract 24 32) = true) (hf2 : 1 ≤ numV (s.extract 24 32)) (hf3 : 1000000 < numV (s.extract 24 32)) :
    Calls Tryz.prog 67 #[.pointer (some ⟨gb, 0, none⟩), .int .i64 lane, .string s] w fun e w' => e = .returned (.int .i64 (wrongV n lane s)) ∧ Below w.heap.size w w' := by
  have HV : Hid (wrongV n lane s = 8) := by
    show wrongV n lane s = 8
    unfold wrongV
    rw [hk]
    rw [if_neg (by omega), if_neg (by simp [hl]), if_neg (by omega)]
    rw [if_neg (by omega), if_neg (by omega), if_neg (by simp), if_neg (by omega), if_neg (by omega)]
    unfold newV
    rw [if_neg (by rintro (h | h); (rw [hp] at h; cases h); omega), if_neg (by rintro (h | h); (rw [hq] at h; cases h); omega), if_pos (.inr (.inr hf3))]
  have hgb := World.block_lt_of_cell? w _ _hc
  have e0 : s[0].toNat = 1 := by rw [← byteAt_eq s 0 (by omega)]; exact hk
  have h255_1 : (s[1].toNat : Int) ≤ 255 := by have := UInt8.toNat_lt s[1]; omega
  have ha2 : (s[1].toNat : Int) < (n : Int) := by rw [byteAt_eq s 1 (by omega)] at ha; omega
  have h2b : (s[2].toNat : Int) ≤ 1 := by rw [byteAt_eq s 2 (by omega)] at h2; omega
  have h3b : ((s[3].toNat : Int) != 0) = false := by rw [byteAt_eq s 3 (by omega)] at h3; simp [h3]
  clear hk ha h2 h3
  have z8 := fun w => zero_any (s.extract 8 32) w (size_extract_le _ _ _ hs)
  have n8 := fun w => number_any (s.extract 8 16) w (size_extract_le _ _ _ hs)
  simp only [hp] at n8
  have n16 := fun w => number_any (s.extract 16 24) w (size_extract_le _ _ _ hs)
  simp only [hq] at n16
  have n24 := fun w => number_any (s.extract 24 32) w (size_extract_le _ _ _ hs)
  simp only [hf] at n24
  clear hp hq hf
  generalize zeroB (s.extract 8 32) = zb at z8
  generalize numV (s.extract 8 16) = v8 at *
  generalize numV (s.extract 16 24) = v16 at *
  generalize numV (s.extract 24 32) = v24 at *
  go_enter Tryz.func67, Tryz.ntmps67
  go_wp2_with fail
  go_quiet (fail)
  go_wp2_with fail
  refine (z8 _).mono ?_
  rintro e w' ⟨rfl, rfl⟩
  go_wp2_with fail
  refine (n8 _).mono ?_
  rintro e w' ⟨rfl, rfl⟩
  go_wp2_with fail
  refine (n16 _).mono ?_
  rintro e w' ⟨rfl, rfl⟩
  go_wp2_with fail
  refine (n24 _).mono ?_
  rintro e w' ⟨rfl, rfl⟩
  clear z8 n8 n16 n24
  go_wp2_with fail
  go_ret
  exact ⟨by rw [HV.out]; rfl, below_drewN ((Below.refl _ _).alloc (Nat.le_refl _) _) _⟩

set_option maxRecDepth 100000 in
set_option maxHeartbeats 1000000 in
theorem wrong_new  (gb : Nat) (a : Option Addr) (n c : Nat) (lane : Int) (s : ByteArray) (w : World) (_hc : w.cell? ⟨gb, 5, none⟩ = some (.slice a n c)) (hs : s.size = 32) (hk : byteAt s 0 = 1) (hl : lane = 0) (ha : byteAt s 1 < n) (h2 : byteAt s 2 ≤ 1) (h3 : byteAt s 3 = 0) (hp : numOk (s.extract 8 16) = true) (hp2 : 1 ≤ numV (s.extract 8 16)) (hq : numOk (s.extract 16 24) = true) (hq2 : 1 ≤ numV (s.extract 16 24)) (hf : numOk (s.extract 24 32) = true) (hf2 : 1 ≤ numV (s.extract 24 32)) (hf3 : numV (s.extract 24 32) ≤ 1000000) :
    Calls Tryz.prog 67 #[.pointer (some ⟨gb, 0, none⟩), .int .i64 lane, .string s] w fun e w' => e = .returned (.int .i64 (wrongV n lane s)) ∧ Below w.heap.size w w' := by
  have HV : Hid (wrongV n lane s = 0) := by
    show wrongV n lane s = 0
    unfold wrongV
    rw [hk]
    rw [if_neg (by omega), if_neg (by simp [hl]), if_neg (by omega)]
    rw [if_neg (by omega), if_neg (by omega), if_neg (by simp), if_neg (by omega), if_neg (by omega)]
    unfold newV
    rw [if_neg (by rintro (h | h); (rw [hp] at h; cases h); omega), if_neg (by rintro (h | h); (rw [hq] at h; cases h); omega), if_neg (by rintro (h | h | h); (rw [hf] at h; cases h); omega; omega)]
  have hgb := World.block_lt_of_cell? w _ _hc
  have e0 : s[0].toNat = 1 := by rw [← byteAt_eq s 0 (by omega)]; exact hk
  have h255_1 : (s[1].toNat : Int) ≤ 255 := by have := UInt8.toNat_lt s[1]; omega
  have ha2 : (s[1].toNat : Int) < (n : Int) := by rw [byteAt_eq s 1 (by omega)] at ha; omega
  have h2b : (s[2].toNat : Int) ≤ 1 := by rw [byteAt_eq s 2 (by omega)] at h2; omega
  have h3b : ((s[3].toNat : Int) != 0) = false := by rw [byteAt_eq s 3 (by omega)] at h3; simp [h3]
  clear hk ha h2 h3
  have z8 := fun w => zero_any (s.extract 8 32) w (size_extract_le _ _ _ hs)
  have n8 := fun w => number_any (s.extract 8 16) w (size_extract_le _ _ _ hs)
  simp only [hp] at n8
  have n16 := fun w => number_any (s.extract 16 24) w (size_extract_le _ _ _ hs)
  simp only [hq] at n16
  have n24 := fun w => number_any (s.extract 24 32) w (size_extract_le _ _ _ hs)
  simp only [hf] at n24
  clear hp hq hf
  generalize zeroB (s.extract 8 32) = zb at z8
  generalize numV (s.extract 8 16) = v8 at *
  generalize numV (s.extract 16 24) = v16 at *
  generalize numV (s.extract 24 32) = v24 at *
  go_enter Tryz.func67, Tryz.ntmps67
  go_wp2_with fail
  go_quiet (fail)
  go_wp2_with fail
  refine (z8 _).mono ?_
  rintro e w' ⟨rfl, rfl⟩
  go_wp2_with fail
  refine (n8 _).mono ?_
  rintro e w' ⟨rfl, rfl⟩
  go_wp2_with fail
  refine (n16 _).mono ?_
  rintro e w' ⟨rfl, rfl⟩
  go_wp2_with fail
  refine (n24 _).mono ?_
  rintro e w' ⟨rfl, rfl⟩
  clear z8 n8 n16 n24
  go_wp2_with fail
  go_ret
  exact ⟨by rw [HV.out]; rfl, below_drewN ((Below.refl _ _).alloc (Nat.le_refl _) _) _⟩

end Go.Proofs.YtjhifhoniimfgaaGreat

/-
  The document's reading of a frame: the code of one that is wrong, behind its account.
-/
namespace Go.Proofs.YtjhifhoniimfgaaGreat
open Go.RowKit

set_option maxRecDepth 100000 in
set_option maxHeartbeats 1000000 in
theorem wrong_rest3_2  (gb : Nat) (a : Option Addr) (n c : Nat) (lane : Int) (s : ByteArray) (w : World) (_hc : w.cell? ⟨gb, 5, none⟩ = some (.slice a n c)) (hs : s.size = 32) (hk : byteAt s 0 = 2) (hl : lane = 0) (ha : byteAt s 1 < n) (h3 : byteAt s 3 ≠ 0) :
    Calls Tryz.prog 67 #[.pointer (some ⟨gb, 0, none⟩), .int .i64 lane, .string s] w fun e w' => e = .returned (.int .i64 (wrongV n lane s)) ∧ Below w.heap.size w w' := by
  have HV : Hid (wrongV n lane s = 5) := by
    show wrongV n lane s = 5
    unfold wrongV
    rw [hk]
    rw [if_neg (by omega), if_neg (by simp [hl]), if_neg (by omega)]
    rw [if_neg (by omega), if_pos h3]
  have hgb := World.block_lt_of_cell? w _ _hc
  have e0 : s[0].toNat = 2 := by rw [← byteAt_eq s 0 (by omega)]; exact hk
  have h255_1 : (s[1].toNat : Int) ≤ 255 := by have := UInt8.toNat_lt s[1]; omega
  have h255_2 : (s[2].toNat : Int) ≤ 255 := by have := UInt8.toNat_lt s[2]; omega
  have h255_3 : (s[3].toNat : Int) ≤ 255 := by have := UInt8.toNat_lt s[3]; omega
  have ha2 : (s[1].toNat : Int) < (n : Int) := by rw [byteAt_eq s 1 (by omega)] at ha; omega
  have h3b : ((s[3].toNat : Int) != 0) = true := by rw [byteAt_eq s 3 (by omega)] at h3; simp; omega
  have HS : Hid (s.size = 32) := hs
  clear hk ha h3
  go_enter Tryz.func67, Tryz.ntmps67
  go_wp2_with (first | (go_at_call 75; refine (zero_any _ _ (size_extract_le _ _ _ HS.out)).mono ?_; rintro e w' ⟨rfl, rfl⟩) | (go_at_call 68; refine (number_any _ _ (size_extract_le _ _ _ HS.out)).mono ?_; rintro e w' ⟨rfl, rfl⟩))
  go_quiet (fail)
  go_wp2_with (first | (go_at_call 75; refine (zero_any _ _ (size_extract_le _ _ _ HS.out)).mono ?_; rintro e w' ⟨rfl, rfl⟩) | (go_at_call 68; refine (number_any _ _ (size_extract_le _ _ _ HS.out)).mono ?_; rintro e w' ⟨rfl, rfl⟩))
  go_ret
  exact ⟨by rw [HV.out]; rfl, below_drewN ((Below.refl _ _).alloc (Nat.le_refl _) _) _⟩

set_option maxRecDepth 100000 in
set_option maxHeartbeats 1000000 in
theorem wrong_rest2_2  (gb : Nat) (a : Option Addr) (n c : Nat) (lane : Int) (s : ByteArray) (w : World) (_hc : w.cell? ⟨gb, 5, none⟩ = some (.slice a n c)) (hs : s.size = 32) (hk : byteAt s 0 = 2) (hl : lane = 0) (ha : byteAt s 1 < n) (h3 : byteAt s 3 = 0) (h2 : byteAt s 2 ≠ 0) :
    Calls Tryz.prog 67 #[.pointer (some ⟨gb, 0, none⟩), .int .i64 lane, .string s] w fun e w' => e = .returned (.int .i64 (wrongV n lane s)) ∧ Below w.heap.size w w' := by
  have HV : Hid (wrongV n lane s = 5) := by
    show wrongV n lane s = 5
    unfold wrongV
    rw [hk]
    rw [if_neg (by omega), if_neg (by simp [hl]), if_neg (by omega)]
    rw [if_neg (by omega), if_neg (by omega), if_pos ⟨by omega, .inl h2⟩]
  have hgb := World.block_lt_of_cell? w _ _hc
  have e0 : s[0].toNat = 2 := by rw [← byteAt_eq s 0 (by omega)]; exact hk
  have h255_1 : (s[1].toNat : Int) ≤ 255 := by have := UInt8.toNat_lt s[1]; omega
  have h255_2 : (s[2].toNat : Int) ≤ 255 := by have := UInt8.toNat_lt s[2]; omega
  have h255_3 : (s[3].toNat : Int) ≤ 255 := by have := UInt8.toNat_lt s[3]; omega
  have ha2 : (s[1].toNat : Int) < (n : Int) := by rw [byteAt_eq s 1 (by omega)] at ha; omega
  have h3b : ((s[3].toNat : Int) != 0) = false := by rw [byteAt_eq s 3 (by omega)] at h3; simp [h3]
  have h2b : ((s[2].toNat : Int) != 0) = true := by rw [byteAt_eq s 2 (by omega)] at h2; simp; omega
  have HS : Hid (s.size = 32) := hs
  clear hk ha h3 h2
  go_enter Tryz.func67, Tryz.ntmps67
  go_wp2_with (first | (go_at_call 75; refine (zero_any _ _ (size_extract_le _ _ _ HS.out)).mono ?_; rintro e w' ⟨rfl, rfl⟩) | (go_at_call 68; refine (number_any _ _ (size_extract_le _ _ _ HS.out)).mono ?_; rintro e w' ⟨rfl, rfl⟩))
  go_quiet (fail)
  go_wp2_with (first | (go_at_call 75; refine (zero_any _ _ (size_extract_le _ _ _ HS.out)).mono ?_; rintro e w' ⟨rfl, rfl⟩) | (go_at_call 68; refine (number_any _ _ (size_extract_le _ _ _ HS.out)).mono ?_; rintro e w' ⟨rfl, rfl⟩))
  go_ret
  exact ⟨by rw [HV.out]; rfl, below_drewN ((Below.refl _ _).alloc (Nat.le_refl _) _) _⟩

set_option maxRecDepth 100000 in
set_option maxHeartbeats 1000000 in
theorem wrong_restz_2  (gb : Nat) (a : Option Addr) (n c : Nat) (lane : Int) (s : ByteArray) (w : World) (_hc : w.cell? ⟨gb, 5, none⟩ = some (.slice a n c)) (hs : s.size = 32) (hk : byteAt s 0 = 2) (hl : lane = 0) (ha : byteAt s 1 < n) (h3 : byteAt s 3 = 0) (h2 : byteAt s 2 = 0) (hz : zeroB (s.extract 8 32) = false) :
    Calls Tryz.prog 67 #[.pointer (some ⟨gb, 0, none⟩), .int .i64 lane, .string s] w fun e w' => e = .returned (.int .i64 (wrongV n lane s)) ∧ Below w.heap.size w w' := by
  have HV : Hid (wrongV n lane s = 5) := by
    show wrongV n lane s = 5
    unfold wrongV
    rw [hk]
    rw [if_neg (by omega), if_neg (by simp [hl]), if_neg (by omega)]
    rw [if_neg (by omega), if_neg (by omega), if_pos ⟨by omega, .inr hz⟩]
  have hgb := World.block_lt_of_cell? w _ _hc
  have e0 : s[0].toNat = 2 := by rw [← byteAt_eq s 0 (by omega)]; exact hk
  have h255_1 : (s[1].toNat : Int) ≤ 255 := by have := UInt8.toNat_lt s[1]; omega
  have h255_2 : (s[2].toNat : Int) ≤ 255 := by have := UInt8.toNat_lt s[2]; omega
  have h255_3 : (s[3].toNat : Int) ≤ 255 := by have := UInt8.toNat_lt s[3]; omega
  have ha2 : (s[1].toNat : Int) < (n : Int) := by rw [byteAt_eq s 1 (by omega)] at ha; omega
  have h3b : ((s[3].toNat : Int) != 0) = false := by rw [byteAt_eq s 3 (by omega)] at h3; simp [h3]
  have h2b : ((s[2].toNat : Int) != 0) = false := by rw [byteAt_eq s 2 (by omega)] at h2; simp [h2]
  have HS : Hid (s.size = 32) := hs
  clear hk ha h3 h2
  go_enter Tryz.func67, Tryz.ntmps67
  go_wp2_with (first | (go_at_call 75; refine (zero_any _ _ (size_extract_le _ _ _ HS.out)).mono ?_; rintro e w' ⟨rfl, rfl⟩) | (go_at_call 68; refine (number_any _ _ (size_extract_le _ _ _ HS.out)).mono ?_; rintro e w' ⟨rfl, rfl⟩))
  go_quiet (fail)
  go_wp2_with (first | (go_at_call 75; refine (zero_any _ _ (size_extract_le _ _ _ HS.out)).mono ?_; rintro e w' ⟨rfl, rfl⟩) | (go_at_call 68; refine (number_any _ _ (size_extract_le _ _ _ HS.out)).mono ?_; rintro e w' ⟨rfl, rfl⟩))
  go_ret
  exact ⟨by rw [HV.out]; rfl, below_drewN ((Below.refl _ _).alloc (Nat.le_refl _) _) _⟩

set_option maxRecDepth 100000 in
set_option maxHeartbeats 1000000 in
theorem wrong_cancel  (gb : Nat) (a : Option Addr) (n c : Nat) (lane : Int) (s : ByteArray) (w : World) (_hc : w.cell? ⟨gb, 5, none⟩ = some (.slice a n c)) (hs : s.size = 32) (hk : byteAt s 0 = 2) (hl : lane = 0) (ha : byteAt s 1 < n) (h3 : byteAt s 3 = 0) (h2 : byteAt s 2 = 0) (hz : zeroB (s.extract 8 32) = true) :
    Calls Tryz.prog 67 #[.pointer (some ⟨gb, 0, none⟩), .int .i64 lane, .string s] w fun e w' => e = .returned (.int .i64 (wrongV n lane s)) ∧ Below w.heap.size w w' := by
  have HV : Hid (wrongV n lane s = 0) := by
    show wrongV n lane s = 0
    unfold wrongV
    rw [hk]
    rw [if_neg (by omega), if_neg (by simp [hl]), if_neg (by omega)]
    rw [if_neg (by omega), if_neg (by omega), if_neg (by simp [h2, hz])]
    rw [if_neg (by omega), if_pos rfl]
  have hgb := World.block_lt_of_cell? w _ _hc
  have e0 : s[0].toNat = 2 := by rw [← byteAt_eq s 0 (by omega)]; exact hk
  have h255_1 : (s[1].toNat : Int) ≤ 255 := by have := UInt8.toNat_lt s[1]; omega
  have h255_2 : (s[2].toNat : Int) ≤ 255 := by have := UInt8.toNat_lt s[2]; omega
  have h255_3 : (s[3].toNat : Int) ≤ 255 := by have := UInt8.toNat_lt s[3]; omega
  have ha2 : (s[1].toNat : Int) < (n : Int) := by rw [byteAt_eq s 1 (by omega)] at ha; omega
  have h3b : ((s[3].toNat : Int) != 0) = false := by rw [byteAt_eq s 3 (by omega)] at h3; simp [h3]
  have h2b : ((s[2].toNat : Int) != 0) = false := by rw [byteAt_eq s 2 (by omega)] at h2; simp [h2]
  have HS : Hid (s.size = 32) := hs
  clear hk ha h3 h2
  go_enter Tryz.func67, Tryz.ntmps67
  go_wp2_with (first | (go_at_call 75; refine (zero_any _ _ (size_extract_le _ _ _ HS.out)).mono ?_; rintro e w' ⟨rfl, rfl⟩) | (go_at_call 68; refine (number_any _ _ (size_extract_le _ _ _ HS.out)).mono ?_; rintro e w' ⟨rfl, rfl⟩))
  go_quiet (fail)
  go_wp2_with (first | (go_at_call 75; refine (zero_any _ _ (size_extract_le _ _ _ HS.out)).mono ?_; rintro e w' ⟨rfl, rfl⟩) | (go_at_call 68; refine (number_any _ _ (size_extract_le _ _ _ HS.out)).mono ?_; rintro e w' ⟨rfl, rfl⟩))
  go_ret
  exact ⟨by rw [HV.out]; rfl, below_drewN ((Below.refl _ _).alloc (Nat.le_refl _) _) _⟩

end Go.Proofs.YtjhifhoniimfgaaGreat

/-
  The document's reading of a frame: the code of one that is wrong, behind its account.
-/
namespace Go.Proofs.YtjhifhoniimfgaaGreat
open Go.RowKit

set_option maxRecDepth 100000 in
set_option maxHeartbeats 1000000 in
theorem wrong_rest3_3  (gb : Nat) (a : Option Addr) (n c : Nat) (lane : Int) (s : ByteArray) (w : World) (_hc : w.cell? ⟨gb, 5, none⟩ = some (.slice a n c)) (hs : s.size = 32) (hk : byteAt s 0 = 3) (hl : lane = 1) (ha : byteAt s 1 < n) (h3 : byteAt s 3 ≠ 0) :
    Calls Tryz.prog 67 #[.pointer (some ⟨gb, 0, none⟩), .int .i64 lane, .string s] w fun e w' => e = .returned (.int .i64 (wrongV n lane s)) ∧ Below w.heap.size w w' := by
  have HV : Hid (wrongV n lane s = 5) := by
    show wrongV n lane s = 5
    unfold wrongV
    rw [hk]
    rw [if_neg (by omega), if_neg (by simp [hl]), if_neg (by omega)]
    rw [if_neg (by omega), if_pos h3]
  have hgb := World.block_lt_of_cell? w _ _hc
  have e0 : s[0].toNat = 3 := by rw [← byteAt_eq s 0 (by omega)]; exact hk
  have h255_1 : (s[1].toNat : Int) ≤ 255 := by have := UInt8.toNat_lt s[1]; omega
  have h255_2 : (s[2].toNat : Int) ≤ 255 := by have := UInt8.toNat_lt s[2]; omega
  have h255_3 : (s[3].toNat : Int) ≤ 255 := by have := UInt8.toNat_lt s[3]; omega
  have ha2 : (s[1].toNat : Int) < (n : Int) := by rw [byteAt_eq s 1 (by omega)] at ha; omega
  have h3b : ((s[3].toNat : Int) != 0) = true := by rw [byteAt_eq s 3 (by omega)] at h3; simp; omega
  have HS : Hid (s.size = 32) := hs
  clear hk ha h3
  go_enter Tryz.func67, Tryz.ntmps67
  go_wp2_with (first | (go_at_call 75; refine (zero_any _ _ (size_extract_le _ _ _ HS.out)).mono ?_; rintro e w' ⟨rfl, rfl⟩) | (go_at_call 68; refine (number_any _ _ (size_extract_le _ _ _ HS.out)).mono ?_; rintro e w' ⟨rfl, rfl⟩))
  go_quiet (fail)
  go_wp2_with (first | (go_at_call 75; refine (zero_any _ _ (size_extract_le _ _ _ HS.out)).mono ?_; rintro e w' ⟨rfl, rfl⟩) | (go_at_call 68; refine (number_any _ _ (size_extract_le _ _ _ HS.out)).mono ?_; rintro e w' ⟨rfl, rfl⟩))
  go_ret
  exact ⟨by rw [HV.out]; rfl, below_drewN ((Below.refl _ _).alloc (Nat.le_refl _) _) _⟩

set_option maxRecDepth 100000 in
set_option maxHeartbeats 1000000 in
theorem wrong_rest2_3  (gb : Nat) (a : Option Addr) (n c : Nat) (lane : Int) (s : ByteArray) (w : World) (_hc : w.cell? ⟨gb, 5, none⟩ = some (.slice a n c)) (hs : s.size = 32) (hk : byteAt s 0 = 3) (hl : lane = 1) (ha : byteAt s 1 < n) (h3 : byteAt s 3 = 0) (h2 : byteAt s 2 ≠ 0) :
    Calls Tryz.prog 67 #[.pointer (some ⟨gb, 0, none⟩), .int .i64 lane, .string s] w fun e w' => e = .returned (.int .i64 (wrongV n lane s)) ∧ Below w.heap.size w w' := by
  have HV : Hid (wrongV n lane s = 5) := by
    show wrongV n lane s = 5
    unfold wrongV
    rw [hk]
    rw [if_neg (by omega), if_neg (by simp [hl]), if_neg (by omega)]
    rw [if_neg (by omega), if_neg (by omega), if_pos ⟨by omega, .inl h2⟩]
  have hgb := World.block_lt_of_cell? w _ _hc
  have e0 : s[0].toNat = 3 := by rw [← byteAt_eq s 0 (by omega)]; exact hk
  have h255_1 : (s[1].toNat : Int) ≤ 255 := by have := UInt8.toNat_lt s[1]; omega
  have h255_2 : (s[2].toNat : Int) ≤ 255 := by have := UInt8.toNat_lt s[2]; omega
  have h255_3 : (s[3].toNat : Int) ≤ 255 := by have := UInt8.toNat_lt s[3]; omega
  have ha2 : (s[1].toNat : Int) < (n : Int) := by rw [byteAt_eq s 1 (by omega)] at ha; omega
  have h3b : ((s[3].toNat : Int) != 0) = false := by rw [byteAt_eq s 3 (by omega)] at h3; simp [h3]
  have h2b : ((s[2].toNat : Int) != 0) = true := by rw [byteAt_eq s 2 (by omega)] at h2; simp; omega
  have HS : Hid (s.size = 32) := hs
  clear hk ha h3 h2
  go_enter Tryz.func67, Tryz.ntmps67
  go_wp2_with (first | (go_at_call 75; refine (zero_any _ _ (size_extract_le _ _ _ HS.out)).mono ?_; rintro e w' ⟨rfl, rfl⟩) | (go_at_call 68; refine (number_any _ _ (size_extract_le _ _ _ HS.out)).mono ?_; rintro e w' ⟨rfl, rfl⟩))
  go_quiet (fail)
  go_wp2_with (first | (go_at_call 75; refine (zero_any _ _ (size_extract_le _ _ _ HS.out)).mono ?_; rintro e w' ⟨rfl, rfl⟩) | (go_at_call 68; refine (number_any _ _ (size_extract_le _ _ _ HS.out)).mono ?_; rintro e w' ⟨rfl, rfl⟩))
  go_ret
  exact ⟨by rw [HV.out]; rfl, below_drewN ((Below.refl _ _).alloc (Nat.le_refl _) _) _⟩

set_option maxRecDepth 100000 in
set_option maxHeartbeats 1000000 in
theorem wrong_restz_3  (gb : Nat) (a : Option Addr) (n c : Nat) (lane : Int) (s : ByteArray) (w : World) (_hc : w.cell? ⟨gb, 5, none⟩ = some (.slice a n c)) (hs : s.size = 32) (hk : byteAt s 0 = 3) (hl : lane = 1) (ha : byteAt s 1 < n) (h3 : byteAt s 3 = 0) (h2 : byteAt s 2 = 0) (hz : zeroB (s.extract 8 32) = false) :
    Calls Tryz.prog 67 #[.pointer (some ⟨gb, 0, none⟩), .int .i64 lane, .string s] w fun e w' => e = .returned (.int .i64 (wrongV n lane s)) ∧ Below w.heap.size w w' := by
  have HV : Hid (wrongV n lane s = 5) := by
    show wrongV n lane s = 5
    unfold wrongV
    rw [hk]
    rw [if_neg (by omega), if_neg (by simp [hl]), if_neg (by omega)]
    rw [if_neg (by omega), if_neg (by omega), if_pos ⟨by omega, .inr hz⟩]
  have hgb := World.block_lt_of_cell? w _ _hc
  have e0 : s[0].toNat = 3 := by rw [← byteAt_eq s 0 (by omega)]; exact hk
  have h255_1 : (s[1].toNat : Int) ≤ 255 := by have := UInt8.toNat_lt s[1]; omega
  have h255_2 : (s[2].toNat : Int) ≤ 255 := by have := UInt8.toNat_lt s[2]; omega
  have h255_3 : (s[3].toNat : Int) ≤ 255 := by have := UInt8.toNat_lt s[3]; omega
  have ha2 : (s[1].toNat : Int) < (n : Int) := by rw [byteAt_eq s 1 (by omega)] at ha; omega
  have h3b : ((s[3].toNat : Int) != 0) = false := by rw [byteAt_eq s 3 (by omega)] at h3; simp [h3]
  have h2b : ((s[2].toNat : Int) != 0) = false := by rw [byteAt_eq s 2 (by omega)] at h2; simp [h2]
  have HS : Hid (s.size = 32) := hs
  clear hk ha h3 h2
  go_enter Tryz.func67, Tryz.ntmps67
  go_wp2_with (first | (go_at_call 75; refine (zero_any _ _ (size_extract_le _ _ _ HS.out)).mono ?_; rintro e w' ⟨rfl, rfl⟩) | (go_at_call 68; refine (number_any _ _ (size_extract_le _ _ _ HS.out)).mono ?_; rintro e w' ⟨rfl, rfl⟩))
  go_quiet (fail)
  go_wp2_with (first | (go_at_call 75; refine (zero_any _ _ (size_extract_le _ _ _ HS.out)).mono ?_; rintro e w' ⟨rfl, rfl⟩) | (go_at_call 68; refine (number_any _ _ (size_extract_le _ _ _ HS.out)).mono ?_; rintro e w' ⟨rfl, rfl⟩))
  go_ret
  exact ⟨by rw [HV.out]; rfl, below_drewN ((Below.refl _ _).alloc (Nat.le_refl _) _) _⟩

set_option maxRecDepth 100000 in
set_option maxHeartbeats 1000000 in
theorem wrong_clean_3  (gb : Nat) (a : Option Addr) (n c : Nat) (lane : Int) (s : ByteArray) (w : World) (_hc : w.cell? ⟨gb, 5, none⟩ = some (.slice a n c)) (hs : s.size = 32) (hk : byteAt s 0 = 3) (hl : lane = 1) (ha : byteAt s 1 < n) (h3 : byteAt s 3 = 0) (h2 : byteAt s 2 = 0) (hz : zeroB (s.extract 8 32) = true) (hz4 : zeroB (s.extract 4 8) = false) :
    Calls Tryz.prog 67 #[.pointer (some ⟨gb, 0, none⟩), .int .i64 lane, .string s] w fun e w' => e = .returned (.int .i64 (wrongV n lane s)) ∧ Below w.heap.size w w' := by
  have HV : Hid (wrongV n lane s = 5) := by
    show wrongV n lane s = 5
    unfold wrongV
    rw [hk]
    rw [if_neg (by omega), if_neg (by simp [hl]), if_neg (by omega)]
    rw [if_neg (by omega), if_neg (by omega), if_neg (by simp [h2, hz])]
    rw [if_pos (by omega), hz4]; rfl
  have hgb := World.block_lt_of_cell? w _ _hc
  have e0 : s[0].toNat = 3 := by rw [← byteAt_eq s 0 (by omega)]; exact hk
  have h255_1 : (s[1].toNat : Int) ≤ 255 := by have := UInt8.toNat_lt s[1]; omega
  have h255_2 : (s[2].toNat : Int) ≤ 255 := by have := UInt8.toNat_lt s[2]; omega
  have h255_3 : (s[3].toNat : Int) ≤ 255 := by have := UInt8.toNat_lt s[3]; omega
  have ha2 : (s[1].toNat : Int) < (n : Int) := by rw [byteAt_eq s 1 (by omega)] at ha; omega
  have h3b : ((s[3].toNat : Int) != 0) = false := by rw [byteAt_eq s 3 (by omega)] at h3; simp [h3]
  have h2b : ((s[2].toNat : Int) != 0) = false := by rw [byteAt_eq s 2 (by omega)] at h2; simp [h2]
  have HS : Hid (s.size = 32) := hs
  clear hk ha h3 h2
  go_enter Tryz.func67, Tryz.ntmps67
  go_wp2_with (first | (go_at_call 75; refine (zero_any _ _ (size_extract_le _ _ _ HS.out)).mono ?_; rintro e w' ⟨rfl, rfl⟩) | (go_at_call 68; refine (number_any _ _ (size_extract_le _ _ _ HS.out)).mono ?_; rintro e w' ⟨rfl, rfl⟩))
  go_quiet (fail)
  go_wp2_with (first | (go_at_call 75; refine (zero_any _ _ (size_extract_le _ _ _ HS.out)).mono ?_; rintro e w' ⟨rfl, rfl⟩) | (go_at_call 68; refine (number_any _ _ (size_extract_le _ _ _ HS.out)).mono ?_; rintro e w' ⟨rfl, rfl⟩))
  go_ret
  exact ⟨by rw [HV.out]; rfl, below_drewN ((Below.refl _ _).alloc (Nat.le_refl _) _) _⟩

end Go.Proofs.YtjhifhoniimfgaaGreat

