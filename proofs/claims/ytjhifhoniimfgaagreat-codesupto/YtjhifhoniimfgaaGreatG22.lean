import Derived.Test.YtjhifhoniimfgaaGreatG15
/-
  The document's reading of a frame: the code of one that is wrong.
-/
namespace Go.Proofs.YtjhifhoniimfgaaGreat
open Go.RowKit

set_option maxRecDepth 100000 in
set_option maxHeartbeats 1000000 in
theorem wrong_size  (gb : Nat) (a : Option Addr) (n c : Nat) (lane : Int) (s : ByteArray) (w : World) (_hc : w.cell? ⟨gb, 5, none⟩ = some (.slice a n c)) (hs : s.size ≠ 32) :
    Calls Tryz.prog 67 #[.pointer (some ⟨gb, 0, none⟩), .int .i64 lane, .string s] w fun e w' => e = .returned (.int .i64 (wrongV n lane s)) ∧ Below w.heap.size w w' := by
  have HV : Hid (wrongV n lane s = 1) := if_pos hs
  have hn : ((s.size : Int) != 32) = true := by simp; omega
  go_enter Tryz.func67, Tryz.ntmps67
  go_wp2
  go_ret
  exact ⟨by rw [HV.out]; rfl, Below.refl _ _⟩

set_option maxRecDepth 100000 in
set_option maxHeartbeats 1000000 in
theorem wrong_kind  (gb : Nat) (a : Option Addr) (n c : Nat) (lane : Int) (s : ByteArray) (w : World) (_hc : w.cell? ⟨gb, 5, none⟩ = some (.slice a n c)) (hs : s.size = 32) (hk : byteAt s 0 < 1 ∨ 4 < byteAt s 0) :
    Calls Tryz.prog 67 #[.pointer (some ⟨gb, 0, none⟩), .int .i64 lane, .string s] w fun e w' => e = .returned (.int .i64 (wrongV n lane s)) ∧ Below w.heap.size w w' := by
  have HV : Hid (wrongV n lane s = 2) := by
    show wrongV n lane s = 2
    unfold wrongV
    rw [if_neg (by omega), if_pos (by omega)]
  have hn : ((s.size : Int) != 32) = false := by simp; omega
  have hz : 0 < s.size := by omega
  rw [byteAt_eq s 0 hz] at hk
  have HS : Hid (s.size = 32) := hs
  clear hs
  rcases hk with hk | hk
  · have hk2 : (s[0].toNat : Int) < 1 := by omega
    have h255 : (s[0].toNat : Int) ≤ 255 := by have := UInt8.toNat_lt s[0]; omega
    clear hk
    go_enter Tryz.func67, Tryz.ntmps67
    go_wp2
    go_ret
    exact ⟨by rw [HV.out]; rfl, (Below.refl _ _).alloc (Nat.le_refl _) _⟩
  · have hk2 : (4 : Int) < (s[0].toNat : Int) := by omega
    have hk3 : (1 : Int) ≤ (s[0].toNat : Int) := by omega
    have h255 : (s[0].toNat : Int) ≤ 255 := by have := UInt8.toNat_lt s[0]; omega
    clear hk
    go_enter Tryz.func67, Tryz.ntmps67
    go_wp2
    go_ret
    exact ⟨by rw [HV.out]; rfl, (Below.refl _ _).alloc (Nat.le_refl _) _⟩

set_option maxRecDepth 100000 in
set_option maxHeartbeats 1000000 in
theorem wrong_lane1  (gb : Nat) (a : Option Addr) (n c : Nat) (lane : Int) (s : ByteArray) (w : World) (_hc : w.cell? ⟨gb, 5, none⟩ = some (.slice a n c)) (hs : s.size = 32) (hk : byteAt s 0 = 1) (hl : lane ≠ 0) :
    Calls Tryz.prog 67 #[.pointer (some ⟨gb, 0, none⟩), .int .i64 lane, .string s] w fun e w' => e = .returned (.int .i64 (wrongV n lane s)) ∧ Below w.heap.size w w' := by
  have HV : Hid (wrongV n lane s = 2) := by
    show wrongV n lane s = 2
    unfold wrongV
    rw [hk]
    rw [if_neg (by omega), if_pos (by simp; omega)]
  have hgb := World.block_lt_of_cell? w _ _hc
  have e0 : s[0].toNat = 1 := by rw [← byteAt_eq s 0 (by omega)]; exact hk
  have h255_1 : (s[1].toNat : Int) ≤ 255 := by have := UInt8.toNat_lt s[1]; omega
  have h255_2 : (s[2].toNat : Int) ≤ 255 := by have := UInt8.toNat_lt s[2]; omega
  have h255_3 : (s[3].toNat : Int) ≤ 255 := by have := UInt8.toNat_lt s[3]; omega
  have hl2 : (((0) : Int) != lane) = true := by rw [bne_iff_ne]; exact Ne.symm hl
  have HS : Hid (s.size = 32) := hs
  clear hk hl
  go_enter Tryz.func67, Tryz.ntmps67
  go_wp2_with (first | (go_at_call 75; refine (zero_any _ _ (size_extract_le _ _ _ HS.out)).mono ?_; rintro e w' ⟨rfl, rfl⟩) | (go_at_call 68; refine (number_any _ _ (size_extract_le _ _ _ HS.out)).mono ?_; rintro e w' ⟨rfl, rfl⟩))
  go_ret
  exact ⟨by rw [HV.out]; rfl, (Below.refl _ _).alloc (Nat.le_refl _) _⟩

set_option maxRecDepth 100000 in
set_option maxHeartbeats 1000000 in
theorem wrong_acc1  (gb : Nat) (a : Option Addr) (n c : Nat) (lane : Int) (s : ByteArray) (w : World) (_hc : w.cell? ⟨gb, 5, none⟩ = some (.slice a n c)) (hs : s.size = 32) (hk : byteAt s 0 = 1) (hl : lane = 0) (ha : n ≤ byteAt s 1) :
    Calls Tryz.prog 67 #[.pointer (some ⟨gb, 0, none⟩), .int .i64 lane, .string s] w fun e w' => e = .returned (.int .i64 (wrongV n lane s)) ∧ Below w.heap.size w w' := by
  have HV : Hid (wrongV n lane s = 3) := by
    show wrongV n lane s = 3
    unfold wrongV
    rw [hk]
    rw [if_neg (by omega), if_neg (by simp [hl]), if_pos ha]
  have hgb := World.block_lt_of_cell? w _ _hc
  have e0 : s[0].toNat = 1 := by rw [← byteAt_eq s 0 (by omega)]; exact hk
  have h255_1 : (s[1].toNat : Int) ≤ 255 := by have := UInt8.toNat_lt s[1]; omega
  have h255_2 : (s[2].toNat : Int) ≤ 255 := by have := UInt8.toNat_lt s[2]; omega
  have h255_3 : (s[3].toNat : Int) ≤ 255 := by have := UInt8.toNat_lt s[3]; omega
  have ha2 : (n : Int) ≤ (s[1].toNat : Int) := by rw [byteAt_eq s 1 (by omega)] at ha; omega
  have HS : Hid (s.size = 32) := hs
  clear hk ha
  go_enter Tryz.func67, Tryz.ntmps67
  go_wp2_with (first | (go_at_call 75; refine (zero_any _ _ (size_extract_le _ _ _ HS.out)).mono ?_; rintro e w' ⟨rfl, rfl⟩) | (go_at_call 68; refine (number_any _ _ (size_extract_le _ _ _ HS.out)).mono ?_; rintro e w' ⟨rfl, rfl⟩))
  go_quiet (fail)
  go_wp2_with (first | (go_at_call 75; refine (zero_any _ _ (size_extract_le _ _ _ HS.out)).mono ?_; rintro e w' ⟨rfl, rfl⟩) | (go_at_call 68; refine (number_any _ _ (size_extract_le _ _ _ HS.out)).mono ?_; rintro e w' ⟨rfl, rfl⟩))
  go_ret
  exact ⟨by rw [HV.out]; rfl, below_drewN ((Below.refl _ _).alloc (Nat.le_refl _) _) _⟩

set_option maxRecDepth 100000 in
set_option maxHeartbeats 1000000 in
theorem wrong_lane2  (gb : Nat) (a : Option Addr) (n c : Nat) (lane : Int) (s : ByteArray) (w : World) (_hc : w.cell? ⟨gb, 5, none⟩ = some (.slice a n c)) (hs : s.size = 32) (hk : byteAt s 0 = 2) (hl : lane ≠ 0) :
    Calls Tryz.prog 67 #[.pointer (some ⟨gb, 0, none⟩), .int .i64 lane, .string s] w fun e w' => e = .returned (.int .i64 (wrongV n lane s)) ∧ Below w.heap.size w w' := by
  have HV : Hid (wrongV n lane s = 2) := by
    show wrongV n lane s = 2
    unfold wrongV
    rw [hk]
    rw [if_neg (by omega), if_pos (by simp; omega)]
  have hgb := World.block_lt_of_cell? w _ _hc
  have e0 : s[0].toNat = 2 := by rw [← byteAt_eq s 0 (by omega)]; exact hk
  have h255_1 : (s[1].toNat : Int) ≤ 255 := by have := UInt8.toNat_lt s[1]; omega
  have h255_2 : (s[2].toNat : Int) ≤ 255 := by have := UInt8.toNat_lt s[2]; omega
  have h255_3 : (s[3].toNat : Int) ≤ 255 := by have := UInt8.toNat_lt s[3]; omega
  have hl2 : (((0) : Int) != lane) = true := by rw [bne_iff_ne]; exact Ne.symm hl
  have HS : Hid (s.size = 32) := hs
  clear hk hl
  go_enter Tryz.func67, Tryz.ntmps67
  go_wp2_with (first | (go_at_call 75; refine (zero_any _ _ (size_extract_le _ _ _ HS.out)).mono ?_; rintro e w' ⟨rfl, rfl⟩) | (go_at_call 68; refine (number_any _ _ (size_extract_le _ _ _ HS.out)).mono ?_; rintro e w' ⟨rfl, rfl⟩))
  go_ret
  exact ⟨by rw [HV.out]; rfl, (Below.refl _ _).alloc (Nat.le_refl _) _⟩

set_option maxRecDepth 100000 in
set_option maxHeartbeats 1000000 in
theorem wrong_acc2  (gb : Nat) (a : Option Addr) (n c : Nat) (lane : Int) (s : ByteArray) (w : World) (_hc : w.cell? ⟨gb, 5, none⟩ = some (.slice a n c)) (hs : s.size = 32) (hk : byteAt s 0 = 2) (hl : lane = 0) (ha : n ≤ byteAt s 1) :
    Calls Tryz.prog 67 #[.pointer (some ⟨gb, 0, none⟩), .int .i64 lane, .string s] w fun e w' => e = .returned (.int .i64 (wrongV n lane s)) ∧ Below w.heap.size w w' := by
  have HV : Hid (wrongV n lane s = 3) := by
    show wrongV n lane s = 3
    unfold wrongV
    rw [hk]
    rw [if_neg (by omega), if_neg (by simp [hl]), if_pos ha]
  have hgb := World.block_lt_of_cell? w _ _hc
  have e0 : s[0].toNat = 2 := by rw [← byteAt_eq s 0 (by omega)]; exact hk
  have h255_1 : (s[1].toNat : Int) ≤ 255 := by have := UInt8.toNat_lt s[1]; omega
  have h255_2 : (s[2].toNat : Int) ≤ 255 := by have := UInt8.toNat_lt s[2]; omega
  have h255_3 : (s[3].toNat : Int) ≤ 255 := by have := UInt8.toNat_lt s[3]; omega
  have ha2 : (n : Int) ≤ (s[1].toNat : Int) := by rw [byteAt_eq s 1 (by omega)] at ha; omega
  have HS : Hid (s.size = 32) := hs
  clear hk ha
  go_enter Tryz.func67, Tryz.ntmps67
  go_wp2_with (first | (go_at_call 75; refine (zero_any _ _ (size_extract_le _ _ _ HS.out)).mono ?_; rintro e w' ⟨rfl, rfl⟩) | (go_at_call 68; refine (number_any _ _ (size_extract_le _ _ _ HS.out)).mono ?_; rintro e w' ⟨rfl, rfl⟩))
  go_quiet (fail)
  go_wp2_with (first | (go_at_call 75; refine (zero_any _ _ (size_extract_le _ _ _ HS.out)).mono ?_; rintro e w' ⟨rfl, rfl⟩) | (go_at_call 68; refine (number_any _ _ (size_extract_le _ _ _ HS.out)).mono ?_; rintro e w' ⟨rfl, rfl⟩))
  go_ret
  exact ⟨by rw [HV.out]; rfl, below_drewN ((Below.refl _ _).alloc (Nat.le_refl _) _) _⟩

set_option maxRecDepth 100000 in
set_option maxHeartbeats 1000000 in
theorem wrong_lane3  (gb : Nat) (a : Option Addr) (n c : Nat) (lane : Int) (s : ByteArray) (w : World) (_hc : w.cell? ⟨gb, 5, none⟩ = some (.slice a n c)) (hs : s.size = 32) (hk : byteAt s 0 = 3) (hl : lane ≠ 1) :
    Calls Tryz.prog 67 #[.pointer (some ⟨gb, 0, none⟩), .int .i64 lane, .string s] w fun e w' => e = .returned (.int .i64 (wrongV n lane s)) ∧ Below w.heap.size w w' := by
  have HV : Hid (wrongV n lane s = 2) := by
    show wrongV n lane s = 2
    unfold wrongV
    rw [hk]
    rw [if_neg (by omega), if_pos (by simp; omega)]
  have hgb := World.block_lt_of_cell? w _ _hc
  have e0 : s[0].toNat = 3 := by rw [← byteAt_eq s 0 (by omega)]; exact hk
  have h255_1 : (s[1].toNat : Int) ≤ 255 := by have := UInt8.toNat_lt s[1]; omega
  have h255_2 : (s[2].toNat : Int) ≤ 255 := by have := UInt8.toNat_lt s[2]; omega
  have h255_3 : (s[3].toNat : Int) ≤ 255 := by have := UInt8.toNat_lt s[3]; omega
  have hl2 : (((1) : Int) != lane) = true := by rw [bne_iff_ne]; exact Ne.symm hl
  have HS : Hid (s.size = 32) := hs
  clear hk hl
  go_enter Tryz.func67, Tryz.ntmps67
  go_wp2_with (first | (go_at_call 75; refine (zero_any _ _ (size_extract_le _ _ _ HS.out)).mono ?_; rintro e w' ⟨rfl, rfl⟩) | (go_at_call 68; refine (number_any _ _ (size_extract_le _ _ _ HS.out)).mono ?_; rintro e w' ⟨rfl, rfl⟩))
  go_ret
  exact ⟨by rw [HV.out]; rfl, (Below.refl _ _).alloc (Nat.le_refl _) _⟩

set_option maxRecDepth 100000 in
set_option maxHeartbeats 1000000 in
theorem wrong_acc3  (gb : Nat) (a : Option Addr) (n c : Nat) (lane : Int) (s : ByteArray) (w : World) (_hc : w.cell? ⟨gb, 5, none⟩ = some (.slice a n c)) (hs : s.size = 32) (hk : byteAt s 0 = 3) (hl : lane = 1) (ha : n ≤ byteAt s 1) :
    Calls Tryz.prog 67 #[.pointer (some ⟨gb, 0, none⟩), .int .i64 lane, .string s] w fun e w' => e = .returned (.int .i64 (wrongV n lane s)) ∧ Below w.heap.size w w' := by
  have HV : Hid (wrongV n lane s = 3) := by
    show wrongV n lane s = 3
    unfold wrongV
    rw [hk]
    rw [if_neg (by omega), if_neg (by simp [hl]), if_pos ha]
  have hgb := World.block_lt_of_cell? w _ _hc
  have e0 : s[0].toNat = 3 := by rw [← byteAt_eq s 0 (by omega)]; exact hk
  have h255_1 : (s[1].toNat : Int) ≤ 255 := by have := UInt8.toNat_lt s[1]; omega
  have h255_2 : (s[2].toNat : Int) ≤ 255 := by have := UInt8.toNat_lt s[2]; omega
  have h255_3 : (s[3].toNat : Int) ≤ 255 := by have := UInt8.toNat_lt s[3]; omega
  have ha2 : (n : Int) ≤ (s[1].toNat : Int) := by rw [byteAt_eq s 1 (by omega)] at ha; omega
  have HS : Hid (s.size = 32) := hs
  clear hk ha
  go_enter Tryz.func67, Tryz.ntmps67
  go_wp2_with (first | (go_at_call 75; refine (zero_any _ _ (size_extract_le _ _ _ HS.out)).mono ?_; rintro e w' ⟨rfl, rfl⟩) | (go_at_call 68; refine (number_any _ _ (size_extract_le _ _ _ HS.out)).mono ?_; rintro e w' ⟨rfl, rfl⟩))
  go_quiet (fail)
  go_wp2_with (first | (go_at_call 75; refine (zero_any _ _ (size_extract_le _ _ _ HS.out)).mono ?_; rintro e w' ⟨rfl, rfl⟩) | (go_at_call 68; refine (number_any _ _ (size_extract_le _ _ _ HS.out)).mono ?_; rintro e w' ⟨rfl, rfl⟩))
  go_ret
  exact ⟨by rw [HV.out]; rfl, below_drewN ((Below.refl _ _).alloc (Nat.le_refl _) _) _⟩

set_option maxRecDepth 100000 in
set_option maxHeartbeats 1000000 in
theorem wrong_lane4  (gb : Nat) (a : Option Addr) (n c : Nat) (lane : Int) (s : ByteArray) (w : World) (_hc : w.cell? ⟨gb, 5, none⟩ = some (.slice a n c)) (hs : s.size = 32) (hk : byteAt s 0 = 4) (hl : lane ≠ 1) :
    Calls Tryz.prog 67 #[.pointer (some ⟨gb, 0, none⟩), .int .i64 lane, .string s] w fun e w' => e = .returned (.int .i64 (wrongV n lane s)) ∧ Below w.heap.size w w' := by
  have HV : Hid (wrongV n lane s = 2) := by
    show wrongV n lane s = 2
    unfold wrongV
    rw [hk]
    rw [if_neg (by omega), if_pos (by simp; omega)]
  have hgb := World.block_lt_of_cell? w _ _hc
  have e0 : s[0].toNat = 4 := by rw [← byteAt_eq s 0 (by omega)]; exact hk
  have h255_1 : (s[1].toNat : Int) ≤ 255 := by have := UInt8.toNat_lt s[1]; omega
  have h255_2 : (s[2].toNat : Int) ≤ 255 := by have := UInt8.toNat_lt s[2]; omega
  have h255_3 : (s[3].toNat : Int) ≤ 255 := by have := UInt8.toNat_lt s[3]; omega
  have hl2 : (((1) : Int) != lane) = true := by rw [bne_iff_ne]; exact Ne.symm hl
  have HS : Hid (s.size = 32) := hs
  clear hk hl
  go_enter Tryz.func67, Tryz.ntmps67
  go_wp2_with (first | (go_at_call 75; refine (zero_any _ _ (size_extract_le _ _ _ HS.out)).mono ?_; rintro e w' ⟨rfl, rfl⟩) | (go_at_call 68; refine (number_any _ _ (size_extract_le _ _ _ HS.out)).mono ?_; rintro e w' ⟨rfl, rfl⟩))
  go_ret
  exact ⟨by rw [HV.out]; rfl, (Below.refl _ _).alloc (Nat.le_refl _) _⟩

set_option maxRecDepth 100000 in
set_option maxHeartbeats 1000000 in
theorem wrong_acc4  (gb : Nat) (a : Option Addr) (n c : Nat) (lane : Int) (s : ByteArray) (w : World) (_hc : w.cell? ⟨gb, 5, none⟩ = some (.slice a n c)) (hs : s.size = 32) (hk : byteAt s 0 = 4) (hl : lane = 1) (ha : n ≤ byteAt s 1) :
    Calls Tryz.prog 67 #[.pointer (some ⟨gb, 0, none⟩), .int .i64 lane, .string s] w fun e w' => e = .returned (.int .i64 (wrongV n lane s)) ∧ Below w.heap.size w w' := by
  have HV : Hid (wrongV n lane s = 3) := by
    show wrongV n lane s = 3
    unfold wrongV
    rw [hk]
    rw [if_neg (by omega), if_neg (by simp [hl]), if_pos ha]
  have hgb := World.block_lt_of_cell? w _ _hc
  have e0 : s[0].toNat = 4 := by rw [← byteAt_eq s 0 (by omega)]; exact hk
  have h255_1 : (s[1].toNat : Int) ≤ 255 := by have := UInt8.toNat_lt s[1]; omega
  have h255_2 : (s[2].toNat : Int) ≤ 255 := by have := UInt8.toNat_lt s[2]; omega
  have h255_3 : (s[3].toNat : Int) ≤ 255 := by have := UInt8.toNat_lt s[3]; omega
  have ha2 : (n : Int) ≤ (s[1].toNat : Int) := by rw [byteAt_eq s 1 (by omega)] at ha; omega
  have HS : Hid (s.size = 32) := hs
  clear hk ha
  go_enter Tryz.func67, Tryz.ntmps67
  go_wp2_with (first | (go_at_call 75; refine (zero_any _ _ (size_extract_le _ _ _ HS.out)).mono ?_; rintro e w' ⟨rfl, rfl⟩) | (go_at_call 68; refine (number_any _ _ (size_extract_le _ _ _ HS.out)).mono ?_; rintro e w' ⟨rfl, rfl⟩))
  go_quiet (fail)
  go_wp2_with (first | (go_at_call 75; refine (zero_any _ _ (size_extract_le _ _ _ HS.out)).mono ?_; rintro e w' ⟨rfl, rfl⟩) | (go_at_call 68; refine (number_any _ _ (size_extract_le _ _ _ HS.out)).mono ?_; rintro e w' ⟨rfl, rfl⟩))
  go_ret
  exact ⟨by rw [HV.out]; rfl, below_drewN ((Below.refl _ _).alloc (Nat.le_refl _) _) _⟩

end Go.Proofs.YtjhifhoniimfgaaGreat

/-
  The document's reading of a frame: the code of one that is wrong, behind its account.
-/
namespace Go.Proofs.YtjhifhoniimfgaaGreat
open Go.RowKit

set_option maxRecDepth 100000 in
set_option maxHeartbeats 1000000 in
theorem wrong_side  (gb : Nat) (a : Option Addr) (n c : Nat) (lane : Int) (s : ByteArray) (w : World) (_hc : w.cell? ⟨gb, 5, none⟩ = some (.slice a n c)) (hs : s.size = 32) (hk : byteAt s 0 = 1) (hl : lane = 0) (ha : byteAt s 1 < n) (h2 : 1 < byteAt s 2) :
    Calls Tryz.prog 67 #[.pointer (some ⟨gb, 0, none⟩), .int .i64 lane, .string s] w fun e w' => e = .returned (.int .i64 (wrongV n lane s)) ∧ Below w.heap.size w w' := by
  have HV : Hid (wrongV n lane s = 4) := by
    show wrongV n lane s = 4
    unfold wrongV
    rw [hk]
    rw [if_neg (by omega), if_neg (by simp [hl]), if_neg (by omega)]
    rw [if_pos (by omega)]
  have hgb := World.block_lt_of_cell? w _ _hc
  have e0 : s[0].toNat = 1 := by rw [← byteAt_eq s 0 (by omega)]; exact hk
  have h255_1 : (s[1].toNat : Int) ≤ 255 := by have := UInt8.toNat_lt s[1]; omega
  have h255_2 : (s[2].toNat : Int) ≤ 255 := by have := UInt8.toNat_lt s[2]; omega
  have h255_3 : (s[3].toNat : Int) ≤ 255 := by have := UInt8.toNat_lt s[3]; omega
  have ha2 : (s[1].toNat : Int) < (n : Int) := by rw [byteAt_eq s 1 (by omega)] at ha; omega
  have h2b : 1 < (s[2].toNat : Int) := by rw [byteAt_eq s 2 (by omega)] at h2; omega
  have HS : Hid (s.size = 32) := hs
  clear hk ha h2
  go_enter Tryz.func67, Tryz.ntmps67
  go_wp2_with (first | (go_at_call 75; refine (zero_any _ _ (size_extract_le _ _ _ HS.out)).mono ?_; rintro e w' ⟨rfl, rfl⟩) | (go_at_call 68; refine (number_any _ _ (size_extract_le _ _ _ HS.out)).mono ?_; rintro e w' ⟨rfl, rfl⟩))
  go_quiet (fail)
  go_wp2_with (first | (go_at_call 75; refine (zero_any _ _ (size_extract_le _ _ _ HS.out)).mono ?_; rintro e w' ⟨rfl, rfl⟩) | (go_at_call 68; refine (number_any _ _ (size_extract_le _ _ _ HS.out)).mono ?_; rintro e w' ⟨rfl, rfl⟩))
  go_ret
  exact ⟨by rw [HV.out]; rfl, below_drewN ((Below.refl _ _).alloc (Nat.le_refl _) _) _⟩

set_option maxRecDepth 100000 in
set_option maxHeartbeats 1000000 in
theorem wrong_rest1  (gb : Nat) (a : Option Addr) (n c : Nat) (lane : Int) (s : ByteArray) (w : World) (_hc : w.cell? ⟨gb, 5, none⟩ = some (.slice a n c)) (hs : s.size = 32) (hk : byteAt s 0 = 1) (hl : lane = 0) (ha : byteAt s 1 < n) (h2 : byteAt s 2 ≤ 1) (h3 : byteAt s 3 ≠ 0) :
    Calls Tryz.prog 67 #[.pointer (some ⟨gb, 0, none⟩), .int .i64 lane, .string s] w fun e w' => e = .returned (.int .i64 (wrongV n lane s)) ∧ Below w.heap.size w w' := by
  have HV : Hid (wrongV n lane s = 5) := by
    show wrongV n lane s = 5
    unfold wrongV
    rw [hk]
    rw [if_neg (by omega), if_neg (by simp [hl]), if_neg (by omega)]
    rw [if_neg (by omega), if_pos h3]
  have hgb := World.block_lt_of_cell? w _ _hc
  have e0 : s[0].toNat = 1 := by rw [← byteAt_eq s 0 (by omega)]; exact hk
  have h255_1 : (s[1].toNat : Int) ≤ 255 := by have := UInt8.toNat_lt s[1]; omega
  have h255_2 : (s[2].toNat : Int) ≤ 255 := by have := UInt8.toNat_lt s[2]; omega
  have h255_3 : (s[3].toNat : Int) ≤ 255 := by have := UInt8.toNat_lt s[3]; omega
  have ha2 : (s[1].toNat : Int) < (n : Int) := by rw [byteAt_eq s 1 (by omega)] at ha; omega
  have h2b : (s[2].toNat : Int) ≤ 1 := by rw [byteAt_eq s 2 (by omega)] at h2; omega
  have h3b : ((s[3].toNat : Int) != 0) = true := by rw [byteAt_eq s 3 (by omega)] at h3; simp; omega
  have HS : Hid (s.size = 32) := hs
  clear hk ha h2 h3
  go_enter Tryz.func67, Tryz.ntmps67
  go_wp2_with (first | (go_at_call 75; refine (zero_any _ _ (size_extract_le _ _ _ HS.out)).mono ?_; rintro e w' ⟨rfl, rfl⟩) | (go_at_call 68; refine (number_any _ _ (size_extract_le _ _ _ HS.out)).mono ?_; rintro e w' ⟨rfl, rfl⟩))
  go_quiet (fail)
  go_wp2_with (first | (go_at_call 75; refine (zero_any _ _ (size_extract_le _ _ _ HS.out)).mono ?_; rintro e w' ⟨rfl, rfl⟩) | (go_at_call 68; refine (number_any _ _ (size_extract_le _ _ _ HS.out)).mono ?_; rintro e w' ⟨rfl, rfl⟩))
  go_ret
  exact ⟨by rw [HV.out]; rfl, below_drewN ((Below.refl _ _).alloc (Nat.le_refl _) _) _⟩

set_option maxRecDepth 100000 in
set_option maxHeartbeats 1000000 in
theorem wrong_price1  (gb : Nat) (a : Option Addr) (n c : Nat) (lane : Int) (s : ByteArray) (w : World) (_hc : w.cell? ⟨gb, 5, none⟩ = some (.slice a n c)) (hs : s.size = 32) (hk : byteAt s 0 = 1) (hl : lane = 0) (ha : byteAt s 1 < n) (h2 : byteAt s 2 ≤ 1) (h3 : byteAt s 3 = 0) (hp : numOk (s.extract 8 16) = false) :
    Calls Tryz.prog 67 #[.pointer (some ⟨gb, 0, none⟩), .int .i64 lane, .string s] w fun e w' => e = .returned (.int .i64 (wrongV n lane s)) ∧ Below w.heap.size w w' := by
  have HV : Hid (wrongV n lane s = 6) := by
    show wrongV n lane s = 6
    unfold wrongV
    rw [hk]
    rw [if_neg (by omega), if_neg (by simp [hl]), if_neg (by omega)]
    rw [if_neg (by omega), if_neg (by omega), if_neg (by simp), if_neg (by omega), if_neg (by omega)]
    unfold newV
    rw [if_pos (.inl hp)]
  have hgb := World.block_lt_of_cell? w _ _hc
  have e0 : s[0].toNat = 1 := by rw [← byteAt_eq s 0 (by omega)]; exact hk
  have h255_1 : (s[1].toNat : Int) ≤ 255 := by have := UInt8.toNat_lt s[1]; omega
  have h255_2 : (s[2].toNat : Int) ≤ 255 := by have := UInt8.toNat_lt s[2]; omega
  have h255_3 : (s[3].toNat : Int) ≤ 255 := by have := UInt8.toNat_lt s[3]; omega
  have ha2 : (s[1].toNat : Int) < (n : Int) := by rw [byteAt_eq s 1 (by omega)] at ha; omega
  have h2b : (s[2].toNat : Int) ≤ 1 := by rw [byteAt_eq s 2 (by omega)] at h2; omega
  have h3b : ((s[3].toNat : Int) != 0) = false := by rw [byteAt_eq s 3 (by omega)] at h3; simp [h3]
  have HS : Hid (s.size = 32) := hs
  clear hk ha h2 h3
  go_enter Tryz.func67, Tryz.ntmps67
  go_wp2_with (first | (go_at_call 75; refine (zero_any _ _ (size_extract_le _ _ _ HS.out)).mono ?_; rintro e w' ⟨rfl, rfl⟩) | (go_at_call 68; refine (number_any _ _ (size_extract_le _ _ _ HS.out)).mono ?_; rintro e w' ⟨rfl, rfl⟩))
  go_quiet (fail)
  go_wp2_with (first | (go_at_call 75; refine (zero_any _ _ (size_extract_le _ _ _ HS.out)).mono ?_; rintro e w' ⟨rfl, rfl⟩) | (go_at_call 68; refine (number_any _ _ (size_extract_le _ _ _ HS.out)).mono ?_; rintro e w' ⟨rfl, rfl⟩))
  go_ret
  exact ⟨by rw [HV.out]; rfl, below_drewN ((Below.refl _ _).alloc (Nat.le_refl _) _) _⟩

set_option maxRecDepth 100000 in
set_option maxHeartbeats 1000000 in
theorem wrong_price2  (gb : Nat) (a : Option Addr) (n c : Nat) (lane : Int) (s : ByteArray) (w : World) (_hc : w.cell? ⟨gb, 5, none⟩ = some (.slice a n c)) (hs : s.size = 32) (hk : byteAt s 0 = 1) (hl : lane = 0) (ha : byteAt s 1 < n) (h2 : byteAt s 2 ≤ 1) (h3 : byteAt s 3 = 0) (hp : numOk (s.extract 8 16) = true) (hp2 : numV (s.extract 8 16) < 1) :
    Calls Tryz.prog 67 #[.pointer (some ⟨gb, 0, none⟩), .int .i64 lane, .string s] w fun e w' => e = .returned (.int .i64 (wrongV n lane s)) ∧ Below w.heap.size w w' := by
  have HV : Hid (wrongV n lane s = 6) := by
    show wrongV n lane s = 6
    unfold wrongV
    rw [hk]
    rw [if_neg (by omega), if_neg (by simp [hl]), if_neg (by omega)]
    rw [if_neg (by omega), if_neg (by omega), if_neg (by simp), if_neg (by omega), if_neg (by omega)]
    unfold newV
    rw [if_pos (.inr hp2)]
  have hgb := World.block_lt_of_cell? w _ _hc
  have e0 : s[0].toNat = 1 := by rw [← byteAt_eq s 0 (by omega)]; exact hk
  have h255_1 : (s[1].toNat : Int) ≤ 255 := by have := UInt8.toNat_lt s[1]; omega
  have h255_2 : (s[2].toNat : Int) ≤ 255 := by have := UInt8.toNat_lt s[2]; omega
  have h255_3 : (s[3].toNat : Int) ≤ 255 := by have := UInt8.toNat_lt s[3]; omega
  have ha2 : (s[1].toNat : Int) < (n : Int) := by rw [byteAt_eq s 1 (by omega)] at ha; omega
  have h2b : (s[2].toNat : Int) ≤ 1 := by rw [byteAt_eq s 2 (by omega)] at h2; omega
  have h3b : ((s[3].toNat : Int) != 0) = false := by rw [byteAt_eq s 3 (by omega)] at h3; simp [h3]
  have HS : Hid (s.size = 32) := hs
  clear hk ha h2 h3
  go_enter Tryz.func67, Tryz.ntmps67
  go_wp2_with (first | (go_at_call 75; refine (zero_any _ _ (size_extract_le _ _ _ HS.out)).mono ?_; rintro e w' ⟨rfl, rfl⟩) | (go_at_call 68; refine (number_any _ _ (size_extract_le _ _ _ HS.out)).mono ?_; rintro e w' ⟨rfl, rfl⟩))
  go_quiet (fail)
  go_wp2_with (first | (go_at_call 75; refine (zero_any _ _ (size_extract_le _ _ _ HS.out)).mono ?_; rintro e w' ⟨rfl, rfl⟩) | (go_at_call 68; refine (number_any _ _ (size_extract_le _ _ _ HS.out)).mono ?_; rintro e w' ⟨rfl, rfl⟩))
  go_ret
  exact ⟨by rw [HV.out]; rfl, below_drewN ((Below.refl _ _).alloc (Nat.le_refl _) _) _⟩

end Go.Proofs.YtjhifhoniimfgaaGreat

/-
  The document's reading of a frame: the code of one that is wrong, behind its account.
-/
namespace Go.Proofs.YtjhifhoniimfgaaGreat
open Go.RowKit

set_option maxRecDepth 100000 in
set_option maxHeartbeats 1000000 in
theorem wrong_qty1  (gb : Nat) (a : Option Addr) (n c : Nat) (lane : Int) (s : ByteArray) (w : World) (_hc : w.cell? ⟨gb, 5, none⟩ = some (.slice a n c)) (hs : s.size = 32) (hk : byteAt s 0 = 1) (hl : lane = 0) (ha : byteAt s 1 < n) (h2 : byteAt s 2 ≤ 1) (h3 : byteAt s 3 = 0) (hp : numOk (s.extract 8 16) = true) (hp2 : 1 ≤ numV (s.extract 8 16)) (hq : numOk (s.extract 16 24) = false) :
    Calls Tryz.prog 67 #[.pointer (some ⟨gb, 0, none⟩), .int .i64 lane, .string s] w fun e w' => e = .returned (.int .i64 (wrongV n lane s)) ∧ Below w.heap.size w w' := by
  have HV : Hid (wrongV n lane s = 7) := by
    show wrongV n lane s = 7
    unfold wrongV
    rw [hk]
    rw [if_neg (by omega), if_neg (by simp [hl]), if_neg (by omega)]
    rw [if_neg (by omega), if_neg (by omega), if_neg (by simp), if_neg (by omega), if_neg (by omega)]
    unfold newV
    rw [if_neg (by rintro (h | h); (rw [hp] at h; cases h); omega), if_pos (.inl hq)]
  have hgb := World.block_lt_of_cell? w _ _hc
  have e0 : s[0].toNat = 1 := by rw [← byteAt_eq s 0 (by omega)]; exact hk
  have h255_1 : (s[1].toNat : Int) ≤ 255 := by have := UInt8.toNat_lt s[1]; omega
  have ha2 : (s[1].toNat : Int) < (n : Int) := by rw [byteAt_eq s 1 (by omega)] at ha; omega
  have h2b : (s[2].toNat : Int) ≤ 1 := by rw [byteAt_eq s 2 (by omega)] at h2; omega
  have h3b : ((s[3].toNat : Int) != 0) = false := by rw [byteAt_eq s 3 (by omega)] at h3; simp [h3]
  clear hk ha h2 h3
  have z8 := fun w => zero_any (s.extract 8 32) w (size_extract_le _ _ _ hs)
  have n8 := fun w => number_any (s.extract 8 16) w (size_extract_le _ _ _ hs)
  simp only [hp] at n8
  have n16 := fun w => number_any (s.extract 16 24) w (size_extract_le _ _ _ hs)
  simp only [hq] at n16
  have n24 := fun w => number_any (s.extract 24 32) w (size_extract_le _ _ _ hs)
  clear hp hq
  generalize zeroB (s.extract 8 32) = zb at z8
  generalize numV (s.extract 8 16) = v8 at *
  generalize numV (s.extract 16 24) = v16 at *
  generalize numOk (s.extract 24 32) = ok24 at n24
  generalize numV (s.extract 24 32) = v24 at *
  go_enter Tryz.func67, Tryz.ntmps67
  go_wp2_with fail
  go_quiet (fail)
  go_wp2_with fail
  refine (z8 _).mono ?_
  rintro e w' ⟨rfl, rfl⟩
  go_wp2_with fail
  refine (n8 _).mono ?_
  rintro e w' ⟨rfl, rfl⟩
  go_wp2_with fail
  refine (n16 _).mono ?_
  rintro e w' ⟨rfl, rfl⟩
  go_wp2_with fail
  refine (n24 _).mono ?_
  rintro e w' ⟨rfl, rfl⟩
  clear z8 n8 n16 n24
  go_wp2_with fail
  go_ret
  exact ⟨by rw [HV.out]; rfl, below_drewN ((Below.refl _ _).alloc (Nat.le_refl _) _) _⟩

set_option maxRecDepth 100000 in
set_option maxHeartbeats 1000000 in
theorem wrong_qty2  (gb : Nat) (a : Option Addr) (n c : Nat) (lane : Int) (s : ByteArray) (w : World) (_hc : w.cell? ⟨gb, 5, none⟩ = some (.slice a n c)) (hs : s.size = 32) (hk : byteAt s 0 = 1) (hl : lane = 0) (ha : byteAt s 1 < n) (h2 : byteAt s 2 ≤ 1) (h3 : byteAt s 3 = 0) (hp : numOk (s.extract 8 16) = true) (hp2 : 1 ≤ numV (s.extract 8 16)) (hq : numOk (s.extract 16 24) = true) (hq2 : numV (s.extract 16 24) < 1) :
    Calls Tryz.prog 67 #[.pointer (some ⟨gb, 0, none⟩), .int .i64 lane, .string s] w fun e w' => e = .returned (.int .i64 (wrongV n lane s)) ∧ Below w.heap.size w w' := by
  have HV : Hid (wrongV n lane s = 7) := by
    show wrongV n lane s = 7
    unfold wrongV
    rw [hk]
    rw [if_neg (by omega), if_neg (by simp [hl]), if_neg (by omega)]
    rw [if_neg (by omega), if_neg (by omega), if_neg (by simp), if_neg (by omega), if_neg (by omega)]
    unfold newV
    rw [if_neg (by rintro (h | h); (rw [hp] at h; cases h); omega), if_pos (.inr hq2)]
  have hgb := World.block_lt_of_cell? w _ _hc
  have e0 : s[0].toNat = 1 := by rw [← byteAt_eq s 0 (by omega)]; exact hk
  have h255_1 : (s[1].toNat : Int) ≤ 255 := by have := UInt8.toNat_lt s[1]; omega
  have ha2 : (s[1].toNat : Int) < (n : Int) := by rw [byteAt_eq s 1 (by omega)] at ha; omega
  have h2b : (s[2].toNat : Int) ≤ 1 := by rw [byteAt_eq s 2 (by omega)] at h2; omega
  have h3b : ((s[3].toNat : Int) != 0) = false := by rw [byteAt_eq s 3 (by omega)] at h3; simp [h3]
  clear hk ha h2 h3
  have z8 := fun w => zero_any (s.extract 8 32) w (size_extract_le _ _ _ hs)
  have n8 := fun w => number_any (s.extract 8 16) w (size_extract_le _ _ _ hs)
  simp only [hp] at n8
  have n16 := fun w => number_any (s.extract 16 24) w (size_extract_le _ _ _ hs)
  simp only [hq] at n16
  have n24 := fun w => number_any (s.extract 24 32) w (size_extract_le _ _ _ hs)
  clear hp hq
  generalize zeroB (s.extract 8 32) = zb at z8
  generalize numV (s.extract 8 16) = v8 at *
  generalize numV (s.extract 16 24) = v16 at *
  generalize numOk (s.extract 24 32) = ok24 at n24
  generalize numV (s.extract 24 32) = v24 at *
  go_enter Tryz.func67, Tryz.ntmps67
  go_wp2_with fail
  go_quiet (fail)
  go_wp2_with fail
  refine (z8 _).mono ?_
  rintro e w' ⟨rfl, rfl⟩
  go_wp2_with fail
  refine (n8 _).mono ?_
  rintro e w' ⟨rfl, rfl⟩
  go_wp2_with fail
  refine (n16 _).mono ?_
  rintro e w' ⟨rfl, rfl⟩
  go_wp2_with fail
  refine (n24 _).mono ?_
  rintro e w' ⟨rfl, rfl⟩
  clear z8 n8 n16 n24
  go_wp2_with fail
  go_ret
  exact ⟨by rw [HV.out]; rfl, below_drewN ((Below.refl _ _).alloc (Nat.le_refl _) _) _⟩

set_option maxRecDepth 100000 in
set_option maxHeartbeats 1000000 in
theorem wrong_life1  (gb : Nat) (a : Option Addr) (n c : Nat) (lane : Int) (s : ByteArray) (w : World) (_hc : w.cell? ⟨gb, 5, none⟩ = some (.slice a n c)) (hs : s.size = 32) (hk : byteAt s 0 = 1) (hl : lane = 0) (ha : byteAt s 1 < n) (h2 : byteAt s 2 ≤ 1) (h3 : byteAt s 3 = 0) (hp : numOk (s.extract 8 16) = true) (hp2 : 1 ≤ numV (s.extract 8 16)) (hq : numOk (s.extract 16 24) = true) (hq2 : 1 ≤ numV (s.extract 16 24)) (hf : numOk (s.extract 24 32) = false) :
    Calls Tryz.prog 67 #[.pointer (some ⟨gb, 0, none⟩), .int .i64 lane, .string s] w fun e w' => e = .returned (.int .i64 (wrongV n lane s)) ∧ Below w.heap.size w w' := by
  have HV : Hid (wrongV n lane s = 8) := by
    show wrongV n lane s = 8
    unfold wrongV
    rw [hk]
    rw [if_neg (by omega), if_neg (by simp [hl]), if_neg (by omega)]
    rw [if_neg (by omega), if_neg (by omega), if_neg (by simp), if_neg (by omega), if_neg (by omega)]
    unfold newV
    rw [if_neg (by rintro (h | h); (rw [hp] at h; cases h); omega), if_neg (by rintro (h | h); (rw [hq] at h; cases h); omega), if_pos (.inl hf)]
  have hgb := World.block_lt_of_cell? w _ _hc
  have e0 : s[0].toNat = 1 := by rw [← byteAt_eq s 0 (by omega)]; exact hk
  have h255_1 : (s[1].toNat : Int) ≤ 255 := by have := UInt8.toNat_lt s[1]; omega
  have ha2 : (s[1].toNat : Int) < (n : Int) := by rw [byteAt_eq s 1 (by omega)] at ha; omega
  have h2b : (s[2].toNat : Int) ≤ 1 := by rw [byteAt_eq s 2 (by omega)] at h2; omega
  have h3b : ((s[3].toNat : Int) != 0) = false := by rw [byteAt_eq s 3 (by omega)] at h3; simp [h3]
  clear hk ha h2 h3
  have z8 := fun w => zero_any (s.extract 8 32) w (size_extract_le _ _ _ hs)
  have n8 := fun w => number_any (s.extract 8 16) w (size_extract_le _ _ _ hs)
  simp only [hp] at n8
  have n16 := fun w => number_any (s.extract 16 24) w (size_extract_le _ _ _ hs)
  simp only [hq] at n16
  have n24 := fun w => number_any (s.extract 24 32) w (size_extract_le _ _ _ hs)
  simp only [hf] at n24
  clear hp hq hf
  generalize zeroB (s.extract 8 32) = zb at z8
  generalize numV (s.extract 8 16) = v8 at *
  generalize numV (s.extract 16 24) = v16 at *
  generalize numV (s.extract 24 32) = v24 at *
  go_enter Tryz.func67, Tryz.ntmps67
  go_wp2_with fail
  go_quiet (fail)
  go_wp2_with fail
  refine (z8 _).mono ?_
  rintro e w' ⟨rfl, rfl⟩
  go_wp2_with fail
  refine (n8 _).mono ?_
  rintro e w' ⟨rfl, rfl⟩
  go_wp2_with fail
  refine (n16 _).mono ?_
  rintro e w' ⟨rfl, rfl⟩
  go_wp2_with fail
  refine (n24 _).mono ?_
  rintro e w' ⟨rfl, rfl⟩
  clear z8 n8 n16 n24
  go_wp2_with fail
  go_ret
  exact ⟨by rw [HV.out]; rfl, below_drewN ((Below.refl _ _).alloc (Nat.le_refl _) _) _⟩

end Go.Proofs.YtjhifhoniimfgaaGreat

