import Derived.Test.YtjhifhoniimfgaaGreatG41
import Derived.Test.YtjhifhoniimfgaaGreatG01
import Derived.Laws.CopyOwn
/-
  Publish, as a step of a script, on both sides.
-/
namespace Go.Proofs.YtjhifhoniimfgaaGreat
open Go.RowKit

theorem TwinGo.from {own own0 : Nat → Nat} {i : Nat} {w W w2 : World} {px pw : Option Addr} {N : Nat} (hk : Keep (fun _ => True) w W) (ho : Same own own0 w) (h : TwinGo own0 i W px pw N w2) : TwinGo own i w px pw N w2 := by
  obtain ⟨own', q1, q2, q3⟩ := h
  refine ⟨own', fun b hb => (q1 b (Nat.lt_of_lt_of_le hb hk.size)).trans (ho b hb), q2, (hk.mono (T := OutT own i) (fun _ _ _ => trivial)).trans' q3 (fun b hb hO => ?_)⟩
  unfold OutT at hO ⊢
  rw [ho b hb]; exact hO

set_option maxRecDepth 100000 in
set_option maxHeartbeats 1000000 in
theorem publishes_raw (own : Nat → Nat) (i : Nat) (w : World) (px pw : Option Addr) (N : Nat) (kind g client lane place : Int) (s : ByteArray) (c0 c1 c2 c3 c4 : Int) (a : Option Addr) (n c : Nat)
    (h : TwinAt own i w px pw N) (hN : N < 1099511627775)  :
    Calls Tryz.prog 23 #[.agg #[.pointer px, .pointer pw], .agg #[.int .i64 kind, .int .i64 g, .int .i64 client, .int .i64 lane, .int .i64 place, .bool false, .string s, .int .i64 c0, .int .i64 c1, .int .i64 c2, .int .i64 c3, .int .i64 c4, .slice a n c]] w
      fun e w' => e = .returned (.bool true) ∧ TwinGo own i w px pw (N + 1) w' := by
  generalize hO : (#[.int .i64 kind, .int .i64 g, .int .i64 client, .int .i64 lane, .int .i64 place, .bool false, .string s, .int .i64 c0, .int .i64 c1, .int .i64 c2, .int .i64 c3, .int .i64 c4, .slice a n c] : Array Value) = O
  have HT := hide' (fun q => h.keep (own' := ext own w.heap.size 0) (S := fun _ => True) ((((Keep.refl _ w).alloc (.cells #[.pointer px, .pointer pw] 35)).alloc (.cells O 45)).drewN q) (fun _ _ _ _ => trivial) (fun b hb => ext_lt hb))
  have HF0 := hide' (fun q w2 (h : TwinGo (ext own w.heap.size 0) i (((w.alloc (.cells #[.pointer px, .pointer pw] 35)).alloc (.cells O 45)).drewN q) px pw (N + 1) w2) => TwinGo.from ((((Keep.refl _ w).alloc _).alloc _).drewN q) (fun b hb => ext_lt hb) h)
  subst hO
  clear h
  go_enter Tryz.func23, Tryz.ntmps23
  go_wp2_with fail
  go_quiet (fail)
  go_wp2_with fail
  obtain ⟨er, Z, h1, h2⟩ := tpub (HT.out nq) hN client lane place s
  refine h1.mono ?_
  rintro e w1 ⟨rfl, hz⟩
  obtain ⟨hk1, h3⟩ := h2 w1 w1 hz (Keep.refl _ _)
  have u1 : w1.cell? ⟨w.heap.size, 1, none⟩ = some (.pointer pw) := boxC hk1 (Nat.le_refl _) (by simp; omega) (by simp)
  have u3 : w1.cell? ⟨w.heap.size + 1, 3, none⟩ = some (.int .i64 lane) := boxC hk1 (by omega) (by simp) (by simp)
  have u6 : w1.cell? ⟨w.heap.size + 1, 6, none⟩ = some (.string s) := boxC hk1 (by omega) (by simp) (by simp)
  clear h1 h2 hz hk1 HT
  go_wp2_with fail
  refine h3.mono ?_
  rintro e w2 ⟨rfl, hgo, _⟩
  have HF := hide' (HF0.out _ w2 hgo)
  clear hgo h3 HF0
  go_wp2
  go_ret
  exact ⟨by simp, HF.out⟩

set_option maxRecDepth 100000 in
set_option maxHeartbeats 1000000 in
theorem publishes_none (own : Nat → Nat) (i : Nat) (w : World) (px pw : Option Addr) (N : Nat) (kind g client lane place : Int) (s : ByteArray) (c0 c1 c2 c3 c4 : Int) (a : Option Addr) (n c : Nat)
    (h : TwinAt own i w px pw N) (hN : N < 1099511627775) (hpw : pw = none) :
    Calls Tryz.prog 23 #[.agg #[.pointer px, .pointer pw], .agg #[.int .i64 kind, .int .i64 g, .int .i64 client, .int .i64 lane, .int .i64 place, .bool true, .string s, .int .i64 c0, .int .i64 c1, .int .i64 c2, .int .i64 c3, .int .i64 c4, .slice a n c]] w
      fun e w' => e = .returned (.bool true) ∧ TwinGo own i w px pw (N + 1) w' := by
  generalize hO : (#[.int .i64 kind, .int .i64 g, .int .i64 client, .int .i64 lane, .int .i64 place, .bool true, .string s, .int .i64 c0, .int .i64 c1, .int .i64 c2, .int .i64 c3, .int .i64 c4, .slice a n c] : Array Value) = O
  have HT := hide' (fun q => h.keep (own' := ext own w.heap.size 0) (S := fun _ => True) ((((Keep.refl _ w).alloc (.cells #[.pointer px, .pointer pw] 35)).alloc (.cells O 45)).drewN q) (fun _ _ _ _ => trivial) (fun b hb => ext_lt hb))
  have HF0 := hide' (fun q w2 (h : TwinGo (ext own w.heap.size 0) i (((w.alloc (.cells #[.pointer px, .pointer pw] 35)).alloc (.cells O 45)).drewN q) px pw (N + 1) w2) => TwinGo.from ((((Keep.refl _ w).alloc _).alloc _).drewN q) (fun b hb => ext_lt hb) h)
  subst hO
  clear h
  subst hpw
  go_enter Tryz.func23, Tryz.ntmps23
  go_wp2_with fail
  go_quiet (fail)
  go_wp2_with fail
  obtain ⟨er, Z, h1, h2⟩ := tpub (HT.out nq) hN client lane place s
  refine h1.mono ?_
  rintro e w1 ⟨rfl, hz⟩
  obtain ⟨hk1, h3⟩ := h2 w1 w1 hz (Keep.refl _ _)
  have u1 : w1.cell? ⟨w.heap.size, 1, none⟩ = some (.pointer none) := boxC hk1 (Nat.le_refl _) (by simp; omega) (by simp)
  have u3 : w1.cell? ⟨w.heap.size + 1, 3, none⟩ = some (.int .i64 lane) := boxC hk1 (by omega) (by simp) (by simp)
  have u6 : w1.cell? ⟨w.heap.size + 1, 6, none⟩ = some (.string s) := boxC hk1 (by omega) (by simp) (by simp)
  clear h1 h2 hz hk1 HT
  go_wp2_with fail
  refine h3.mono ?_
  rintro e w2 ⟨rfl, hgo, _⟩
  have HF := hide' (HF0.out _ w2 hgo)
  clear hgo h3 HF0
  go_wp2
  go_ret
  exact ⟨by simp, HF.out⟩

set_option maxRecDepth 100000 in
set_option maxHeartbeats 1000000 in
theorem publishes_lane (own : Nat → Nat) (i : Nat) (w : World) (px pw : Option Addr) (N : Nat) (kind g client lane place : Int) (s : ByteArray) (c0 c1 c2 c3 c4 : Int) (a : Option Addr) (n c : Nat)
    (h : TwinAt own i w px pw N) (hN : N < 1099511627775) (rb : Nat) (hpw : pw = some ⟨rb, 0, none⟩) (hl0 : (lane == 0) = false) (hl1 : (lane == 1) = false) :
    Calls Tryz.prog 23 #[.agg #[.pointer px, .pointer pw], .agg #[.int .i64 kind, .int .i64 g, .int .i64 client, .int .i64 lane, .int .i64 place, .bool true, .string s, .int .i64 c0, .int .i64 c1, .int .i64 c2, .int .i64 c3, .int .i64 c4, .slice a n c]] w
      fun e w' => e = .returned (.bool true) ∧ TwinGo own i w px pw (N + 1) w' := by
  generalize hO : (#[.int .i64 kind, .int .i64 g, .int .i64 client, .int .i64 lane, .int .i64 place, .bool true, .string s, .int .i64 c0, .int .i64 c1, .int .i64 c2, .int .i64 c3, .int .i64 c4, .slice a n c] : Array Value) = O
  have HT := hide' (fun q => h.keep (own' := ext own w.heap.size 0) (S := fun _ => True) ((((Keep.refl _ w).alloc (.cells #[.pointer px, .pointer pw] 35)).alloc (.cells O 45)).drewN q) (fun _ _ _ _ => trivial) (fun b hb => ext_lt hb))
  have HF0 := hide' (fun q w2 (h : TwinGo (ext own w.heap.size 0) i (((w.alloc (.cells #[.pointer px, .pointer pw] 35)).alloc (.cells O 45)).drewN q) px pw (N + 1) w2) => TwinGo.from ((((Keep.refl _ w).alloc _).alloc _).drewN q) (fun b hb => ext_lt hb) h)
  subst hO
  clear h
  subst hpw
  go_enter Tryz.func23, Tryz.ntmps23
  go_wp2_with fail
  go_quiet (fail)
  go_wp2_with fail
  obtain ⟨er, Z, h1, h2⟩ := tpub (HT.out nq) hN client lane place s
  refine h1.mono ?_
  rintro e w1 ⟨rfl, hz⟩
  obtain ⟨hk1, h3⟩ := h2 w1 w1 hz (Keep.refl _ _)
  have u1 : w1.cell? ⟨w.heap.size, 1, none⟩ = some (.pointer (some ⟨rb, 0, none⟩)) := boxC hk1 (Nat.le_refl _) (by simp; omega) (by simp)
  have u3 : w1.cell? ⟨w.heap.size + 1, 3, none⟩ = some (.int .i64 lane) := boxC hk1 (by omega) (by simp) (by simp)
  have u6 : w1.cell? ⟨w.heap.size + 1, 6, none⟩ = some (.string s) := boxC hk1 (by omega) (by simp) (by simp)
  clear h1 h2 hz hk1 HT
  go_wp2_with fail
  refine h3.mono ?_
  rintro e w2 ⟨rfl, hgo, _⟩
  have HF := hide' (HF0.out _ w2 hgo)
  clear hgo h3 HF0
  go_wp2
  go_ret
  exact ⟨by simp, HF.out⟩

set_option maxRecDepth 100000 in
set_option maxHeartbeats 1000000 in
theorem publishes_empty0 (own : Nat → Nat) (i : Nat) (w : World) (px pw : Option Addr) (N : Nat) (kind g client lane place : Int) (s : ByteArray) (c0 c1 c2 c3 c4 : Int) (a : Option Addr) (n c : Nat)
    (h : TwinAt own i w px pw N) (hN : N < 1099511627775) (rb cap : Nat) (l : Option Addr) (hpw : pw = some ⟨rb, 0, none⟩) (hlane : lane = 0) (hrb : rb < w.heap.size) (hc8 : w.cell? ⟨rb, 8, none⟩ = some (.slice l 0 cap)) :
    Calls Tryz.prog 23 #[.agg #[.pointer px, .pointer pw], .agg #[.int .i64 kind, .int .i64 g, .int .i64 client, .int .i64 lane, .int .i64 place, .bool true, .string s, .int .i64 c0, .int .i64 c1, .int .i64 c2, .int .i64 c3, .int .i64 c4, .slice a n c]] w
      fun e w' => e = .returned (.bool true) ∧ TwinGo own i w px pw (N + 1) w' := by
  generalize hO : (#[.int .i64 kind, .int .i64 g, .int .i64 client, .int .i64 lane, .int .i64 place, .bool true, .string s, .int .i64 c0, .int .i64 c1, .int .i64 c2, .int .i64 c3, .int .i64 c4, .slice a n c] : Array Value) = O
  have HT := hide' (fun q => h.keep (own' := ext own w.heap.size 0) (S := fun _ => True) ((((Keep.refl _ w).alloc (.cells #[.pointer px, .pointer pw] 35)).alloc (.cells O 45)).drewN q) (fun _ _ _ _ => trivial) (fun b hb => ext_lt hb))
  have HF0 := hide' (fun q w2 (h : TwinGo (ext own w.heap.size 0) i (((w.alloc (.cells #[.pointer px, .pointer pw] 35)).alloc (.cells O 45)).drewN q) px pw (N + 1) w2) => TwinGo.from ((((Keep.refl _ w).alloc _).alloc _).drewN q) (fun b hb => ext_lt hb) h)
  subst hO
  clear h
  subst hpw
  subst hlane
  go_enter Tryz.func23, Tryz.ntmps23
  go_wp2_with fail
  go_quiet (fail)
  go_wp2_with fail
  obtain ⟨er, Z, h1, h2⟩ := tpub (HT.out nq) hN client 0 place s
  refine h1.mono ?_
  rintro e w1 ⟨rfl, hz⟩
  obtain ⟨hk1, h3⟩ := h2 w1 w1 hz (Keep.refl _ _)
  have u1 : w1.cell? ⟨w.heap.size, 1, none⟩ = some (.pointer (some ⟨rb, 0, none⟩)) := boxC hk1 (Nat.le_refl _) (by simp; omega) (by simp)
  have u3 : w1.cell? ⟨w.heap.size + 1, 3, none⟩ = some (.int .i64 0) := boxC hk1 (by omega) (by simp) (by simp)
  have u6 : w1.cell? ⟨w.heap.size + 1, 6, none⟩ = some (.string s) := boxC hk1 (by omega) (by simp) (by simp)
  clear h1 h2 hz hk1 HT
  go_wp2_with fail
  refine h3.mono ?_
  rintro e w2 ⟨rfl, hgo, _⟩
  have HF := hide' (HF0.out _ w2 hgo)
  clear hgo h3 HF0
  go_wp2
  go_ret
  exact ⟨by simp, HF.out⟩

set_option maxRecDepth 100000 in
set_option maxHeartbeats 1000000 in
theorem publishes_own0 (own : Nat → Nat) (i : Nat) (w : World) (px pw : Option Addr) (N : Nat) (kind g client lane place : Int) (s : ByteArray) (c0 c1 c2 c3 c4 : Int) (a : Option Addr) (n c : Nat)
    (h : TwinAt own i w px pw N) (hN : N < 1099511627775) (rb cap gl m : Nat) (hpw : pw = some ⟨rb, 0, none⟩) (hlane : lane = 0) (hrb : rb < w.heap.size) (hgl : gl < w.heap.size) (hm : 0 < m) (hm2 : m ≤ 9223372036854775807) (hp1 : -9223372036854775808 ≤ place) (hp2 : place ≤ 9223372036854775807) (hc8 : w.cell? ⟨rb, 8, none⟩ = some (.slice (some ⟨gl, 0, none⟩) m cap)) (hcl : ∀ p, p < m → ∃ x : Int, w.cell? ⟨gl, p * 3, none⟩ = some (.int .i64 x)) :
    Calls Tryz.prog 23 #[.agg #[.pointer px, .pointer pw], .agg #[.int .i64 kind, .int .i64 g, .int .i64 client, .int .i64 lane, .int .i64 place, .bool true, .string s, .int .i64 c0, .int .i64 c1, .int .i64 c2, .int .i64 c3, .int .i64 c4, .slice a n c]] w
      fun e w' => e = .returned (.bool true) ∧ TwinGo own i w px pw (N + 1) w' := by
  generalize hO : (#[.int .i64 kind, .int .i64 g, .int .i64 client, .int .i64 lane, .int .i64 place, .bool true, .string s, .int .i64 c0, .int .i64 c1, .int .i64 c2, .int .i64 c3, .int .i64 c4, .slice a n c] : Array Value) = O
  have HT := hide' (fun q => h.keep (own' := ext own w.heap.size 0) (S := fun _ => True) ((((Keep.refl _ w).alloc (.cells #[.pointer px, .pointer pw] 35)).alloc (.cells O 45)).drewN q) (fun _ _ _ _ => trivial) (fun b hb => ext_lt hb))
  have HF0 := hide' (fun q w2 (h : TwinGo (ext own w.heap.size 0) i (((w.alloc (.cells #[.pointer px, .pointer pw] 35)).alloc (.cells O 45)).drewN q) px pw (N + 1) w2) => TwinGo.from ((((Keep.refl _ w).alloc _).alloc _).drewN q) (fun b hb => ext_lt hb) h)
  subst hO
  clear h
  subst hpw
  subst hlane
  have hlt := pickN_lt place m hm
  obtain ⟨p, hp⟩ : ∃ p : Nat, p = m - 1 - pickN place m := ⟨_, rfl⟩
  have hpe : (m : Int) - 1 - (pickN place m : Int) = (p : Int) := by omega
  have hpm : p < m := by omega
  have hpm' : (p : Int) < (m : Int) := by omega
  have hm' : (0 : Int) < (m : Int) := by omega
  obtain ⟨x, hx⟩ := hcl p hpm
  have hq := fun w => pick_any place m w hm hm2 hp1 hp2
  clear hcl hp
  go_enter Tryz.func23, Tryz.ntmps23
  go_wp2_with fail
  go_quiet (fail)
  rename Nat => qa
  go_wp2_with fail
  go_quiet (fail)
  rename Nat => qb
  go_wp2_with fail
  refine (hq _).mono ?_
  rintro e w0 ⟨rfl, rfl⟩
  clear hq
  go_wp2_with fail
  go_quiet (fail)
  rename Nat => qc
  go_wp2_with fail
  obtain ⟨er, Z, h1, h2⟩ := tpub (HT.out (qa + qb + qc)) hN x 0 p s
  refine h1.mono ?_
  rintro e w1 ⟨rfl, hz⟩
  obtain ⟨hk1, h3⟩ := h2 w1 w1 hz (Keep.refl _ _)
  have u1 : w1.cell? ⟨w.heap.size, 1, none⟩ = some (.pointer (some ⟨rb, 0, none⟩)) := boxC hk1 (Nat.le_refl _) (by simp; omega) (by simp)
  have u3 : w1.cell? ⟨w.heap.size + 1, 3, none⟩ = some (.int .i64 0) := boxC hk1 (by omega) (by simp) (by simp)
  have u6 : w1.cell? ⟨w.heap.size + 1, 6, none⟩ = some (.string s) := boxC hk1 (by omega) (by simp) (by simp)
  clear h1 h2 hz hk1 HT
  go_wp2_with fail
  refine h3.mono ?_
  rintro e w2 ⟨rfl, hgo, _⟩
  have HF := hide' (HF0.out _ w2 hgo)
  clear hgo h3 HF0
  go_wp2
  go_ret
  exact ⟨by simp, HF.out⟩

set_option maxRecDepth 100000 in
set_option maxHeartbeats 1000000 in
theorem publishes_empty1 (own : Nat → Nat) (i : Nat) (w : World) (px pw : Option Addr) (N : Nat) (kind g client lane place : Int) (s : ByteArray) (c0 c1 c2 c3 c4 : Int) (a : Option Addr) (n c : Nat)
    (h : TwinAt own i w px pw N) (hN : N < 1099511627775) (rb cap : Nat) (l : Option Addr) (hpw : pw = some ⟨rb, 0, none⟩) (hlane : lane = 1) (hrb : rb < w.heap.size) (hc8 : w.cell? ⟨rb, 11, none⟩ = some (.slice l 0 cap)) :
    Calls Tryz.prog 23 #[.agg #[.pointer px, .pointer pw], .agg #[.int .i64 kind, .int .i64 g, .int .i64 client, .int .i64 lane, .int .i64 place, .bool true, .string s, .int .i64 c0, .int .i64 c1, .int .i64 c2, .int .i64 c3, .int .i64 c4, .slice a n c]] w
      fun e w' => e = .returned (.bool true) ∧ TwinGo own i w px pw (N + 1) w' := by
  generalize hO : (#[.int .i64 kind, .int .i64 g, .int .i64 client, .int .i64 lane, .int .i64 place, .bool true, .string s, .int .i64 c0, .int .i64 c1, .int .i64 c2, .int .i64 c3, .int .i64 c4, .slice a n c] : Array Value) = O
  have HT := hide' (fun q => h.keep (own' := ext own w.heap.size 0) (S := fun _ => True) ((((Keep.refl _ w).alloc (.cells #[.pointer px, .pointer pw] 35)).alloc (.cells O 45)).drewN q) (fun _ _ _ _ => trivial) (fun b hb => ext_lt hb))
  have HF0 := hide' (fun q w2 (h : TwinGo (ext own w.heap.size 0) i (((w.alloc (.cells #[.pointer px, .pointer pw] 35)).alloc (.cells O 45)).drewN q) px pw (N + 1) w2) => TwinGo.from ((((Keep.refl _ w).alloc _).alloc _).drewN q) (fun b hb => ext_lt hb) h)
  subst hO
  clear h
  subst hpw
  subst hlane
  go_enter Tryz.func23, Tryz.ntmps23
  go_wp2_with fail
  go_quiet (fail)
  go_wp2_with fail
  obtain ⟨er, Z, h1, h2⟩ := tpub (HT.out nq) hN client 1 place s
  refine h1.mono ?_
  rintro e w1 ⟨rfl, hz⟩
  obtain ⟨hk1, h3⟩ := h2 w1 w1 hz (Keep.refl _ _)
  have u1 : w1.cell? ⟨w.heap.size, 1, none⟩ = some (.pointer (some ⟨rb, 0, none⟩)) := boxC hk1 (Nat.le_refl _) (by simp; omega) (by simp)
  have u3 : w1.cell? ⟨w.heap.size + 1, 3, none⟩ = some (.int .i64 1) := boxC hk1 (by omega) (by simp) (by simp)
  have u6 : w1.cell? ⟨w.heap.size + 1, 6, none⟩ = some (.string s) := boxC hk1 (by omega) (by simp) (by simp)
  clear h1 h2 hz hk1 HT
  go_wp2_with fail
  refine h3.mono ?_
  rintro e w2 ⟨rfl, hgo, _⟩
  have HF := hide' (HF0.out _ w2 hgo)
  clear hgo h3 HF0
  go_wp2
  go_ret
  exact ⟨by simp, HF.out⟩

set_option maxRecDepth 100000 in
set_option maxHeartbeats 1000000 in
theorem publishes_own1 (own : Nat → Nat) (i : Nat) (w : World) (px pw : Option Addr) (N : Nat) (kind g client lane place : Int) (s : ByteArray) (c0 c1 c2 c3 c4 : Int) (a : Option Addr) (n c : Nat)
    (h : TwinAt own i w px pw N) (hN : N < 1099511627775) (rb cap gl m : Nat) (hpw : pw = some ⟨rb, 0, none⟩) (hlane : lane = 1) (hrb : rb < w.heap.size) (hgl : gl < w.heap.size) (hm : 0 < m) (hm2 : m ≤ 9223372036854775807) (hp1 : -9223372036854775808 ≤ place) (hp2 : place ≤ 9223372036854775807) (hc8 : w.cell? ⟨rb, 11, none⟩ = some (.slice (some ⟨gl, 0, none⟩) m cap)) (hcl : ∀ p, p < m → ∃ x : Int, w.cell? ⟨gl, p * 3, none⟩ = some (.int .i64 x)) :
    Calls Tryz.prog 23 #[.agg #[.pointer px, .pointer pw], .agg #[.int .i64 kind, .int .i64 g, .int .i64 client, .int .i64 lane, .int .i64 place, .bool true, .string s, .int .i64 c0, .int .i64 c1, .int .i64 c2, .int .i64 c3, .int .i64 c4, .slice a n c]] w
      fun e w' => e = .returned (.bool true) ∧ TwinGo own i w px pw (N + 1) w' := by
  generalize hO : (#[.int .i64 kind, .int .i64 g, .int .i64 client, .int .i64 lane, .int .i64 place, .bool true, .string s, .int .i64 c0, .int .i64 c1, .int .i64 c2, .int .i64 c3, .int .i64 c4, .slice a n c] : Array Value) = O
  have HT := hide' (fun q => h.keep (own' := ext own w.heap.size 0) (S := fun _ => True) ((((Keep.refl _ w).alloc (.cells #[.pointer px, .pointer pw] 35)).alloc (.cells O 45)).drewN q) (fun _ _ _ _ => trivial) (fun b hb => ext_lt hb))
  have HF0 := hide' (fun q w2 (h : TwinGo (ext own w.heap.size 0) i (((w.alloc (.cells #[.pointer px, .pointer pw] 35)).alloc (.cells O 45)).drewN q) px pw (N + 1) w2) => TwinGo.from ((((Keep.refl _ w).alloc _).alloc _).drewN q) (fun b hb => ext_lt hb) h)
  subst hO
  clear h
  subst hpw
  subst hlane
  have hlt := pickN_lt place m hm
  obtain ⟨p, hp⟩ : ∃ p : Nat, p = m - 1 - pickN place m := ⟨_, rfl⟩
  have hpe : (m : Int) - 1 - (pickN place m : Int) = (p : Int) := by omega
  have hpm : p < m := by omega
  have hpm' : (p : Int) < (m : Int) := by omega
  have hm' : (0 : Int) < (m : Int) := by omega
  obtain ⟨x, hx⟩ := hcl p hpm
  have hq := fun w => pick_any place m w hm hm2 hp1 hp2
  clear hcl hp
  go_enter Tryz.func23, Tryz.ntmps23
  go_wp2_with fail
  go_quiet (fail)
  rename Nat => qa
  go_wp2_with fail
  go_quiet (fail)
  rename Nat => qb
  go_wp2_with fail
  refine (hq _).mono ?_
  rintro e w0 ⟨rfl, rfl⟩
  clear hq
  go_wp2_with fail
  go_quiet (fail)
  rename Nat => qc
  go_wp2_with fail
  obtain ⟨er, Z, h1, h2⟩ := tpub (HT.out (qa + qb + qc)) hN x 1 p s
  refine h1.mono ?_
  rintro e w1 ⟨rfl, hz⟩
  obtain ⟨hk1, h3⟩ := h2 w1 w1 hz (Keep.refl _ _)
  have u1 : w1.cell? ⟨w.heap.size, 1, none⟩ = some (.pointer (some ⟨rb, 0, none⟩)) := boxC hk1 (Nat.le_refl _) (by simp; omega) (by simp)
  have u3 : w1.cell? ⟨w.heap.size + 1, 3, none⟩ = some (.int .i64 1) := boxC hk1 (by omega) (by simp) (by simp)
  have u6 : w1.cell? ⟨w.heap.size + 1, 6, none⟩ = some (.string s) := boxC hk1 (by omega) (by simp) (by simp)
  clear h1 h2 hz hk1 HT
  go_wp2_with fail
  refine h3.mono ?_
  rintro e w2 ⟨rfl, hgo, _⟩
  have HF := hide' (HF0.out _ w2 hgo)
  clear hgo h3 HF0
  go_wp2
  go_ret
  exact ⟨by simp, HF.out⟩

theorem publishes_any (own : Nat → Nat) (i : Nat) (w : World) (px pw : Option Addr) (N : Nat) (kind g client lane place : Int) (o : Bool) (s : ByteArray) (c0 c1 c2 c3 c4 : Int) (a : Option Addr) (n c : Nat)
    (h : TwinAt own i w px pw N) (hN : N < 1099511627775) (hp1 : -9223372036854775808 ≤ place) (hp2 : place ≤ 9223372036854775807) :
    Calls Tryz.prog 23 #[.agg #[.pointer px, .pointer pw], .agg #[.int .i64 kind, .int .i64 g, .int .i64 client, .int .i64 lane, .int .i64 place, .bool o, .string s, .int .i64 c0, .int .i64 c1, .int .i64 c2, .int .i64 c3, .int .i64 c4, .slice a n c]] w
      fun e w' => e = .returned (.bool true) ∧ TwinGo own i w px pw (N + 1) w' := by
  cases o
  · exact publishes_raw own i w px pw N kind g client lane place s c0 c1 c2 c3 c4 a n c h hN
  have h0 := h
  rcases h with ⟨_, hy⟩ | ⟨B, R, st, hx, hy, hp, hr, hok⟩
  · exact publishes_none own i w px pw N kind g client lane place s c0 c1 c2 c3 c4 a n c h0 hN hy
  by_cases hl : lane = 0 ∨ lane = 1
  · have key : ∀ j, j < 2 → (∃ l cap, R.lv j = .slice l 0 cap) ∨
        ∃ gl cap mm, gl < w.heap.size ∧ 0 < mm ∧ mm ≤ 9223372036854775807 ∧ R.lv j = .slice (some ⟨gl, 0, none⟩) mm cap ∧ ∀ p, p < mm → ∃ x : Int, w.cell? ⟨gl, p * 3, none⟩ = some (.int .i64 x) := by
      intro j hj
      have hrow := hr.lane j hj
      obtain ⟨la, lc, hs⟩ := ownsRow_slice hrow
      by_cases hm : st.m j = 0
      · left; rw [hs, hm]; exact ⟨_, _, rfl⟩
      · right
        obtain ⟨gl, cap, cs, q1, q2, q3⟩ := ownsRow_cells hrow (by omega)
        have hle := (hok.mt j hj).2.2
        refine ⟨gl, cap, st.m j, block_lt q2, by omega, by omega, q1, fun p hp => ⟨_, cellAt q2 (q3 _ _ ((plFlat_get (st.f j) (st.m j) p hp).1))⟩⟩
    have lr := block_lt hr.gate
    rcases hl with hl | hl
    · have cc : w.cell? ⟨R.rb, 8, none⟩ = some (R.lv 0) := cellAt (i := 8) hr.gate rfl
      rcases key 0 (by omega) with ⟨l, cap, k1⟩ | ⟨gl, cap, mm, k1, k2, k3, k4, k5⟩
      · exact publishes_empty0 own i w px pw N kind g client lane place s c0 c1 c2 c3 c4 a n c h0 hN R.rb cap l hy hl lr (by rw [cc, k1])
      · exact publishes_own0 own i w px pw N kind g client lane place s c0 c1 c2 c3 c4 a n c h0 hN R.rb cap gl mm hy hl lr k1 k2 k3 hp1 hp2 (by rw [cc, k4]) k5
    · have cc : w.cell? ⟨R.rb, 11, none⟩ = some (R.lv 1) := cellAt (i := 11) hr.gate rfl
      rcases key 1 (by omega) with ⟨l, cap, k1⟩ | ⟨gl, cap, mm, k1, k2, k3, k4, k5⟩
      · exact publishes_empty1 own i w px pw N kind g client lane place s c0 c1 c2 c3 c4 a n c h0 hN R.rb cap l hy hl lr (by rw [cc, k1])
      · exact publishes_own1 own i w px pw N kind g client lane place s c0 c1 c2 c3 c4 a n c h0 hN R.rb cap gl mm hy hl lr k1 k2 k3 hp1 hp2 (by rw [cc, k4]) k5
  · exact publishes_lane own i w px pw N kind g client lane place s c0 c1 c2 c3 c4 a n c h0 hN R.rb hy (by simp; omega) (by simp; omega)

set_option maxRecDepth 100000 in
set_option maxHeartbeats 1000000 in
theorem does_publish (own : Nat → Nat) (i : Nat) (w : World) (px pw : Option Addr) (bb N M : Nat) (g client lane place : Int) (o : Bool) (s : ByteArray) (c0 c1 c2 c3 c4 : Int) (a : Option Addr) (n c : Nat)
    (h : TwinAt own i w px pw N) (hB : BookAt own w bb M) (hN : N < 1099511627775) (hp1 : -9223372036854775808 ≤ place) (hp2 : place ≤ 9223372036854775807) :
    Calls Tryz.prog 12 #[.agg #[.pointer px, .pointer pw], .pointer (some ⟨bb, 0, none⟩), .agg #[.int .i64 4, .int .i64 g, .int .i64 client, .int .i64 lane, .int .i64 place, .bool o, .string s, .int .i64 c0, .int .i64 c1, .int .i64 c2, .int .i64 c3, .int .i64 c4, .slice a n c]] w
      fun e w' => e = .returned (.bool true) ∧ DoGo own i w px pw N bb M w' := by
  generalize hO : (#[.int .i64 4, .int .i64 g, .int .i64 client, .int .i64 lane, .int .i64 place, .bool o, .string s, .int .i64 c0, .int .i64 c1, .int .i64 c2, .int .i64 c3, .int .i64 c4, .slice a n c] : Array Value) = O
  have HT := hide' (h.keep (own' := ext own w.heap.size 0) (S := fun _ => True) (((Keep.refl _ w).alloc (.cells #[.pointer px, .pointer pw] 35)).alloc (.cells O 45)) (fun _ _ _ _ => trivial) (fun b hb => ext_lt hb))
  have HF0 := hide' (fun w2 (h : TwinGo (ext own w.heap.size 0) i ((w.alloc (.cells #[.pointer px, .pointer pw] 35)).alloc (.cells O 45)) px pw (N + 1) w2) => doGo hB (((Keep.refl _ w).alloc _).alloc _) (fun b hb => ext_lt hb) h)
  subst hO
  clear h hB
  go_enter Tryz.func12, Tryz.ntmps12
  go_wp2_with fail
  refine (publishes_any (ext own w.heap.size 0) i _ px pw N 4 g client lane place o s c0 c1 c2 c3 c4 a n c HT.out hN hp1 hp2).mono ?_
  rintro e w2 ⟨rfl, hgo⟩
  have HF := hide' (HF0.out w2 hgo)
  clear hgo HF0 HT
  go_wp2
  go_ret
  exact ⟨by simp, HF.out⟩

end Go.Proofs.YtjhifhoniimfgaaGreat

/-
  Acks, as a step of a script: the list goes over to its owner.
-/
namespace Go.Proofs.YtjhifhoniimfgaaGreat
open Go.RowKit

theorem AckAt.cellsAt {w : World} {v : Value} {l : List Ans} (h : AckAt w v l) (j : Nat) (hj : j < l.length) : ∃ g cap p q, v = .slice (some ⟨g, 0, none⟩) l.length cap ∧ l[j]? = some (p, q) ∧ w.cell? ⟨g, j * 2, none⟩ = some (.int .i64 p) ∧ w.cell? ⟨g, j * 2 + 1, none⟩ = some (.int .i64 q) := by
  obtain ⟨g, cap, cs, q1, q2, q3⟩ := ownsRow_cells h (by omega)
  have hl := List.getElem?_eq_getElem hj
  obtain ⟨f1, f2⟩ := ansFlat_get l j _ hl
  exact ⟨g, cap, l[j].1, l[j].2, q1, hl, cellAt q2 (q3 _ _ f1), cellAt q2 (q3 _ _ f2)⟩

/-- The list goes into the book. -/
theorem ackGo {own own0 : Nat → Nat} {i : Nat} {w W w2 : World} {px pw : Option Addr} {N bb M : Nat} {v : Value} {l : List Ans} (hB : BookAt own w bb M) (hk : Keep (fun _ => True) w W) (ho : Same own own0 w) (hM : M < 1099511627745) (hN : N < 1099511627770) (ha : AckAt w2 v l) (h : AcksGo own0 i W px pw (N + 1) 3 v w2) (hl : l.length ≤ N) {w3 : World} (h4 : Keep (fun _ => True) w2 w3) :
    Calls Tryz.prog 28 #[.pointer (some ⟨bb, 0, none⟩), v] w3 fun e w' => e = .returned (.tuple #[]) ∧ DoGo own i w px pw N bb M w' := by
  obtain ⟨own', q1, q2, q3, q4⟩ := h
  have hne : ∀ b, b < W.heap.size → own0 b < 200 * (i + 1) ∨ 200 * (i + 1) + 200 ≤ own0 b → own' b = own0 b := fun b hb hO => q1 b hb (fun e => by have := q2 b e; omega)
  have hB0 : BookAt own0 W bb M := hB.keep hk (fun _ _ _ => trivial) (fun b hb _ => ho b hb)
  have hB2 : BookAt own' w3 bb M := (hB0.keep q4 (fun b _ h => outT_small (by omega)) (fun b hb h => hne b hb (by omega))).keep h4 (fun _ _ _ => trivial) (fun _ _ _ => rfl)
  have ht : TwinAt own' i w3 px pw (N + 1) := q3.keep h4 (fun _ _ _ _ => trivial) (Same.refl _ _)
  have ha3 : AckAt w3 v l := ha.keep h4 (fun _ _ => trivial)
  refine (bOwn hB2 l ha3 (fun b hb => (q2 b hb).1) hM (by omega)).mono ?_
  rintro e w' ⟨rfl, own2, b1, b2, b3, b4⟩
  have s13 : W.heap.size ≤ w3.heap.size := Nat.le_trans q4.size h4.size
  refine ⟨rfl, own2, fun b hb hO h3 => ?_, ht.keep2 b4 (fun b _ h1 _ => by omega) (fun b hb h1 _ => b2 b hb (by omega)), b1, ?_⟩
  · have hbW : b < W.heap.size := Nat.lt_of_lt_of_le hb hk.size
    have e1 : own' b = own b := by rw [hne b hbW (by rw [ho b hb]; exact hO), ho b hb]
    rw [b2 b (by omega) (by rw [e1]; exact h3), e1]
  · refine (((hk.mono (T := fun b => OutT own i b ∧ own b ≠ 2 ∧ own b ≠ 3) (fun _ _ _ => trivial)).trans' q4 (fun b hb hO => ?_)).trans' h4 (fun _ _ _ => trivial)).trans' b4 (fun b hb hO => ?_)
    · have := hO.1
      unfold OutT at this ⊢
      rw [ho b hb]; exact this
    · have hbW : b < W.heap.size := Nat.lt_of_lt_of_le hb hk.size
      have e1 : own' b = own b := by rw [hne b hbW (by rw [ho b hb]; exact hO.1), ho b hb]
      rw [e1]; exact hO.2

set_option maxRecDepth 100000 in
set_option maxHeartbeats 2000000 in
theorem does_acks (own : Nat → Nat) (i : Nat) (w : World) (px pw : Option Addr) (bb N M : Nat) (g client lane place : Int) (o : Bool) (s : ByteArray) (c0 c1 c2 c3 c4 : Int) (a : Option Addr) (n c : Nat)
    (h : TwinAt own i w px pw N) (hB : BookAt own w bb M) (hN : N < 1099511627770) (hM : M < 1099511627745) :
    Calls Tryz.prog 12 #[.agg #[.pointer px, .pointer pw], .pointer (some ⟨bb, 0, none⟩), .agg #[.int .i64 7, .int .i64 g, .int .i64 client, .int .i64 lane, .int .i64 place, .bool o, .string s, .int .i64 c0, .int .i64 c1, .int .i64 c2, .int .i64 c3, .int .i64 c4, .slice a n c]] w
      fun e w' => e = .returned (.bool true) ∧ DoGo own i w px pw N bb M w' := by
  generalize hO : (#[.int .i64 7, .int .i64 g, .int .i64 client, .int .i64 lane, .int .i64 place, .bool o, .string s, .int .i64 c0, .int .i64 c1, .int .i64 c2, .int .i64 c3, .int .i64 c4, .slice a n c] : Array Value) = O
  have HT := hide' (h.keep (own' := ext own w.heap.size 0) (S := fun _ => True) (((Keep.refl _ w).alloc (.cells #[.pointer px, .pointer pw] 35)).alloc (.cells O 45)) (fun _ _ _ _ => trivial) (fun b hb => ext_lt hb))
  have HF0 := hide' (fun w2 l v (h1 : AckAt w2 v l) (h2 : AcksGo (ext own w.heap.size 0) i ((w.alloc (.cells #[.pointer px, .pointer pw] 35)).alloc (.cells O 45)) px pw (N + 1) 3 v w2) (h3 : l.length ≤ N) (w3 : World) (h4 : Keep (fun _ => True) w2 w3) => ackGo hB (((Keep.refl _ w).alloc _).alloc _) (fun b hb => ext_lt hb) hM hN h1 h2 h3 h4)
  subst hO
  clear h hB
  obtain ⟨l, er, hl, Z, h1, h2⟩ := tacks HT.out 3 (by omega) client
  clear HT
  go_enter Tryz.func12, Tryz.ntmps12
  go_wp2_with fail
  refine h1.mono ?_
  rintro e w1 ⟨v, rfl, hz⟩
  obtain ⟨⟨va, vc, rfl⟩, hk1, h3⟩ := h2 v w1 hz
  have u1 : w1.cell? ⟨w.heap.size, 1, none⟩ = some (.pointer pw) := boxC hk1 (Nat.le_refl _) (by simp; omega) (by simp)
  have u2 : w1.cell? ⟨w.heap.size + 1, 2, none⟩ = some (.int .i64 client) := boxC hk1 (by omega) (by simp) (by simp)
  clear h1 h2 hz hk1
  go_wp2_with fail
  refine h3.mono ?_
  rintro e w2 ⟨v2, rfl, ha, ha2, hgo⟩
  obtain ⟨va2, vc2, rfl⟩ := ha2.slice
  have HF := hide' (HF0.out w2 l _ ha hgo hl)
  have HA := hide' ha
  have HA2 := hide' ha2
  clear hgo h3 HF0 ha ha2
  go_wp2_with fail
  go_loopw [23, 24] (fun b j wr => b = .bool true ∧ ∃ k : Nat, k ≤ l.length ∧ j = .int .i64 k ∧ ∃ q, wr = w2.drewN q) (fun _ j _ => l.length - (intOf j).toNat)
  case atStart => exact ⟨by simp, 0, Nat.zero_le _, rfl, 0, rfl⟩
  case round =>
    obtain ⟨rfl, k, hk, rfl, q, rfl⟩ := hrel
    by_cases hlt : k < l.length
    · have hlt' : (k : Int) < (l.length : Int) := by omega
      obtain ⟨g1, cap1, p1, r1, e1, el, d1, d2⟩ := HA.out.cellsAt k hlt
      obtain ⟨g2, cap2, p2, r2, e2, el2, d3, d4⟩ := HA2.out.cellsAt k hlt
      rw [el] at el2
      simp only [Option.some.injEq, Prod.mk.injEq] at el2
      obtain ⟨rfl, rfl⟩ := el2
      simp only [Value.slice.injEq, true_and] at e1 e2
      obtain ⟨rfl, rfl⟩ := e1
      obtain ⟨rfl, rfl⟩ := e2
      clear el
      go_wp2_with fail
      go_quiet (fail)
      go_wp2_with fail
      go_roundw
      case rel => exact ⟨by simp, k + 1, by omega, by go_num, by first | exact ⟨_, rfl⟩ | exact ⟨_, World.drewN_drewN _ _ _⟩⟩
      case measure => simp [intOf]; omega
    · have hge : ¬ (k : Int) < (l.length : Int) := by omega
      go_wp2_with fail
      refine (HF.out (w2.drewN q) ((Keep.refl _ _).drewN q)).mono ?_
      rintro e w3 ⟨rfl, hd⟩
      have HD := hide' hd
      clear hd
      go_wp2
      go_ret
      exact ⟨by simp, HD.out⟩

end Go.Proofs.YtjhifhoniimfgaaGreat

/-
  The built-in copy into a row of the call's own, whose elements take several cells.
-/
namespace Go.Proofs.YtjhifhoniimfgaaGreat
open Go.RowKit

theorem run_copy_rows {P : Program} (w : World) (dT sT ty elem : TypeId) (size g dLen dCap : Nat) (a : Addr) (sLen sCap : Nat) (cur : Array Value) (t : TypeId) (cs : List Value)
    (hu : P.underlying dT = some (.slice elem)) (hs : (P.info? elem).map (·.size) = some size)
    (hg : w.heap[g]? = some (.cells cur t (0, 0))) (hn : cs.length = Nat.min sLen dLen * size)
    (hsrc : ∀ j v, cs[j]? = some v → w.cell? (a.add j) = some v) (hfit : cs.length ≤ cur.size) (h1 : ∀ v ∈ cs, v.oneCell' = true) :
    (Builtin.copy_ #[dT, sT] ty #[.slice (some ⟨g, 0, none⟩) dLen dCap, .slice (some a) sLen sCap]).run P w =
      .ok (goInt (Nat.min sLen dLen)) (w.setRow g (cur.toList.take 0 ++ cs ++ cur.toList.drop (0 + cs.length)).toArray) := by
  have hl := run_loadCells_list (P := P) w a cs hsrc
  have hst := run_storeCells_at P g 0 t cs 0 cur w hg (by simpa using hfit) h1
  cases hq : P.info? elem with
  | none => simp [hq] at hs
  | some i =>
    have hi : i.size = size := by simpa [hq] using hs
    simp [Builtin.copy_, run_underlying hu, Builtin.lenOf, Builtin.firstCells, sizeOf, typeInfo, hq, hi, ← hn, hl, hst]

theorem run_copy_zero {P : Program} (w : World) (dT sT ty elem : TypeId) (size : Nat) (d a : Option Addr) (dLen dCap sCap : Nat) (hu : P.underlying dT = some (.slice elem)) (hs : (P.info? elem).map (·.size) = some size) :
    (Builtin.copy_ #[dT, sT] ty #[.slice d dLen dCap, .slice a 0 sCap]).run P w = .ok (goInt 0) w := by
  cases hq : P.info? elem with
  | none => simp [hq] at hs
  | some i =>
    have hi : i.size = size := by simpa [hq] using hs
    have hl : ∀ x : Addr, (loadCells x 0).run P w = .ok #[] w := fun x => run_loadCells_list (P := P) w x [] (by simp)
    cases a <;> cases d <;> simp [Builtin.copy_, run_underlying hu, Builtin.lenOf, Builtin.firstCells, sizeOf, typeInfo, hq, storeCells, hl]

theorem copy_rows_ex {P : Program} (w : World) (dT sT ty elem : TypeId) (size : Nat) (hu : P.underlying dT = some (.slice elem)) (hsz : (P.info? elem).map (·.size) = some size)
    (g dLen dCap : Nat) (sp : Option Addr) (sLen sCap : Nat)
    (cur : Array Value) (t : TypeId) (hg : w.heap[g]? = some (.cells cur t (0, 0))) (cs : List Value) (hle : sLen ≤ dLen) (hn : cs.length = sLen * size)
    (hsrc : sLen = 0 ∨ ∃ ad, sp = some ad ∧ ∀ j v, cs[j]? = some v → w.cell? (ad.add j) = some v) (hfit : cs.length ≤ cur.size) (h1 : ∀ v ∈ cs, v.oneCell' = true) :
    ∃ w' cur', (Builtin.copy_ #[dT, sT] ty #[.slice (some ⟨g, 0, none⟩) dLen dCap, .slice sp sLen sCap]).run P w = .ok (goInt sLen) w' ∧
      w'.heap[g]? = some (.cells cur' t (0, 0)) ∧ cur'.size = cur.size ∧ (∀ j, j < cs.length → cur'[j]? = cs[j]?) ∧ (∀ j, cs.length ≤ j → cur'[j]? = cur[j]?) ∧ Keep (fun b => b ≠ g) w w' := by
  rcases hsrc with h0 | ⟨ad, hsp, hsrc⟩
  · subst h0
    exact ⟨w, cur, run_copy_zero (P := P) w dT sT ty elem size (some ⟨g, 0, none⟩) sp dLen dCap sCap hu hsz, hg, rfl, fun j hj => by omega, fun _ _ => rfl, Keep.refl _ _⟩
  · have hmin : Nat.min sLen dLen = sLen := Nat.min_eq_left hle
    have hrun := run_copy_rows (P := P) w dT sT ty elem size g dLen dCap ad sLen sCap cur t cs hu hsz hg (by rw [hmin]; exact hn) hsrc hfit h1
    rw [hmin] at hrun
    subst hsp
    refine ⟨_, _, hrun, setRow_heap w g _ _ t _ hg, ?_, ?_, ?_, ?_⟩
    · simp; omega
    · intro j hj
      simp [List.getElem?_append_left hj]
    · intro j hj
      simp only [List.take_zero, List.nil_append, Nat.zero_add, List.getElem?_toArray]
      rw [List.getElem?_append_right hj, List.getElem?_drop]
      have : cs.length + (j - cs.length) = j := by omega
      rw [this]; simp
    · exact ⟨rfl, rfl, rfl, by simp [World.setRow], fun k hk hne => setRow_other w g k _ (by omega)⟩

end Go.Proofs.YtjhifhoniimfgaaGreat

