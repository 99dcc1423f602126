/-
  Publish, as a step of a script, on both sides.
-/
import Derived.Test.YtncljickkoihhaaTwin
import Derived.Test.YtncljickkoihhaaWPick
namespace Go.Proofs.Ytncljickkoihhaa
open Go.RowKit

/-- What a step on the gates number t leaves: nothing of others has turned, and the two are still alike. -/
def PubOk (own : Nat → Nat) (t : Nat) (w w' : World) (px py : Option Addr) : Prop :=
  Keep (Other own t) w w' ∧ ∃ own' : Nat → Nat, (∀ b, b < w.heap.size → own' b = own b) ∧ (∀ b, w.heap.size ≤ b → own' b = 0 ∨ own' b = 2 * t + 1) ∧ TwinAt own' t w' (.pointer px) (.pointer py)

theorem other_ext {own : Nat → Nat} {t n b : Nat} (ht : 1 ≤ t) (h : Other own t b ∨ n ≤ b) : Other (ext own n 0) t b := by
  unfold Other ext
  by_cases hb : b < n
  · rw [if_pos hb]
    rcases h with h | h
    · exact h
    · omega
  · rw [if_neg hb]; exact ⟨by omega, by omega⟩

theorem pub_post {own : Nat → Nat} {t : Nat} {w w2 : World} {px py : Option Addr} {O1 O2 : Obj} {q : Nat} (ht : 1 ≤ t)
    (hk : Keep (Other (ext own w.heap.size 0) t) (((w.alloc O1).alloc O2).drewN q) w2)
    (h : TwinAt (ext (ext own w.heap.size 0) (((w.alloc O1).alloc O2).drewN q).heap.size (2 * t + 1)) t w2 (.pointer px) (.pointer py)) : PubOk own t w w2 px py := by
  have hs : (((w.alloc O1).alloc O2).drewN q).heap.size = w.heap.size + 2 := by simp
  rw [hs] at h
  have k0 : Keep (Other own t) w (((w.alloc O1).alloc O2).drewN q) := (((Keep.refl _ _).alloc _).alloc _).drewN q
  refine ⟨k0.trans' hk (fun b _ hb => other_ext ht (.inl hb)), _, fun b hb => ?_, fun b hb => ?_, h⟩
  · rw [ext_lt (by omega), ext_lt hb]
  · by_cases h2 : b < w.heap.size + 2
    · rw [ext_lt h2, ext_ge hb]; exact .inl rfl
    · rw [ext_ge (by omega)]; exact .inr rfl

theorem box_cell {own : Nat → Nat} {t : Nat} {n : Nat} {W w1 : World} {b i : Nat} {x : Value} (ht : 1 ≤ t) (hk : Keep (Other (ext own n 0) t) W w1) (hb : n ≤ b) (hl : b < W.heap.size) (h : W.cell? ⟨b, i, none⟩ = some x) : w1.cell? ⟨b, i, none⟩ = some x := by
  rw [World.cell?_of_block (w := W) (hk.block b hl (other_ext ht (.inr hb)))]; exact h

set_option maxRecDepth 100000 in
set_option maxHeartbeats 1000000 in
theorem publishes_raw (own : Nat → Nat) (t : Nat) (ht : 1 ≤ t) (w : World) (px py : Option Addr) (kind g client lane place : Int) (s : ByteArray) (c0 c1 c2 c3 c4 : Int) (a : Option Addr) (n c : Nat)
    (h : TwinAt own t w (.pointer px) (.pointer py)) :
    Calls Try.prog 24 #[.agg #[.pointer px, .pointer py], .agg #[.int .i64 kind, .int .i64 g, .int .i64 client, .int .i64 lane, .int .i64 place, .bool false, .string s, .int .i64 c0, .int .i64 c1, .int .i64 c2, .int .i64 c3, .int .i64 c4, .slice a n c]] w
      fun e w' => e = .returned (.bool true) ∧ PubOk own t w w' px py := by
  generalize hO : (#[.int .i64 kind, .int .i64 g, .int .i64 client, .int .i64 lane, .int .i64 place, .bool false, .string s, .int .i64 c0, .int .i64 c1, .int .i64 c2, .int .i64 c3, .int .i64 c4, .slice a n c] : Array Value) = O
  have HT : Hid (∀ q, TwinAt (ext own w.heap.size 0) t (((w.alloc (.cells #[.pointer px, .pointer py] 48)).alloc (.cells O 45)).drewN q) (.pointer px) (.pointer py)) := fun q =>
    h.keep (S := fun _ => True) ((((Keep.refl _ _).alloc _).alloc _).drewN q) (fun _ _ _ => trivial) (fun b hb => ext_lt hb)
  subst hO
  clear h
  go_enter Try.func24, Try.ntmps24
  go_wp2_with fail
  go_quiet (fail)
  go_wp2_with fail
  obtain ⟨E, hE⟩ := twin_publish (ext own w.heap.size 0) t _ (.pointer px) (.pointer py) client lane place s (HT.out (nq))
  refine hE.mono ?_
  rintro e w1 ⟨rfl, hk1, hc⟩
  have u1 : w1.cell? ⟨w.heap.size, 1, none⟩ = some (.pointer py) := box_cell ht hk1 (Nat.le_refl _) (by simp; omega) (by simp)
  have u3 : w1.cell? ⟨w.heap.size + 1, 3, none⟩ = some (.int .i64 lane) := box_cell ht hk1 (by omega) (by simp) (by simp)
  have u6 : w1.cell? ⟨w.heap.size + 1, 6, none⟩ = some (.string s) := box_cell ht hk1 (by omega) (by simp) (by simp)
  clear hE hk1
  go_wp2_with fail
  refine hc.mono ?_
  rintro e w2 ⟨rfl, hk2, htw⟩
  have HF : Hid (PubOk own t w w2 px py) := pub_post ht hk2 htw
  clear hk2 htw hc
  go_wp2
  go_ret
  exact ⟨by simp, HF.out⟩

set_option maxRecDepth 100000 in
set_option maxHeartbeats 1000000 in
theorem publishes_none (own : Nat → Nat) (t : Nat) (ht : 1 ≤ t) (w : World) (px py : Option Addr) (kind g client lane place : Int) (s : ByteArray) (c0 c1 c2 c3 c4 : Int) (a : Option Addr) (n c : Nat)
    (h : TwinAt own t w (.pointer px) (.pointer py)) (hpy : py = none) :
    Calls Try.prog 24 #[.agg #[.pointer px, .pointer py], .agg #[.int .i64 kind, .int .i64 g, .int .i64 client, .int .i64 lane, .int .i64 place, .bool true, .string s, .int .i64 c0, .int .i64 c1, .int .i64 c2, .int .i64 c3, .int .i64 c4, .slice a n c]] w
      fun e w' => e = .returned (.bool true) ∧ PubOk own t w w' px py := by
  generalize hO : (#[.int .i64 kind, .int .i64 g, .int .i64 client, .int .i64 lane, .int .i64 place, .bool true, .string s, .int .i64 c0, .int .i64 c1, .int .i64 c2, .int .i64 c3, .int .i64 c4, .slice a n c] : Array Value) = O
  have HT : Hid (∀ q, TwinAt (ext own w.heap.size 0) t (((w.alloc (.cells #[.pointer px, .pointer py] 48)).alloc (.cells O 45)).drewN q) (.pointer px) (.pointer py)) := fun q =>
    h.keep (S := fun _ => True) ((((Keep.refl _ _).alloc _).alloc _).drewN q) (fun _ _ _ => trivial) (fun b hb => ext_lt hb)
  subst hO
  clear h
  subst hpy
  go_enter Try.func24, Try.ntmps24
  go_wp2_with fail
  go_quiet (fail)
  go_wp2_with fail
  obtain ⟨E, hE⟩ := twin_publish (ext own w.heap.size 0) t _ (.pointer px) (.pointer none) client lane place s (HT.out (nq))
  refine hE.mono ?_
  rintro e w1 ⟨rfl, hk1, hc⟩
  have u1 : w1.cell? ⟨w.heap.size, 1, none⟩ = some (.pointer none) := box_cell ht hk1 (Nat.le_refl _) (by simp; omega) (by simp)
  have u3 : w1.cell? ⟨w.heap.size + 1, 3, none⟩ = some (.int .i64 lane) := box_cell ht hk1 (by omega) (by simp) (by simp)
  have u6 : w1.cell? ⟨w.heap.size + 1, 6, none⟩ = some (.string s) := box_cell ht hk1 (by omega) (by simp) (by simp)
  clear hE hk1
  go_wp2_with fail
  refine hc.mono ?_
  rintro e w2 ⟨rfl, hk2, htw⟩
  have HF : Hid (PubOk own t w w2 px none) := pub_post ht hk2 htw
  clear hk2 htw hc
  go_wp2
  go_ret
  exact ⟨by simp, HF.out⟩

set_option maxRecDepth 100000 in
set_option maxHeartbeats 1000000 in
theorem publishes_lane (own : Nat → Nat) (t : Nat) (ht : 1 ≤ t) (w : World) (px py : Option Addr) (kind g client lane place : Int) (s : ByteArray) (c0 c1 c2 c3 c4 : Int) (a : Option Addr) (n c : Nat)
    (h : TwinAt own t w (.pointer px) (.pointer py)) (rb : Nat) (hpy : py = some ⟨rb, 0, none⟩) (hl0 : (lane == 0) = false) (hl1 : (lane == 1) = false) :
    Calls Try.prog 24 #[.agg #[.pointer px, .pointer py], .agg #[.int .i64 kind, .int .i64 g, .int .i64 client, .int .i64 lane, .int .i64 place, .bool true, .string s, .int .i64 c0, .int .i64 c1, .int .i64 c2, .int .i64 c3, .int .i64 c4, .slice a n c]] w
      fun e w' => e = .returned (.bool true) ∧ PubOk own t w w' px py := by
  generalize hO : (#[.int .i64 kind, .int .i64 g, .int .i64 client, .int .i64 lane, .int .i64 place, .bool true, .string s, .int .i64 c0, .int .i64 c1, .int .i64 c2, .int .i64 c3, .int .i64 c4, .slice a n c] : Array Value) = O
  have HT : Hid (∀ q, TwinAt (ext own w.heap.size 0) t (((w.alloc (.cells #[.pointer px, .pointer py] 48)).alloc (.cells O 45)).drewN q) (.pointer px) (.pointer py)) := fun q =>
    h.keep (S := fun _ => True) ((((Keep.refl _ _).alloc _).alloc _).drewN q) (fun _ _ _ => trivial) (fun b hb => ext_lt hb)
  subst hO
  clear h
  subst hpy
  go_enter Try.func24, Try.ntmps24
  go_wp2_with fail
  go_quiet (fail)
  go_wp2_with fail
  obtain ⟨E, hE⟩ := twin_publish (ext own w.heap.size 0) t _ (.pointer px) (.pointer (some ⟨rb, 0, none⟩)) client lane place s (HT.out (nq))
  refine hE.mono ?_
  rintro e w1 ⟨rfl, hk1, hc⟩
  have u1 : w1.cell? ⟨w.heap.size, 1, none⟩ = some (.pointer (some ⟨rb, 0, none⟩)) := box_cell ht hk1 (Nat.le_refl _) (by simp; omega) (by simp)
  have u3 : w1.cell? ⟨w.heap.size + 1, 3, none⟩ = some (.int .i64 lane) := box_cell ht hk1 (by omega) (by simp) (by simp)
  have u6 : w1.cell? ⟨w.heap.size + 1, 6, none⟩ = some (.string s) := box_cell ht hk1 (by omega) (by simp) (by simp)
  clear hE hk1
  go_wp2_with fail
  refine hc.mono ?_
  rintro e w2 ⟨rfl, hk2, htw⟩
  have HF : Hid (PubOk own t w w2 px (some ⟨rb, 0, none⟩)) := pub_post ht hk2 htw
  clear hk2 htw hc
  go_wp2
  go_ret
  exact ⟨by simp, HF.out⟩

set_option maxRecDepth 100000 in
set_option maxHeartbeats 1000000 in
theorem publishes_empty0 (own : Nat → Nat) (t : Nat) (ht : 1 ≤ t) (w : World) (px py : Option Addr) (kind g client lane place : Int) (s : ByteArray) (c0 c1 c2 c3 c4 : Int) (a : Option Addr) (n c : Nat)
    (h : TwinAt own t w (.pointer px) (.pointer py)) (rb cap : Nat) (l : Option Addr) (hpy : py = some ⟨rb, 0, none⟩) (hlane : lane = 0) (hrb : rb < w.heap.size) (hc8 : w.cell? ⟨rb, 8, none⟩ = some (.slice l 0 cap)) :
    Calls Try.prog 24 #[.agg #[.pointer px, .pointer py], .agg #[.int .i64 kind, .int .i64 g, .int .i64 client, .int .i64 lane, .int .i64 place, .bool true, .string s, .int .i64 c0, .int .i64 c1, .int .i64 c2, .int .i64 c3, .int .i64 c4, .slice a n c]] w
      fun e w' => e = .returned (.bool true) ∧ PubOk own t w w' px py := by
  generalize hO : (#[.int .i64 kind, .int .i64 g, .int .i64 client, .int .i64 lane, .int .i64 place, .bool true, .string s, .int .i64 c0, .int .i64 c1, .int .i64 c2, .int .i64 c3, .int .i64 c4, .slice a n c] : Array Value) = O
  have HT : Hid (∀ q, TwinAt (ext own w.heap.size 0) t (((w.alloc (.cells #[.pointer px, .pointer py] 48)).alloc (.cells O 45)).drewN q) (.pointer px) (.pointer py)) := fun q =>
    h.keep (S := fun _ => True) ((((Keep.refl _ _).alloc _).alloc _).drewN q) (fun _ _ _ => trivial) (fun b hb => ext_lt hb)
  subst hO
  clear h
  subst hpy
  subst hlane
  go_enter Try.func24, Try.ntmps24
  go_wp2_with fail
  go_quiet (fail)
  go_wp2_with fail
  obtain ⟨E, hE⟩ := twin_publish (ext own w.heap.size 0) t _ (.pointer px) (.pointer (some ⟨rb, 0, none⟩)) client 0 place s (HT.out (nq))
  refine hE.mono ?_
  rintro e w1 ⟨rfl, hk1, hc⟩
  have u1 : w1.cell? ⟨w.heap.size, 1, none⟩ = some (.pointer (some ⟨rb, 0, none⟩)) := box_cell ht hk1 (Nat.le_refl _) (by simp; omega) (by simp)
  have u3 : w1.cell? ⟨w.heap.size + 1, 3, none⟩ = some (.int .i64 0) := box_cell ht hk1 (by omega) (by simp) (by simp)
  have u6 : w1.cell? ⟨w.heap.size + 1, 6, none⟩ = some (.string s) := box_cell ht hk1 (by omega) (by simp) (by simp)
  clear hE hk1
  go_wp2_with fail
  refine hc.mono ?_
  rintro e w2 ⟨rfl, hk2, htw⟩
  have HF : Hid (PubOk own t w w2 px (some ⟨rb, 0, none⟩)) := pub_post ht hk2 htw
  clear hk2 htw hc
  go_wp2
  go_ret
  exact ⟨by simp, HF.out⟩

set_option maxRecDepth 100000 in
set_option maxHeartbeats 1000000 in
theorem publishes_own0 (own : Nat → Nat) (t : Nat) (ht : 1 ≤ t) (w : World) (px py : Option Addr) (kind g client lane place : Int) (s : ByteArray) (c0 c1 c2 c3 c4 : Int) (a : Option Addr) (n c : Nat)
    (h : TwinAt own t w (.pointer px) (.pointer py)) (rb cap gl m : Nat) (hpy : py = some ⟨rb, 0, none⟩) (hlane : lane = 0) (hrb : rb < w.heap.size) (hgl : gl < w.heap.size) (hm : 0 < m) (hm2 : m ≤ 9223372036854775807) (hp1 : -9223372036854775808 ≤ place) (hp2 : place ≤ 9223372036854775807) (hc8 : w.cell? ⟨rb, 8, none⟩ = some (.slice (some ⟨gl, 0, none⟩) m cap)) (hcl : ∀ p, p < m → ∃ x : Int, w.cell? ⟨gl, p * 3, none⟩ = some (.int .i64 x)) :
    Calls Try.prog 24 #[.agg #[.pointer px, .pointer py], .agg #[.int .i64 kind, .int .i64 g, .int .i64 client, .int .i64 lane, .int .i64 place, .bool true, .string s, .int .i64 c0, .int .i64 c1, .int .i64 c2, .int .i64 c3, .int .i64 c4, .slice a n c]] w
      fun e w' => e = .returned (.bool true) ∧ PubOk own t w w' px py := by
  generalize hO : (#[.int .i64 kind, .int .i64 g, .int .i64 client, .int .i64 lane, .int .i64 place, .bool true, .string s, .int .i64 c0, .int .i64 c1, .int .i64 c2, .int .i64 c3, .int .i64 c4, .slice a n c] : Array Value) = O
  have HT : Hid (∀ q, TwinAt (ext own w.heap.size 0) t (((w.alloc (.cells #[.pointer px, .pointer py] 48)).alloc (.cells O 45)).drewN q) (.pointer px) (.pointer py)) := fun q =>
    h.keep (S := fun _ => True) ((((Keep.refl _ _).alloc _).alloc _).drewN q) (fun _ _ _ => trivial) (fun b hb => ext_lt hb)
  subst hO
  clear h
  subst hpy
  subst hlane
  have hlt := pickN_lt place m hm
  obtain ⟨p, hp⟩ : ∃ p : Nat, p = m - 1 - pickN place m := ⟨_, rfl⟩
  have hpe : (m : Int) - 1 - (pickN place m : Int) = (p : Int) := by omega
  have hpm : p < m := by omega
  have hpm' : (p : Int) < (m : Int) := by omega
  have hm' : (0 : Int) < (m : Int) := by omega
  obtain ⟨x, hx⟩ := hcl p hpm
  have hq := fun w => pick_any place m w hm hm2 hp1 hp2
  clear hcl hp
  go_enter Try.func24, Try.ntmps24
  go_wp2_with fail
  go_quiet (fail)
  rename Nat => qa
  go_wp2_with fail
  go_quiet (fail)
  rename Nat => qb
  go_wp2_with fail
  refine (hq _).mono ?_
  rintro e w0 ⟨rfl, rfl⟩
  clear hq
  go_wp2_with fail
  go_quiet (fail)
  rename Nat => qc
  go_wp2_with fail
  obtain ⟨E, hE⟩ := twin_publish (ext own w.heap.size 0) t _ (.pointer px) (.pointer (some ⟨rb, 0, none⟩)) x 0 p s (HT.out (qa + qb + qc))
  refine hE.mono ?_
  rintro e w1 ⟨rfl, hk1, hc⟩
  have u1 : w1.cell? ⟨w.heap.size, 1, none⟩ = some (.pointer (some ⟨rb, 0, none⟩)) := box_cell ht hk1 (Nat.le_refl _) (by simp; omega) (by simp)
  have u3 : w1.cell? ⟨w.heap.size + 1, 3, none⟩ = some (.int .i64 0) := box_cell ht hk1 (by omega) (by simp) (by simp)
  have u6 : w1.cell? ⟨w.heap.size + 1, 6, none⟩ = some (.string s) := box_cell ht hk1 (by omega) (by simp) (by simp)
  clear hE hk1
  go_wp2_with fail
  refine hc.mono ?_
  rintro e w2 ⟨rfl, hk2, htw⟩
  have HF : Hid (PubOk own t w w2 px (some ⟨rb, 0, none⟩)) := pub_post ht hk2 htw
  clear hk2 htw hc
  go_wp2
  go_ret
  exact ⟨by simp, HF.out⟩

set_option maxRecDepth 100000 in
set_option maxHeartbeats 1000000 in
theorem publishes_empty1 (own : Nat → Nat) (t : Nat) (ht : 1 ≤ t) (w : World) (px py : Option Addr) (kind g client lane place : Int) (s : ByteArray) (c0 c1 c2 c3 c4 : Int) (a : Option Addr) (n c : Nat)
    (h : TwinAt own t w (.pointer px) (.pointer py)) (rb cap : Nat) (l : Option Addr) (hpy : py = some ⟨rb, 0, none⟩) (hlane : lane = 1) (hrb : rb < w.heap.size) (hc8 : w.cell? ⟨rb, 11, none⟩ = some (.slice l 0 cap)) :
    Calls Try.prog 24 #[.agg #[.pointer px, .pointer py], .agg #[.int .i64 kind, .int .i64 g, .int .i64 client, .int .i64 lane, .int .i64 place, .bool true, .string s, .int .i64 c0, .int .i64 c1, .int .i64 c2, .int .i64 c3, .int .i64 c4, .slice a n c]] w
      fun e w' => e = .returned (.bool true) ∧ PubOk own t w w' px py := by
  generalize hO : (#[.int .i64 kind, .int .i64 g, .int .i64 client, .int .i64 lane, .int .i64 place, .bool true, .string s, .int .i64 c0, .int .i64 c1, .int .i64 c2, .int .i64 c3, .int .i64 c4, .slice a n c] : Array Value) = O
  have HT : Hid (∀ q, TwinAt (ext own w.heap.size 0) t (((w.alloc (.cells #[.pointer px, .pointer py] 48)).alloc (.cells O 45)).drewN q) (.pointer px) (.pointer py)) := fun q =>
    h.keep (S := fun _ => True) ((((Keep.refl _ _).alloc _).alloc _).drewN q) (fun _ _ _ => trivial) (fun b hb => ext_lt hb)
  subst hO
  clear h
  subst hpy
  subst hlane
  go_enter Try.func24, Try.ntmps24
  go_wp2_with fail
  go_quiet (fail)
  go_wp2_with fail
  obtain ⟨E, hE⟩ := twin_publish (ext own w.heap.size 0) t _ (.pointer px) (.pointer (some ⟨rb, 0, none⟩)) client 1 place s (HT.out (nq))
  refine hE.mono ?_
  rintro e w1 ⟨rfl, hk1, hc⟩
  have u1 : w1.cell? ⟨w.heap.size, 1, none⟩ = some (.pointer (some ⟨rb, 0, none⟩)) := box_cell ht hk1 (Nat.le_refl _) (by simp; omega) (by simp)
  have u3 : w1.cell? ⟨w.heap.size + 1, 3, none⟩ = some (.int .i64 1) := box_cell ht hk1 (by omega) (by simp) (by simp)
  have u6 : w1.cell? ⟨w.heap.size + 1, 6, none⟩ = some (.string s) := box_cell ht hk1 (by omega) (by simp) (by simp)
  clear hE hk1
  go_wp2_with fail
  refine hc.mono ?_
  rintro e w2 ⟨rfl, hk2, htw⟩
  have HF : Hid (PubOk own t w w2 px (some ⟨rb, 0, none⟩)) := pub_post ht hk2 htw
  clear hk2 htw hc
  go_wp2
  go_ret
  exact ⟨by simp, HF.out⟩

set_option maxRecDepth 100000 in
set_option maxHeartbeats 1000000 in
theorem publishes_own1 (own : Nat → Nat) (t : Nat) (ht : 1 ≤ t) (w : World) (px py : Option Addr) (kind g client lane place : Int) (s : ByteArray) (c0 c1 c2 c3 c4 : Int) (a : Option Addr) (n c : Nat)
    (h : TwinAt own t w (.pointer px) (.pointer py)) (rb cap gl m : Nat) (hpy : py = some ⟨rb, 0, none⟩) (hlane : lane = 1) (hrb : rb < w.heap.size) (hgl : gl < w.heap.size) (hm : 0 < m) (hm2 : m ≤ 9223372036854775807) (hp1 : -9223372036854775808 ≤ place) (hp2 : place ≤ 9223372036854775807) (hc8 : w.cell? ⟨rb, 11, none⟩ = some (.slice (some ⟨gl, 0, none⟩) m cap)) (hcl : ∀ p, p < m → ∃ x : Int, w.cell? ⟨gl, p * 3, none⟩ = some (.int .i64 x)) :
    Calls Try.prog 24 #[.agg #[.pointer px, .pointer py], .agg #[.int .i64 kind, .int .i64 g, .int .i64 client, .int .i64 lane, .int .i64 place, .bool true, .string s, .int .i64 c0, .int .i64 c1, .int .i64 c2, .int .i64 c3, .int .i64 c4, .slice a n c]] w
      fun e w' => e = .returned (.bool true) ∧ PubOk own t w w' px py := by
  generalize hO : (#[.int .i64 kind, .int .i64 g, .int .i64 client, .int .i64 lane, .int .i64 place, .bool true, .string s, .int .i64 c0, .int .i64 c1, .int .i64 c2, .int .i64 c3, .int .i64 c4, .slice a n c] : Array Value) = O
  have HT : Hid (∀ q, TwinAt (ext own w.heap.size 0) t (((w.alloc (.cells #[.pointer px, .pointer py] 48)).alloc (.cells O 45)).drewN q) (.pointer px) (.pointer py)) := fun q =>
    h.keep (S := fun _ => True) ((((Keep.refl _ _).alloc _).alloc _).drewN q) (fun _ _ _ => trivial) (fun b hb => ext_lt hb)
  subst hO
  clear h
  subst hpy
  subst hlane
  have hlt := pickN_lt place m hm
  obtain ⟨p, hp⟩ : ∃ p : Nat, p = m - 1 - pickN place m := ⟨_, rfl⟩
  have hpe : (m : Int) - 1 - (pickN place m : Int) = (p : Int) := by omega
  have hpm : p < m := by omega
  have hpm' : (p : Int) < (m : Int) := by omega
  have hm' : (0 : Int) < (m : Int) := by omega
  obtain ⟨x, hx⟩ := hcl p hpm
  have hq := fun w => pick_any place m w hm hm2 hp1 hp2
  clear hcl hp
  go_enter Try.func24, Try.ntmps24
  go_wp2_with fail
  go_quiet (fail)
  rename Nat => qa
  go_wp2_with fail
  go_quiet (fail)
  rename Nat => qb
  go_wp2_with fail
  refine (hq _).mono ?_
  rintro e w0 ⟨rfl, rfl⟩
  clear hq
  go_wp2_with fail
  go_quiet (fail)
  rename Nat => qc
  go_wp2_with fail
  obtain ⟨E, hE⟩ := twin_publish (ext own w.heap.size 0) t _ (.pointer px) (.pointer (some ⟨rb, 0, none⟩)) x 1 p s (HT.out (qa + qb + qc))
  refine hE.mono ?_
  rintro e w1 ⟨rfl, hk1, hc⟩
  have u1 : w1.cell? ⟨w.heap.size, 1, none⟩ = some (.pointer (some ⟨rb, 0, none⟩)) := box_cell ht hk1 (Nat.le_refl _) (by simp; omega) (by simp)
  have u3 : w1.cell? ⟨w.heap.size + 1, 3, none⟩ = some (.int .i64 1) := box_cell ht hk1 (by omega) (by simp) (by simp)
  have u6 : w1.cell? ⟨w.heap.size + 1, 6, none⟩ = some (.string s) := box_cell ht hk1 (by omega) (by simp) (by simp)
  clear hE hk1
  go_wp2_with fail
  refine hc.mono ?_
  rintro e w2 ⟨rfl, hk2, htw⟩
  have HF : Hid (PubOk own t w w2 px (some ⟨rb, 0, none⟩)) := pub_post ht hk2 htw
  clear hk2 htw hc
  go_wp2
  go_ret
  exact ⟨by simp, HF.out⟩

end Go.Proofs.Ytncljickkoihhaa
