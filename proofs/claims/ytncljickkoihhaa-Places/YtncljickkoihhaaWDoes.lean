/-
  A step of a script on one of the gates, on both sides: claiming and publishing.
-/
import Derived.Test.YtncljickkoihhaaWPub
namespace Go.Proofs.Ytncljickkoihhaa
open Go.RowKit

theorem publishes_any (own : Nat → Nat) (t : Nat) (ht : 1 ≤ t) (w : World) (px py : Option Addr) (kind g client lane place : Int) (o : Bool) (s : ByteArray) (c0 c1 c2 c3 c4 : Int) (a : Option Addr) (n c : Nat)
    (h : TwinAt own t w (.pointer px) (.pointer py)) (hp1 : -9223372036854775808 ≤ place) (hp2 : place ≤ 9223372036854775807) :
    Calls Try.prog 24 #[.agg #[.pointer px, .pointer py], .agg #[.int .i64 kind, .int .i64 g, .int .i64 client, .int .i64 lane, .int .i64 place, .bool o, .string s, .int .i64 c0, .int .i64 c1, .int .i64 c2, .int .i64 c3, .int .i64 c4, .slice a n c]] w
      fun e w' => e = .returned (.bool true) ∧ PubOk own t w w' px py := by
  cases o
  · exact publishes_raw own t ht w px py kind g client lane place s c0 c1 c2 c3 c4 a n c h
  have h0 := h
  rcases h with ⟨hx, hy⟩ | ⟨gb, cb, cl, lb, sb, nn, m, f, rb, v, hx, hy, hp, hr, o1, o2, o3, o4, o5, hz⟩
  · simp only [Value.pointer.injEq] at hy
    exact publishes_none own t ht w px py kind g client lane place s c0 c1 c2 c3 c4 a n c h0 hy
  simp only [Value.pointer.injEq] at hx hy
  by_cases hl : lane = 0 ∨ lane = 1
  · obtain ⟨cs, e1, e2, e3, e4, e5⟩ := hr.gate
    have key : ∀ i, i < 2 → (∃ l cap, w.cell? ⟨rb, 7 + 3 * i + 1, none⟩ = some (.slice l 0 cap)) ∨
        ∃ gl cap mm, gl < w.heap.size ∧ 0 < mm ∧ mm ≤ 9223372036854775807 ∧ w.cell? ⟨rb, 7 + 3 * i + 1, none⟩ = some (.slice (some ⟨gl, 0, none⟩) mm cap) ∧ ∀ p, p < mm → ∃ x : Int, w.cell? ⟨gl, p * 3, none⟩ = some (.int .i64 x) := by
      intro i hi
      have c1 := cellAt e1 (e5 i hi).2.1
      rcases hr.row i hi with ⟨hv, _⟩ | ⟨gl, cap, cur, hv, hg, h1, h2, h3, h4⟩
      · left; rw [hv] at c1; exact ⟨none, 0, c1⟩
      · rw [hv] at c1
        by_cases hm : m i = 0
        · left; rw [hm] at c1; exact ⟨_, _, c1⟩
        · right
          have hle := (hr.le i hi).1
          exact ⟨gl, cap, m i, block_lt hg, by omega, by omega, c1, fun p hp => ⟨_, cellAt hg (h4 p hp).1⟩⟩
    rcases hl with hl | hl
    · rcases key 0 (by omega) with ⟨l, cap, k1⟩ | ⟨gl, cap, mm, k1, k2, k3, k4, k5⟩
      · exact publishes_empty0 own t ht w px py kind g client lane place s c0 c1 c2 c3 c4 a n c h0 rb cap l hy hl hr.lt k1
      · exact publishes_own0 own t ht w px py kind g client lane place s c0 c1 c2 c3 c4 a n c h0 rb cap gl mm hy hl hr.lt k1 k2 k3 hp1 hp2 k4 k5
    · rcases key 1 (by omega) with ⟨l, cap, k1⟩ | ⟨gl, cap, mm, k1, k2, k3, k4, k5⟩
      · exact publishes_empty1 own t ht w px py kind g client lane place s c0 c1 c2 c3 c4 a n c h0 rb cap l hy hl hr.lt k1
      · exact publishes_own1 own t ht w px py kind g client lane place s c0 c1 c2 c3 c4 a n c h0 rb cap gl mm hy hl hr.lt k1 k2 k3 hp1 hp2 k4 k5
  · exact publishes_lane own t ht w px py kind g client lane place s c0 c1 c2 c3 c4 a n c h0 rb hy (by simp; omega) (by simp; omega)

theorem pub_post0 {own : Nat → Nat} {t : Nat} {w w2 : World} {px py : Option Addr} {O1 O2 : Obj} (ht : 1 ≤ t)
    (hk : Keep (Other (ext own w.heap.size 0) t) ((w.alloc O1).alloc O2) w2)
    (h : TwinAt (ext (ext own w.heap.size 0) ((w.alloc O1).alloc O2).heap.size (2 * t + 1)) t w2 (.pointer px) (.pointer py)) : PubOk own t w w2 px py :=
  pub_post (q := 0) ht (by rw [World.drewN_zero]; exact hk) (by rw [World.drewN_zero]; exact h)

set_option maxRecDepth 100000 in
set_option maxHeartbeats 1000000 in
theorem does_claim (own : Nat → Nat) (t : Nat) (ht : 1 ≤ t) (w : World) (px py : Option Addr) (bk : Value) (g client lane place : Int) (o : Bool) (s : ByteArray) (c0 c1 c2 c3 c4 : Int) (a : Option Addr) (n c : Nat)
    (h : TwinAt own t w (.pointer px) (.pointer py)) :
    Calls Try.prog 13 #[.agg #[.pointer px, .pointer py], bk, .agg #[.int .i64 3, .int .i64 g, .int .i64 client, .int .i64 lane, .int .i64 place, .bool o, .string s, .int .i64 c0, .int .i64 c1, .int .i64 c2, .int .i64 c3, .int .i64 c4, .slice a n c]] w
      fun e w' => e = .returned (.bool true) ∧ PubOk own t w w' px py := by
  generalize hO : (#[.int .i64 3, .int .i64 g, .int .i64 client, .int .i64 lane, .int .i64 place, .bool o, .string s, .int .i64 c0, .int .i64 c1, .int .i64 c2, .int .i64 c3, .int .i64 c4, .slice a n c] : Array Value) = O
  have HT : Hid (TwinAt (ext own w.heap.size 0) t ((w.alloc (.cells #[.pointer px, .pointer py] 48)).alloc (.cells O 45)) (.pointer px) (.pointer py)) :=
    h.keep (S := fun _ => True) (((Keep.refl _ _).alloc _).alloc _) (fun _ _ _ => trivial) (fun b hb => ext_lt hb)
  subst hO
  clear h
  go_enter Try.func13, Try.ntmps13
  go_wp2_with fail
  obtain ⟨N, E, hE⟩ := twin_claim (ext own w.heap.size 0) t _ (.pointer px) (.pointer py) client lane HT.out
  refine hE.mono ?_
  rintro e w1 ⟨rfl, hk1, hc⟩
  have u1 : w1.cell? ⟨w.heap.size, 1, none⟩ = some (.pointer py) := box_cell ht hk1 (Nat.le_refl _) (by simp; omega) (by simp)
  have u3 : w1.cell? ⟨w.heap.size + 1, 3, none⟩ = some (.int .i64 lane) := box_cell ht hk1 (by omega) (by simp) (by simp)
  have u2 : w1.cell? ⟨w.heap.size + 1, 2, none⟩ = some (.int .i64 client) := box_cell ht hk1 (by omega) (by simp) (by simp)
  clear hE hk1
  go_wp2_with fail
  refine hc.mono ?_
  rintro e w2 ⟨rfl, hk2, htw⟩
  have HF : Hid (PubOk own t w w2 px py) := pub_post0 ht hk2 htw
  clear hk2 htw hc
  go_wp2
  go_ret
  exact ⟨by simp, HF.out⟩

set_option maxRecDepth 100000 in
set_option maxHeartbeats 1000000 in
theorem does_publish (own : Nat → Nat) (t : Nat) (ht : 1 ≤ t) (w : World) (px py : Option Addr) (bk : Value) (g client lane place : Int) (o : Bool) (s : ByteArray) (c0 c1 c2 c3 c4 : Int) (a : Option Addr) (n c : Nat)
    (h : TwinAt own t w (.pointer px) (.pointer py)) (hp1 : -9223372036854775808 ≤ place) (hp2 : place ≤ 9223372036854775807) :
    Calls Try.prog 13 #[.agg #[.pointer px, .pointer py], bk, .agg #[.int .i64 4, .int .i64 g, .int .i64 client, .int .i64 lane, .int .i64 place, .bool o, .string s, .int .i64 c0, .int .i64 c1, .int .i64 c2, .int .i64 c3, .int .i64 c4, .slice a n c]] w
      fun e w' => e = .returned (.bool true) ∧ PubOk own t w w' px py := by
  generalize hO : (#[.int .i64 4, .int .i64 g, .int .i64 client, .int .i64 lane, .int .i64 place, .bool o, .string s, .int .i64 c0, .int .i64 c1, .int .i64 c2, .int .i64 c3, .int .i64 c4, .slice a n c] : Array Value) = O
  have HT : Hid (TwinAt (ext own w.heap.size 0) t ((w.alloc (.cells #[.pointer px, .pointer py] 48)).alloc (.cells O 45)) (.pointer px) (.pointer py)) :=
    h.keep (S := fun _ => True) (((Keep.refl _ _).alloc _).alloc _) (fun _ _ _ => trivial) (fun b hb => ext_lt hb)
  subst hO
  clear h
  go_enter Try.func13, Try.ntmps13
  go_wp2_with fail
  refine (publishes_any (ext own w.heap.size 0) t ht _ px py 4 g client lane place o s c0 c1 c2 c3 c4 a n c HT.out hp1 hp2).mono ?_
  rintro e w2 ⟨rfl, hk2, own', q1, q2, htw⟩
  have HF : Hid (PubOk own t w w2 px py) := by
    have k0 : Keep (Other own t) w w2 := (((Keep.refl _ w).alloc _).alloc _).trans' hk2 (fun b _ hb => other_ext ht (.inl hb))
    refine ⟨k0, own', fun b hb => ?_, fun b hb => ?_, htw⟩
    · rw [q1 b (by simp; omega), ext_lt hb]
    · by_cases h2 : b < w.heap.size + 2
      · rw [q1 b (by simp; omega), ext_ge hb]; exact .inl rfl
      · exact q2 b (by simp; omega)
  clear hk2 htw q1 q2
  go_wp2
  go_ret
  exact ⟨by simp, HF.out⟩

end Go.Proofs.Ytncljickkoihhaa
