import Derived.Test.YtjhifhoniimfgaaGreatG40
import Derived.Test.YtjhifhoniimfgaaGreatG14
/-
  A step of a script on one of the gates, on both sides.
-/
namespace Go.Proofs.YtjhifhoniimfgaaGreat
open Go.RowKit

/-- What a step of a script on the pair i leaves. -/
def DoGo (own : Nat → Nat) (i : Nat) (w : World) (px pw : Option Addr) (N bb M : Nat) (w' : World) : Prop :=
  ∃ own', (∀ b, b < w.heap.size → OutT own i b → own b ≠ 3 → own' b = own b) ∧ TwinAt own' i w' px pw (N + 1) ∧ BookAt own' w' bb (M + 1) ∧ Keep (fun b => OutT own i b ∧ own b ≠ 2 ∧ own b ≠ 3) w w'

theorem outT_small {own : Nat → Nat} {i b : Nat} (h : own b < 200) : OutT own i b := .inl (by omega)

theorem doGo {own own0 : Nat → Nat} {i : Nat} {w W w2 : World} {px pw : Option Addr} {N bb M : Nat} (hB : BookAt own w bb M) (hk : Keep (fun _ => True) w W) (ho : Same own own0 w) (h : TwinGo own0 i W px pw (N + 1) w2) : DoGo own i w px pw N bb M w2 := by
  obtain ⟨own', q1, q2, q3⟩ := h
  have hB0 : BookAt own0 W bb M := hB.keep hk (fun _ _ _ => trivial) (fun b hb _ => ho b hb)
  refine ⟨own', fun b hb _ _ => (q1 b (Nat.lt_of_lt_of_le hb hk.size)).trans (ho b hb), q2, (hB0.keep q3 (fun b _ h => outT_small (by omega)) (fun b hb _ => q1 b hb)).more (Nat.le_succ M), ?_⟩
  refine (hk.mono (T := fun b => OutT own i b ∧ own b ≠ 2 ∧ own b ≠ 3) (fun _ _ _ => trivial)).trans' q3 (fun b hb hO => ?_)
  have := hO.1
  unfold OutT at this ⊢
  rw [ho b hb]; exact this

theorem DoGo.later {own : Nat → Nat} {i : Nat} {w w2 w3 : World} {px pw : Option Addr} {N bb M : Nat} (h : DoGo own i w px pw N bb M w2) (hk : Keep (fun _ => True) w2 w3) : DoGo own i w px pw N bb M w3 := by
  obtain ⟨own', q1, q2, q3, q4⟩ := h
  exact ⟨own', q1, q2.keep hk (fun _ _ _ _ => trivial) (Same.refl _ _), q3.keep hk (fun _ _ _ => trivial) (fun _ _ _ => rfl), q4.trans' hk (fun _ _ _ => trivial)⟩

theorem boxC {own : Nat → Nat} {i : Nat} {n : Nat} {W w1 : World} {b j : Nat} {x : Value} (hk : Keep (OutT (ext own n 0) i) W w1) (hb : n ≤ b) (hl : b < W.heap.size) (h : W.cell? ⟨b, j, none⟩ = some x) : w1.cell? ⟨b, j, none⟩ = some x := by
  rw [World.cell?_of_block (w := W) (hk.block b hl (outT_small (by rw [ext_ge hb]; omega)))]; exact h

set_option maxRecDepth 100000 in
set_option maxHeartbeats 1000000 in
theorem does_claim (own : Nat → Nat) (i : Nat) (w : World) (px pw : Option Addr) (bb N M : Nat) (g client lane place : Int) (o : Bool) (s : ByteArray) (c0 c1 c2 c3 c4 : Int) (a : Option Addr) (n c : Nat)
    (h : TwinAt own i w px pw N) (hB : BookAt own w bb M) (hN : N < 1099511627775) :
    Calls Tryz.prog 12 #[.agg #[.pointer px, .pointer pw], .pointer (some ⟨bb, 0, none⟩), .agg #[.int .i64 3, .int .i64 g, .int .i64 client, .int .i64 lane, .int .i64 place, .bool o, .string s, .int .i64 c0, .int .i64 c1, .int .i64 c2, .int .i64 c3, .int .i64 c4, .slice a n c]] w
      fun e w' => e = .returned (.bool true) ∧ DoGo own i w px pw N bb M w' := by
  generalize hO : (#[.int .i64 3, .int .i64 g, .int .i64 client, .int .i64 lane, .int .i64 place, .bool o, .string s, .int .i64 c0, .int .i64 c1, .int .i64 c2, .int .i64 c3, .int .i64 c4, .slice a n c] : Array Value) = O
  have HT := hide' (h.keep (own' := ext own w.heap.size 0) (S := fun _ => True) (((Keep.refl _ w).alloc (.cells #[.pointer px, .pointer pw] 35)).alloc (.cells O 45)) (fun _ _ _ _ => trivial) (fun b hb => ext_lt hb))
  have HF0 := hide' (fun w2 (h : TwinGo (ext own w.heap.size 0) i ((w.alloc (.cells #[.pointer px, .pointer pw] 35)).alloc (.cells O 45)) px pw (N + 1) w2) => doGo hB (((Keep.refl _ w).alloc _).alloc _) (fun b hb => ext_lt hb) h)
  subst hO
  clear h hB
  obtain ⟨nn, er, Z, h1, h2⟩ := tclaim HT.out hN client lane
  clear HT
  go_enter Tryz.func12, Tryz.ntmps12
  go_wp2_with fail
  refine h1.mono ?_
  rintro e w1 ⟨rfl, hz⟩
  obtain ⟨hk1, h3⟩ := h2 w1 w1 hz (Keep.refl _ _)
  have u1 : w1.cell? ⟨w.heap.size, 1, none⟩ = some (.pointer pw) := boxC hk1 (Nat.le_refl _) (by simp; omega) (by simp)
  have u3 : w1.cell? ⟨w.heap.size + 1, 3, none⟩ = some (.int .i64 lane) := boxC hk1 (by omega) (by simp) (by simp)
  have u2 : w1.cell? ⟨w.heap.size + 1, 2, none⟩ = some (.int .i64 client) := boxC hk1 (by omega) (by simp) (by simp)
  clear h1 h2 hz hk1
  go_wp2_with fail
  refine h3.mono ?_
  rintro e w2 ⟨rfl, hgo, _⟩
  have HF := hide' (HF0.out w2 hgo)
  clear hgo h3 HF0
  go_wp2
  go_ret
  exact ⟨by simp, HF.out⟩

set_option maxRecDepth 100000 in
set_option maxHeartbeats 1000000 in
theorem does_core (own : Nat → Nat) (i : Nat) (w : World) (px pw : Option Addr) (bb N M : Nat) (g client lane place : Int) (o : Bool) (s : ByteArray) (c0 c1 c2 c3 c4 : Int) (a : Option Addr) (n c : Nat)
    (h : TwinAt own i w px pw N) (hB : BookAt own w bb M) (hN : N < 1099511627775) :
    Calls Tryz.prog 12 #[.agg #[.pointer px, .pointer pw], .pointer (some ⟨bb, 0, none⟩), .agg #[.int .i64 5, .int .i64 g, .int .i64 client, .int .i64 lane, .int .i64 place, .bool o, .string s, .int .i64 c0, .int .i64 c1, .int .i64 c2, .int .i64 c3, .int .i64 c4, .slice a n c]] w
      fun e w' => e = .returned (.bool true) ∧ DoGo own i w px pw N bb M w' := by
  generalize hO : (#[.int .i64 5, .int .i64 g, .int .i64 client, .int .i64 lane, .int .i64 place, .bool o, .string s, .int .i64 c0, .int .i64 c1, .int .i64 c2, .int .i64 c3, .int .i64 c4, .slice a n c] : Array Value) = O
  have HT := hide' (h.keep (own' := ext own w.heap.size 0) (S := fun _ => True) (((Keep.refl _ w).alloc (.cells #[.pointer px, .pointer pw] 35)).alloc (.cells O 45)) (fun _ _ _ _ => trivial) (fun b hb => ext_lt hb))
  have HF0 := hide' (fun w2 (h : TwinGo (ext own w.heap.size 0) i ((w.alloc (.cells #[.pointer px, .pointer pw] 35)).alloc (.cells O 45)) px pw (N + 1) w2) => doGo hB (((Keep.refl _ w).alloc _).alloc _) (fun b hb => ext_lt hb) h)
  subst hO
  clear h hB
  obtain ⟨nn, er, Z, h1, h2⟩ := tcore HT.out hN 
  clear HT
  go_enter Tryz.func12, Tryz.ntmps12
  go_wp2_with fail
  refine h1.mono ?_
  rintro e w1 ⟨rfl, hz⟩
  obtain ⟨hk1, h3⟩ := h2 w1 w1 hz (Keep.refl _ _)
  have u1 : w1.cell? ⟨w.heap.size, 1, none⟩ = some (.pointer pw) := boxC hk1 (Nat.le_refl _) (by simp; omega) (by simp)
  clear h1 h2 hz hk1
  go_wp2_with fail
  refine h3.mono ?_
  rintro e w2 ⟨rfl, hgo, _⟩
  have HF := hide' (HF0.out w2 hgo)
  clear hgo h3 HF0
  go_wp2
  go_ret
  exact ⟨by simp, HF.out⟩

set_option maxRecDepth 100000 in
set_option maxHeartbeats 1000000 in
theorem does_tick (own : Nat → Nat) (i : Nat) (w : World) (px pw : Option Addr) (bb N M : Nat) (g client lane place : Int) (o : Bool) (s : ByteArray) (c0 c1 c2 c3 c4 : Int) (a : Option Addr) (n c : Nat)
    (h : TwinAt own i w px pw N) (hB : BookAt own w bb M) (hN : N < 1099511627775) :
    Calls Tryz.prog 12 #[.agg #[.pointer px, .pointer pw], .pointer (some ⟨bb, 0, none⟩), .agg #[.int .i64 8, .int .i64 g, .int .i64 client, .int .i64 lane, .int .i64 place, .bool o, .string s, .int .i64 c0, .int .i64 c1, .int .i64 c2, .int .i64 c3, .int .i64 c4, .slice a n c]] w
      fun e w' => e = .returned (.bool true) ∧ DoGo own i w px pw N bb M w' := by
  generalize hO : (#[.int .i64 8, .int .i64 g, .int .i64 client, .int .i64 lane, .int .i64 place, .bool o, .string s, .int .i64 c0, .int .i64 c1, .int .i64 c2, .int .i64 c3, .int .i64 c4, .slice a n c] : Array Value) = O
  have HT := hide' (h.keep (own' := ext own w.heap.size 0) (S := fun _ => True) (((Keep.refl _ w).alloc (.cells #[.pointer px, .pointer pw] 35)).alloc (.cells O 45)) (fun _ _ _ _ => trivial) (fun b hb => ext_lt hb))
  have HF0 := hide' (fun w2 (h : TwinGo (ext own w.heap.size 0) i ((w.alloc (.cells #[.pointer px, .pointer pw] 35)).alloc (.cells O 45)) px pw (N + 1) w2) => doGo hB (((Keep.refl _ w).alloc _).alloc _) (fun b hb => ext_lt hb) h)
  subst hO
  clear h hB
  obtain ⟨er, Z, h1, h2⟩ := ttick HT.out hN 
  clear HT
  go_enter Tryz.func12, Tryz.ntmps12
  go_wp2_with fail
  refine h1.mono ?_
  rintro e w1 ⟨rfl, hz⟩
  obtain ⟨hk1, h3⟩ := h2 w1 w1 hz (Keep.refl _ _)
  have u1 : w1.cell? ⟨w.heap.size, 1, none⟩ = some (.pointer pw) := boxC hk1 (Nat.le_refl _) (by simp; omega) (by simp)
  clear h1 h2 hz hk1
  go_wp2_with fail
  refine h3.mono ?_
  rintro e w2 ⟨rfl, hgo, _⟩
  have HF := hide' (HF0.out w2 hgo)
  clear hgo h3 HF0
  go_wp2
  go_ret
  exact ⟨by simp, HF.out⟩

set_option maxRecDepth 100000 in
set_option maxHeartbeats 1000000 in
theorem does_watch (own : Nat → Nat) (i : Nat) (w : World) (px pw : Option Addr) (bb N M : Nat) (g client lane place : Int) (o : Bool) (s : ByteArray) (c0 c1 c2 c3 c4 : Int) (a : Option Addr) (n c : Nat)
    (h : TwinAt own i w px pw N) (hB : BookAt own w bb M) (hN : N < 1099511627775) :
    Calls Tryz.prog 12 #[.agg #[.pointer px, .pointer pw], .pointer (some ⟨bb, 0, none⟩), .agg #[.int .i64 9, .int .i64 g, .int .i64 client, .int .i64 lane, .int .i64 place, .bool o, .string s, .int .i64 c0, .int .i64 c1, .int .i64 c2, .int .i64 c3, .int .i64 c4, .slice a n c]] w
      fun e w' => e = .returned (.bool true) ∧ DoGo own i w px pw N bb M w' := by
  generalize hO : (#[.int .i64 9, .int .i64 g, .int .i64 client, .int .i64 lane, .int .i64 place, .bool o, .string s, .int .i64 c0, .int .i64 c1, .int .i64 c2, .int .i64 c3, .int .i64 c4, .slice a n c] : Array Value) = O
  have HT := hide' (h.keep (own' := ext own w.heap.size 0) (S := fun _ => True) (((Keep.refl _ w).alloc (.cells #[.pointer px, .pointer pw] 35)).alloc (.cells O 45)) (fun _ _ _ _ => trivial) (fun b hb => ext_lt hb))
  have HF0 := hide' (fun w2 (h : TwinGo (ext own w.heap.size 0) i ((w.alloc (.cells #[.pointer px, .pointer pw] 35)).alloc (.cells O 45)) px pw (N + 1) w2) => doGo hB (((Keep.refl _ w).alloc _).alloc _) (fun b hb => ext_lt hb) h)
  subst hO
  clear h hB
  obtain ⟨yy, er, Z, h1, h2⟩ := twatch HT.out hN 
  clear HT
  go_enter Tryz.func12, Tryz.ntmps12
  go_wp2_with fail
  refine h1.mono ?_
  rintro e w1 ⟨rfl, hz⟩
  obtain ⟨hk1, h3⟩ := h2 w1 w1 hz (Keep.refl _ _)
  have u1 : w1.cell? ⟨w.heap.size, 1, none⟩ = some (.pointer pw) := boxC hk1 (Nat.le_refl _) (by simp; omega) (by simp)
  clear h1 h2 hz hk1
  go_wp2_with fail
  refine h3.mono ?_
  rintro e w2 ⟨rfl, hgo, _⟩
  have HF := hide' (HF0.out w2 hgo)
  clear hgo h3 HF0
  go_wp2
  go_ret
  exact ⟨by simp, HF.out⟩

set_option maxRecDepth 100000 in
set_option maxHeartbeats 1000000 in
theorem does_poll (own : Nat → Nat) (i : Nat) (w : World) (px pw : Option Addr) (bb N M : Nat) (g client lane place : Int) (o : Bool) (s : ByteArray) (c0 c1 c2 c3 c4 : Int) (a : Option Addr) (n c : Nat)
    (h : TwinAt own i w px pw N) (hB : BookAt own w bb M) (hN : N < 1099511627775) :
    Calls Tryz.prog 12 #[.agg #[.pointer px, .pointer pw], .pointer (some ⟨bb, 0, none⟩), .agg #[.int .i64 6, .int .i64 g, .int .i64 client, .int .i64 lane, .int .i64 place, .bool o, .string s, .int .i64 c0, .int .i64 c1, .int .i64 c2, .int .i64 c3, .int .i64 c4, .slice a n c]] w
      fun e w' => e = .returned (.bool true) ∧ DoGo own i w px pw N bb M w' := by
  generalize hO : (#[.int .i64 6, .int .i64 g, .int .i64 client, .int .i64 lane, .int .i64 place, .bool o, .string s, .int .i64 c0, .int .i64 c1, .int .i64 c2, .int .i64 c3, .int .i64 c4, .slice a n c] : Array Value) = O
  have HT := hide' (h.keep (own' := ext own w.heap.size 0) (S := fun _ => True) (((Keep.refl _ w).alloc (.cells #[.pointer px, .pointer pw] 35)).alloc (.cells O 45)) (fun _ _ _ _ => trivial) (fun b hb => ext_lt hb))
  have HF0 := hide' (fun w2 (h : TwinGo (ext own w.heap.size 0) i ((w.alloc (.cells #[.pointer px, .pointer pw] 35)).alloc (.cells O 45)) px pw (N + 1) w2) => doGo hB (((Keep.refl _ w).alloc _).alloc _) (fun b hb => ext_lt hb) h)
  subst hO
  clear h hB
  obtain ⟨p, q, er, Z, h1, h2⟩ := tpoll HT.out hN client
  clear HT
  go_enter Tryz.func12, Tryz.ntmps12
  go_wp2_with fail
  refine h1.mono ?_
  rintro e w1 ⟨rfl, hz⟩
  obtain ⟨hk0, _⟩ := h2 w1 w1 hz (Keep.refl _ _)
  obtain ⟨hk1, h3⟩ := h2 w1 (w1.alloc (.cells #[.int .i64 p, .int .i64 q] 58)) hz ((Keep.refl _ _).alloc _)
  have ls := hk0.size
  simp at ls
  have u1 : w1.cell? ⟨w.heap.size, 1, none⟩ = some (.pointer pw) := boxC hk0 (Nat.le_refl _) (by simp; omega) (by simp)
  have u2 : w1.cell? ⟨w.heap.size + 1, 2, none⟩ = some (.int .i64 client) := boxC hk0 (by omega) (by simp) (by simp)
  have lw : w.heap.size < w1.heap.size := by omega
  have lw2 : w.heap.size + 1 < w1.heap.size := by omega
  clear h1 h2 hz hk1 hk0
  go_wp2_with fail
  refine h3.mono ?_
  rintro e w2 ⟨rfl, hgo, hk2⟩
  have v0 : w2.cell? ⟨w1.heap.size, 0, none⟩ = some (.int .i64 p) := by
    rw [World.cell?_of_block (w := w1.alloc (.cells #[.int .i64 p, .int .i64 q] 58)) (hk2.block w1.heap.size (by simp) (Nat.le_refl _))]; simp
  have v1 : w2.cell? ⟨w1.heap.size, 1, none⟩ = some (.int .i64 q) := by
    rw [World.cell?_of_block (w := w1.alloc (.cells #[.int .i64 p, .int .i64 q] 58)) (hk2.block w1.heap.size (by simp) (Nat.le_refl _))]; simp
  have lz : w1.heap.size < w2.heap.size := by have := hk2.size; simp at this; omega
  have HF := hide' (fun w3 (hk : Keep (fun _ => True) w2 w3) => (HF0.out w2 hgo).later hk)
  clear hgo h3 HF0 hk2
  go_wp2
  go_ret
  exact ⟨by simp, HF.out _ ((Keep.refl _ _).alloc _)⟩

end Go.Proofs.YtjhifhoniimfgaaGreat

/-
  Which of several things a raw number speaks of.
-/
namespace Go.Proofs.YtjhifhoniimfgaaGreat
open Go.RowKit

/-- Which of n things the raw number c speaks of. -/
def pickN (c : Int) (n : Nat) : Nat := ((if c < 0 then -(c + 1) else c) % (n : Int)).toNat

theorem pickN_lt (c : Int) (n : Nat) (h : 0 < n) : pickN c n < n := by
  unfold pickN
  have h1 := Int.emod_nonneg (if c < 0 then -(c + 1) else c) (show (n : Int) ≠ 0 by omega)
  have h2 := Int.emod_lt_of_pos (if c < 0 then -(c + 1) else c) (show (0 : Int) < n by omega)
  omega

theorem pickN_cast (c : Int) (n : Nat) (h : 0 < n) : (pickN c n : Int) = (if c < 0 then -(c + 1) else c) % (n : Int) := by
  unfold pickN
  have h1 := Int.emod_nonneg (if c < 0 then -(c + 1) else c) (show (n : Int) ≠ 0 by omega)
  omega

set_option maxHeartbeats 400000 in
theorem pick_any (c : Int) (n : Nat) (w : World) (h : 0 < n) (hn : n ≤ 9223372036854775807) (hc1 : -9223372036854775808 ≤ c) (hc2 : c ≤ 9223372036854775807) :
    Calls Tryz.prog 11 #[.int .i64 c, .int .i64 n] w fun e w' => e = .returned (.int .i64 (pickN c n)) ∧ w = w' := by
  have hp := pickN_cast c n h
  have hn0 : ((n : Int) == 0) = false := by simp; omega
  have hn1 : 1 ≤ (n : Int) := by omega
  by_cases h0 : c < 0
  · rw [if_pos h0] at hp
    have HP : Hid ((pickN c n : Int) = (-(c + 1)) % (n : Int)) := hp
    clear hp
    go_enter Tryz.func11, Tryz.ntmps11
    go_wp2
    go_ret
    exact ⟨by rw [HP.out, ← Int.tmod_eq_emod_of_nonneg (by omega), Int.neg_tmod]; rfl, rfl⟩
  · rw [if_neg h0] at hp
    have HP : Hid ((pickN c n : Int) = c % (n : Int)) := hp
    clear hp
    go_enter Tryz.func11, Tryz.ntmps11
    go_wp2
    go_ret
    exact ⟨by rw [HP.out]; rfl, rfl⟩

end Go.Proofs.YtjhifhoniimfgaaGreat

