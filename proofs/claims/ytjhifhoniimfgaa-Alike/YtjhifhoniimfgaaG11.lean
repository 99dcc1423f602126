import Derived.Test.YtjhifhoniimfgaaG10
/-
  The lanes: places are claimed, filled and taken in a ring of slots.
-/
namespace Go.Proofs.Ytjhifhoniimfgaa
open Go.RowKit

/-- What lies in a place: whose it is, is it filled, the frame. -/
abbrev Pl := Int × Bool × ByteArray

def zeroPl : Pl := (0, false, ByteArray.empty)

theorem bits_and_i64_nat (a b : Nat) (ha : a < 9223372036854775808) (hb : b < 9223372036854775808) :
    bits .and .i64 (a : Int) (b : Int) = ((a &&& b : Nat) : Int) := by
  have hx : a &&& b < 2 ^ 63 := Nat.and_lt_two_pow _ (by omega)
  have h1 : (BitVec.ofInt 64 (a : Int)).toNat = a := by
    rw [BitVec.ofInt_natCast, BitVec.toNat_ofNat]; exact Nat.mod_eq_of_lt (by omega)
  have h2 : (BitVec.ofInt 64 (b : Int)).toNat = b := by
    rw [BitVec.ofInt_natCast, BitVec.toNat_ofNat]; exact Nat.mod_eq_of_lt (by omega)
  show IntKind.i64.wrap ((BitVec.ofInt 64 (a : Int) &&& BitVec.ofInt 64 (b : Int)).toNat : Int) = _
  rw [BitVec.toNat_and, h1, h2, IntKind.wrap_i64]
  omega

theorem and_mod (n p : Nat) (hn : n = 2 ∨ n = 4 ∨ n = 8 ∨ n = 16) (hp : p < 4611686018427387904) : bits BinOp.and IntKind.i64 (p : Int) (IntKind.i64.wrap ((n : Int) - 1)) = ((p % n : Nat) : Int) := by
  have hw : IntKind.i64.wrap ((n : Int) - 1) = ((n - 1 : Nat) : Int) := by rw [IntKind.wrap_i64]; omega
  rw [hw, bits_and_i64_nat _ _ (by omega) (by omega)]
  rcases hn with rfl | rfl | rfl | rfl
  · rw [show 2 - 1 = 2 ^ 1 - 1 from rfl, Nat.and_two_pow_sub_one_eq_mod]
  · rw [show 4 - 1 = 2 ^ 2 - 1 from rfl, Nat.and_two_pow_sub_one_eq_mod]
  · rw [show 8 - 1 = 2 ^ 3 - 1 from rfl, Nat.and_two_pow_sub_one_eq_mod]
  · rw [show 16 - 1 = 2 ^ 4 - 1 from rfl, Nat.and_two_pow_sub_one_eq_mod]

theorem pow_nat {n : Nat} (hn : powB n = true) : n = 2 ∨ n = 4 ∨ n = 8 ∨ n = 16 := by have := powB_cases hn; omega

set_option maxHeartbeats 400000 in
theorem slotOf_any (lb sb n p : Nat) (x y : Value) (w : World) (hl : w.heap[lb]? = some (.cells #[.slice (some ⟨sb, 0, none⟩) n n, x, y] 116 (0, 0)))
    (hn : powB n = true) (hp : p < 4611686018427387904) :
    Calls Try.prog 56 #[.pointer (some ⟨lb, 0, none⟩), .int .i64 p] w fun e w' => e = .returned (.pointer (some ⟨sb, p % n * 3, none⟩)) ∧ ∃ nq, w' = w.drewN nq := by
  have c0 := cellAt (i := 0) hl rfl
  have hn' := pow_nat hn
  have hlen : n ≤ 16 := by omega
  have hpn : p % n < n := Nat.mod_lt _ (by omega)
  have hand := and_mod n p hn' hp
  generalize p % n = r at hpn hand
  have hpi : (r : Int) < (n : Int) := by omega
  clear hl hn hn'
  go_enter Try.func56, Try.ntmps56
  go_wp2
  go_quiet (fail)
  go_wp2
  go_ret
  exact ⟨rfl, _, rfl⟩

def zeroSlots (n : Nat) : Array Value := madeCells #[.int .i64 0, .bool false, .string ByteArray.empty] (n * 3)

/-- The ring's slots from place t on hold what lies in the places: slot k mod n that of place k. -/
def SlotsAt (cs : Array Value) (n t : Nat) (f : Nat → Pl) : Prop :=
  cs.size = n * 3 ∧ ∀ k, t ≤ k → k < t + n → cs[k % n * 3]? = some (.int .i64 (f k).1) ∧ cs[k % n * 3 + 1]? = some (.bool (f k).2.1) ∧ cs[k % n * 3 + 2]? = some (.string (f k).2.2)

theorem zeroSlots_at (n : Nat) : SlotsAt (zeroSlots n) n 0 (fun _ => zeroPl) := by
  refine ⟨by simp [zeroSlots, size_madeCells], fun k _ hk => ?_⟩
  have hm : k % n < n := Nat.mod_lt _ (by omega)
  generalize k % n = k at hm
  have h0 : (k * 3) % 3 = 0 := by omega
  have h1 : (k * 3 + 1) % 3 = 1 := by omega
  have h2 : (k * 3 + 2) % 3 = 2 := by omega
  have l0 : k * 3 < n * 3 := by omega
  have l1 : k * 3 + 1 < n * 3 := by omega
  have l2 : k * 3 + 2 < n * 3 := by omega
  refine ⟨?_, ?_, ?_⟩
  · simp [zeroSlots, madeCells, zeroPl, l0, h0]
  · simp [zeroSlots, madeCells, zeroPl, l1, h1]
  · simp [zeroSlots, madeCells, zeroPl, l2, h2]

theorem make_slots (n : Nat) (h : n ≤ 16) (w : World) :
    (Instr.makeSlice 114 (.int .i64 n) (.int .i64 n)).run Try.prog w = .ok (.slice (some ⟨w.heap.size, 0, none⟩) n n) (w.alloc (.cells (zeroSlots n) 118)) := by
  have e : (Try.prog.info? 118).map (fun i => (i.bytes, i.size, i.zero)) = some (32, 3, some (.agg #[.int .i64 0, .bool false, .string ByteArray.empty])) := by kernel_rfl
  obtain ⟨i, hi, he⟩ := Option.map_eq_some_iff.1 e
  simp only [Prod.mk.injEq] at he
  obtain ⟨hb, hs, hz⟩ := he
  have := run_make (P := Try.prog) w 114 118 i _ Try.underlying114 hi hz .i64 .i64 (n : Int) (n : Int) (by omega) (by omega) (by rw [hb]; omega) (by omega)
  rw [this]
  simp [zeroSlots, hs, Value.cells]

set_option maxHeartbeats 400000 in
theorem newLane_any (n : Nat) (h : n ≤ 16) (w : World) :
    Calls Try.prog 47 #[.int .i64 n] w fun e w' => e = .returned (.pointer (some ⟨w.heap.size + 1, 0, none⟩)) ∧
      (w.alloc (.cells (zeroSlots n) 118)).alloc (.cells #[.slice (some ⟨w.heap.size, 0, none⟩) n n, .int .i64 0, .int .i64 0] 116) = w' := by
  have hmk := make_slots n h
  go_enter Try.func47, Try.ntmps47
  go_wp2
  go_ret
  exact ⟨rfl, rfl⟩

/-- A lane: its size n; m places were claimed, t of them taken; what lies in place k from t on: f k; what was not claimed is empty. -/
structure PLane (w : World) (lb sb n m t : Nat) (f : Nat → Pl) : Prop where
  lane : w.heap[lb]? = some (.cells #[.slice (some ⟨sb, 0, none⟩) n n, .int .i64 m, .int .i64 t] 116 (0, 0))
  ne : lb ≠ sb
  slots : ∃ cs, w.heap[sb]? = some (.cells cs 118 (0, 0)) ∧ SlotsAt cs n t f
  pow : powB n = true
  le : t ≤ m
  full : m ≤ t + n
  free : ∀ k, m ≤ k → f k = zeroPl

theorem newLane_abs (n : Nat) (h : powB n = true) (w : World) :
    Calls Try.prog 47 #[.int .i64 n] w fun e w' => ∃ lb sb, e = .returned (.pointer (some ⟨lb, 0, none⟩)) ∧ Below w.heap.size w w' ∧ PLane w' lb sb n 0 0 (fun _ => zeroPl) ∧ w.heap.size ≤ lb ∧ w.heap.size ≤ sb ∧ lb < w'.heap.size ∧ sb < w'.heap.size := by
  have h16 : n ≤ 16 := by have := pow_nat h; omega
  refine (newLane_any n h16 w).mono ?_
  rintro e w' ⟨rfl, rfl⟩
  refine ⟨w.heap.size + 1, w.heap.size, rfl, ((Below.refl _ _).alloc (Nat.le_refl _) _).alloc (by simp) _, ⟨?_, by omega, ⟨zeroSlots n, ?_, zeroSlots_at n⟩, h, Nat.le_refl _, by omega, fun _ _ => rfl⟩, by omega, by omega, by simp, by simp; omega⟩
  · simpa using heap_alloc_new (w.alloc (.cells (zeroSlots n) 118)) _
  · rw [Below.heap_alloc _ _ _ (by simp)]; exact heap_alloc_new w _

def upd (f : Nat → Pl) (k : Nat) (x : Pl) : Nat → Pl := fun j => if j = k then x else f j

theorem mod_inj {n t j k : Nat} (hj : t ≤ j) (hj2 : j < t + n) (hk : t ≤ k) (hk2 : k < t + n) (h : j % n = k % n) : j = k := by
  have h1 := Nat.div_add_mod j n
  have h2 := Nat.div_add_mod k n
  rw [h] at h1
  have h3 : j / n = k / n := by
    rcases Nat.lt_trichotomy (j / n) (k / n) with h4 | h4 | h4
    · have := Nat.mul_le_mul_left n (show j / n + 1 ≤ k / n from h4)
      rw [Nat.mul_add] at this; omega
    · exact h4
    · have := Nat.mul_le_mul_left n (show k / n + 1 ≤ j / n from h4)
      rw [Nat.mul_add] at this; omega
  rw [h3] at h1
  omega

theorem SlotsAt.client {cs : Array Value} {n t : Nat} {f : Nat → Pl} (h : SlotsAt cs n t f) (k : Nat) (hk : t ≤ k) (hk2 : k < t + n) (x : Int) :
    SlotsAt (cs.setIfInBounds (k % n * 3) (.int .i64 x)) n t (upd f k (x, (f k).2)) := by
  refine ⟨by simpa using h.1, fun j hj hj2 => ?_⟩
  obtain ⟨h0, h1, h2⟩ := h.2 j hj hj2
  have hs := h.1
  have hm : k % n < n := Nat.mod_lt _ (by omega)
  simp only [Array.getElem?_setIfInBounds]
  by_cases e : j = k
  · subst e
    rw [if_pos rfl, if_pos (by omega), if_neg (by omega), if_neg (by omega)]
    simp [upd, h1, h2]
  · have hne : j % n ≠ k % n := fun h => e (mod_inj hj hj2 hk hk2 h)
    rw [if_neg (by omega), if_neg (by omega), if_neg (by omega)]
    simp [upd, e, h0, h1, h2]

theorem SlotsAt.fill {cs : Array Value} {n t : Nat} {f : Nat → Pl} (h : SlotsAt cs n t f) (k : Nat) (hk : t ≤ k) (hk2 : k < t + n) (s : ByteArray) :
    SlotsAt ((cs.setIfInBounds (k % n * 3 + 1) (.bool true)).setIfInBounds (k % n * 3 + 2) (.string s)) n t (upd f k ((f k).1, true, s)) := by
  refine ⟨by simpa using h.1, fun j hj hj2 => ?_⟩
  obtain ⟨h0, h1, h2⟩ := h.2 j hj hj2
  have hs := h.1
  have hm : k % n < n := Nat.mod_lt _ (by omega)
  simp only [Array.getElem?_setIfInBounds, Array.size_setIfInBounds]
  by_cases e : j = k
  · subst e
    rw [if_neg (by omega), if_neg (by omega), if_neg (by omega), if_pos rfl, if_pos (by omega), if_pos rfl, if_pos (by omega)]
    simp [upd, h0]
  · have hne : j % n ≠ k % n := fun h => e (mod_inj hj hj2 hk hk2 h)
    rw [if_neg (by omega), if_neg (by omega), if_neg (by omega), if_neg (by omega), if_neg (by omega), if_neg (by omega)]
    simp [upd, e, h0, h1, h2]

theorem SlotsAt.take {cs : Array Value} {n t : Nat} {f : Nat → Pl} (h : SlotsAt cs n t f) (hn : 0 < n) (hf : f (t + n) = zeroPl) :
    SlotsAt (((cs.setIfInBounds (t % n * 3) (.int .i64 0)).setIfInBounds (t % n * 3 + 1) (.bool false)).setIfInBounds (t % n * 3 + 2) (.string ByteArray.empty)) n (t + 1) f := by
  refine ⟨by simpa using h.1, fun j hj hj2 => ?_⟩
  have hs := h.1
  have hm : t % n < n := Nat.mod_lt _ (by omega)
  simp only [Array.getElem?_setIfInBounds, Array.size_setIfInBounds]
  by_cases e : j = t + n
  · subst e
    rw [Nat.add_mod_right, hf]
    rw [if_neg (by omega), if_neg (by omega), if_pos rfl, if_pos (by omega), if_neg (by omega), if_pos rfl, if_pos (by omega), if_pos rfl, if_pos (by omega)]
    exact ⟨rfl, rfl, rfl⟩
  · obtain ⟨h0, h1, h2⟩ := h.2 j (by omega) (by omega)
    have : j % n ≠ t % n := fun h => by
      have := mod_inj (t := t) (n := n) (j := j) (k := t) (by omega) (by omega) (by omega) (by omega) h
      omega
    rw [if_neg (by omega), if_neg (by omega), if_neg (by omega), if_neg (by omega), if_neg (by omega), if_neg (by omega), if_neg (by omega), if_neg (by omega), if_neg (by omega)]
    exact ⟨h0, h1, h2⟩

theorem PLane.keep {S : Nat → Prop} {w w' : World} {lb sb n m t : Nat} {f : Nat → Pl} (h : PLane w lb sb n m t f) (hk : Keep S w w') (h1 : S lb) (h2 : S sb) : PLane w' lb sb n m t f := by
  obtain ⟨cs, c, d⟩ := h.slots
  exact { h with lane := hk.get h.lane h1, slots := ⟨cs, hk.get c h2, d⟩ }

theorem PLane.drewN {w : World} {lb sb n m t : Nat} {f : Nat → Pl} (h : PLane w lb sb n m t f) (q : Nat) : PLane (w.drewN q) lb sb n m t f :=
  ⟨h.lane, h.ne, h.slots, h.pow, h.le, h.full, h.free⟩

set_option maxHeartbeats 1000000 in
theorem laneClaim_full {w : World} {lb sb n m t : Nat} {f : Nat → Pl} (client : Int) (h : PLane w lb sb n m t f) (hm : m = t + n) (hb : m < 4611686018427387904) :
    Calls Try.prog 36 #[.pointer (some ⟨lb, 0, none⟩), .int .i64 client] w fun e w' => e = .returned (.tuple #[.int .i64 0, .bool false]) ∧ ∃ nq, w' = w.drewN nq := by
  have hn' : n ≤ 16 := by have := pow_nat h.pow; omega
  have c0 := cellAt (i := 0) h.lane rfl
  have c1 := cellAt (i := 1) h.lane rfl
  have c2 := cellAt (i := 2) h.lane rfl
  have hge : ¬ ((m : Int) - (t : Int) < (n : Int)) := by omega
  clear h
  subst hm
  go_enter Try.func36, Try.ntmps36
  go_wp2
  go_quiet (fail)
  go_wp2
  go_ret2
  exact ⟨rfl, _, rfl⟩

theorem lane_claimed {w : World} {lb sb n m t : Nat} {f : Nat → Pl} {client : Int} (q : Nat) (h : PLane w lb sb n m t f) (hm : m < t + n) :
    PLane (((w.drewN q).setCell ⟨sb, m % n * 3, none⟩ (.int .i64 client)).setCell ⟨lb, 1, none⟩ (.int .i64 ((m : Int) + 1))) lb sb n (m + 1) t (upd f m (client, false, ByteArray.empty)) ∧
    Keep (fun b => b ≠ lb ∧ b ≠ sb) w (((w.drewN q).setCell ⟨sb, m % n * 3, none⟩ (.int .i64 client)).setCell ⟨lb, 1, none⟩ (.int .i64 ((m : Int) + 1))) := by
  have k1 : Keep (fun b => b ≠ lb ∧ b ≠ sb) w (((w.drewN q).setCell ⟨sb, m % n * 3, none⟩ (.int .i64 client)).setCell ⟨lb, 1, none⟩ (.int .i64 ((m : Int) + 1))) :=
    (((Keep.refl _ w).drewN q).setCell _ (fun _ h => h.2 rfl) _).setCell _ (fun _ h => h.1 rfl) _
  obtain ⟨cs, hs, hat⟩ := h.slots
  have hfm : (f m).2 = (false, ByteArray.empty) := by rw [h.free m (Nat.le_refl _)]; rfl
  refine ⟨⟨?_, h.ne, ⟨cs.setIfInBounds (m % n * 3) (.int .i64 client), ?_, ?_⟩, h.pow, by have := h.le; omega, by omega, fun k hk => ?_⟩, k1⟩
  · rw [heap_setCell_at (cs := #[.slice (some ⟨sb, 0, none⟩) n n, .int .i64 m, .int .i64 t]) (T := 116) (f := (0, 0))]
    · simp
    · rw [Below.heap_setCell _ _ _ _ h.ne]; simpa using h.lane
  · rw [Below.heap_setCell _ _ _ _ (Ne.symm h.ne)]
    exact heap_setCell_at _ (by simpa using hs)
  · have := hat.client m h.le hm client
    rwa [hfm] at this
  · rw [upd, if_neg (by omega)]; exact h.free k (by omega)

theorem lane_filled {w : World} {lb sb n m t p : Nat} {f : Nat → Pl} {s : ByteArray} (q : Nat) (h : PLane w lb sb n m t f) (hp : t ≤ p) (hp2 : p < m) :
    PLane (((w.drewN q).setCell ⟨sb, p % n * 3 + 1, none⟩ (.bool true)).setCell ⟨sb, p % n * 3 + 2, none⟩ (.string s)) lb sb n m t (upd f p ((f p).1, true, s)) ∧
    Keep (fun b => b ≠ lb ∧ b ≠ sb) w (((w.drewN q).setCell ⟨sb, p % n * 3 + 1, none⟩ (.bool true)).setCell ⟨sb, p % n * 3 + 2, none⟩ (.string s)) := by
  have k1 : Keep (fun b => b ≠ lb ∧ b ≠ sb) w (((w.drewN q).setCell ⟨sb, p % n * 3 + 1, none⟩ (.bool true)).setCell ⟨sb, p % n * 3 + 2, none⟩ (.string s)) :=
    (((Keep.refl _ w).drewN q).setCell _ (fun _ h => h.2 rfl) _).setCell _ (fun _ h => h.2 rfl) _
  obtain ⟨cs, hs, hat⟩ := h.slots
  have hfu := h.full
  refine ⟨⟨?_, h.ne, ⟨_, ?_, hat.fill p hp (by omega) s⟩, h.pow, h.le, h.full, fun k hk => ?_⟩, k1⟩
  · rw [Below.heap_setCell _ _ _ _ h.ne, Below.heap_setCell _ _ _ _ h.ne]; simpa using h.lane
  · exact heap_setCell_at _ (heap_setCell_at _ (by simpa using hs))
  · rw [upd, if_neg (by omega)]; exact h.free k hk

set_option maxHeartbeats 1000000 in
theorem laneClaim_room {w : World} {lb sb n m t : Nat} {f : Nat → Pl} (client : Int) (h : PLane w lb sb n m t f) (hm : m < t + n) (hb : m < 4611686018427387904) :
    Calls Try.prog 36 #[.pointer (some ⟨lb, 0, none⟩), .int .i64 client] w fun e w' => e = .returned (.tuple #[.int .i64 m, .bool true]) ∧
      PLane w' lb sb n (m + 1) t (upd f m (client, false, ByteArray.empty)) ∧ Keep (fun b => b ≠ lb ∧ b ≠ sb) w w' := by
  have hn' : n ≤ 16 := by have := pow_nat h.pow; omega
  have c0 := cellAt (i := 0) h.lane rfl
  have c1 := cellAt (i := 1) h.lane rfl
  have c2 := cellAt (i := 2) h.lane rfl
  have z1 := frozenAt (i := 1) h.lane
  obtain ⟨cs, hs, hat⟩ := h.slots
  have s0 := cellAt hs (hat.2 m h.le hm).1
  have z0 := frozenAt (i := m % n * 3) hs
  have hmn : (m : Int) - (t : Int) < (n : Int) := by omega
  have hle := h.le
  have HH : Hid (PLane w lb sb n m t f) := h
  clear hs hat h
  go_enter Try.func36, Try.ntmps36
  go_wp2
  go_quiet (fail)
  go_wp2_with fail
  refine (slotOf_any lb sb n m _ _ _ (by simpa using HH.out.lane) HH.out.pow hb).mono ?_
  rintro e w1 ⟨rfl, nq2, rfl⟩
  go_wp2_with fail
  go_ret2
  exact ⟨rfl, lane_claimed _ HH.out hm⟩

set_option maxHeartbeats 1000000 in
theorem fill_out {w : World} {lb sb n m t : Nat} {f : Nat → Pl} (client place : Int) (s : ByteArray) (h : PLane w lb sb n m t f) (ho : place < t ∨ m ≤ place) :
    Calls Try.prog 37 #[.pointer (some ⟨lb, 0, none⟩), .int .i64 client, .int .i64 place, .string s] w fun e w' => e = .returned (.bool false) ∧ ∃ nq, w' = w.drewN nq := by
  have c1 := cellAt (i := 1) h.lane rfl
  have c2 := cellAt (i := 2) h.lane rfl
  have hle : (t : Int) ≤ m := by have := h.le; omega
  clear h
  by_cases h0 : place < t
  · clear ho
    go_enter Try.func37, Try.ntmps37
    go_wp2
    go_ret
    exact ⟨rfl, 0, rfl⟩
  · have hm : (m : Int) ≤ place := by omega
    clear ho
    go_enter Try.func37, Try.ntmps37
    go_wp2
    go_ret
    exact ⟨rfl, 0, rfl⟩

set_option maxHeartbeats 1000000 in
theorem fill_no {w : World} {lb sb n m t : Nat} {f : Nat → Pl} (p : Nat) (client : Int) (s : ByteArray) (h : PLane w lb sb n m t f) (hp0 : t ≤ p) (hp : p < m) (hb : m < 4611686018427387904)
    (hno : ((f p).1 != client) = true ∨ (((f p).1 != client) = false ∧ (f p).2.1 = true)) :
    Calls Try.prog 37 #[.pointer (some ⟨lb, 0, none⟩), .int .i64 client, .int .i64 p, .string s] w fun e w' => e = .returned (.bool false) ∧ ∃ nq, w' = w.drewN nq := by
  have c1 := cellAt (i := 1) h.lane rfl
  have c2 := cellAt (i := 2) h.lane rfl
  obtain ⟨cs, hs, hat⟩ := h.slots
  have hfu := h.full
  have s0 := cellAt hs (hat.2 p hp0 (by omega)).1
  have s1 := cellAt hs (hat.2 p hp0 (by omega)).2.1
  have HH : Hid (PLane w lb sb n m t f) := h
  have hpm : (p : Int) < (m : Int) := by omega
  have hpt : (t : Int) ≤ (p : Int) := by omega
  clear hs hat h hfu
  rcases hno with h1 | ⟨h1, h2⟩
  all_goals
    go_enter Try.func37, Try.ntmps37
    go_wp2_with fail
    refine (slotOf_any lb sb n p _ _ _ (by simpa using HH.out.lane) HH.out.pow (by omega)).mono ?_
    rintro e w1 ⟨rfl, nq2, rfl⟩
    go_wp2_with fail
    go_ret
    exact ⟨rfl, _, rfl⟩

set_option maxHeartbeats 1000000 in
theorem fill_yes {w : World} {lb sb n m t : Nat} {f : Nat → Pl} (p : Nat) (client : Int) (s : ByteArray) (h : PLane w lb sb n m t f) (hp0 : t ≤ p) (hp : p < m) (hb : m < 4611686018427387904)
    (h1 : ((f p).1 != client) = false) (h2 : (f p).2.1 = false) :
    Calls Try.prog 37 #[.pointer (some ⟨lb, 0, none⟩), .int .i64 client, .int .i64 p, .string s] w fun e w' => e = .returned (.bool true) ∧
      PLane w' lb sb n m t (upd f p ((f p).1, true, s)) ∧ Keep (fun b => b ≠ lb ∧ b ≠ sb) w w' := by
  have c1 := cellAt (i := 1) h.lane rfl
  have c2 := cellAt (i := 2) h.lane rfl
  obtain ⟨cs, hs, hat⟩ := h.slots
  have hfu := h.full
  have s0 := cellAt hs (hat.2 p hp0 (by omega)).1
  have s1 := cellAt hs (hat.2 p hp0 (by omega)).2.1
  have s2 := cellAt hs (hat.2 p hp0 (by omega)).2.2
  have z1 := frozenAt (i := p % n * 3 + 1) hs
  have z2 := frozenAt (i := p % n * 3 + 2) hs
  have HH : Hid (PLane w lb sb n m t f) := h
  have hpm : (p : Int) < (m : Int) := by omega
  have hpt : (t : Int) ≤ (p : Int) := by omega
  clear hs hat h hfu
  go_enter Try.func37, Try.ntmps37
  go_wp2_with fail
  refine (slotOf_any lb sb n p _ _ _ (by simpa using HH.out.lane) HH.out.pow (by omega)).mono ?_
  rintro e w1 ⟨rfl, nq2, rfl⟩
  go_wp2_with fail
  go_ret
  exact ⟨rfl, lane_filled _ HH.out hp0 hp⟩

set_option maxHeartbeats 1000000 in
theorem take_no {w : World} {lb sb n m t : Nat} {f : Nat → Pl} (h : PLane w lb sb n m t f) (hb : t < 4611686018427387904) (h1 : (f t).2.1 = false) :
    Calls Try.prog 49 #[.pointer (some ⟨lb, 0, none⟩)] w fun e w' => e = .returned (.tuple #[.agg #[.int .i64 0, .int .i64 0, .string ByteArray.empty], .bool false]) ∧ Below w.heap.size w w' := by
  have c1 := cellAt (i := 1) h.lane rfl
  have c2 := cellAt (i := 2) h.lane rfl
  obtain ⟨cs, hs, hat⟩ := h.slots
  have hn := pow_nat h.pow
  have s1 := cellAt hs (hat.2 t (Nat.le_refl _) (by omega)).2.1
  rw [h1] at s1
  have l1 := block_lt h.lane
  have l2 := block_lt hs
  have HA : ∀ o, (w.alloc o).heap[lb]? = w.heap[lb]? := fun o => Below.heap_alloc _ _ _ l1
  have HH : Hid (PLane w lb sb n m t f) := h
  clear hs hat h hn
  go_enter Try.func49, Try.ntmps49
  go_wp2_with fail
  refine (slotOf_any lb sb n t _ _ _ (by rw [HA]; exact HH.out.lane) HH.out.pow hb).mono ?_
  rintro e w1 ⟨rfl, nq2, rfl⟩
  go_wp2_with fail
  exact bodyPost_ret (v := .tuple #[.agg #[.int .i64 0, .int .i64 0, .string ByteArray.empty], .bool false]) (by simp [results, Try.results49, go_sem]; rfl) rfl ⟨rfl, (((below_drewN ((Below.refl _ _).alloc (Nat.le_refl _) _) _).setCell (Nat.le_refl _) _).setCell (Nat.le_refl _) _).setCell (Nat.le_refl _) _⟩

theorem lane_taken {w : World} {lb sb n m t : Nat} {f : Nat → Pl} (h : PLane w lb sb n m t f) (hf : (f t).2.1 = true) :
    PLane ((((w.setCell ⟨sb, t % n * 3, none⟩ (.int .i64 0)).setCell ⟨sb, t % n * 3 + 1, none⟩ (.bool false)).setCell ⟨sb, t % n * 3 + 2, none⟩ (.string ByteArray.empty)).setCell ⟨lb, 2, none⟩ (.int .i64 ((t : Int) + 1))) lb sb n m (t + 1) f ∧
    Keep (fun b => b ≠ lb ∧ b ≠ sb) w ((((w.setCell ⟨sb, t % n * 3, none⟩ (.int .i64 0)).setCell ⟨sb, t % n * 3 + 1, none⟩ (.bool false)).setCell ⟨sb, t % n * 3 + 2, none⟩ (.string ByteArray.empty)).setCell ⟨lb, 2, none⟩ (.int .i64 ((t : Int) + 1))) := by
  have k1 : Keep (fun b => b ≠ lb ∧ b ≠ sb) w ((((w.setCell ⟨sb, t % n * 3, none⟩ (.int .i64 0)).setCell ⟨sb, t % n * 3 + 1, none⟩ (.bool false)).setCell ⟨sb, t % n * 3 + 2, none⟩ (.string ByteArray.empty)).setCell ⟨lb, 2, none⟩ (.int .i64 ((t : Int) + 1))) :=
    ((((Keep.refl _ w).setCell _ (fun _ h => h.2 rfl) _).setCell _ (fun _ h => h.2 rfl) _).setCell _ (fun _ h => h.2 rfl) _).setCell _ (fun _ h => h.1 rfl) _
  obtain ⟨cs, hs, hat⟩ := h.slots
  have hfu := h.full
  have hn := pow_nat h.pow
  have htm : t < m := by
    rcases Nat.lt_or_ge t m with h1 | h1
    · exact h1
    · rw [h.free t h1] at hf; cases hf
  refine ⟨⟨?_, h.ne, ⟨_, ?_, hat.take (by omega) (h.free _ hfu)⟩, h.pow, htm, by omega, h.free⟩, k1⟩
  · rw [heap_setCell_at (cs := #[.slice (some ⟨sb, 0, none⟩) n n, .int .i64 m, .int .i64 t]) (T := 116) (f := (0, 0))]
    · simp
    · rw [Below.heap_setCell _ _ _ _ h.ne, Below.heap_setCell _ _ _ _ h.ne, Below.heap_setCell _ _ _ _ h.ne]; exact h.lane
  · rw [Below.heap_setCell _ _ _ _ (Ne.symm h.ne)]
    exact heap_setCell_at _ (heap_setCell_at _ (heap_setCell_at _ hs))

set_option maxHeartbeats 1000000 in
theorem take_yes {w : World} {lb sb n m t : Nat} {f : Nat → Pl} (h : PLane w lb sb n m t f) (hb : t < 4611686018427387904) (h1 : (f t).2.1 = true) :
    Calls Try.prog 49 #[.pointer (some ⟨lb, 0, none⟩)] w fun e w' => e = .returned (.tuple #[.agg #[.int .i64 t, .int .i64 (f t).1, .string (f t).2.2], .bool true]) ∧
      PLane w' lb sb n m (t + 1) f ∧ Keep (fun b => b ≠ lb ∧ b ≠ sb) w w' := by
  have c1 := cellAt (i := 1) h.lane rfl
  have c2 := cellAt (i := 2) h.lane rfl
  have z2 := frozenAt (i := 2) h.lane
  obtain ⟨cs, hs, hat⟩ := h.slots
  have hn := pow_nat h.pow
  obtain ⟨s0, s1, s2⟩ := hat.2 t (Nat.le_refl _) (by omega)
  have s0 := cellAt hs s0
  have s1 := cellAt hs s1
  have s2 := cellAt hs s2
  rw [h1] at s1
  have y0 := frozenAt (i := t % n * 3) hs
  have y1 := frozenAt (i := t % n * 3 + 1) hs
  have y2 := frozenAt (i := t % n * 3 + 2) hs
  have l1 := block_lt h.lane
  have hne := h.ne
  have hne2 := Ne.symm h.ne
  have l2 := block_lt hs
  have HA : ∀ o, (w.alloc o).heap[lb]? = w.heap[lb]? := fun o => Below.heap_alloc _ _ _ l1
  have HH : Hid (PLane w lb sb n m t f) := h
  clear hs hat h hn
  go_enter Try.func49, Try.ntmps49
  go_wp2_with fail
  refine (slotOf_any lb sb n t _ _ _ (by rw [HA]; exact HH.out.lane) HH.out.pow hb).mono ?_
  rintro e w1 ⟨rfl, nq2, rfl⟩
  go_wp2_with fail
  go_region
  go_wp2
  refine bodyPost_ret (v := .tuple #[.agg #[.int .i64 t, .int .i64 (f t).1, .string (f t).2.2], .bool true]) (by simp [results, Try.results49, go_sem]) rfl ⟨rfl, ?_⟩
  have hX : Keep (fun _ => True) w ((w.alloc (.cells #[.int .i64 0, .int .i64 0, .string ByteArray.empty] 101)).drewN (nq2 + 1)) := ((Keep.refl _ w).alloc _).drewN _
  obtain ⟨p1, k1⟩ := lane_taken (HH.out.keep hX trivial trivial) h1
  have fin : ∀ X, PLane X lb sb n m (t + 1) f → Keep (fun b => b ≠ lb ∧ b ≠ sb) w X → ∀ u0 u1 u2 o, PLane ((((X.setCell ⟨w.heap.size, 0, none⟩ u0).setCell ⟨w.heap.size, 1, none⟩ u1).setCell ⟨w.heap.size, 2, none⟩ u2).alloc o) lb sb n m (t + 1) f ∧
      Keep (fun b => b ≠ lb ∧ b ≠ sb) w ((((X.setCell ⟨w.heap.size, 0, none⟩ u0).setCell ⟨w.heap.size, 1, none⟩ u1).setCell ⟨w.heap.size, 2, none⟩ u2).alloc o) := fun X p k u0 u1 u2 o =>
    ⟨p.keep (((((Keep.refl (fun b => b < w.heap.size) X).setCell _ (fun _ h => Nat.lt_irrefl _ h) u0).setCell _ (fun _ h => Nat.lt_irrefl _ h) u1).setCell _ (fun _ h => Nat.lt_irrefl _ h) u2).alloc o) l1 l2,
      (((k.setCell _ (fun h => absurd h (Nat.lt_irrefl _)) u0).setCell _ (fun h => absurd h (Nat.lt_irrefl _)) u1).setCell _ (fun h => absurd h (Nat.lt_irrefl _)) u2).alloc o⟩
  exact fin _ p1 (hX.mono (fun _ _ _ => trivial) |>.trans k1) _ _ _ _

end Go.Proofs.Ytjhifhoniimfgaa

