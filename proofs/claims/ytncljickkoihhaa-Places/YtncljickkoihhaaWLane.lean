/-
  The lanes: places are claimed and filled in a ring of slots.
-/
import Derived.Test.YtncljickkoihhaaWSet
namespace Go.Proofs.Ytncljickkoihhaa
open Go.RowKit

/-- What lies in a place: whose it is, is it filled, the frame. -/
abbrev Pl := Int × Bool × ByteArray

def SlotsAt (cs : Array Value) (n : Nat) (f : Nat → Pl) : Prop :=
  cs.size = n * 3 ∧ ∀ k, k < n → cs[k * 3]? = some (.int .i64 (f k).1) ∧ cs[k * 3 + 1]? = some (.bool (f k).2.1) ∧ cs[k * 3 + 2]? = some (.string (f k).2.2)

theorem and_place (n p : Nat) (hn : n = 2 ∨ n = 4 ∨ n = 8 ∨ n = 16) (hp : p < n) : bits BinOp.and IntKind.i64 (p : Int) (IntKind.i64.wrap ((n : Int) - 1)) = (p : Int) := by
  have h2 : ∀ q : Fin 2, bits BinOp.and IntKind.i64 ((q.val : Nat) : Int) (IntKind.i64.wrap (((2 : Nat) : Int) - 1)) = ((q.val : Nat) : Int) := by decide
  have h4 : ∀ q : Fin 4, bits BinOp.and IntKind.i64 ((q.val : Nat) : Int) (IntKind.i64.wrap (((4 : Nat) : Int) - 1)) = ((q.val : Nat) : Int) := by decide
  have h8 : ∀ q : Fin 8, bits BinOp.and IntKind.i64 ((q.val : Nat) : Int) (IntKind.i64.wrap (((8 : Nat) : Int) - 1)) = ((q.val : Nat) : Int) := by decide
  have h16 : ∀ q : Fin 16, bits BinOp.and IntKind.i64 ((q.val : Nat) : Int) (IntKind.i64.wrap (((16 : Nat) : Int) - 1)) = ((q.val : Nat) : Int) := by decide
  rcases hn with rfl | rfl | rfl | rfl
  · exact h2 ⟨p, hp⟩
  · exact h4 ⟨p, hp⟩
  · exact h8 ⟨p, hp⟩
  · exact h16 ⟨p, hp⟩

set_option maxHeartbeats 400000 in
theorem slotOf_any (lb sb n p : Nat) (x y : Value) (w : World) (hl : w.heap[lb]? = some (.cells #[.slice (some ⟨sb, 0, none⟩) n n, x, y] 88 (0, 0)))
    (hn : powB n = true) (hp : p < n) :
    Calls Try.prog 39 #[.pointer (some ⟨lb, 0, none⟩), .int .i64 p] w fun e w' => e = .returned (.pointer (some ⟨sb, p * 3, none⟩)) ∧ ∃ nq, w' = w.drewN nq := by
  have c0 := cellAt (i := 0) hl rfl
  have hn' : n = 2 ∨ n = 4 ∨ n = 8 ∨ n = 16 := by have := powB_cases hn; omega
  have hlen : n ≤ 16 := by omega
  have hpi : (p : Int) < (n : Int) := by omega
  have hand := and_place n p hn' hp
  clear hl hn hn'
  go_enter Try.func39, Try.ntmps39
  go_wp2
  go_quiet (fail)
  go_wp2
  go_ret
  exact ⟨rfl, _, rfl⟩

def zeroPl : Pl := (0, false, ByteArray.empty)

def zeroSlots (n : Nat) : Array Value := madeCells #[.int .i64 0, .bool false, .string ByteArray.empty] (n * 3)

theorem zeroSlots_at (n : Nat) : SlotsAt (zeroSlots n) n (fun _ => zeroPl) := by
  refine ⟨by simp [zeroSlots, size_madeCells], fun k hk => ?_⟩
  have h0 : (k * 3) % 3 = 0 := by omega
  have h1 : (k * 3 + 1) % 3 = 1 := by omega
  have h2 : (k * 3 + 2) % 3 = 2 := by omega
  have l0 : k * 3 < n * 3 := by omega
  have l1 : k * 3 + 1 < n * 3 := by omega
  have l2 : k * 3 + 2 < n * 3 := by omega
  refine ⟨?_, ?_, ?_⟩
  · simp [zeroSlots, madeCells, zeroPl, l0, h0]
  · simp [zeroSlots, madeCells, zeroPl, l1, h1]
  · simp [zeroSlots, madeCells, zeroPl, l2, h2]

theorem make_slots (n : Nat) (h : n ≤ 16) (w : World) :
    (Instr.makeSlice 86 (.int .i64 n) (.int .i64 n)).run Try.prog w = .ok (.slice (some ⟨w.heap.size, 0, none⟩) n n) (w.alloc (.cells (zeroSlots n) 91)) := by
  have e : (Try.prog.info? 91).map (fun i => (i.bytes, i.size, i.zero)) = some (32, 3, some (.agg #[.int .i64 0, .bool false, .string ByteArray.empty])) := by kernel_rfl
  obtain ⟨i, hi, he⟩ := Option.map_eq_some_iff.1 e
  simp only [Prod.mk.injEq] at he
  obtain ⟨hb, hs, hz⟩ := he
  have := run_make (P := Try.prog) w 86 91 i _ Try.underlying86 hi hz .i64 .i64 (n : Int) (n : Int) (by omega) (by omega) (by rw [hb]; omega) (by omega)
  rw [this]
  simp [zeroSlots, hs, Value.cells]

set_option maxHeartbeats 400000 in
theorem newLane_any (n : Nat) (h : n ≤ 16) (w : World) :
    Calls Try.prog 16 #[.int .i64 n] w fun e w' => e = .returned (.pointer (some ⟨w.heap.size + 1, 0, none⟩)) ∧
      (w.alloc (.cells (zeroSlots n) 91)).alloc (.cells #[.slice (some ⟨w.heap.size, 0, none⟩) n n, .int .i64 0, .int .i64 0] 88) = w' := by
  have hmk := make_slots n h
  go_enter Try.func16, Try.ntmps16
  go_wp2
  go_ret
  exact ⟨rfl, rfl⟩

def PLane (w : World) (lb sb n m : Nat) (f : Nat → Pl) : Prop :=
  w.heap[lb]? = some (.cells #[.slice (some ⟨sb, 0, none⟩) n n, .int .i64 m, .int .i64 0] 88 (0, 0)) ∧ lb ≠ sb ∧
  ∃ cs, w.heap[sb]? = some (.cells cs 91 (0, 0)) ∧ SlotsAt cs n f

theorem newLane_abs (n : Nat) (h : n ≤ 16) (w : World) :
    Calls Try.prog 16 #[.int .i64 n] w fun e w' => ∃ lb sb, e = .returned (.pointer (some ⟨lb, 0, none⟩)) ∧ Below w.heap.size w w' ∧ PLane w' lb sb n 0 (fun _ => zeroPl) ∧ w.heap.size ≤ lb ∧ w.heap.size ≤ sb := by
  refine (newLane_any n h w).mono ?_
  rintro e w' ⟨rfl, rfl⟩
  refine ⟨w.heap.size + 1, w.heap.size, rfl, ((Below.refl _ _).alloc (Nat.le_refl _) _).alloc (by simp) _, ⟨?_, by omega, zeroSlots n, ?_, zeroSlots_at n⟩, by omega, by omega⟩
  · simpa using heap_alloc_new (w.alloc (.cells (zeroSlots n) 91)) _
  · rw [Below.heap_alloc _ _ _ (by simp)]; exact heap_alloc_new w _

def upd (f : Nat → Pl) (k : Nat) (x : Pl) : Nat → Pl := fun j => if j = k then x else f j

theorem SlotsAt.client {cs : Array Value} {n : Nat} {f : Nat → Pl} (h : SlotsAt cs n f) (k : Nat) (x : Int) :
    SlotsAt (cs.setIfInBounds (k * 3) (.int .i64 x)) n (upd f k (x, (f k).2)) := by
  refine ⟨by simpa using h.1, fun j hj => ?_⟩
  obtain ⟨h0, h1, h2⟩ := h.2 j hj
  have hs := h.1
  simp only [Array.getElem?_setIfInBounds]
  by_cases e : j = k
  · subst e
    rw [if_pos rfl, if_pos (by omega), if_neg (by omega), if_neg (by omega)]
    simp [upd, h1, h2]
  · rw [if_neg (by omega), if_neg (by omega), if_neg (by omega)]
    simp [upd, e, h0, h1, h2]

theorem SlotsAt.fill {cs : Array Value} {n : Nat} {f : Nat → Pl} (h : SlotsAt cs n f) (k : Nat) (s : ByteArray) :
    SlotsAt ((cs.setIfInBounds (k * 3 + 1) (.bool true)).setIfInBounds (k * 3 + 2) (.string s)) n (upd f k ((f k).1, true, s)) := by
  refine ⟨by simpa using h.1, fun j hj => ?_⟩
  obtain ⟨h0, h1, h2⟩ := h.2 j hj
  have hs := h.1
  simp only [Array.getElem?_setIfInBounds, Array.size_setIfInBounds]
  by_cases e : j = k
  · subst e
    rw [if_neg (by omega), if_neg (by omega), if_neg (by omega), if_pos rfl, if_pos (by omega), if_pos rfl, if_pos (by omega)]
    simp [upd, h0]
  · rw [if_neg (by omega), if_neg (by omega), if_neg (by omega), if_neg (by omega), if_neg (by omega), if_neg (by omega)]
    simp [upd, e, h0, h1, h2]

theorem PLane.keep {S : Nat → Prop} {w w' : World} {lb sb n m : Nat} {f : Nat → Pl} (h : PLane w lb sb n m f) (hk : Keep S w w') (h1 : S lb) (h2 : S sb) : PLane w' lb sb n m f := by
  obtain ⟨a, b, cs, c, d⟩ := h
  exact ⟨hk.get a h1, b, cs, hk.get c h2, d⟩

set_option maxHeartbeats 1000000 in
theorem laneClaim_full (lb sb n : Nat) (client : Int) (f : Nat → Pl) (w : World) (h : PLane w lb sb n n f) (hn : powB n = true) :
    Calls Try.prog 19 #[.pointer (some ⟨lb, 0, none⟩), .int .i64 client] w fun e w' => e = .returned (.tuple #[.int .i64 0, .bool false]) ∧ ∃ nq, w' = w.drewN nq := by
  obtain ⟨hl, hne, cs, hs, hat⟩ := h
  have hn' : n ≤ 16 := by have := powB_cases hn; omega
  have c0 := cellAt (i := 0) hl rfl
  have c1 := cellAt (i := 1) hl rfl
  have c2 := cellAt (i := 2) hl rfl
  clear hl hs hat hn hne
  go_enter Try.func19, Try.ntmps19
  go_wp2
  go_quiet (fail)
  go_wp2
  go_ret2
  exact ⟨rfl, _, rfl⟩

theorem lane_claimed {w : World} {lb sb n m : Nat} {f : Nat → Pl} {cs : Array Value} {client : Int} (q : Nat) (hl : w.heap[lb]? = some (.cells #[.slice (some ⟨sb, 0, none⟩) n n, .int .i64 m, .int .i64 0] 88 (0, 0)))
    (hne : lb ≠ sb) (hs : w.heap[sb]? = some (.cells cs 91 (0, 0))) (hat : SlotsAt cs n f) :
    PLane (((w.drewN q).setCell ⟨sb, m * 3, none⟩ (.int .i64 client)).setCell ⟨lb, 1, none⟩ (.int .i64 ((m : Int) + 1))) lb sb n (m + 1) (upd f m (client, (f m).2)) ∧
    Keep (fun b => b ≠ lb ∧ b ≠ sb) w (((w.drewN q).setCell ⟨sb, m * 3, none⟩ (.int .i64 client)).setCell ⟨lb, 1, none⟩ (.int .i64 ((m : Int) + 1))) := by
  have k1 : Keep (fun b => b ≠ lb ∧ b ≠ sb) w (((w.drewN q).setCell ⟨sb, m * 3, none⟩ (.int .i64 client)).setCell ⟨lb, 1, none⟩ (.int .i64 ((m : Int) + 1))) :=
    (((Keep.refl _ w).drewN q).setCell _ (fun _ h => h.2 rfl) _).setCell _ (fun _ h => h.1 rfl) _
  refine ⟨⟨?_, hne, cs.setIfInBounds (m * 3) (.int .i64 client), ?_, hat.client m client⟩, k1⟩
  · rw [heap_setCell_at (cs := #[.slice (some ⟨sb, 0, none⟩) n n, .int .i64 m, .int .i64 0]) (T := 88) (f := (0, 0))]
    · simp
    · rw [Below.heap_setCell _ _ _ _ hne]; simpa using hl
  · rw [Below.heap_setCell _ _ _ _ (Ne.symm hne)]
    exact heap_setCell_at _ (by simpa using hs)

theorem lane_filled {w : World} {lb sb n m p : Nat} {f : Nat → Pl} {cs : Array Value} {s : ByteArray} (q : Nat) (hl : w.heap[lb]? = some (.cells #[.slice (some ⟨sb, 0, none⟩) n n, .int .i64 m, .int .i64 0] 88 (0, 0)))
    (hne : lb ≠ sb) (hs : w.heap[sb]? = some (.cells cs 91 (0, 0))) (hat : SlotsAt cs n f) :
    PLane (((w.drewN q).setCell ⟨sb, p * 3 + 1, none⟩ (.bool true)).setCell ⟨sb, p * 3 + 2, none⟩ (.string s)) lb sb n m (upd f p ((f p).1, true, s)) ∧
    Keep (fun b => b ≠ lb ∧ b ≠ sb) w (((w.drewN q).setCell ⟨sb, p * 3 + 1, none⟩ (.bool true)).setCell ⟨sb, p * 3 + 2, none⟩ (.string s)) := by
  have k1 : Keep (fun b => b ≠ lb ∧ b ≠ sb) w (((w.drewN q).setCell ⟨sb, p * 3 + 1, none⟩ (.bool true)).setCell ⟨sb, p * 3 + 2, none⟩ (.string s)) :=
    (((Keep.refl _ w).drewN q).setCell _ (fun _ h => h.2 rfl) _).setCell _ (fun _ h => h.2 rfl) _
  refine ⟨⟨?_, hne, _, ?_, hat.fill p s⟩, k1⟩
  · rw [Below.heap_setCell _ _ _ _ hne, Below.heap_setCell _ _ _ _ hne]; simpa using hl
  · exact heap_setCell_at _ (heap_setCell_at _ (by simpa using hs))

set_option maxHeartbeats 1000000 in
theorem laneClaim_room (lb sb n m : Nat) (client : Int) (f : Nat → Pl) (w : World) (h : PLane w lb sb n m f) (hn : powB n = true) (hm : m < n) :
    Calls Try.prog 19 #[.pointer (some ⟨lb, 0, none⟩), .int .i64 client] w fun e w' => e = .returned (.tuple #[.int .i64 m, .bool true]) ∧
      PLane w' lb sb n (m + 1) (upd f m (client, (f m).2)) ∧ Keep (fun b => b ≠ lb ∧ b ≠ sb) w w' := by
  obtain ⟨hl, hne, cs, hs, hat⟩ := h
  have hn' : n ≤ 16 := by have := powB_cases hn; omega
  have c0 := cellAt (i := 0) hl rfl
  have c1 := cellAt (i := 1) hl rfl
  have c2 := cellAt (i := 2) hl rfl
  have s0 := cellAt hs (hat.2 m hm).1
  have z0 := frozenAt (i := m * 3) hs
  have z1 := frozenAt (i := 1) hl
  have hmn : (m : Int) < (n : Int) := by omega
  have HL : Hid (w.heap[lb]? = some (.cells #[.slice (some ⟨sb, 0, none⟩) n n, .int .i64 m, .int .i64 0] 88 (0, 0))) := hl
  have HS : Hid (w.heap[sb]? = some (.cells cs 91 (0, 0))) := hs
  have HA : Hid (SlotsAt cs n f) := hat
  have HN : Hid (powB n = true) := hn
  clear hl hs hat hn
  go_enter Try.func19, Try.ntmps19
  go_wp2
  go_quiet (fail)
  go_wp2_with fail
  refine (slotOf_any lb sb n m _ _ _ (by simpa using HL.out) HN.out hm).mono ?_
  rintro e w1 ⟨rfl, nq2, rfl⟩
  go_wp2_with fail
  go_ret2
  exact ⟨rfl, lane_claimed _ HL.out hne HS.out HA.out⟩

/-- May the client fill this place? -/
def mayFill (m : Nat) (f : Nat → Pl) (client place : Int) : Bool := decide (0 ≤ place) && decide (place < m) && ((f place.toNat).1 == client) && !(f place.toNat).2.1

set_option maxHeartbeats 1000000 in
theorem fill_out (lb sb n m : Nat) (client place : Int) (s : ByteArray) (f : Nat → Pl) (w : World) (h : PLane w lb sb n m f) (ho : place < 0 ∨ m ≤ place) :
    Calls Try.prog 20 #[.pointer (some ⟨lb, 0, none⟩), .int .i64 client, .int .i64 place, .string s] w fun e w' => e = .returned (.bool false) ∧ ∃ nq, w' = w.drewN nq := by
  obtain ⟨hl, hne, cs, hs, hat⟩ := h
  have c1 := cellAt (i := 1) hl rfl
  have c2 := cellAt (i := 2) hl rfl
  clear hl hs hat hne
  by_cases h0 : place < 0
  · clear ho
    go_enter Try.func20, Try.ntmps20
    go_wp2
    go_ret
    exact ⟨rfl, 0, rfl⟩
  · have hm : (m : Int) ≤ place := by omega
    clear ho
    go_enter Try.func20, Try.ntmps20
    go_wp2
    go_ret
    exact ⟨rfl, 0, rfl⟩

set_option maxHeartbeats 1000000 in
theorem fill_no (lb sb n m p : Nat) (client : Int) (s : ByteArray) (f : Nat → Pl) (w : World) (h : PLane w lb sb n m f) (hn : powB n = true) (hmn : m ≤ n) (hp : p < m)
    (hno : ((f p).1 != client) = true ∨ (((f p).1 != client) = false ∧ (f p).2.1 = true)) :
    Calls Try.prog 20 #[.pointer (some ⟨lb, 0, none⟩), .int .i64 client, .int .i64 p, .string s] w fun e w' => e = .returned (.bool false) ∧ ∃ nq, w' = w.drewN nq := by
  obtain ⟨hl, hne, cs, hs, hat⟩ := h
  have c1 := cellAt (i := 1) hl rfl
  have c2 := cellAt (i := 2) hl rfl
  have s0 := cellAt hs (hat.2 p (by omega)).1
  have s1 := cellAt hs (hat.2 p (by omega)).2.1
  have HL : Hid (w.heap[lb]? = some (.cells #[.slice (some ⟨sb, 0, none⟩) n n, .int .i64 m, .int .i64 0] 88 (0, 0))) := hl
  have HN : Hid (powB n = true) := hn
  have hpm : (p : Int) < (m : Int) := by omega
  clear hl hs hat hne hn
  rcases hno with h1 | ⟨h1, h2⟩
  all_goals
    go_enter Try.func20, Try.ntmps20
    go_wp2_with fail
    refine (slotOf_any lb sb n p _ _ _ (by simpa using HL.out) HN.out (by omega)).mono ?_
    rintro e w1 ⟨rfl, nq2, rfl⟩
    go_wp2_with fail
    go_ret
    exact ⟨rfl, _, rfl⟩

set_option maxHeartbeats 1000000 in
theorem fill_yes (lb sb n m p : Nat) (client : Int) (s : ByteArray) (f : Nat → Pl) (w : World) (h : PLane w lb sb n m f) (hn : powB n = true) (hmn : m ≤ n) (hp : p < m)
    (h1 : ((f p).1 != client) = false) (h2 : (f p).2.1 = false) :
    Calls Try.prog 20 #[.pointer (some ⟨lb, 0, none⟩), .int .i64 client, .int .i64 p, .string s] w fun e w' => e = .returned (.bool true) ∧
      PLane w' lb sb n m (upd f p ((f p).1, true, s)) ∧ Keep (fun b => b ≠ lb ∧ b ≠ sb) w w' := by
  obtain ⟨hl, hne, cs, hs, hat⟩ := h
  have c1 := cellAt (i := 1) hl rfl
  have c2 := cellAt (i := 2) hl rfl
  have s0 := cellAt hs (hat.2 p (by omega)).1
  have s1 := cellAt hs (hat.2 p (by omega)).2.1
  have s2 := cellAt hs (hat.2 p (by omega)).2.2
  have z1 := frozenAt (i := p * 3 + 1) hs
  have z2 := frozenAt (i := p * 3 + 2) hs
  have HL : Hid (w.heap[lb]? = some (.cells #[.slice (some ⟨sb, 0, none⟩) n n, .int .i64 m, .int .i64 0] 88 (0, 0))) := hl
  have HS : Hid (w.heap[sb]? = some (.cells cs 91 (0, 0))) := hs
  have HA : Hid (SlotsAt cs n f) := hat
  have HN : Hid (powB n = true) := hn
  have hpm : (p : Int) < (m : Int) := by omega
  clear hl hs hat hn
  go_enter Try.func20, Try.ntmps20
  go_wp2_with fail
  refine (slotOf_any lb sb n p _ _ _ (by simpa using HL.out) HN.out (by omega)).mono ?_
  rintro e w1 ⟨rfl, nq2, rfl⟩
  go_wp2_with fail
  go_ret
  exact ⟨rfl, lane_filled _ HL.out hne HS.out HA.out⟩

end Go.Proofs.Ytncljickkoihhaa
