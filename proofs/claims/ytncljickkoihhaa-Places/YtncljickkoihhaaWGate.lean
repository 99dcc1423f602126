/-
  The program's gate: Claim and Publish.
-/
import Derived.Test.YtncljickkoihhaaWCheck
namespace Go.Proofs.Ytncljickkoihhaa
open Go.RowKit

/-- The program's gate at block gb: cl clients; of lane i: its block, its slots' block, its size, how many are claimed, what lies there. -/
structure PGate (w : World) (gb cb : Nat) (cl : Int) (lb sb n m : Nat → Nat) (f : Nat → Nat → Pl) : Prop where
  gate : w.heap[gb]? = some (.cells #[.int .i64 cl, .pointer (some ⟨lb 0, 0, none⟩), .pointer (some ⟨lb 1, 0, none⟩), .chan (some cb)] 59 (0, 0))
  chan : w.heap[cb]? = some (.chan 0 #[] false 0 0 false)
  lane : ∀ i, i < 2 → PLane w (lb i) (sb i) (n i) (m i) (f i)
  pow : ∀ i, i < 2 → powB (n i) = true
  le : ∀ i, i < 2 → m i ≤ n i
  gl : ∀ i, i < 2 → gb ≠ lb i ∧ gb ≠ sb i ∧ cb ≠ lb i ∧ cb ≠ sb i
  ll : lb 0 ≠ lb 1 ∧ lb 0 ≠ sb 1 ∧ sb 0 ≠ lb 1 ∧ sb 0 ≠ sb 1

def updN {α : Type} (m : Nat → α) (i : Nat) (x : α) : Nat → α := fun j => if j = i then x else m j

theorem PGate.drewN {w : World} {gb cb : Nat} {cl : Int} {lb sb n m : Nat → Nat} {f : Nat → Nat → Pl} (h : PGate w gb cb cl lb sb n m f) (q : Nat) : PGate (w.drewN q) gb cb cl lb sb n m f :=
  ⟨h.gate, h.chan, h.lane, h.pow, h.le, h.gl, h.ll⟩

theorem PGate.keep {S : Nat → Prop} {w w' : World} {gb cb : Nat} {cl : Int} {lb sb n m : Nat → Nat} {f : Nat → Nat → Pl} (h : PGate w gb cb cl lb sb n m f) (hk : Keep S w w') (h1 : S gb) (h2 : S cb) (h3 : ∀ i, i < 2 → S (lb i) ∧ S (sb i)) : PGate w' gb cb cl lb sb n m f :=
  ⟨hk.get h.gate h1, hk.get h.chan h2, fun i hi => (h.lane i hi).keep hk (h3 i hi).1 (h3 i hi).2, h.pow, h.le, h.gl, h.ll⟩

/-- One lane has turned. -/
theorem PGate.turned {w w' : World} {gb cb : Nat} {cl : Int} {lb sb n m : Nat → Nat} {f : Nat → Nat → Pl} (h : PGate w gb cb cl lb sb n m f) (i : Nat) (hi : i < 2) (m' : Nat) (f' : Nat → Pl) (hm : m' ≤ n i)
    (hl : PLane w' (lb i) (sb i) (n i) m' f') (hk : Keep (fun b => b ≠ lb i ∧ b ≠ sb i) w w') : PGate w' gb cb cl lb sb n (updN m i m') (updN f i f') := by
  refine ⟨hk.get h.gate ?_, hk.get h.chan ?_, fun j hj => ?_, h.pow, fun j hj => ?_, h.gl, h.ll⟩
  · exact ⟨(h.gl i hi).1, (h.gl i hi).2.1⟩
  · exact ⟨(h.gl i hi).2.2.1, (h.gl i hi).2.2.2⟩
  · by_cases e : j = i
    · subst e; simpa [updN] using hl
    · simp only [updN, if_neg e]
      have hll := h.ll
      refine (h.lane j hj).keep hk ?_ ?_
      · rcases (show (i = 0 ∧ j = 1) ∨ (i = 1 ∧ j = 0) by omega) with ⟨rfl, rfl⟩ | ⟨rfl, rfl⟩
        · exact ⟨Ne.symm hll.1, Ne.symm hll.2.2.1⟩
        · exact ⟨hll.1, hll.2.1⟩
      · rcases (show (i = 0 ∧ j = 1) ∨ (i = 1 ∧ j = 0) by omega) with ⟨rfl, rfl⟩ | ⟨rfl, rfl⟩
        · exact ⟨Ne.symm hll.2.1, Ne.symm hll.2.2.2⟩
        · exact ⟨hll.2.2.1, hll.2.2.2⟩
  · by_cases e : j = i
    · subst e; simpa [updN] using hm
    · simpa [updN, if_neg e] using h.le j hj

set_option maxHeartbeats 400000 in
theorem gClaim_nil (client lane : Int) (w : World) :
    Calls Try.prog 8 #[.pointer none, .int .i64 client, .int .i64 lane] w fun e w' => e = .returned (.tuple #[.int .i64 0, .int .i64 1]) ∧ w = w' := by
  go_enter Try.func8, Try.ntmps8
  go_wp2_with (go_at_call 17; refine (check_nil _ _ _).mono ?_; rintro e w' ⟨rfl, rfl⟩)
  go_ret2
  exact ⟨rfl, rfl⟩

set_option maxHeartbeats 400000 in
theorem gClaim_no {w : World} {gb cb : Nat} {cl : Int} {lb sb n m : Nat → Nat} {f : Nat → Nat → Pl} (client lane : Int) (h : PGate w gb cb cl lb sb n m f) (hr : (refuse cl client lane != 0) = true) :
    Calls Try.prog 8 #[.pointer (some ⟨gb, 0, none⟩), .int .i64 client, .int .i64 lane] w fun e w' => e = .returned (.tuple #[.int .i64 0, .int .i64 (refuse cl client lane)]) ∧ w = w' := by
  have hc := fun lane => check_any gb cl client lane _ w h.gate rfl
  clear h
  go_enter Try.func8, Try.ntmps8
  go_wp2_with (go_at_call 17; refine (hc _).mono ?_; rintro e w' ⟨rfl, rfl⟩)
  go_ret2
  exact ⟨rfl, rfl⟩

set_option maxHeartbeats 1000000 in
theorem gClaim_full {w : World} {gb cb : Nat} {cl : Int} {lb sb n m : Nat → Nat} {f : Nat → Nat → Pl} (client lane : Int) (i : Nat) (hi : (lane = 0 ∧ i = 0) ∨ (lane = 1 ∧ i = 1)) (h : PGate w gb cb cl lb sb n m f)
    (hr : refuse cl client lane = 0) (hm : m i = n i) :
    Calls Try.prog 8 #[.pointer (some ⟨gb, 0, none⟩), .int .i64 client, .int .i64 lane] w fun e w' => e = .returned (.tuple #[.int .i64 0, .int .i64 6]) ∧ ∃ q, w' = w.drewN q := by
  have hc : Calls Try.prog 17 #[.pointer (some ⟨gb, 0, none⟩), .int .i64 client, .int .i64 lane] w fun e w' => e = .returned (.int .i64 0) ∧ w = w' := by
    have := check_any gb cl client lane _ w h.gate rfl
    rwa [hr] at this
  have hs := isShut_open gb cb _ _ _ w h.gate h.chan
  have c1 : w.cell? ⟨gb, 1, none⟩ = some (.pointer (some ⟨lb 0, 0, none⟩)) := cellAt (i := 1) h.gate rfl
  have c2 : w.cell? ⟨gb, 2, none⟩ = some (.pointer (some ⟨lb 1, 0, none⟩)) := cellAt (i := 2) h.gate rfl
  have hl := h.lane i (by omega)
  rw [hm] at hl
  have hf := laneClaim_full (lb i) (sb i) (n i) client (f i) w hl (h.pow i (by omega))
  clear h hl hr hm
  rcases hi with ⟨rfl, rfl⟩ | ⟨rfl, rfl⟩
  all_goals
    go_enter Try.func8, Try.ntmps8
    go_wp2_with (first | (go_at_call 17; refine hc.mono ?_; rintro e w' ⟨rfl, rfl⟩) | (go_at_call 18; refine hs.mono ?_; rintro e w' ⟨rfl, rfl⟩) | (go_at_call 19; refine hf.mono ?_; rintro e w' ⟨rfl, q, rfl⟩))
    go_ret2
    exact ⟨rfl, _, rfl⟩

set_option maxHeartbeats 1000000 in
theorem gClaim_room {w : World} {gb cb : Nat} {cl : Int} {lb sb n m : Nat → Nat} {f : Nat → Nat → Pl} (client lane : Int) (i : Nat) (hi : (lane = 0 ∧ i = 0) ∨ (lane = 1 ∧ i = 1)) (h : PGate w gb cb cl lb sb n m f)
    (hr : refuse cl client lane = 0) (hm : m i < n i) :
    Calls Try.prog 8 #[.pointer (some ⟨gb, 0, none⟩), .int .i64 client, .int .i64 lane] w fun e w' => e = .returned (.tuple #[.int .i64 (m i), .int .i64 0]) ∧
      PGate w' gb cb cl lb sb n (updN m i (m i + 1)) (updN f i (upd (f i) (m i) (client, (f i (m i)).2))) ∧ Keep (fun b => b ≠ lb i ∧ b ≠ sb i) w w' := by
  have hc : Calls Try.prog 17 #[.pointer (some ⟨gb, 0, none⟩), .int .i64 client, .int .i64 lane] w fun e w' => e = .returned (.int .i64 0) ∧ w = w' := by
    have := check_any gb cl client lane _ w h.gate rfl
    rwa [hr] at this
  have hs := isShut_open gb cb _ _ _ w h.gate h.chan
  have c1 : w.cell? ⟨gb, 1, none⟩ = some (.pointer (some ⟨lb 0, 0, none⟩)) := cellAt (i := 1) h.gate rfl
  have c2 : w.cell? ⟨gb, 2, none⟩ = some (.pointer (some ⟨lb 1, 0, none⟩)) := cellAt (i := 2) h.gate rfl
  have hf := laneClaim_room (lb i) (sb i) (n i) (m i) client (f i) w (h.lane i (by omega)) (h.pow i (by omega)) hm
  have HG : Hid (∀ w', PLane w' (lb i) (sb i) (n i) (m i + 1) (upd (f i) (m i) (client, (f i (m i)).2)) → Keep (fun b => b ≠ lb i ∧ b ≠ sb i) w w' → PGate w' gb cb cl lb sb n (updN m i (m i + 1)) (updN f i (upd (f i) (m i) (client, (f i (m i)).2)))) :=
    fun w' a b => h.turned i (by omega) _ _ (by omega) a b
  clear h hr hm
  rcases hi with ⟨rfl, rfl⟩ | ⟨rfl, rfl⟩
  all_goals
    go_enter Try.func8, Try.ntmps8
    go_wp2_with (first | (go_at_call 17; refine hc.mono ?_; rintro e w' ⟨rfl, rfl⟩) | (go_at_call 18; refine hs.mono ?_; rintro e w' ⟨rfl, rfl⟩) | (go_at_call 19; refine hf.mono ?_; rintro e w' ⟨rfl, hp, hk⟩))
    go_ret2
    exact ⟨rfl, HG.out _ hp hk, hk⟩

set_option maxHeartbeats 400000 in
theorem gPublish_nil (client lane place : Int) (s : ByteArray) (w : World) :
    Calls Try.prog 9 #[.pointer none, .int .i64 client, .int .i64 lane, .int .i64 place, .string s] w fun e w' => e = .returned (.int .i64 1) ∧ w = w' := by
  go_enter Try.func9, Try.ntmps9
  go_wp2_with (go_at_call 17; refine (check_nil _ _ _).mono ?_; rintro e w' ⟨rfl, rfl⟩)
  go_ret
  exact ⟨rfl, rfl⟩

set_option maxHeartbeats 400000 in
theorem gPublish_no {w : World} {gb cb : Nat} {cl : Int} {lb sb n m : Nat → Nat} {f : Nat → Nat → Pl} (client lane place : Int) (s : ByteArray) (h : PGate w gb cb cl lb sb n m f) (hr : (refuse cl client lane != 0) = true) :
    Calls Try.prog 9 #[.pointer (some ⟨gb, 0, none⟩), .int .i64 client, .int .i64 lane, .int .i64 place, .string s] w fun e w' => e = .returned (.int .i64 (refuse cl client lane)) ∧ w = w' := by
  have hc := fun lane => check_any gb cl client lane _ w h.gate rfl
  clear h
  go_enter Try.func9, Try.ntmps9
  go_wp2_with (go_at_call 17; refine (hc _).mono ?_; rintro e w' ⟨rfl, rfl⟩)
  go_ret
  exact ⟨rfl, rfl⟩

/-- A place that this client may not fill: it is not claimed; or another's; or filled. -/
def NoFill (m : Nat) (f : Nat → Pl) (client place : Int) : Prop :=
  place < 0 ∨ m ≤ place ∨ ∃ p : Nat, place = p ∧ p < m ∧ (((f p).1 != client) = true ∨ (((f p).1 != client) = false ∧ (f p).2.1 = true))

theorem fill_not {lb sb n m : Nat} {client place : Int} {s : ByteArray} {f : Nat → Pl} {w : World} (h : PLane w lb sb n m f) (hn : powB n = true) (hmn : m ≤ n) (hno : NoFill m f client place) :
    Calls Try.prog 20 #[.pointer (some ⟨lb, 0, none⟩), .int .i64 client, .int .i64 place, .string s] w fun e w' => e = .returned (.bool false) ∧ ∃ nq, w' = w.drewN nq := by
  rcases hno with h1 | h1 | ⟨p, rfl, hp, h1⟩
  · exact fill_out lb sb n m client place s f w h (.inl h1)
  · exact fill_out lb sb n m client place s f w h (.inr h1)
  · exact fill_no lb sb n m p client s f w h hn hmn hp h1

set_option maxHeartbeats 1000000 in
theorem gPublish_tick {w : World} {gb cb : Nat} {cl : Int} {lb sb n m : Nat → Nat} {f : Nat → Nat → Pl} (client lane place : Int) (s : ByteArray) (i : Nat) (hi : (lane = 0 ∧ i = 0) ∨ (lane = 1 ∧ i = 1)) (h : PGate w gb cb cl lb sb n m f)
    (hr : refuse cl client lane = 0) (hno : NoFill (m i) (f i) client place) :
    Calls Try.prog 9 #[.pointer (some ⟨gb, 0, none⟩), .int .i64 client, .int .i64 lane, .int .i64 place, .string s] w fun e w' => e = .returned (.int .i64 7) ∧ ∃ q, w' = w.drewN q := by
  have hc : Calls Try.prog 17 #[.pointer (some ⟨gb, 0, none⟩), .int .i64 client, .int .i64 lane] w fun e w' => e = .returned (.int .i64 0) ∧ w = w' := by
    have := check_any gb cl client lane _ w h.gate rfl
    rwa [hr] at this
  have c1 : w.cell? ⟨gb, 1, none⟩ = some (.pointer (some ⟨lb 0, 0, none⟩)) := cellAt (i := 1) h.gate rfl
  have c2 : w.cell? ⟨gb, 2, none⟩ = some (.pointer (some ⟨lb 1, 0, none⟩)) := cellAt (i := 2) h.gate rfl
  have hf := fill_not (s := s) (h.lane i (by omega)) (h.pow i (by omega)) (h.le i (by omega)) hno
  clear h hr hno
  rcases hi with ⟨rfl, rfl⟩ | ⟨rfl, rfl⟩
  all_goals
    go_enter Try.func9, Try.ntmps9
    go_wp2_with (first | (go_at_call 17; refine hc.mono ?_; rintro e w' ⟨rfl, rfl⟩) | (go_at_call 20; refine hf.mono ?_; rintro e w' ⟨rfl, q, rfl⟩))
    go_ret
    exact ⟨rfl, _, rfl⟩

set_option maxHeartbeats 1000000 in
theorem gPublish_yes {w : World} {gb cb : Nat} {cl : Int} {lb sb n m : Nat → Nat} {f : Nat → Nat → Pl} (client lane : Int) (p : Nat) (s : ByteArray) (i : Nat) (hi : (lane = 0 ∧ i = 0) ∨ (lane = 1 ∧ i = 1)) (h : PGate w gb cb cl lb sb n m f)
    (hr : refuse cl client lane = 0) (hp : p < m i) (h1 : ((f i p).1 != client) = false) (h2 : (f i p).2.1 = false) :
    Calls Try.prog 9 #[.pointer (some ⟨gb, 0, none⟩), .int .i64 client, .int .i64 lane, .int .i64 p, .string s] w fun e w' => e = .returned (.int .i64 0) ∧
      PGate w' gb cb cl lb sb n (updN m i (m i)) (updN f i (upd (f i) p ((f i p).1, true, s))) ∧ Keep (fun b => b ≠ lb i ∧ b ≠ sb i) w w' := by
  have hc : Calls Try.prog 17 #[.pointer (some ⟨gb, 0, none⟩), .int .i64 client, .int .i64 lane] w fun e w' => e = .returned (.int .i64 0) ∧ w = w' := by
    have := check_any gb cl client lane _ w h.gate rfl
    rwa [hr] at this
  have c1 : w.cell? ⟨gb, 1, none⟩ = some (.pointer (some ⟨lb 0, 0, none⟩)) := cellAt (i := 1) h.gate rfl
  have c2 : w.cell? ⟨gb, 2, none⟩ = some (.pointer (some ⟨lb 1, 0, none⟩)) := cellAt (i := 2) h.gate rfl
  have hf := fill_yes (lb i) (sb i) (n i) (m i) p client s (f i) w (h.lane i (by omega)) (h.pow i (by omega)) (h.le i (by omega)) hp h1 h2
  have HG : Hid (∀ w', PLane w' (lb i) (sb i) (n i) (m i) (upd (f i) p ((f i p).1, true, s)) → Keep (fun b => b ≠ lb i ∧ b ≠ sb i) w w' → PGate w' gb cb cl lb sb n (updN m i (m i)) (updN f i (upd (f i) p ((f i p).1, true, s)))) :=
    fun w' a b => h.turned i (by omega) _ _ (h.le i (by omega)) a b
  clear h hr hp h1 h2
  rcases hi with ⟨rfl, rfl⟩ | ⟨rfl, rfl⟩
  all_goals
    go_enter Try.func9, Try.ntmps9
    go_wp2_with (first | (go_at_call 17; refine hc.mono ?_; rintro e w' ⟨rfl, rfl⟩) | (go_at_call 20; refine hf.mono ?_; rintro e w' ⟨rfl, hp, hk⟩))
    go_ret
    exact ⟨rfl, HG.out _ hp hk, hk⟩

end Go.Proofs.Ytncljickkoihhaa
