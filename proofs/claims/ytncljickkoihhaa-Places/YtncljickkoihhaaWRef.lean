/-
  The document's gate: Claim and Publish.
-/
import Derived.Test.YtncljickkoihhaaWCheck
import Derived.Test.YtncljickkoihhaaWGate
import Derived.Maps.AppendAt
namespace Go.Proofs.Ytncljickkoihhaa
open Go.RowKit

/-- A list of places, in memory of its own. -/
def RRow (w : World) (v : Value) (m : Nat) (f : Nat → Pl) : Prop :=
  (v = .slice none 0 0 ∧ m = 0) ∨
  ∃ g cap cur, v = .slice (some ⟨g, 0, none⟩) m cap ∧ w.heap[g]? = some (.cells cur 108 (0, 0)) ∧ m ≤ cap ∧ cap ≤ maxLen ∧ cur.size = cap * 3 ∧
    ∀ k, k < m → cur[k * 3]? = some (.int .i64 (f k).1) ∧ cur[k * 3 + 1]? = some (.bool (f k).2.1) ∧ cur[k * 3 + 2]? = some (.string (f k).2.2)

theorem RRow.owns {w : World} {v : Value} {m : Nat} {f : Nat → Pl} (h : RRow w v m f) : ∃ xs, w.ownsRow 0 108 3 v m xs ∧
    ∀ k, k < m → xs[k * 3]? = some (.int .i64 (f k).1) ∧ xs[k * 3 + 1]? = some (.bool (f k).2.1) ∧ xs[k * 3 + 2]? = some (.string (f k).2.2) := by
  rcases h with ⟨rfl, rfl⟩ | ⟨g, cap, cur, rfl, h1, h2, h3, h4, h5⟩
  · exact ⟨[], World.ownsRow_nil _ _ _ _, fun k hk => by omega⟩
  · have h6 : m * 3 ≤ cur.toList.length := by have : cur.toList.length = cap * 3 := by simpa using h4
                                              omega
    refine ⟨cur.toList.take (m * 3), ⟨by rw [List.length_take]; omega, .inr ⟨g, cap, cur, rfl, Nat.zero_le _, h1, h2, h3, h4, rfl⟩⟩, fun k hk => ?_⟩
    obtain ⟨a, b, c⟩ := h5 k hk
    rw [List.getElem?_take_of_lt (by omega), List.getElem?_take_of_lt (by omega), List.getElem?_take_of_lt (by omega)]
    exact ⟨by simpa using a, by simpa using b, by simpa using c⟩

theorem RRow.ofOwns {w : World} {v : Value} {m : Nat} {f : Nat → Pl} {xs : List Value} (h : w.ownsRow 0 108 3 v m xs)
    (hx : ∀ k, k < m → xs[k * 3]? = some (.int .i64 (f k).1) ∧ xs[k * 3 + 1]? = some (.bool (f k).2.1) ∧ xs[k * 3 + 2]? = some (.string (f k).2.2)) : RRow w v m f := by
  obtain ⟨h0, h⟩ := h
  rcases h with ⟨rfl, rfl⟩ | ⟨g, cap, cur, rfl, _, h1, h2, h3, h4, rfl⟩
  · exact .inl ⟨rfl, rfl⟩
  · refine .inr ⟨g, cap, cur, rfl, h1, h2, h3, h4, fun k hk => ?_⟩
    obtain ⟨a, b, c⟩ := hx k hk
    rw [List.getElem?_take_of_lt (by omega)] at a b c
    exact ⟨by simpa using a, by simpa using b, by simpa using c⟩

theorem RRow.keep {S : Nat → Prop} {w w' : World} {v : Value} {m : Nat} {f : Nat → Pl} (h : RRow w v m f) (hk : Keep S w w') (hs : ∀ b, v.ownBlock = some b → S b) : RRow w' v m f := by
  rcases h with h | ⟨g, cap, cur, rfl, h1, h2⟩
  · exact .inl h
  · exact .inr ⟨g, cap, cur, rfl, hk.get h1 (hs g rfl), h2⟩

theorem RRow.lt {w : World} {v : Value} {m : Nat} {f : Nat → Pl} (h : RRow w v m f) (b : Nat) (hb : v.ownBlock = some b) : b < w.heap.size := by
  rcases h with ⟨rfl, rfl⟩ | ⟨g, cap, cur, rfl, h1, h2⟩
  · simp [Value.ownBlock] at hb
  · simp [Value.ownBlock] at hb; subst hb; exact block_lt h1

/-- The document's gate at block rb: cl clients; of lane i: its size, how many were claimed, what lies there, the list itself. -/
structure RGate (w : World) (rb : Nat) (cl : Int) (n m : Nat → Nat) (f : Nat → Nat → Pl) (v : Nat → Value) : Prop where
  gate : ∃ cs, w.heap[rb]? = some (.cells cs 105 (0, 0)) ∧ cs.size = 30 ∧ cs[0]? = some (.int .i64 cl) ∧ cs[29]? = some (.bool false) ∧
    ∀ i, i < 2 → cs[7 + 3 * i]? = some (.int .i64 (n i)) ∧ cs[7 + 3 * i + 1]? = some (v i) ∧ cs[7 + 3 * i + 2]? = some (.int .i64 0)
  row : ∀ i, i < 2 → RRow w (v i) (m i) (f i)
  le : ∀ i, i < 2 → m i ≤ 16 ∧ n i ≤ 16
  away : ∀ i, i < 2 → (v i).ownBlock ≠ some rb
  apart : ∀ b, (v 0).ownBlock = some b → (v 1).ownBlock ≠ some b

theorem RGate.drewN {w : World} {rb : Nat} {cl : Int} {n m : Nat → Nat} {f : Nat → Nat → Pl} {v : Nat → Value} (h : RGate w rb cl n m f v) (q : Nat) : RGate (w.drewN q) rb cl n m f v :=
  ⟨h.gate, h.row, h.le, h.away, h.apart⟩

theorem RGate.keep {S : Nat → Prop} {w w' : World} {rb : Nat} {cl : Int} {n m : Nat → Nat} {f : Nat → Nat → Pl} {v : Nat → Value} (h : RGate w rb cl n m f v) (hk : Keep S w w') (h1 : S rb) (h2 : ∀ i b, i < 2 → (v i).ownBlock = some b → S b) : RGate w' rb cl n m f v := by
  obtain ⟨cs, a, b⟩ := h.gate
  exact ⟨⟨cs, hk.get a h1, b⟩, fun i hi => (h.row i hi).keep hk (fun b hb => h2 i b hi hb), h.le, h.away, h.apart⟩

set_option maxHeartbeats 400000 in
theorem rClaim_nil (client lane : Int) (w : World) :
    Calls Try.prog 23 #[.pointer none, .int .i64 client, .int .i64 lane] w fun e w' => e = .returned (.tuple #[.int .i64 0, .int .i64 1]) ∧ w = w' := by
  go_enter Try.func23, Try.ntmps23
  go_wp2_with (go_at_call 42; refine (refuses_nil _ _ _).mono ?_; rintro e w' ⟨rfl, rfl⟩)
  go_ret2
  exact ⟨rfl, rfl⟩

set_option maxHeartbeats 400000 in
theorem rClaim_no {w : World} {rb : Nat} {cl : Int} {n m : Nat → Nat} {f : Nat → Nat → Pl} {v : Nat → Value} (client lane : Int) (h : RGate w rb cl n m f v) (hr : (refuse cl client lane != 0) = true) :
    Calls Try.prog 23 #[.pointer (some ⟨rb, 0, none⟩), .int .i64 client, .int .i64 lane] w fun e w' => e = .returned (.tuple #[.int .i64 0, .int .i64 (refuse cl client lane)]) ∧ w = w' := by
  obtain ⟨cs, h1, h2, h3, h4⟩ := h.gate
  have hc := fun lane => refuses_any rb cl client lane _ w h1 h3
  clear h h1 h2 h3 h4
  go_enter Try.func23, Try.ntmps23
  go_wp2_with (go_at_call 42; refine (hc _).mono ?_; rintro e w' ⟨rfl, rfl⟩)
  go_ret2
  exact ⟨rfl, rfl⟩

theorem RRow.len {w : World} {v : Value} {m : Nat} {f : Nat → Pl} (h : RRow w v m f) : ∃ a cap, v = .slice a m cap := by
  rcases h with ⟨rfl, rfl⟩ | ⟨g, cap, cur, rfl, h1, h2⟩
  · exact ⟨none, 0, rfl⟩
  · exact ⟨_, _, rfl⟩

set_option maxHeartbeats 1000000 in
theorem rClaim_full {w : World} {rb : Nat} {cl : Int} {n m : Nat → Nat} {f : Nat → Nat → Pl} {v : Nat → Value} (client lane : Int) (i : Nat) (hi : (lane = 0 ∧ i = 0) ∨ (lane = 1 ∧ i = 1)) (h : RGate w rb cl n m f v)
    (hr : refuse cl client lane = 0) (hm : m i = n i) :
    Calls Try.prog 23 #[.pointer (some ⟨rb, 0, none⟩), .int .i64 client, .int .i64 lane] w fun e w' => e = .returned (.tuple #[.int .i64 0, .int .i64 6]) ∧ ∃ q, w' = w.drewN q := by
  obtain ⟨cs, h1, h2, h3, h4, h5⟩ := h.gate
  have hc : Calls Try.prog 42 #[.pointer (some ⟨rb, 0, none⟩), .int .i64 client, .int .i64 lane] w fun e w' => e = .returned (.int .i64 0) ∧ w = w' := by
    have := refuses_any rb cl client lane _ w h1 h3
    rwa [hr] at this
  have c29 := cellAt h1 h4
  obtain ⟨b0, b1, b2⟩ := h5 i (by omega)
  have c0 := cellAt h1 b0
  have c1 := cellAt h1 b1
  have c2 := cellAt h1 b2
  obtain ⟨a, cap, hv⟩ := (h.row i (by omega)).len
  rw [hv] at c1
  have hl := h.le i (by omega)
  have hle : m i ≤ 16 := hl.1
  rw [← hm] at c0
  clear h h1 h2 h3 h4 h5 b0 b1 b2 hr hv hl hm
  rcases hi with ⟨rfl, rfl⟩ | ⟨rfl, rfl⟩
  all_goals
    simp only [Nat.mul_zero, Nat.mul_one, Nat.add_zero, Nat.reduceAdd] at c0 c1 c2
    go_enter Try.func23, Try.ntmps23
    go_wp2_with (go_at_call 42; refine hc.mono ?_; rintro e w' ⟨rfl, rfl⟩)
    go_quiet (fail)
    go_wp2
    go_ret2
    exact ⟨rfl, _, rfl⟩

theorem info_place : ∃ i, Try.prog.info? 108 = some i ∧ i.bytes = 32 ∧ i.size = 3 ∧ i.zero = some (.agg #[.int .i64 0, .bool false, .string ByteArray.empty]) := by
  have e : (Try.prog.info? 108).map (fun i => (i.bytes, i.size, i.zero)) = some (32, 3, some (.agg #[.int .i64 0, .bool false, .string ByteArray.empty])) := by kernel_rfl
  obtain ⟨i, hi, he⟩ := Option.map_eq_some_iff.1 e
  simp only [Prod.mk.injEq] at he
  exact ⟨i, hi, he.1, he.2.1, he.2.2⟩

theorem ref_claimed {w w3 : World} {rb : Nat} {cl : Int} {n m : Nat → Nat} {f : Nat → Nat → Pl} {v : Nat → Value} (h : RGate w rb cl n m f v) (i : Nat) (hi : i < 2) (hm : m i < 16) (q : Nat) (O : Obj) (client : Int) {xs : List Value} {g' cap' : Nat}
    (hown : w.ownsRow 0 108 3 (v i) (m i) xs)
    (hx : ∀ k, k < m i → xs[k * 3]? = some (.int .i64 (f i k).1) ∧ xs[k * 3 + 1]? = some (.bool (f i k).2.1) ∧ xs[k * 3 + 2]? = some (.string (f i k).2.2))
    (hown' : w3.ownsRow 0 108 3 (.slice (some ⟨g', 0, none⟩) (m i + 1) cap') (m i + 1) (xs ++ [.int .i64 client, .bool false, .string ByteArray.empty]))
    (hg : ((w.drewN q).alloc O).grownBy w3 (v i).ownBlock) (hb : some g' = (v i).ownBlock ∨ some g' = some (w.heap.size + 1)) :
    RGate (w3.setCell ⟨rb, 7 + 3 * i + 1, none⟩ (.slice (some ⟨g', 0, none⟩) (m i + 1) cap')) rb cl n (updN m i (m i + 1)) (updN f i (upd (f i) (m i) (client, false, ByteArray.empty))) (updN v i (.slice (some ⟨g', 0, none⟩) (m i + 1) cap')) ∧
    Keep (fun b => b ≠ rb ∧ some b ≠ (v i).ownBlock) w (w3.setCell ⟨rb, 7 + 3 * i + 1, none⟩ (.slice (some ⟨g', 0, none⟩) (m i + 1) cap')) := by
  obtain ⟨cs, h1, h2, h3, h4, h5⟩ := h.gate
  have hrb := block_lt h1
  have hav := h.away i hi
  have k1 : Keep (fun b => some b ≠ (v i).ownBlock) w w3 :=
    ⟨hg.os, hg.tape, hg.output, Nat.le_trans (by simp) hg.size, fun b hb1 hb2 => by
      rw [hg.block b (by simp; omega) hb2]
      exact Below.heap_alloc _ _ _ (by simpa using hb1)⟩
  have k2 : Keep (fun b => b ≠ rb ∧ some b ≠ (v i).ownBlock) w (w3.setCell ⟨rb, 7 + 3 * i + 1, none⟩ (.slice (some ⟨g', 0, none⟩) (m i + 1) cap')) :=
    (k1.mono (T := fun b => b ≠ rb ∧ some b ≠ (v i).ownBlock) (fun _ _ h => h.2)).setCell _ (fun _ h => h.1 rfl) _
  have hgr : g' ≠ rb := by
    rcases hb with hb | hb
    · intro e; rw [e] at hb; exact hav hb.symm
    · simp at hb; omega
  have hw3 : w3.heap[rb]? = some (.cells cs 105 (0, 0)) := k1.get h1 (fun e => hav e.symm)
  have hother : ∀ j, j < 2 → j ≠ i → ∀ b, (v j).ownBlock = some b → b ≠ rb ∧ some b ≠ (v i).ownBlock := by
    intro j hj hji b hjb
    refine ⟨fun e => h.away j hj (e ▸ hjb), fun e => ?_⟩
    rcases (show (i = 0 ∧ j = 1) ∨ (i = 1 ∧ j = 0) by omega) with ⟨rfl, rfl⟩ | ⟨rfl, rfl⟩
    · exact h.apart b e.symm hjb
    · exact h.apart b hjb e.symm
  have hrow : RRow w3 (.slice (some ⟨g', 0, none⟩) (m i + 1) cap') (m i + 1) (upd (f i) (m i) (client, false, ByteArray.empty)) := by
    refine RRow.ofOwns hown' fun k hk => ?_
    have hlx : xs.length = m i * 3 := hown.1
    by_cases e : k = m i
    · subst e
      rw [List.getElem?_append_right (by omega), List.getElem?_append_right (by omega), List.getElem?_append_right (by omega), hlx]
      have e0 : m i * 3 - m i * 3 = 0 := by omega
      have e1 : m i * 3 + 1 - m i * 3 = 1 := by omega
      have e2 : m i * 3 + 2 - m i * 3 = 2 := by omega
      rw [e0, e1, e2]
      simp [upd]
    · rw [List.getElem?_append_left (by omega), List.getElem?_append_left (by omega), List.getElem?_append_left (by omega)]
      simpa [upd, e] using hx k (by omega)
  refine ⟨⟨?_, fun j hj => ?_, fun j hj => ?_, fun j hj => ?_, ?_⟩, k2⟩
  · refine ⟨_, heap_setCell_at _ hw3, by simpa using h2, ?_, ?_, fun j hj => ?_⟩
    · rw [Array.getElem?_setIfInBounds_ne (by omega)]; exact h3
    · rw [Array.getElem?_setIfInBounds_ne (by omega)]; exact h4
    · obtain ⟨a, b, c⟩ := h5 j hj
      by_cases e : j = i
      · subst e
        refine ⟨?_, ?_, ?_⟩
        · rw [Array.getElem?_setIfInBounds_ne (by omega)]; exact a
        · rw [Array.getElem?_setIfInBounds_self]; simp [updN]; omega
        · rw [Array.getElem?_setIfInBounds_ne (by omega)]; exact c
      · simp only [updN, if_neg e]
        refine ⟨?_, ?_, ?_⟩
        · rw [Array.getElem?_setIfInBounds_ne (by omega)]; exact a
        · rw [Array.getElem?_setIfInBounds_ne (by omega)]; exact b
        · rw [Array.getElem?_setIfInBounds_ne (by omega)]; exact c
  · by_cases e : j = i
    · subst e
      simp only [updN, if_true]
      refine hrow.keep (S := fun b => b ≠ rb) ((Keep.refl _ _).setCell _ (fun _ h => h rfl) _) (fun b hb => ?_)
      simp [Value.ownBlock] at hb
      show b ≠ rb
      omega
    · simp only [updN, if_neg e]
      exact (h.row j hj).keep k2 (fun b hb => hother j hj e b hb)
  · by_cases e : j = i
    · subst e; simp only [updN, if_true]; exact ⟨by omega, (h.le j hj).2⟩
    · simp only [updN, if_neg e]; exact h.le j hj
  · by_cases e : j = i
    · subst e; simp [updN, Value.ownBlock]; exact hgr
    · simp only [updN, if_neg e]; exact h.away j hj
  · have hlt : ∀ j b, j < 2 → (v j).ownBlock = some b → b < w.heap.size := fun j b hj hb => (h.row j hj).lt b hb
    intro b hb0 hb1
    rcases (show i = 0 ∨ i = 1 by omega) with rfl | rfl
    · simp [updN, Value.ownBlock] at hb0 hb1
      subst hb0
      have h6 := hother 1 (by omega) (by omega) _ hb1
      rcases hb with hb | hb
      · exact h6.2 hb
      · simp at hb; have := hlt 1 _ (by omega) hb1; omega
    · simp [updN, Value.ownBlock] at hb0 hb1
      subst hb1
      have h6 := hother 0 (by omega) (by omega) _ hb0
      rcases hb with hb | hb
      · exact h6.2 hb
      · simp at hb; have := hlt 0 _ (by omega) hb0; omega

theorem cell_three_new (w : World) (x y z : Value) (t : TypeId) : ∀ j u, [x, y, z][j]? = some u → (w.alloc (.cells #[x, y, z] t)).cell? ((⟨w.heap.size, 0, none⟩ : Addr).add j) = some u := by
  intro j u hj
  match j, hj with
  | 0, hj => simp at hj; subst hj; simp [Addr.add]
  | 1, hj => simp at hj; subst hj; simp [Addr.add]
  | 2, hj => simp at hj; subst hj; simp [Addr.add]

theorem owns_slice {w : World} {e : TypeId} {v : Value} {k : Nat} {xs : List Value} (h : w.ownsRow 0 e 3 v (k + 1) xs) : ∃ g cap, v = .slice (some ⟨g, 0, none⟩) (k + 1) cap := by
  rcases h.2 with ⟨_, h2⟩ | ⟨g, cap, cur, h2, _⟩
  · omega
  · exact ⟨g, cap, h2⟩

set_option maxHeartbeats 1000000 in
theorem rClaim_room {w : World} {rb : Nat} {cl : Int} {n m : Nat → Nat} {f : Nat → Nat → Pl} {v : Nat → Value} (client lane : Int) (i : Nat) (hi : (lane = 0 ∧ i = 0) ∨ (lane = 1 ∧ i = 1)) (h : RGate w rb cl n m f v)
    (hr : refuse cl client lane = 0) (hm : m i < n i) :
    Calls Try.prog 23 #[.pointer (some ⟨rb, 0, none⟩), .int .i64 client, .int .i64 lane] w fun e w' => e = .returned (.tuple #[.int .i64 (m i), .int .i64 0]) ∧
      ∃ v', RGate w' rb cl n (updN m i (m i + 1)) (updN f i (upd (f i) (m i) (client, false, ByteArray.empty))) (updN v i v') ∧ (v'.ownBlock = (v i).ownBlock ∨ ∃ b, v'.ownBlock = some b ∧ w.heap.size ≤ b) ∧
        Keep (fun b => b ≠ rb ∧ some b ≠ (v i).ownBlock) w w' := by
  obtain ⟨cs, h1, h2, h3, h4, h5⟩ := h.gate
  have hc : Calls Try.prog 42 #[.pointer (some ⟨rb, 0, none⟩), .int .i64 client, .int .i64 lane] w fun e w' => e = .returned (.int .i64 0) ∧ w = w' := by
    have := refuses_any rb cl client lane _ w h1 h3
    rwa [hr] at this
  have c29 := cellAt h1 h4
  obtain ⟨b0, b1, b2⟩ := h5 i (by omega)
  have c0 := cellAt h1 b0
  have c1 := cellAt h1 b1
  have c2 := cellAt h1 b2
  have z1 := frozenAt (i := 7 + 3 * i + 1) h1
  obtain ⟨a, cap, hv⟩ := (h.row i (by omega)).len
  obtain ⟨xs, hown, hx⟩ := (h.row i (by omega)).owns
  have hav := h.away i (by omega)
  have hl := h.le i (by omega)
  have hle : m i < 16 := by omega
  have hmn : (m i : Int) < (n i : Int) := by omega
  have HC : Hid (∀ w3 q O g' cap', w3.ownsRow 0 108 3 (.slice (some ⟨g', 0, none⟩) (m i + 1) cap') (m i + 1) (xs ++ [.int .i64 client, .bool false, .string ByteArray.empty]) → ((w.drewN q).alloc O).grownBy w3 (v i).ownBlock →
      (some g' = (v i).ownBlock ∨ some g' = some (w.heap.size + 1)) →
      RGate (w3.setCell ⟨rb, 7 + 3 * i + 1, none⟩ (.slice (some ⟨g', 0, none⟩) (m i + 1) cap')) rb cl n (updN m i (m i + 1)) (updN f i (upd (f i) (m i) (client, false, ByteArray.empty))) (updN v i (.slice (some ⟨g', 0, none⟩) (m i + 1) cap')) ∧
      Keep (fun b => b ≠ rb ∧ some b ≠ (v i).ownBlock) w (w3.setCell ⟨rb, 7 + 3 * i + 1, none⟩ (.slice (some ⟨g', 0, none⟩) (m i + 1) cap'))) :=
    fun w3 q O g' cap' a b c => ref_claimed h i (by omega) hle q O client hown hx a b c
  have hlt := block_lt h1
  obtain ⟨it, ht1, ht2, ht3, ht4⟩ := info_place
  have HT : Hid (Try.prog.info? 108 = some it ∧ it.bytes = 32 ∧ it.size = 3 ∧ it.zero = some (.agg #[.int .i64 0, .bool false, .string ByteArray.empty])) := ⟨ht1, ht2, ht3, ht4⟩
  rw [hv] at c1
  have HO2 : Hid (w.ownsRow 0 108 3 (.slice a (m i) cap) (m i) xs) := by rw [← hv]; exact hown
  have HV2 : Hid ((v i).ownBlock = (Value.slice a (m i) cap).ownBlock) := by show (v i).ownBlock = _; rw [hv]
  have HB2 : Hid (some rb ≠ (Value.slice a (m i) cap).ownBlock) := by show some rb ≠ _; rw [← hv]; exact Ne.symm hav
  clear h1 h2 h3 h4 h5 b0 b1 b2 hr hv hl hm h hown hx hav ht1 ht2 ht3 ht4
  generalize m i = mi at *
  generalize n i = ni at *
  rcases hi with ⟨rfl, rfl⟩ | ⟨rfl, rfl⟩
  · replace c0 : w.cell? ⟨rb, 7, none⟩ = some (.int .i64 ni) := c0
    replace c1 : w.cell? ⟨rb, 8, none⟩ = some (.slice a mi cap) := c1
    replace c2 : w.cell? ⟨rb, 9, none⟩ = some (.int .i64 0) := c2
    replace z1 : w.frozen? ⟨rb, 8, none⟩ = false := z1
    go_enter Try.func23, Try.ntmps23
    go_wp2_with (go_at_call 42; refine hc.mono ?_; rintro e w' ⟨rfl, rfl⟩)
    go_quiet (fail)
    go_wp2_with (at_builtin; go_must (refine wpList_append_own_at _ rfl _ _ 97 rfl 0 108 it (.agg #[.int .i64 0, .bool false, .string ByteArray.empty]) 3 32 Try.underlying97 HT.out.1 HT.out.2.2.2 HT.out.2.2.1 HT.out.2.1 rfl (by decide) (.slice a mi cap) mi xs rfl (HO2.out.alloc _) ⟨w.heap.size, 0, none⟩ 1 1 [.int .i64 client, .bool false, .string ByteArray.empty] rfl rfl (cell_three_new _ _ _ _ _) (fun x hx => by simp at hx; rcases hx with rfl | rfl | rfl <;> rfl) (by unfold maxLen; omega) (by omega) (by omega) ?_))
    intro v3 w3 hown3 hg3 _ hb3
    obtain ⟨g', cap', hv3⟩ := owns_slice hown3
    rw [hv3] at hown3 hb3 ⊢
    have k1 : w3.cell? ⟨rb, 8, none⟩ = some (.slice a mi cap) := by
      rw [World.cell?_of_block (w := w) ((hg3.block rb (by simp; omega) HB2.out).trans (Below.heap_alloc _ _ _ (by simpa using hlt)))]; exact c1
    have k2 : w3.frozen? ⟨rb, 8, none⟩ = false := by
      rw [World.frozen?_of_block (w := w) ((hg3.block rb (by simp; omega) HB2.out).trans (Below.heap_alloc _ _ _ (by simpa using hlt)))]; exact z1
    have HF := HC.out w3 nq _ g' cap' hown3 (by rw [HV2.out]; exact hg3) (by rw [HV2.out]; exact hb3)
    have HF2 : Hid _ := HF
    have HB3 : Hid ((Value.slice (some ⟨g', 0, none⟩) (mi + 1) cap').ownBlock = (v 0).ownBlock ∨ ∃ b, (Value.slice (some ⟨g', 0, none⟩) (mi + 1) cap').ownBlock = some b ∧ w.heap.size ≤ b) := by
      rcases hb3 with h | h
      · left; rw [HV2.out]; exact h
      · right; exact ⟨_, h, by omega⟩
    clear HF hown3 hg3 hb3 hv3 HC HO2 hc c0 c1 c2 c29 z1
    go_wp2
    go_ret2
    exact ⟨by simp, _, HF2.out.1, HB3.out, HF2.out.2⟩
  · replace c0 : w.cell? ⟨rb, 10, none⟩ = some (.int .i64 ni) := c0
    replace c1 : w.cell? ⟨rb, 11, none⟩ = some (.slice a mi cap) := c1
    replace c2 : w.cell? ⟨rb, 12, none⟩ = some (.int .i64 0) := c2
    replace z1 : w.frozen? ⟨rb, 11, none⟩ = false := z1
    go_enter Try.func23, Try.ntmps23
    go_wp2_with (go_at_call 42; refine hc.mono ?_; rintro e w' ⟨rfl, rfl⟩)
    go_quiet (fail)
    go_wp2_with (at_builtin; go_must (refine wpList_append_own_at _ rfl _ _ 97 rfl 0 108 it (.agg #[.int .i64 0, .bool false, .string ByteArray.empty]) 3 32 Try.underlying97 HT.out.1 HT.out.2.2.2 HT.out.2.2.1 HT.out.2.1 rfl (by decide) (.slice a mi cap) mi xs rfl (HO2.out.alloc _) ⟨w.heap.size, 0, none⟩ 1 1 [.int .i64 client, .bool false, .string ByteArray.empty] rfl rfl (cell_three_new _ _ _ _ _) (fun x hx => by simp at hx; rcases hx with rfl | rfl | rfl <;> rfl) (by unfold maxLen; omega) (by omega) (by omega) ?_))
    intro v3 w3 hown3 hg3 _ hb3
    obtain ⟨g', cap', hv3⟩ := owns_slice hown3
    rw [hv3] at hown3 hb3 ⊢
    have k1 : w3.cell? ⟨rb, 11, none⟩ = some (.slice a mi cap) := by
      rw [World.cell?_of_block (w := w) ((hg3.block rb (by simp; omega) HB2.out).trans (Below.heap_alloc _ _ _ (by simpa using hlt)))]; exact c1
    have k2 : w3.frozen? ⟨rb, 11, none⟩ = false := by
      rw [World.frozen?_of_block (w := w) ((hg3.block rb (by simp; omega) HB2.out).trans (Below.heap_alloc _ _ _ (by simpa using hlt)))]; exact z1
    have HF := HC.out w3 nq _ g' cap' hown3 (by rw [HV2.out]; exact hg3) (by rw [HV2.out]; exact hb3)
    have HF2 : Hid _ := HF
    have HB3 : Hid ((Value.slice (some ⟨g', 0, none⟩) (mi + 1) cap').ownBlock = (v 1).ownBlock ∨ ∃ b, (Value.slice (some ⟨g', 0, none⟩) (mi + 1) cap').ownBlock = some b ∧ w.heap.size ≤ b) := by
      rcases hb3 with h | h
      · left; rw [HV2.out]; exact h
      · right; exact ⟨_, h, by omega⟩
    clear HF hown3 hg3 hb3 hv3 HC HO2 hc c0 c1 c2 c29 z1
    go_wp2
    go_ret2
    exact ⟨by simp, _, HF2.out.1, HB3.out, HF2.out.2⟩

end Go.Proofs.Ytncljickkoihhaa
