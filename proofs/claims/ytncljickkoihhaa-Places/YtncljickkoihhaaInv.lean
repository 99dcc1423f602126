/-
  What holds at each step of a script: the gates on both sides, in pairs; the book; nothing that was there before has turned.
-/
import Derived.Test.YtncljickkoihhaaWDoes
import Derived.Test.YtncljickkoihhaaTwinMade
namespace Go.Proofs.Ytncljickkoihhaa
open Go.RowKit

abbrev Pair := Option Addr × Option Addr

def flat : List Pair → List Value
  | [] => []
  | p :: r => .pointer p.1 :: .pointer p.2 :: flat r

theorem flat_len : ∀ ts : List Pair, (flat ts).length = ts.length * 2
  | [] => rfl
  | p :: r => by simp [flat, flat_len r]; omega

theorem flat_append : ∀ (ts : List Pair) (p : Pair), flat (ts ++ [p]) = flat ts ++ [.pointer p.1, .pointer p.2]
  | [], p => rfl
  | q :: r, p => by simp [flat, flat_append r p]

theorem flat_get : ∀ (ts : List Pair) (i : Nat) (p : Pair), ts[i]? = some p → (flat ts)[i * 2]? = some (.pointer p.1) ∧ (flat ts)[i * 2 + 1]? = some (.pointer p.2)
  | [], i, p, h => by simp at h
  | q :: r, 0, p, h => by simp at h; subst h; simp [flat]
  | q :: r, i + 1, p, h => by
    have h2 := flat_get r i p (by simpa using h)
    have e1 : (i + 1) * 2 = i * 2 + 1 + 1 := by omega
    have e2 : (i + 1) * 2 + 1 = i * 2 + 1 + 1 + 1 := by omega
    rw [e1]
    simpa [flat] using h2

structure HInv (w0 w : World) (own : Nat → Nat) (ts : List Pair) (v : Value) (bb : Nat) : Prop where
  book : w.heap[bb]? = some (.cells #[.slice none 0 0, .slice none 0 0, .int .i64 0] 43 (0, 0))
  bown : own bb = 0
  bold : w0.heap.size ≤ bb
  row : w.ownsRow w0.heap.size 48 2 v ts.length (flat ts)
  rown : ∀ b, v.ownBlock = some b → own b = 0 ∧ b ≠ bb
  twin : ∀ (i : Nat) (p : Pair), ts[i]? = some p → TwinAt own (i + 1) w (.pointer p.1) (.pointer p.2)
  below : Below w0.heap.size w0 w
  old : ∀ b, b < w0.heap.size → own b = 0

theorem HInv.size {w0 w : World} {own : Nat → Nat} {ts : List Pair} {v : Value} {bb : Nat} (h : HInv w0 w own ts v bb) : w0.heap.size ≤ w.heap.size := h.below.size

/-- Nothing of what was there has turned; what is new is nobody's. -/
theorem HInv.grow {w0 w w' : World} {own own' : Nat → Nat} {ts : List Pair} {v : Value} {bb : Nat} (h : HInv w0 w own ts v bb) (hb : Below w.heap.size w w') (ho : ∀ b, b < w.heap.size → own' b = own b) : HInv w0 w' own' ts v bb := by
  have hk : Keep (fun _ => True) w w' := Keep.ofBelow hb
  have l1 := block_lt h.book
  refine ⟨hk.get h.book trivial, by rw [ho _ l1]; exact h.bown, h.bold, ?_, fun b hv => ?_, fun i p hp => ?_, ?_, fun b hlt => ?_⟩
  · exact h.row.kept (row := none) ⟨hb.os, hb.tape, hb.output, hb.size, fun k hk _ => hb.block k hk⟩ (by cases v.ownBlock <;> simp)
  · have := h.row.lt b hv
    rw [ho _ this.2]; exact h.rown b hv
  · exact (h.twin i p hp).keep hk (fun _ _ _ => trivial) ho
  · exact h.below.trans (hb.mono h.size)
  · rw [ho _ (Nat.lt_of_lt_of_le hlt h.size)]; exact h.old b hlt

theorem HInv.alloc {w0 w : World} {own : Nat → Nat} {ts : List Pair} {v : Value} {bb : Nat} (h : HInv w0 w own ts v bb) (O : Obj) : HInv w0 (w.alloc O) (ext own w.heap.size 0) ts v bb :=
  h.grow ((Below.refl _ _).alloc (Nat.le_refl _) _) (fun _ hb => ext_lt hb)

theorem HInv.drewN {w0 w : World} {own : Nat → Nat} {ts : List Pair} {v : Value} {bb : Nat} (h : HInv w0 w own ts v bb) (q : Nat) : HInv w0 (w.drewN q) own ts v bb :=
  h.grow (below_drewN (Below.refl _ _) q) (fun _ _ => rfl)

/-- A step on one pair. -/
theorem HInv.step {w0 w w' : World} {own : Nat → Nat} {ts : List Pair} {v : Value} {bb : Nat} (h : HInv w0 w own ts v bb) (i : Nat) (px py : Option Addr) (hi : ts[i]? = some (px, py)) (hs : PubOk own (i + 1) w w' px py) :
    ∃ own', HInv w0 w' own' ts v bb := by
  obtain ⟨hk, own', q1, q2, ht⟩ := hs
  have l1 := block_lt h.book
  refine ⟨own', hk.get h.book ⟨by rw [h.bown]; omega, by rw [h.bown]; omega⟩, by rw [q1 _ l1]; exact h.bown, h.bold, ?_, fun b hv => ?_, fun j p hp => ?_, ?_, fun b hlt => ?_⟩
  · rcases h.row with ⟨r1, ⟨r2, r3⟩ | ⟨g, cap, cur, r2, r3, r4, r5⟩⟩
    · exact ⟨r1, .inl ⟨r2, r3⟩⟩
    · have hg := h.rown g (by rw [r2]; rfl)
      exact ⟨r1, .inr ⟨g, cap, cur, r2, r3, hk.get r4 ⟨by rw [hg.1]; omega, by rw [hg.1]; omega⟩, r5⟩⟩
  · have := h.row.lt b hv
    rw [q1 _ this.2]; exact h.rown b hv
  · by_cases e : j = i
    · subst e
      rw [hi] at hp
      simp only [Option.some.injEq] at hp
      subst hp
      exact ht
    · exact (h.twin j p hp).keep hk (fun b _ hb => ⟨by omega, by omega⟩) q1
  · have k0 : Keep (fun b => b < w0.heap.size) w w' := hk.mono (fun b _ hb => ⟨by rw [h.old b hb]; omega, by rw [h.old b hb]; omega⟩)
    exact h.below.trans (k0.below h.size)
  · rw [q1 _ (Nat.lt_of_lt_of_le hlt h.size)]; exact h.old b hlt

/-- One pair more. -/
theorem HInv.append {w0 W w3 : World} {own : Nat → Nat} {ts : List Pair} {v v' : Value} {bb : Nat} (h : HInv w0 W own ts v bb) (px py : Option Addr) (ht : TwinAt own (ts.length + 1) W (.pointer px) (.pointer py))
    (hown : w3.ownsRow w0.heap.size 48 2 v' (ts.length + 1) (flat ts ++ [.pointer px, .pointer py])) (hg : W.grownBy w3 v.ownBlock) (hb : v'.ownBlock = v.ownBlock ∨ v'.ownBlock = some W.heap.size) :
    HInv w0 w3 (ext own W.heap.size 0) (ts ++ [(px, py)]) v' bb := by
  have l1 := block_lt h.book
  have hk : Keep (fun b => some b ≠ v.ownBlock) W w3 := ⟨hg.os, hg.tape, hg.output, hg.size, fun k hk hs => hg.block k hk hs⟩
  refine ⟨hk.get h.book (fun e => (h.rown bb e.symm).2 rfl), by rw [ext_lt l1]; exact h.bown, h.bold, ?_, fun b hv => ?_, fun j p hp => ?_, ?_, fun b hlt => ?_⟩
  · rw [flat_append]; simpa using hown
  · rcases hb with h2 | h2
    · rw [h2] at hv
      have := h.row.lt b hv
      rw [ext_lt this.2]; exact h.rown b hv
    · rw [h2] at hv
      simp only [Option.some.injEq] at hv
      rw [ext_ge (by omega)]
      exact ⟨rfl, by omega⟩
  · have other : ∀ {t x y}, 1 ≤ t → TwinAt own t W x y → TwinAt (ext own W.heap.size 0) t w3 x y := fun {t x y} h1 hh =>
      hh.keep hk (fun b _ hb2 e => by have := (h.rown b e.symm).1; omega) (fun b hb2 => ext_lt hb2)
    rcases Nat.lt_or_ge j ts.length with hj | hj
    · rw [List.getElem?_append_left hj] at hp
      exact other (by omega) (h.twin j p hp)
    · rw [List.getElem?_append_right hj] at hp
      have hj2 : j - ts.length = 0 := by
        rcases Nat.eq_zero_or_pos (j - ts.length) with h3 | h3
        · exact h3
        · rw [List.getElem?_eq_none (by simp; omega)] at hp; cases hp
      rw [hj2] at hp
      simp only [List.getElem?_cons_zero, Option.some.injEq] at hp
      subst hp
      have : j = ts.length := by omega
      subst this
      exact other (by omega) ht
  · have k0 : Keep (fun b => b < w0.heap.size) W w3 := hk.mono (fun b _ hb2 e => by have := (h.row.lt b e.symm).1; omega)
    exact h.below.trans (k0.below h.size)
  · rw [ext_lt (Nat.lt_of_lt_of_le hlt h.size)]; exact h.old b hlt

theorem HInv.row_slice {w0 w : World} {own : Nat → Nat} {ts : List Pair} {v : Value} {bb : Nat} (h : HInv w0 w own ts v bb) : ∃ a cap, v = .slice a ts.length cap := by
  rcases h.row.2 with ⟨r2, r3⟩ | ⟨g, cap, cur, r2, _⟩
  · exact ⟨none, 0, by rw [r2, r3]⟩
  · exact ⟨_, _, r2⟩

theorem HInv.pair {w0 w : World} {own : Nat → Nat} {ts : List Pair} {v : Value} {bb : Nat} (h : HInv w0 w own ts v bb) (i : Nat) (hi : i < ts.length) :
    ∃ g cap p, v = .slice (some ⟨g, 0, none⟩) ts.length cap ∧ g < w.heap.size ∧ ts[i]? = some p ∧ w.cell? ⟨g, i * 2, none⟩ = some (.pointer p.1) ∧ w.cell? ⟨g, i * 2 + 1, none⟩ = some (.pointer p.2) := by
  rcases h.row with ⟨r1, ⟨r2, r3⟩ | ⟨g, cap, cur, r2, r3, r4, r5, r6, r7, r8⟩⟩
  · omega
  · have hp : ts[i]? = some ts[i] := List.getElem?_eq_getElem hi
    obtain ⟨f1, f2⟩ := flat_get ts i _ hp
    rw [← r8] at f1 f2
    rw [List.getElem?_take_of_lt (by omega)] at f1 f2
    exact ⟨g, cap, ts[i], r2, block_lt r4, hp, cellAt r4 (by simpa using f1), cellAt r4 (by simpa using f2)⟩

set_option maxHeartbeats 400000 in
theorem still_empty (bb : Nat) (w : World) (h : w.heap[bb]? = some (.cells #[.slice none 0 0, .slice none 0 0, .int .i64 0] 43 (0, 0))) :
    Calls Try.prog 14 #[.pointer (some ⟨bb, 0, none⟩)] w fun e w' => e = .returned (.bool true) ∧ w = w' := by
  have c0 : w.cell? ⟨bb, 0, none⟩ = some (.slice none 0 0) := cellAt (i := 0) h rfl
  clear h
  go_enter Try.func14, Try.ntmps14
  go_wp2
  go_loop [3] (fun i => i = .int .i64 0) (fun _ => 0)
  case atStart => rfl
  case round =>
    subst hrel
    go_wp2
    go_ret
    exact ⟨rfl, rfl⟩

theorem info_twin : ∃ i, Try.prog.info? 48 = some i ∧ i.bytes = 16 ∧ i.size = 2 ∧ i.zero = some (.agg #[.pointer none, .pointer none]) := by
  have e : (Try.prog.info? 48).map (fun i => (i.bytes, i.size, i.zero)) = some (16, 2, some (.agg #[.pointer none, .pointer none])) := by kernel_rfl
  obtain ⟨i, hi, he⟩ := Option.map_eq_some_iff.1 e
  simp only [Prod.mk.injEq] at he
  exact ⟨i, hi, he.1, he.2.1, he.2.2⟩

/-- A step of a script: its numbers; its frame; the settings, with the accounts' limits. -/
structure OpV where
  kind : Int
  g : Int
  client : Int
  lane : Int
  place : Int
  o : Bool
  s : ByteArray
  c0 : Int
  c1 : Int
  c2 : Int
  c3 : Int
  c4 : Int
  acc : Option Addr
  n : Nat
  c : Nat
  lim : Nat → Nat → Int

def OpV.cells (x : OpV) : List Value :=
  [.int .i64 x.kind, .int .i64 x.g, .int .i64 x.client, .int .i64 x.lane, .int .i64 x.place, .bool x.o, .string x.s, .int .i64 x.c0, .int .i64 x.c1, .int .i64 x.c2, .int .i64 x.c3, .int .i64 x.c4, .slice x.acc x.n x.c]

/-- The step reads so in w, and its numbers fit. -/
structure OpOk (w : World) (x : OpV) : Prop where
  acc : AccAt w x.acc x.n x.lim
  n : x.n ≤ 2932031007317
  g1 : -9223372036854775808 ≤ x.g
  g2 : x.g ≤ 9223372036854775807
  p1 : -9223372036854775808 ≤ x.place
  p2 : x.place ≤ 9223372036854775807

/-- The script reads so in w. -/
def ScriptAt (w : World) (a : Option Addr) (len : Nat) (ops : Nat → OpV) : Prop :=
  len = 0 ∨ ∃ b off, a = some ⟨b, off, none⟩ ∧ b < w.heap.size ∧ ∀ k, k < len → OpOk w (ops k) ∧ ∀ (j : Nat) (v : Value), (ops k).cells[j]? = some v → w.cell? ⟨b, off + k * 13 + j, none⟩ = some v

end Go.Proofs.Ytncljickkoihhaa
