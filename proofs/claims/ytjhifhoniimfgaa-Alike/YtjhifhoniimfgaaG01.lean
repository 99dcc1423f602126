import Derived.WalkKit
import Derived.WalkSpells
import Derived.WalkLawsBesides
import Derived.Deep.QuietTactic
import Derived.BigQuiet
import Derived.Test.YtjhifhoniimfgaaProg
import Derived.BigRegion
import Derived.Deep.RegionHeld3
import Derived.Laws.Bits64b
/-
  Small laws on worlds: what is kept from one world to another, block by block, and how a block reads.
-/
namespace Go.Proofs.Ytjhifhoniimfgaa
open Go.RowKit

/-- The blocks of w that S names are in w' as they were; the streams are as they were; no block has gone. -/
structure Keep (S : Nat → Prop) (w w' : World) : Prop where
  os : w'.os = w.os
  tape : w'.tape = w.tape
  output : w'.output = w.output
  size : w.heap.size ≤ w'.heap.size
  block : ∀ k, k < w.heap.size → S k → w'.heap[k]? = w.heap[k]?

theorem Keep.refl (S : Nat → Prop) (w : World) : Keep S w w := ⟨rfl, rfl, rfl, Nat.le_refl _, fun _ _ _ => rfl⟩

theorem Keep.trans {S : Nat → Prop} {a b c : World} (h : Keep S a b) (k : Keep S b c) : Keep S a c :=
  ⟨k.os.trans h.os, k.tape.trans h.tape, k.output.trans h.output, Nat.le_trans h.size k.size, fun i hi hs => (k.block i (Nat.lt_of_lt_of_le hi h.size) hs).trans (h.block i hi hs)⟩

/-- As trans, the second step speaking of blocks of the first world alone. -/
theorem Keep.trans' {S T : Nat → Prop} {a b c : World} (h : Keep S a b) (k : Keep T b c) (hT : ∀ i, i < a.heap.size → S i → T i) : Keep S a c :=
  ⟨k.os.trans h.os, k.tape.trans h.tape, k.output.trans h.output, Nat.le_trans h.size k.size, fun i hi hs => (k.block i (Nat.lt_of_lt_of_le hi h.size) (hT i hi hs)).trans (h.block i hi hs)⟩

theorem Keep.mono {S T : Nat → Prop} {a b : World} (h : Keep S a b) (hT : ∀ i, i < a.heap.size → T i → S i) : Keep T a b :=
  ⟨h.os, h.tape, h.output, h.size, fun i hi hs => h.block i hi (hT i hi hs)⟩

theorem Keep.drew {S : Nat → Prop} {a w : World} (h : Keep S a w) : Keep S a w.drew := ⟨h.os, h.tape, h.output, h.size, h.block⟩
theorem Keep.drewN {S : Nat → Prop} {a w : World} (h : Keep S a w) (n : Nat) : Keep S a (w.drewN n) := ⟨h.os, h.tape, h.output, h.size, h.block⟩

theorem Keep.alloc {S : Nat → Prop} {a w : World} (h : Keep S a w) (o : Obj) : Keep S a (w.alloc o) :=
  h.trans ⟨rfl, rfl, rfl, by simp, fun k hk _ => Below.heap_alloc _ _ _ hk⟩

theorem Keep.setCell {S : Nat → Prop} {a w : World} (h : Keep S a w) (p : Addr) (hp : p.block < a.heap.size → ¬ S p.block) (u : Value) : Keep S a (w.setCell p u) :=
  ⟨h.os, h.tape, h.output, by simpa [World.setCell] using h.size, fun k hk hs => by
    rw [Below.heap_setCell _ _ _ _ (fun e => hp (e ▸ hk) (e ▸ hs))]; exact h.block k hk hs⟩

theorem Keep.grown {S : Nat → Prop} {a w w' : World} {row : Option Nat} (h : Keep S a w) (hg : w.grownBy w' row) (hr : ∀ k, row = some k → k < a.heap.size → ¬ S k) : Keep S a w' :=
  ⟨hg.os.trans h.os, hg.tape.trans h.tape, hg.output.trans h.output, Nat.le_trans h.size hg.size, fun k hk hs =>
    (hg.block k (Nat.lt_of_lt_of_le hk h.size) (fun e => hr k e.symm hk hs)).trans (h.block k hk hs)⟩

theorem Keep.below {B : Nat} {w w' : World} (h : Keep (fun k => k < B) w w') (hB : B ≤ w.heap.size) : Below B w w' :=
  ⟨h.os, h.tape, h.output, h.size, fun k hk => h.block k (Nat.lt_of_lt_of_le hk hB) hk⟩

theorem Keep.ofBelow {S : Nat → Prop} {w w' : World} (h : Below w.heap.size w w') : Keep S w w' :=
  ⟨h.os, h.tape, h.output, h.size, fun k hk _ => h.block k hk⟩

theorem block_lt {w : World} {b : Nat} {o : Obj} (h : w.heap[b]? = some o) : b < w.heap.size := by
  rcases Nat.lt_or_ge b w.heap.size with h1 | h1
  · exact h1
  · rw [Array.getElem?_eq_none h1] at h; cases h

theorem Keep.get {S : Nat → Prop} {w w' : World} (h : Keep S w w') {b : Nat} {o : Obj} (hb : w.heap[b]? = some o) (hs : S b) : w'.heap[b]? = some o :=
  (h.block b (block_lt hb) hs).trans hb

theorem cellAt {w : World} {b i : Nat} {T : TypeId} {f : Nat × Nat} {cs : Array Value} {v : Value} (h : w.heap[b]? = some (.cells cs T f)) (hi : cs[i]? = some v) : w.cell? ⟨b, i, none⟩ = some v := by
  simp [World.cell?, h, hi]

theorem frozenAt {w : World} {b i : Nat} {T : TypeId} {cs : Array Value} (h : w.heap[b]? = some (.cells cs T (0, 0))) : w.frozen? ⟨b, i, none⟩ = false := by
  simp [World.frozen?, h]

theorem heap_setCell_at {w : World} {b i : Nat} {T : TypeId} {f : Nat × Nat} {cs : Array Value} (v : Value) (h : w.heap[b]? = some (.cells cs T f)) :
    (w.setCell ⟨b, i, none⟩ v).heap[b]? = some (.cells (cs.setIfInBounds i v) T f) := by
  simp [World.setCell, Array.getElem?_modify, h]

theorem size_setCell (w : World) (a : Addr) (v : Value) : (w.setCell a v).heap.size = w.heap.size := by simp [World.setCell]

theorem below_trans {B C : Nat} {w w1 w2 : World} (h : Below B w w1) (k : Below C w1 w2) (hB : B ≤ C) : Below B w w2 :=
  ⟨k.os.trans h.os, k.tape.trans h.tape, k.output.trans h.output, Nat.le_trans h.size k.size, fun i hi => (k.block i (Nat.lt_of_lt_of_le hi hB)).trans (h.block i hi)⟩

theorem below_alloc_step {w w1 w2 : World} {o : Obj} (h : Below w.heap.size w w1) (k : Below (w1.alloc o).heap.size (w1.alloc o) w2) : Below w.heap.size w w2 :=
  below_trans (h.alloc h.size o) k (by rw [World.size_alloc]; exact Nat.le_succ_of_le h.size)

end Go.Proofs.Ytjhifhoniimfgaa

/-
  Numbers of frames, and the code of a frame that is wrong: no code.
-/
namespace Go.Proofs.Ytjhifhoniimfgaa
open Go.RowKit

/-- Bytes as a number, the highest first. -/
def val (l : List UInt8) : Nat := l.foldl (fun n c => 256 * n + c.toNat) 0

theorem val_from_ge : ∀ (l : List UInt8) (n : Nat), n ≤ l.foldl (fun n c => 256 * n + c.toNat) n
  | [], n => Nat.le_refl _
  | c :: r, n => Nat.le_trans (by omega) (val_from_ge r (256 * n + c.toNat))

theorem val_snoc (l : List UInt8) (c : UInt8) : val (l ++ [c]) = 256 * val l + c.toNat := by simp [val]

theorem val_append_ge (l : List UInt8) (c : UInt8) (r : List UInt8) : 256 * val l ≤ val (l ++ c :: r) := by
  have h := val_from_ge r (256 * val l + c.toNat)
  simp only [val, List.foldl_append, List.foldl_cons] at h ⊢
  omega

theorem take_snoc (s : ByteArray) (k : Nat) (h : k < s.size) : s.data.toList.take (k + 1) = s.data.toList.take k ++ [s[k]] := by
  rw [List.take_succ_eq_append_getElem (by simpa using h)]; rfl

theorem val_too (s : ByteArray) (k : Nat) (h : k < s.size) : 256 * val (s.data.toList.take k) ≤ val s.data.toList := by
  have hd : s.data.toList = s.data.toList.take k ++ s.data.toList.drop k := (List.take_append_drop k _).symm
  have hl : k < s.data.toList.length := by simpa using h
  rw [List.drop_eq_getElem_cons hl] at hd
  have := val_append_ge (s.data.toList.take k) s.data.toList[k] (s.data.toList.drop (k + 1))
  rw [← hd] at this
  exact this

/-- Is the number at most the greatest one? -/
def numOk (s : ByteArray) : Bool := decide (val s.data.toList ≤ 9223372036854775807)

/-- The number, or 0. -/
def numV (s : ByteArray) : Int := if numOk s then val s.data.toList else 0

theorem numV_bd (s : ByteArray) : 0 ≤ numV s ∧ numV s ≤ 9223372036854775807 := by
  unfold numV numOk
  split
  · rename_i h; simp at h; omega
  · omega

/-- Are all bytes 0? -/
def zeroB (s : ByteArray) : Bool := s.data.toList.all (· == 0)

/-- A sum, if it is not too large; else 0. -/
def tooV (a b : Int) : Int := if 9223372036854775807 - a < b then 0 else a + b
def tooB (a b : Int) : Bool := decide (9223372036854775807 - a < b)

/-- A byte of a frame. -/
def byteAt (s : ByteArray) (i : Nat) : Nat := (s.data.toList.getD i 0).toNat

theorem byteAt_eq (s : ByteArray) (i : Nat) (h : i < s.size) : byteAt s i = s[i].toNat := by
  have hl : i < s.data.toList.length := by simpa using h
  unfold byteAt
  rw [List.getD, List.getElem?_eq_getElem hl]
  rfl

/-- The code of a New's numbers. -/
def newV (s : ByteArray) : Int :=
  if numOk (s.extract 8 16) = false ∨ numV (s.extract 8 16) < 1 then 6
  else if numOk (s.extract 16 24) = false ∨ numV (s.extract 16 24) < 1 then 7
  else if numOk (s.extract 24 32) = false ∨ numV (s.extract 24 32) < 1 ∨ 1000000 < numV (s.extract 24 32) then 8 else 0

/-- The code of a frame that is wrong; 0: it is not. -/
def wrongV (n : Nat) (lane : Int) (s : ByteArray) : Int :=
  if s.size ≠ 32 then 1
  else if byteAt s 0 < 1 ∨ 4 < byteAt s 0 ∨ (if byteAt s 0 ≤ 2 then (0 : Int) else 1) ≠ lane then 2
  else if n ≤ byteAt s 1 then 3
  else if byteAt s 0 = 1 ∧ 1 < byteAt s 2 then 4
  else if byteAt s 3 ≠ 0 then 5
  else if byteAt s 0 ≠ 1 ∧ (byteAt s 2 ≠ 0 ∨ zeroB (s.extract 8 32) = false) then 5
  else if 2 < byteAt s 0 then (if zeroB (s.extract 4 8) then 0 else 5)
  else if byteAt s 0 = 2 then 0
  else newV s

theorem size_extract_le (s : ByteArray) (a b : Nat) (h : s.size = 32) : (s.extract a b).size ≤ maxLen := by
  rw [ByteArray.size_extract]; unfold maxLen; omega

end Go.Proofs.Ytjhifhoniimfgaa

/-
  What the bytes of a frame say: the program's reading, its pieces.
-/
namespace Go.Proofs.Ytjhifhoniimfgaa
open Go.RowKit

theorem shl_or (n c : Nat) (hn : n < 72057594037927936) (hc : c < 256) : bits BinOp.or IntKind.u64 (IntKind.u64.wrap ((n : Int) * 256)) (IntKind.u64.wrap (c : Int)) = ((256 * n + c : Nat) : Int) := by
  have h0 : IntKind.u64.wrap (c : Int) = (c : Int) := by rw [IntKind.wrap_u64]; omega
  rw [h0]
  have h1 : IntKind.u64.wrap ((n : Int) * 256) = ((n * 256 : Nat) : Int) := by rw [IntKind.wrap_u64]; omega
  rw [h1, bits_or_u64_nat _ _ (by omega) (by omega)]
  have h2 : n * 256 ||| c = n * 256 + c := by
    have := Nat.shiftLeft_add_eq_or_of_lt (i := 8) (b := c) (by omega) n
    rw [Nat.shiftLeft_eq, show (2 : Nat) ^ 8 = 256 from rfl] at this
    omega
  rw [h2]; congr 1; omega

theorem val_lt : ∀ (l : List UInt8) (n : Nat), l.foldl (fun n c => 256 * n + c.toNat) n < (n + 1) * 256 ^ l.length
  | [], n => by simp
  | c :: r, n => by
    have h := val_lt r (256 * n + c.toNat)
    have hc : c.toNat < 256 := UInt8.toNat_lt c
    have h3 : (256 * n + c.toNat + 1) * 256 ^ r.length ≤ ((n + 1) * 256) * 256 ^ r.length := Nat.mul_le_mul_right _ (by omega)
    simp only [List.foldl_cons, List.length_cons, Nat.pow_succ]
    have h4 : (n + 1) * 256 * 256 ^ r.length = (n + 1) * (256 ^ r.length * 256) := by rw [Nat.mul_assoc, Nat.mul_comm 256]
    omega

theorem val_take_lt (s : ByteArray) (k : Nat) (hk : k ≤ 7) : val (s.data.toList.take k) < 72057594037927936 := by
  have h := val_lt (s.data.toList.take k) 0
  have h2 : 256 ^ (s.data.toList.take k).length ≤ 256 ^ 7 := Nat.pow_le_pow_right (by omega) (by rw [List.length_take]; omega)
  unfold val
  omega

theorem val_bd (s : ByteArray) (hs : s.size ≤ 8) : val s.data.toList < 18446744073709551616 := by
  have h := val_lt s.data.toList 0
  have h2 : 256 ^ s.data.toList.length ≤ 256 ^ 8 := Nat.pow_le_pow_right (by omega) (by simpa using hs)
  unfold val
  omega

theorem val_bd4 (s : ByteArray) (hs : s.size ≤ 4) : val s.data.toList < 4294967296 := by
  have h := val_lt s.data.toList 0
  have h2 : 256 ^ s.data.toList.length ≤ 256 ^ 4 := Nat.pow_le_pow_right (by omega) (by simpa using hs)
  unfold val
  omega

set_option maxHeartbeats 400000 in
theorem fnumber_any (s : ByteArray) (w : World) (hs : s.size ≤ 8) :
    Calls Try.prog 80 #[.string s] w fun e w' => e = .returned (.int .u64 (val s.data.toList : Nat)) ∧ w = w' := by
  go_enter Try.func80, Try.ntmps80
  go_wp2
  go_loop [3, 7] (fun n i => ∃ k : Nat, k ≤ s.size ∧ i = .int .i64 k ∧ n = .int .u64 (val (s.data.toList.take k) : Nat)) (fun _ i => s.size - (intOf i).toNat)
  case atStart => exact ⟨0, Nat.zero_le _, rfl, rfl⟩
  case round =>
    obtain ⟨k, hk, rfl, rfl⟩ := hrel
    by_cases hlt : k < s.size
    · have hsn : val (s.data.toList.take (k + 1)) = 256 * val (s.data.toList.take k) + s[k].toNat := by rw [take_snoc s k hlt]; exact val_snoc _ _
      have HS : Hid (val (s.data.toList.take (k + 1)) = 256 * val (s.data.toList.take k) + s[k].toNat) := hsn
      have hor := shl_or (val (s.data.toList.take k)) s[k].toNat (val_take_lt s k (by omega)) (UInt8.toNat_lt _)
      clear hsn
      go_wp2
      go_round
      case rel => exact ⟨k + 1, by omega, by go_num, by rw [HS.out, Int.natCast_add, Int.natCast_mul]; rfl⟩
      case measure => simp [intOf]; omega
    · have hge : ¬ (k : Int) < (s.size : Int) := by omega
      obtain rfl : k = s.size := by omega
      go_wp2
      go_ret
      exact ⟨by rw [List.take_of_length_le (by simp)]; rfl, rfl⟩

/-- A frame's fields, as they stand there. -/
def fAgg (k a s r n : Int) (p q l : Nat) : Value := .agg #[.int .i64 k, .int .i64 a, .int .i64 s, .int .i64 r, .int .i64 n, .int .u64 p, .int .u64 q, .int .u64 l]

set_option maxRecDepth 100000 in
set_option maxHeartbeats 1000000 in
theorem split_walk (s t1 t2 t3 t4 : ByteArray) (v1 v2 v3 v4 : Nat) (w : World) (h0 : 0 < s.size) (h1 : 1 < s.size) (h2 : 2 < s.size) (h3 : 3 < s.size) (_i0 : (0 : Int) < (s.size : Int)) (i1 : (1 : Int) < (s.size : Int)) (i2 : (2 : Int) < (s.size : Int)) (i3 : (3 : Int) < (s.size : Int))
    (q1 : ∀ w, (Instr.slice 9 (.string s) (some (.int .i64 4)) (some (.int .i64 8)) none).run Try.prog w = .ok (.string t1) w) (q2 : ∀ w, (Instr.slice 9 (.string s) (some (.int .i64 8)) (some (.int .i64 16)) none).run Try.prog w = .ok (.string t2) w) (q3 : ∀ w, (Instr.slice 9 (.string s) (some (.int .i64 16)) (some (.int .i64 24)) none).run Try.prog w = .ok (.string t3) w) (q4 : ∀ w, (Instr.slice 9 (.string s) (some (.int .i64 24)) (some (.int .i64 32)) none).run Try.prog w = .ok (.string t4) w) (b1 : v1 < 4294967296)
    (n1 : ∀ W, Calls Try.prog 80 #[.string t1] W fun e w' => e = .returned (.int .u64 (v1 : Nat)) ∧ W = w') (n2 : ∀ W, Calls Try.prog 80 #[.string t2] W fun e w' => e = .returned (.int .u64 (v2 : Nat)) ∧ W = w') (n3 : ∀ W, Calls Try.prog 80 #[.string t3] W fun e w' => e = .returned (.int .u64 (v3 : Nat)) ∧ W = w') (n4 : ∀ W, Calls Try.prog 80 #[.string t4] W fun e w' => e = .returned (.int .u64 (v4 : Nat)) ∧ W = w') :
    Calls Try.prog 72 #[.string s] w fun e w' => e = .returned (fAgg (s[0].toNat) (s[1].toNat) (s[2].toNat) (s[3].toNat) v1 v2 v3 v4) ∧ Below w.heap.size w w' := by
  go_enter Try.func72, Try.ntmps72
  go_wp2
  refine wp_region_noPanic ?_
  refine wp_region_held_drew (S := fun _ => True) (by kernel_rfl) trivial (fun _ => ?_)
  refine wpAnyH_take (i := 0) (v := ?_) rfl (by kernel_rfl) (by kernel_rfl) (by kernel_rfl) (fun _ _ _ h => h) (Or.inl ⟨by rfl, ?_⟩) trivial ?_
  rotate_left
  (intro w hSw; go_simp)
  try with_reducible rfl
  simp only [Act.put, List.setIfInBounds_toArray]
  refine wpAnyH_take (i := 1) (v := ?_) rfl (by kernel_rfl) (by kernel_rfl) (by kernel_rfl) (fun _ _ _ h => h) (Or.inl ⟨by rfl, ?_⟩) trivial ?_
  rotate_left
  (intro w hSw; go_simp)
  try with_reducible rfl
  simp only [Act.put]
  refine wpAnyH_take (i := 2) (v := ?_) rfl (by kernel_rfl) (by kernel_rfl) (by kernel_rfl) (fun _ _ _ h => h) (Or.inl ⟨by rfl, ?_⟩) trivial ?_
  rotate_left
  (intro w hSw; go_simp)
  try with_reducible rfl
  simp only [Act.put]
  refine wpAnyH_take (i := 3) (v := ?_) rfl (by kernel_rfl) (by kernel_rfl) (by kernel_rfl) (fun _ _ _ h => h) (Or.inl ⟨by rfl, ?_⟩) trivial ?_
  rotate_left
  (intro w hSw; go_simp)
  try with_reducible rfl
  simp only [Act.put]
  refine wpAnyH_take (i := 4) (v := ?_) rfl (by kernel_rfl) (by kernel_rfl) (by kernel_rfl) (fun _ _ _ h => h) (Or.inl ⟨by rfl, ?_⟩) trivial ?_
  rotate_left
  (intro w hSw; go_simp)
  try with_reducible rfl
  simp only [Act.put]
  refine wpAnyH_take (i := 5) (v := ?_) rfl (by kernel_rfl) (by kernel_rfl) (by kernel_rfl) (fun _ _ _ h => h) (Or.inl ⟨by rfl, ?_⟩) trivial ?_
  rotate_left
  (intro w hSw; go_simp)
  try with_reducible rfl
  simp only [Act.put]
  refine wpAnyH_take (i := 6) (v := ?_) rfl (by kernel_rfl) (by kernel_rfl) (by kernel_rfl) (fun _ _ _ h => h) (Or.inl ⟨by rfl, ?_⟩) trivial ?_
  rotate_left
  (intro w hSw; go_simp)
  try with_reducible rfl
  simp only [Act.put]
  refine wpAnyH_take (i := 7) (v := ?_) rfl (by kernel_rfl) (by kernel_rfl) (by kernel_rfl) (fun _ _ _ h => h) (Or.inl ⟨by rfl, ?_⟩) trivial ?_
  rotate_left
  (intro w hSw; go_simp)
  try with_reducible rfl
  simp only [Act.put]
  refine wpAnyH_take (i := 8) (v := ?_) rfl (by kernel_rfl) (by kernel_rfl) (by kernel_rfl) (fun _ _ _ h => h) (Or.inl ⟨by rfl, ?_⟩) trivial ?_
  rotate_left
  (intro w hSw; go_simp)
  try with_reducible rfl
  simp only [Act.put]
  refine wpAnyH_take (i := 9) (v := ?_) rfl (by kernel_rfl) (by kernel_rfl) (by kernel_rfl) (fun _ _ _ h => h) (Or.inl ⟨by rfl, ?_⟩) trivial ?_
  rotate_left
  (intro w hSw; go_simp)
  try with_reducible rfl
  simp only [Act.put]
  refine wpAnyH_take (i := 10) (v := ?_) rfl (by kernel_rfl) (by kernel_rfl) (by kernel_rfl) (fun _ _ _ h => h) (Or.inl ⟨by rfl, ?_⟩) trivial ?_
  rotate_left
  (intro w hSw; go_simp)
  try with_reducible rfl
  simp only [Act.put]
  refine wpAnyH_take (i := 11) (v := ?_) rfl (by kernel_rfl) (by kernel_rfl) (by kernel_rfl) (fun _ _ _ h => h) (Or.inl ⟨by rfl, ?_⟩) trivial ?_
  rotate_left
  (intro w hSw; go_simp)
  try with_reducible rfl
  simp only [Act.put]
  refine wpAnyH_take (i := 12) (v := ?_) rfl (by kernel_rfl) (by kernel_rfl) (by kernel_rfl) (fun _ _ _ h => h) (Or.inl ⟨by rfl, ?_⟩) trivial ?_
  rotate_left
  (intro w hSw; go_simp)
  try with_reducible rfl
  simp only [Act.put]
  refine wpAnyH_take (i := 13) (v := ?_) rfl (by kernel_rfl) (by kernel_rfl) (by kernel_rfl) (fun _ _ _ h => h) (Or.inl ⟨by rfl, ?_⟩) trivial ?_
  rotate_left
  (intro w hSw; go_simp)
  try with_reducible rfl
  simp only [Act.put]
  refine wpAnyH_take (i := 16) (v := ?_) rfl (by kernel_rfl) (by kernel_rfl) (by kernel_rfl) (fun _ _ _ h => h) (Or.inl ⟨by rfl, ?_⟩) trivial ?_
  rotate_left
  (intro w hSw; go_simp)
  try with_reducible rfl
  simp only [Act.put]
  refine wpAnyH_take (i := 17) (v := ?_) rfl (by kernel_rfl) (by kernel_rfl) (by kernel_rfl) (fun _ _ _ h => h) (Or.inl ⟨by rfl, ?_⟩) trivial ?_
  rotate_left
  (intro w hSw; go_simp)
  try with_reducible rfl
  simp only [Act.put]
  refine wpAnyH_take (i := 19) (v := ?_) rfl (by kernel_rfl) (by kernel_rfl) (by kernel_rfl) (fun _ _ _ h => h) (Or.inl ⟨by rfl, ?_⟩) trivial ?_
  rotate_left
  (intro w hSw; go_simp)
  try with_reducible rfl
  simp only [Act.put]
  refine wpAnyH_take (i := 20) (v := ?_) rfl (by kernel_rfl) (by kernel_rfl) (by kernel_rfl) (fun _ _ _ h => h) (Or.inl ⟨by rfl, ?_⟩) trivial ?_
  rotate_left
  (intro w hSw; go_simp)
  try with_reducible rfl
  simp only [Act.put]
  refine wpAnyH_take (i := 22) (v := ?_) rfl (by kernel_rfl) (by kernel_rfl) (by kernel_rfl) (fun _ _ _ h => h) (Or.inl ⟨by rfl, ?_⟩) trivial ?_
  rotate_left
  (intro w hSw; go_simp)
  try with_reducible rfl
  simp only [Act.put]
  refine wpAnyH_take (i := 23) (v := ?_) rfl (by kernel_rfl) (by kernel_rfl) (by kernel_rfl) (fun _ _ _ h => h) (Or.inl ⟨by rfl, ?_⟩) trivial ?_
  rotate_left
  (intro w hSw; go_simp)
  try with_reducible rfl
  simp only [Act.put]
  refine wpAnyH_ready (rs := [14]) (by kernel_rfl) (by simp) ?_
  refine AllReadyH.cons rfl (fun K hK => ?_) AllReadyH.nil
  go_simp
  refine (n1 _).mono ?_
  rintro e w' ⟨rfl, rfl⟩
  go_wp2_with fail
  refine hK.out _ _ trivial (fun _ => ?_)
  clear hK K
  refine wpAnyH_take (i := 15) (v := ?_) rfl (by kernel_rfl) (by kernel_rfl) (by kernel_rfl) (fun _ _ _ h => h) (Or.inl ⟨by rfl, ?_⟩) trivial ?_
  rotate_left
  (intro w hSw; go_simp)
  try with_reducible rfl
  simp only [Act.put]
  refine wpAnyH_ready (rs := [18]) (by kernel_rfl) (by simp) ?_
  refine AllReadyH.cons rfl (fun K hK => ?_) AllReadyH.nil
  go_simp
  refine (n2 _).mono ?_
  rintro e w' ⟨rfl, rfl⟩
  go_wp2_with fail
  refine hK.out _ _ trivial (fun _ => ?_)
  clear hK K
  refine wpAnyH_ready (rs := [21]) (by kernel_rfl) (by simp) ?_
  refine AllReadyH.cons rfl (fun K hK => ?_) AllReadyH.nil
  go_simp
  refine (n3 _).mono ?_
  rintro e w' ⟨rfl, rfl⟩
  go_wp2_with fail
  refine hK.out _ _ trivial (fun _ => ?_)
  clear hK K
  refine wpAnyH_ready (rs := [24]) (by kernel_rfl) (by simp) ?_
  refine AllReadyH.cons rfl (fun K hK => ?_) AllReadyH.nil
  go_simp
  refine (n4 _).mono ?_
  rintro e w' ⟨rfl, rfl⟩
  go_wp2_with fail
  refine hK.out _ _ trivial (fun _ => ?_)
  clear hK K
  refine wpAnyH_take (i := 25) (v := ?_) rfl (by kernel_rfl) (by kernel_rfl) (by kernel_rfl) (fun _ _ _ h => h) (Or.inl ⟨by rfl, ?_⟩) trivial ?_
  rotate_left
  (intro w hSw; go_simp)
  try with_reducible rfl
  simp only [Act.put]
  refine wpAnyH_ready (rs := [26]) (by kernel_rfl) (by simp) ?_
  refine AllReadyH.cons rfl (fun K hK => ?_) AllReadyH.nil
  go_simp
  refine hK.out _ _ trivial (fun _ => ?_)
  clear hK K
  refine wpAnyH_done (by kernel_rfl) (NoPanic.normal ?_) _
  go_wp2
  have wr : ∀ n : Nat, n < 4294967296 → IntKind.i64.wrap (n : Int) = (n : Int) := fun n hn => by rw [IntKind.wrap_i64]; omega
  have u8 := fun c : UInt8 => UInt8.toNat_lt c
  rw [wr s[0].toNat (by have := u8 s[0]; omega), wr s[1].toNat (by have := u8 s[1]; omega), wr s[2].toNat (by have := u8 s[2]; omega), wr s[3].toNat (by have := u8 s[3]; omega), wr v1 b1]
  refine bodyPost_ret (v := fAgg (s[0].toNat) (s[1].toNat) (s[2].toNat) (s[3].toNat) v1 v2 v3 v4) (by simp [results, Try.results72, go_sem, fAgg]) rfl ⟨rfl, ?_⟩
  have h := (Below.refl w.heap.size w).alloc (Nat.le_refl _) (.cells #[.int .i64 (s[0].toNat : Nat), .int .i64 (s[1].toNat : Nat), .int .i64 (s[2].toNat : Nat), .int .i64 (s[3].toNat : Nat), .int .i64 (v1 : Nat), .int .u64 (v2 : Nat), .int .u64 (v3 : Nat), .int .u64 (v4 : Nat)] 156)
  exact ⟨h.os, h.tape, h.output, h.size, h.block⟩


set_option maxHeartbeats 400000 in
theorem split_any (s : ByteArray) (w : World) (hs : s.size = 32) :
    Calls Try.prog 72 #[.string s] w fun e w' => e = .returned (fAgg (byteAt s 0) (byteAt s 1) (byteAt s 2) (byteAt s 3) (val (s.extract 4 8).data.toList) (val (s.extract 8 16).data.toList) (val (s.extract 16 24).data.toList) (val (s.extract 24 32).data.toList)) ∧ Below w.heap.size w w' := by
  have hn : ∀ a b, b ≤ a + 8 → ∀ W, Calls Try.prog 80 #[.string (s.extract a b)] W fun e w' => e = .returned (.int .u64 (val (s.extract a b).data.toList : Nat)) ∧ W = w' := fun a b hb W => fnumber_any _ W (by rw [ByteArray.size_extract]; omega)
  have hq : ∀ (a b : Nat), a ≤ b → b ≤ 32 → ∀ w, (Instr.slice 9 (.string s) (some (.int .i64 a)) (some (.int .i64 b)) none).run Try.prog w = .ok (.string (s.extract a b)) w := fun a b hab hb w => by
    have := run_slice_string (P := Try.prog) w 9 s .i64 .i64 a b Try.underlying9 (by omega) (by omega) (by omega)
    simpa using this
  rw [byteAt_eq s 0 (by omega), byteAt_eq s 1 (by omega), byteAt_eq s 2 (by omega), byteAt_eq s 3 (by omega)]
  exact split_walk s (s.extract 4 8) (s.extract 8 16) (s.extract 16 24) (s.extract 24 32) _ _ _ _ w (by omega) (by omega) (by omega) (by omega) (by omega) (by omega) (by omega) (by omega)
    (hq 4 8 (by omega) (by omega)) (hq 8 16 (by omega) (by omega)) (hq 16 24 (by omega) (by omega)) (hq 24 32 (by omega) (by omega)) (val_bd4 _ (by rw [ByteArray.size_extract]; omega))
    (hn 4 8 (by omega)) (hn 8 16 (by omega)) (hn 16 24 (by omega)) (hn 24 32 (by omega))

end Go.Proofs.Ytjhifhoniimfgaa

