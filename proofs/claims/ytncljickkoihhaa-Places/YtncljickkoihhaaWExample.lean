/-
  The document's example, as far as places go.
-/
import Derived.Test.YtncljickkoihhaaWNew
namespace Go.Proofs.Ytncljickkoihhaa
open Go.RowKit

def exLim (_ j : Nat) : Int := if j = 0 then 10 else if j = 1 then 12 else if j = 3 then 1000 else if j = 4 then 2 else if j = 5 then 5 else 0

set_option maxHeartbeats 400000 in
theorem example_any (w : World) :
    Calls Try.prog 7 #[] w fun e w' => ∃ b, e = .returned (.agg #[.int .i64 1, .int .i64 2, .int .i64 2, .int .i64 2, .int .i64 2, .slice (some ⟨b, 0, none⟩) 1 1]) ∧ Below w.heap.size w w' ∧ AccAt w' (some ⟨b, 0, none⟩) 1 exLim := by
  go_enter Try.func7, Try.ntmps7
  go_wp2
  refine bodyPost_ret (v := .agg #[.int .i64 1, .int .i64 2, .int .i64 2, .int .i64 2, .int .i64 2, .slice (some ⟨w.heap.size + 1, 0, none⟩) 1 1]) (by simp [results, Try.results7, go_sem]) rfl ?_
  refine ⟨w.heap.size + 1, rfl, ((Below.refl _ _).alloc (Nat.le_refl _) _).alloc (by simp) _, .inr ⟨w.heap.size + 1, 0, rfl, fun k j hk hj => ?_⟩⟩
  obtain rfl : k = 0 := by omega
  have hb := heap_alloc_new (w.alloc (.cells #[.int .i64 1, .int .i64 2, .int .i64 2, .int .i64 2, .int .i64 2, .slice (some ⟨w.heap.size + 1, 0, none⟩) 1 1] 32)) (.cells #[.int .i64 10, .int .i64 12, .int .i64 0, .int .i64 1000, .int .i64 2, .int .i64 5] 62)
  rw [World.size_alloc] at hb
  refine cellAt hb ?_
  rcases (show j = 0 ∨ j = 1 ∨ j = 2 ∨ j = 3 ∨ j = 4 ∨ j = 5 by omega) with rfl | rfl | rfl | rfl | rfl | rfl <;> rfl

theorem make_bytes (n : Nat) (h : n ≤ 8) (w : World) :
    (Instr.makeSlice 94 (.int .i64 n) (.int .i64 n)).run Try.prog w = .ok (.slice (some ⟨w.heap.size, 0, none⟩) n n) (w.alloc (.cells (madeCells #[.int .u8 0] n) 5)) := by
  have e : (Try.prog.info? 5).map (fun i => (i.bytes, i.size, i.zero)) = some (1, 1, some (.int .u8 0)) := by kernel_rfl
  obtain ⟨i, hi, he⟩ := Option.map_eq_some_iff.1 e
  simp only [Prod.mk.injEq] at he
  obtain ⟨hb, hs, hz⟩ := he
  have := run_make (P := Try.prog) w 94 5 i _ Try.underlying94 hi hz .i64 .i64 (n : Int) (n : Int) (by omega) (by omega) (by rw [hb]; omega) (by omega)
  rw [this]
  simp [hs, Value.cells]

/-- Block L holds these bytes. -/
def BytesAt (w : World) (L : Nat) (xs : List Int) : Prop := w.heap[L]? = some (.cells (xs.map (Value.int .u8)).toArray 5 (0, 0))

theorem BytesAt.cell {w : World} {L : Nat} {xs : List Int} (h : BytesAt w L xs) (i : Nat) (hi : i < xs.length) : w.cell? ⟨L, i, none⟩ = some (.int .u8 (xs.getD i 0)) := by
  refine cellAt h ?_
  simp [List.getD, List.getElem?_eq_getElem hi]

theorem BytesAt.set {w : World} {L : Nat} {xs : List Int} (h : BytesAt w L xs) (i : Nat) (y : Int) : BytesAt (w.setCell ⟨L, i, none⟩ (.int .u8 y)) L (xs.set i y) := by
  show _ = _
  rw [heap_setCell_at _ h]
  simp

theorem bytes_made (n : Nat) : madeCells #[.int .u8 0] n = ((List.replicate n (0 : Int)).map (Value.int .u8)).toArray := by
  refine Array.ext (by simp [madeCells]) fun i h1 h2 => ?_
  simp [madeCells, Nat.mod_one]

set_option maxHeartbeats 1000000 in
theorem bytes_any (n : Int) (many : Nat) (h : many ≤ 8) (w : World) :
    Calls Try.prog 21 #[.int .i64 n, .int .i64 many] w fun e w' => ∃ s : ByteArray, e = .returned (.string s) ∧ s.size ≤ 8 ∧ Below w.heap.size w w' := by
  have hmk := make_bytes many h
  rw [bytes_made] at hmk
  have B0 : Hid (BytesAt (w.alloc (.cells ((List.replicate many (0 : Int)).map (Value.int .u8)).toArray 5)) w.heap.size (List.replicate many 0)) := heap_alloc_new w _
  generalize hxs : List.replicate many (0 : Int) = xs0 at *
  have hlen : xs0.length = many := by rw [← hxs]; simp
  have HLEN : Hid (xs0.length = many) := hlen
  generalize hcs : (xs0.map (Value.int .u8)).toArray = cs0 at *
  clear hxs hlen hcs
  go_enter Try.func21, Try.ntmps21
  go_wp2
  clear hmk
  go_loopw [0, 6] (fun nv i wr => ∃ (y : Int) (xs : List Int), nv = .int .i64 y ∧ xs.length = many ∧ BytesAt wr w.heap.size xs ∧ Below w.heap.size w wr ∧ (i = .int .i64 (-1) ∨ ∃ j : Nat, j < many ∧ i = .int .i64 j)) (fun _ i _ => (intOf i + 1).toNat)
  case atStart =>
    refine ⟨n, xs0, rfl, HLEN.out, B0.out, (Below.refl _ _).alloc (Nat.le_refl _) _, ?_⟩
    by_cases hm : many = 0
    · left; rw [hm]; rfl
    · right; exact ⟨many - 1, by omega, by congr 1; omega⟩
  case round =>
    obtain ⟨y, xs, rfl, hxl, hby, hbl, hi⟩ := hrel
    have HX : Hid (xs.length = many) := hxl
    have HBY : Hid (BytesAt wr w.heap.size xs) := hby
    clear hxl hby
    rcases hi with rfl | ⟨j, hj, rfl⟩
    · have hcv := run_convert_bytes_arg (P := Try.prog) wr 94 5 Try.underlying94 Try.underlying5 w.heap.size 0 many many xs HX.out (fun i hi => by rw [Nat.zero_add]; exact HBY.out.cell i (by rw [HX.out]; exact hi)) 9 Try.underlying9
      go_wp2
      go_ret
      exact ⟨strOfNums xs, rfl, by rw [strOfNums_size, HX.out]; exact h, hbl⟩
    · have hc := HBY.out.cell j (by rw [HX.out]; exact hj)
      have hz : wr.frozen? ⟨w.heap.size, j, none⟩ = false := frozenAt HBY.out
      have hj' : (j : Int) < (many : Int) := by omega
      go_wp2
      go_roundw
      case rel =>
        refine ⟨_, xs.set j (y % 256), rfl, by rw [List.length_set]; exact HX.out, HBY.out.set j _, hbl.setCell (p := ⟨w.heap.size, j, none⟩) (Nat.le_refl _) _, ?_⟩
        by_cases e : j = 0
        · left; subst e; rfl
        · right; exact ⟨j - 1, by omega, by congr 1; omega⟩
      case measure => simp [intOf]

set_option maxHeartbeats 1000000 in
theorem order_any (a b c d e : Int) (w : World) :
    Calls Try.prog 10 #[.int .i64 a, .int .i64 b, .int .i64 c, .int .i64 d, .int .i64 e] w fun r w' => ∃ s : ByteArray, r = .returned (.string s) ∧ Below w.heap.size w w' := by
  have h1 := fun w => bytes_any a 1 (by omega) w
  have h2 := fun w => bytes_any b 4 (by omega) w
  have h3 := fun w => bytes_any c 8 (by omega) w
  have h4 := fun w => bytes_any d 8 (by omega) w
  have h5 := fun w => bytes_any e 8 (by omega) w
  go_enter Try.func10, Try.ntmps10
  go_wp2_with fail
  refine (h1 _).mono ?_
  rintro r w1 ⟨s1, rfl, z1, b1⟩
  go_wp2_with fail
  refine (h2 _).mono ?_
  rintro r w2 ⟨s2, rfl, z2, b2⟩
  go_wp2_with fail
  refine (h3 _).mono ?_
  rintro r w3 ⟨s3, rfl, z3, b3⟩
  go_wp2_with fail
  refine (h4 _).mono ?_
  rintro r w4 ⟨s4, rfl, z4, b4⟩
  go_wp2_with fail
  refine (h5 _).mono ?_
  rintro r w5 ⟨s5, rfl, z5, b5⟩
  go_wp2_with fail
  go_ret
  have l1 := b1.size
  have l2 := b2.size
  have l3 := b3.size
  have l4 := b4.size
  exact ⟨_, rfl, (((b1.trans (b2.mono (by omega))).trans (b3.mono (by omega))).trans (b4.mono (by omega))).trans (b5.mono (by omega))⟩

theorem ex_may : mayB 1 2 2 2 2 1 exLim = true := by decide

end Go.Proofs.Ytncljickkoihhaa
