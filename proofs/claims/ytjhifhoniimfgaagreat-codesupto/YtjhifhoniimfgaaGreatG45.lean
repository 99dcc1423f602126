import Derived.Test.YtjhifhoniimfgaaGreatG44
import Derived.Test.YtjhifhoniimfgaaGreatG19
import Derived.Test.YtjhifhoniimfgaaGreatG26
import Derived.ProofKit
import Derived.OpenShut
import Derived.SizedLaws
import Derived.Deep.Slices
/-
  The document's example is played on the program: its answers are the document's.
-/
namespace Go.Proofs.YtjhifhoniimfgaaGreat
open Go.RowKit

/-- The program's gate is so; the blocks F are not its own. -/
def ExAt (F : Nat → Prop) (w : World) (gb : Nat) (s : St) (N : Nat) : Prop :=
  ∃ own B, B.gb = gb ∧ PG own 200 w B s N ∧ Ok s N ∧ ∀ b, F b → b < w.heap.size ∧ own b = 0

theorem ExAt.keep {F : Nat → Prop} {w w' : World} {gb : Nat} {s : St} {N : Nat} (h : ExAt F w gb s N) (hk : Keep (fun _ => True) w w') : ExAt F w' gb s N := by
  obtain ⟨own, B, h1, h2, h3, h4⟩ := h
  exact ⟨own, B, h1, h2.keep h3.cl.2 h3.na.2 hk (fun _ _ _ _ => trivial) (Same.refl _ _), h3, fun b hb => ⟨Nat.lt_of_lt_of_le (h4 b hb).1 hk.size, (h4 b hb).2⟩⟩

theorem ExAt.alloc {F : Nat → Prop} {w : World} {gb : Nat} {s : St} {N : Nat} (h : ExAt F w gb s N) (O : Obj) : ExAt (fun b => F b ∨ b = w.heap.size) (w.alloc O) gb s N := by
  obtain ⟨own, B, h1, h2, h3, h4⟩ := h
  refine ⟨ext own w.heap.size 0, B, h1, h2.keep h3.cl.2 h3.na.2 ((Keep.refl (fun _ => True) _).alloc _) (fun _ _ _ _ => trivial) (fun b hb => ext_lt hb), h3, fun b hb => ?_⟩
  rcases hb with hb | hb
  · have := (h4 b hb).1
    exact ⟨by simp; omega, by rw [ext_lt this]; exact (h4 b hb).2⟩
  · exact ⟨by simp; omega, ext_ge (by omega)⟩

theorem ExAt.goes {F : Nat → Prop} {w w' : World} {own : Nat → Nat} {B : GB} {s' : St} {N : Nat} (hF : ∀ b, F b → b < w.heap.size ∧ own b = 0) (hk : Ok s' N) (h : GoesP own 200 w B s' N w') : ExAt F w' B.gb s' N ∧ Keep F w w' := by
  obtain ⟨own', B', p1, ⟨hb, rfl⟩, p3, p4⟩ := h
  exact ⟨⟨own', { B with hb := hb }, rfl, p1, hk, fun b hb => ⟨Nat.lt_of_lt_of_le (hF b hb).1 p4.size, by rw [p3 b (hF b hb).1]; exact (hF b hb).2⟩⟩, p4.mono (fun b _ hb => by unfold Out; rw [(hF b hb).2]; omega)⟩

theorem ex_claim {F : Nat → Prop} {w : World} {gb : Nat} {s : St} {N : Nat} (h : ExAt F w gb s N) (hN : N < 1000) (client lane r e : Int) (s' : St) (hr : claimS s client lane = (r, e, s')) :
    Calls Tryz.prog 16 #[.pointer (some ⟨gb, 0, none⟩), .int .i64 client, .int .i64 lane] w fun x w' => x = .returned (.tuple #[.int .i64 r, .int .i64 e]) ∧ ExAt F w' gb s' (N + 1) ∧ Keep F w w' := by
  obtain ⟨own, B, rfl, h2, h3, h4⟩ := h
  have c := gClaim h2 h3 (by omega) client lane
  have k := claim_ok h3 client lane
  rw [hr] at c k
  refine c.mono ?_
  rintro x w' ⟨rfl, g⟩
  exact ⟨rfl, ExAt.goes h4 k g⟩

theorem ex_pub {F : Nat → Prop} {w : World} {gb : Nat} {s : St} {N : Nat} (h : ExAt F w gb s N) (hN : N < 1000) (client lane place e : Int) (b : ByteArray) (s' : St) (hr : pubS s client lane place b = (e, s')) :
    Calls Tryz.prog 17 #[.pointer (some ⟨gb, 0, none⟩), .int .i64 client, .int .i64 lane, .int .i64 place, .string b] w fun x w' => x = .returned (.int .i64 e) ∧ ExAt F w' gb s' (N + 1) ∧ Keep F w w' := by
  obtain ⟨own, B, rfl, h2, h3, h4⟩ := h
  have c := gPublish h2 h3 (by omega) client lane place b
  have k := pub_ok h3 client lane place b
  rw [hr] at c k
  refine c.mono ?_
  rintro x w' ⟨rfl, g⟩
  exact ⟨rfl, ExAt.goes h4 k g⟩

theorem ex_core {F : Nat → Prop} {w : World} {gb : Nat} {s : St} {N : Nat} (h : ExAt F w gb s N) (hN : N < 1000) (r : Int) (s' : St) (hr : coreS s = (r, s')) :
    Calls Tryz.prog 19 #[.pointer (some ⟨gb, 0, none⟩)] w fun x w' => x = .returned (.tuple #[.int .i64 r, .int .i64 0]) ∧ ExAt F w' gb s' (N + 1) ∧ Keep F w w' := by
  obtain ⟨own, B, rfl, h2, h3, h4⟩ := h
  have c := gCore h2 h3 (by omega) (by omega)
  have k := core_ok h3
  rw [hr] at c k
  refine c.mono ?_
  rintro x w' ⟨rfl, g⟩
  exact ⟨rfl, ExAt.goes h4 k g⟩

theorem ex_poll {F : Nat → Prop} {w : World} {gb : Nat} {s : St} {N : Nat} (h : ExAt F w gb s N) (hN : N < 1000) (client p q e : Int) (s' : St) (hr : pollS s client = ((p, q), e, s')) :
    Calls Tryz.prog 20 #[.pointer (some ⟨gb, 0, none⟩), .int .i64 client] w fun x w' => x = .returned (.tuple #[.agg #[.int .i64 p, .int .i64 q], .int .i64 e]) ∧ ExAt F w' gb s' (N + 1) ∧ Keep F w w' := by
  obtain ⟨own, B, rfl, h2, h3, h4⟩ := h
  have c := gPoll h2 h3 (by omega) client
  have k := poll_ok h3 client
  rw [hr] at c k
  refine c.mono ?_
  rintro x w' ⟨rfl, g⟩
  exact ⟨rfl, ExAt.goes h4 k g⟩

def e0 : St := newS 1 2 2 1 exLim (fun i => if i = 0 then 2 else 2)
def e1 : St := (claimS e0 0 0).2.2
def e2 : St := (claimS e1 0 0).2.2
def e3 : St := (claimS e2 0 0).2.2
def e4 : St := (pubS e3 0 0 1 exOrder).2
def e5 : St := (pubS e4 0 0 0 ByteArray.empty).2
def e6 : St := (pubS e5 0 0 0 ByteArray.empty).2
def e7 : St := (coreS e6).2
def e8 : St := (coreS e7).2
def e9 : St := (pollS e8 0).2.2
def e10 : St := (pollS e9 0).2.2
def e11 : St := (pollS e10 0).2.2

theorem pair_of {α β : Type} {p : α × β} {a : α} (h : p.1 = a) : p = (a, p.2) := by cases p; cases h; rfl
theorem triple_of {α β γ : Type} {p : α × β × γ} {a : α} {b : β} (h : p.1 = a) (h2 : p.2.1 = b) : p = (a, b, p.2.2) := by obtain ⟨x, y, z⟩ := p; cases h; cases h2; rfl

theorem s1 : claimS e0 0 0 = (0, 0, e1) := triple_of (by decide +kernel) (by decide +kernel)
theorem s2 : claimS e1 0 0 = (1, 0, e2) := triple_of (by decide +kernel) (by decide +kernel)
theorem s3 : claimS e2 0 0 = (0, 6, e3) := triple_of (by decide +kernel) (by decide +kernel)
theorem s4 : pubS e3 0 0 1 exOrder = (0, e4) := pair_of (by decide +kernel)
theorem s5 : pubS e4 0 0 0 ByteArray.empty = (0, e5) := pair_of (by decide +kernel)
theorem s6 : pubS e5 0 0 0 ByteArray.empty = (7, e6) := pair_of (by decide +kernel)
theorem s7 : coreS e6 = (2, e7) := pair_of (by decide +kernel)
theorem s8 : coreS e7 = (2, e8) := pair_of (by decide +kernel)
theorem s9 : pollS e8 0 = ((0, 1), 0, e9) := triple_of (by decide +kernel) (by decide +kernel)
theorem s10 : pollS e9 0 = ((1, 0), 0, e10) := triple_of (by decide +kernel) (by decide +kernel)
theorem s11 : pollS e10 0 = ((0, 0), 8, e11) := triple_of (by decide +kernel) (by decide +kernel)

theorem ex_new (w0 w : World) (hw : Below w0.heap.size w0 w) (a : Option Addr) (c : Nat) (ha : AccAt w a 1 exLim) :
    Calls Tryz.prog 14 #[.agg #[.int .i64 1, .int .i64 2, .int .i64 2, .int .i64 2, .int .i64 2, .slice a 1 c]] w fun e w' => ∃ gb, e = .returned (.tuple #[.pointer (some ⟨gb, 0, none⟩), .int .i64 0]) ∧ ExAt (fun b => b < w0.heap.size) w' gb e0 0 ∧ Below w0.heap.size w0 w' := by
  refine (gNew_yes (own := fun _ => 0) (T := 200) (by omega) 1 2 2 2 2 a 1 c exLim ha ex_may).mono ?_
  rintro e w' ⟨gb, rfl, own', B, rfl, hp, hs, hk⟩
  have l := hw.size
  refine ⟨B.gb, rfl, ⟨own', B, rfl, hp, ?_, fun b hb => ⟨by have := hk.size; omega, hs b (by omega)⟩⟩, hw.trans ((hk.mono (T := fun b => b < w0.heap.size) (fun _ _ _ => trivial)).below l)⟩
  exact new_ok 1 2 2 1 exLim _ (by omega) (by decide) (by omega) (by omega) (fun a ha => by
    obtain rfl : a = 0 := by omega
    refine ⟨fun j hj => ?_, by decide⟩
    rcases (show j = 0 ∨ j = 1 ∨ j = 2 ∨ j = 3 ∨ j = 4 by omega) with rfl | rfl | rfl | rfl | rfl <;> decide) (fun i hi => by
    rcases (show i = 0 ∨ i = 1 by omega) with rfl | rfl <;> decide)

set_option maxRecDepth 100000 in
set_option maxHeartbeats 1000000 in
theorem claims_any (w : World) :
    Calls Tryz.prog 7 #[] w fun e w' => ∃ gb, e = .returned (.pointer (some ⟨gb, 0, none⟩)) ∧ ExAt (fun b => b < w.heap.size) w' gb e6 6 ∧ Below w.heap.size w w' := by
  go_enter Tryz.func7, Tryz.ntmps7
  go_wp2_with fail
  refine (example_any _).mono ?_
  rintro e w1 ⟨ab, rfl, b1, hacc⟩
  have hnew := ex_new w w1 b1 _ 1 hacc
  clear hacc b1
  go_wp2_with fail
  refine hnew.mono ?_
  clear hnew
  rintro e w2 ⟨gb, rfl, h, b⟩
  have c := ex_claim h (by omega) 0 0 0 0 e1 s1
  clear h
  go_wp2_with fail
  refine c.mono ?_
  clear c
  rintro e w3 ⟨rfl, h, k3⟩
  have b3 : Below w.heap.size w w3 := b.trans (k3.below b.size)
  have c := ex_claim h (by omega) 0 0 1 0 e2 s2
  clear h b k3
  go_wp2_with fail
  refine c.mono ?_
  clear c
  rintro e w4 ⟨rfl, h, k4⟩
  have b4 : Below w.heap.size w w4 := b3.trans (k4.below b3.size)
  have c := ex_claim h (by omega) 0 0 0 6 e3 s3
  clear h b3 k4
  go_wp2_with fail
  refine c.mono ?_
  clear c
  rintro e w5 ⟨rfl, h, k5⟩
  have b5 : Below w.heap.size w w5 := b4.trans (k5.below b4.size)
  clear b4 k5
  have H := hideE h
  have HB := hideE b5
  clear h b5
  go_wp2_with fail
  refine (order_any _ _ _ _ _ _).mono ?_
  rintro e w6 ⟨rfl, b6⟩
  rw [ex_order]
  have b6' : Below w.heap.size w w6 := HB.out.trans (b6.mono HB.out.size)
  have h := H.out.keep (Keep.ofBelow (S := fun _ => True) b6)
  have c := ex_pub h (by omega) 0 0 1 0 exOrder e4 s4
  clear h b6 H HB
  go_wp2_with fail
  refine c.mono ?_
  clear c
  rintro e w7 ⟨rfl, h, k7⟩
  have b7 : Below w.heap.size w w7 := b6'.trans (k7.below b6'.size)
  have c := ex_pub h (by omega) 0 0 0 0 ByteArray.empty e5 s5
  clear h b6' k7
  go_wp2_with fail
  refine c.mono ?_
  clear c
  rintro e w8 ⟨rfl, h, k8⟩
  have b8 : Below w.heap.size w w8 := b7.trans (k8.below b7.size)
  have c := ex_pub h (by omega) 0 0 0 7 ByteArray.empty e6 s6
  clear h b7 k8
  go_wp2_with fail
  refine c.mono ?_
  clear c
  rintro e w9 ⟨rfl, h, k9⟩
  have HF := hideE (show ExAt (fun b => b < w.heap.size) w9 gb e6 6 ∧ Below w.heap.size w w9 from ⟨h, b8.trans (k9.below b8.size)⟩)
  clear h b8 k9
  go_wp2
  go_ret
  exact ⟨gb, rfl, HF.out⟩

theorem cellOf {F : Nat → Prop} {W w' : World} {b i : Nat} {x : Value} (hk : Keep F W w') (hb : F b) (hl : b < W.heap.size) (h : W.cell? ⟨b, i, none⟩ = some x) : w'.cell? ⟨b, i, none⟩ = some x := by
  rw [World.cell?_of_block (w := W) (hk.block b hl hb)]; exact h

set_option maxRecDepth 100000 in
set_option maxHeartbeats 1000000 in
theorem answers_any (w : World) :
    Calls Tryz.prog 9 #[] w fun e w' => e = .returned (.bool true) ∧ Below w.heap.size w w' := by
  go_enter Tryz.func9, Tryz.ntmps9
  go_wp2_with fail
  refine (claims_any _).mono ?_
  rintro e w1 ⟨gb, rfl, h, b⟩
  have c := ex_core h (by omega) 2 e7 s7
  clear h
  go_wp2_with fail
  refine c.mono ?_
  clear c
  rintro e w2 ⟨rfl, h, k2⟩
  have b2 : Below w.heap.size w w2 := b.trans (k2.below b.size)
  have c := ex_core h (by omega) 2 e8 s8
  clear h b k2
  go_wp2_with fail
  refine c.mono ?_
  clear c
  rintro e w3 ⟨rfl, h, k3⟩
  have b3 : Below w.heap.size w w3 := b2.trans (k3.below b2.size)
  have c := ex_poll h (by omega) 0 0 1 0 e9 s9
  clear h b2 k3
  go_wp2_with fail
  refine c.mono ?_
  clear c
  rintro e w4 ⟨rfl, h, k4⟩
  have b4 : Below w.heap.size w w4 := b3.trans (k4.below b3.size)
  have c := ex_poll (h.alloc (.cells #[.int .i64 0, .int .i64 1] 58)) (by omega) 0 1 0 0 e10 s10
  have l4 := b4.size
  clear h b3 k4
  go_wp2_with fail
  refine c.mono ?_
  clear c
  rintro e w5 ⟨rfl, h, k5⟩
  have b5 : Below w.heap.size w w5 := (b4.alloc l4 _).trans ((k5.mono (T := fun b => b < w.heap.size) (fun b _ hb => .inl hb)).below (by simp; omega))
  have l5 : w4.heap.size < w5.heap.size := by have := k5.size; simp at this; omega
  have u0 : w5.cell? ⟨w4.heap.size, 0, none⟩ = some (.int .i64 0) := cellOf k5 (.inr rfl) (by simp) (by simp)
  have u1 : w5.cell? ⟨w4.heap.size, 1, none⟩ = some (.int .i64 1) := cellOf k5 (.inr rfl) (by simp) (by simp)
  have c := ex_poll (h.alloc (.cells #[.int .i64 1, .int .i64 0] 58)) (by omega) 0 0 0 8 e11 s11
  clear h b4 k5
  go_wp2_with fail
  refine c.mono ?_
  clear c
  rintro e w6 ⟨rfl, h, k6⟩
  have b6 : Below w.heap.size w w6 := (b5.alloc (by omega) _).trans ((k6.mono (T := fun b => b < w.heap.size) (fun b _ hb => .inl (.inl hb))).below (by simp; omega))
  have l6 : w5.heap.size < w6.heap.size := by have := k6.size; simp at this; omega
  have l64 : w4.heap.size < w6.heap.size := by omega
  have v0 : w6.cell? ⟨w4.heap.size, 0, none⟩ = some (.int .i64 0) := cellOf k6 (.inl (.inr rfl)) (by simp; omega) (by rw [World.cell?_alloc_past _ _ _ l5]; exact u0)
  have v1 : w6.cell? ⟨w4.heap.size, 1, none⟩ = some (.int .i64 1) := cellOf k6 (.inl (.inr rfl)) (by simp; omega) (by rw [World.cell?_alloc_past _ _ _ l5]; exact u1)
  have v2 : w6.cell? ⟨w5.heap.size, 0, none⟩ = some (.int .i64 1) := cellOf k6 (.inr rfl) (by simp) (by simp)
  have v3 : w6.cell? ⟨w5.heap.size, 1, none⟩ = some (.int .i64 0) := cellOf k6 (.inr rfl) (by simp) (by simp)
  have HF := hideE (b6.alloc (w := w6) (by omega) (.cells #[.int .i64 0, .int .i64 0] 58))
  clear h b5 b6 k6 u0 u1
  go_wp2
  go_ret
  exact ⟨by simp, HF.out⟩

end Go.Proofs.YtjhifhoniimfgaaGreat

/-
  How a script that came in reads: each step's cells, and that its numbers fit.
-/
namespace Go.Proofs.YtjhifhoniimfgaaGreat
open Go.RowKit Go.Deep

theorem Tryz.cellsOp : Tryz.prog.cellsOf 45 = 13 := by kernel_rfl
theorem Tryz.bytesOp : Tryz.prog.bytesOf 45 = 128 := by kernel_rfl
theorem Tryz.cellsConf : Tryz.prog.cellsOf 30 = 6 := by kernel_rfl
theorem Tryz.cellsLims : Tryz.prog.cellsOf 62 = 6 := by kernel_rfl
theorem Tryz.bytesLims : Tryz.prog.bytesOf 62 = 48 := by kernel_rfl
theorem Tryz.cellsInt : Tryz.prog.cellsOf 3 = 1 := by kernel_rfl
theorem Tryz.cellsBool : Tryz.prog.cellsOf 4 = 1 := by kernel_rfl
theorem Tryz.cellsStr : Tryz.prog.cellsOf 9 = 1 := by kernel_rfl
theorem Tryz.cellsSl : Tryz.prog.cellsOf 28 = 1 := by kernel_rfl

section
variable {H : Type} {enc : TypeId × Value → H} {W : World} {held : Bool}

theorem six_of {α : Type} {l : List α} (h : l.length = 6) : ∃ a b c d e f, l = [a, b, c, d, e, f] := by
  match l, h with
  | [a, b, c, d, e, f], _ => exact ⟨a, b, c, d, e, f, rfl⟩

theorem eight_of {α : Type} {l : List α} (h : l.length = 8) : ∃ a b c d e f g i, l = [a, b, c, d, e, f, g, i] := by
  match l, h with
  | [a, b, c, d, e, f, g, i], _ => exact ⟨a, b, c, d, e, f, g, i, rfl⟩

theorem thirteen_of {α : Type} {l : List α} (h : l.length = 13) : ∃ a b c d e f g i j k m n o, l = [a, b, c, d, e, f, g, i, j, k, m, n, o] := by
  match l, h with
  | [a, b, c, d, e, f, g, i, j, k, m, n, o], _ => exact ⟨a, b, c, d, e, f, g, i, j, k, m, n, o, rfl⟩

theorem int_of {fuel : Nat} {v : Value} {x : DataW H × List MemPlace} (h : DataW.trod enc Tryz.prog W 0 (fun _ => true) held fuel 3 [v] = some x) : ∃ n : Int, v = .int .i64 n ∧ -9223372036854775808 ≤ n ∧ n ≤ 9223372036854775807 := by
  obtain ⟨n, e, _, wf⟩ := DataW.trod_int Tryz.underlying3 h
  simp only [List.cons.injEq, and_true] at e
  exact ⟨n, e, bounds_i64 wf⟩

theorem lims_of {fuel : Nat} {cs : List Value} {x : DataW H × List MemPlace} (h : DataW.trod enc Tryz.prog W 0 (fun _ => true) held fuel 62 cs = some x) :
    ∃ l : Nat → Int, cs.length = 6 ∧ ∀ j, j < 6 → cs[j]? = some (.int .i64 (l j)) := by
  obtain ⟨xs, n, _, _, hl, hxl, hf⟩ := DataW.trod_struct Tryz.underlying62 h
  rw [Tryz.cellsLims] at hl
  obtain ⟨c0, c1, c2, c3, c4, c5, rfl⟩ := six_of hl
  obtain ⟨x0, x1, x2, x3, x4, x5, rfl⟩ := six_of (show xs.length = 6 from hxl)
  have f0 : DataW.trod enc Tryz.prog W 0 (fun _ => true) held n 3 [c0] = some x0 := by simpa [Tryz.cellsInt] using hf 0 _ rfl
  have f1 : DataW.trod enc Tryz.prog W 0 (fun _ => true) held n 3 [c1] = some x1 := by simpa [Tryz.cellsInt] using hf 1 _ rfl
  have f2 : DataW.trod enc Tryz.prog W 0 (fun _ => true) held n 3 [c2] = some x2 := by simpa [Tryz.cellsInt] using hf 2 _ rfl
  have f3 : DataW.trod enc Tryz.prog W 0 (fun _ => true) held n 3 [c3] = some x3 := by simpa [Tryz.cellsInt] using hf 3 _ rfl
  have f4 : DataW.trod enc Tryz.prog W 0 (fun _ => true) held n 3 [c4] = some x4 := by simpa [Tryz.cellsInt] using hf 4 _ rfl
  have f5 : DataW.trod enc Tryz.prog W 0 (fun _ => true) held n 3 [c5] = some x5 := by simpa [Tryz.cellsInt] using hf 5 _ rfl
  obtain ⟨n0, rfl, _⟩ := int_of (enc := enc) (W := W) (held := held) (x := x0) f0
  obtain ⟨n1, rfl, _⟩ := int_of (enc := enc) (W := W) (held := held) (x := x1) f1
  obtain ⟨n2, rfl, _⟩ := int_of (enc := enc) (W := W) (held := held) (x := x2) f2
  obtain ⟨n3, rfl, _⟩ := int_of (enc := enc) (W := W) (held := held) (x := x3) f3
  obtain ⟨n4, rfl, _⟩ := int_of (enc := enc) (W := W) (held := held) (x := x4) f4
  obtain ⟨n5, rfl, _⟩ := int_of (enc := enc) (W := W) (held := held) (x := x5) f5
  refine ⟨fun j => [n0, n1, n2, n3, n4, n5].getD j 0, rfl, fun j hj => ?_⟩
  rcases (show j = 0 ∨ j = 1 ∨ j = 2 ∨ j = 3 ∨ j = 4 ∨ j = 5 by omega) with rfl | rfl | rfl | rfl | rfl | rfl <;> rfl

theorem weights_all_mem {P : Program} {e : TypeId} : ∀ {l : List (DataW H)} {d : DataW H} {k : Nat}, d ∈ l → k ∈ d.weights P e → k ∈ DataW.weightsAll P e l
  | x :: r, d, k, h, hk => by
    simp only [DataW.weightsAll, List.mem_append]
    rcases List.mem_cons.1 h with rfl | h2
    · exact .inl hk
    · exact .inr (weights_all_mem h2 hk)

theorem accs_of {fuel : Nat} {v : Value} {x : DataW H × List MemPlace} (h : DataW.trod enc Tryz.prog W 0 (fun _ => true) held fuel 28 [v] = some x)
    (hw : ∀ k ∈ x.1.weights Tryz.prog 28, k ≤ reachBytes) : ∃ a n c lim, v = .slice a n c ∧ AccAt W a n lim ∧ n ≤ 2932031007317 := by
  rcases open_slice Tryz.underlying28 h with ⟨hc, _⟩ | ⟨a, len, cap, m, n, D, Pl, hc, _, hl, _, hm, hx, hel⟩
  · simp only [List.cons.injEq, and_true] at hc
    exact ⟨none, 0, 0, fun _ _ => 0, hc, .inl rfl, by omega⟩
  · simp only [List.cons.injEq, and_true] at hc
    simp only [if_true] at hm
    subst hm
    rw [hx] at hw
    simp only [DataW.weights, Tryz.underlying28, List.mem_cons, List.length_map, List.length_range, Tryz.bytesLims, reachBytes] at hw
    have hb := hw _ (.inl rfl)
    have hn : len ≤ 2932031007317 := by omega
    rw [Tryz.cellsLims] at hel
    have hel2 : ∀ i, i < len → ∃ l : Nat → Int, ∀ j, j < 6 → W.cell? ((a.add (i * 6)).add j) = some (.int .i64 (l j)) := by
      intro i hi
      obtain ⟨cs', h1, h2⟩ := hel i (by omega)
      obtain ⟨l, _, h4⟩ := lims_of h2
      obtain ⟨_, _, h5⟩ := World.cells?_some h1
      exact ⟨l, fun j hj => by rw [h5 j hj]; exact h4 j hj⟩
    obtain ⟨lim, hlim⟩ := choose_lt hel2
    by_cases h0 : len = 0
    · exact ⟨some a, len, _, lim, hc, .inl h0, hn⟩
    · obtain ⟨b, off, spot⟩ := a
      have hs := World.cell?_spot (hlim 0 (by omega) 0 (by omega))
      simp [Addr.add] at hs
      subst hs
      refine ⟨_, len, _, lim, hc, .inr ⟨b, off, rfl, fun k j hk hj => ?_⟩, hn⟩
      have := hlim k hk j hj
      rwa [Addr.add_lit, Addr.add_lit] at this

theorem op_of {fuel : Nat} {cs : List Value} {x : DataW H × List MemPlace} (h : DataW.trod enc Tryz.prog W 0 (fun _ => true) held fuel 45 cs = some x)
    (hw : ∀ k ∈ x.1.weights Tryz.prog 45, k ≤ reachBytes) : ∃ o : OpV, cs = o.cells ∧ OpOk W o := by
  obtain ⟨xs, n, _, hx, hl, hxl, hf⟩ := DataW.trod_struct Tryz.underlying45 h
  rw [Tryz.cellsOp] at hl
  obtain ⟨c0, c1, c2, c3, c4, c5, c6, c7, c8, c9, c10, c11, c12, rfl⟩ := thirteen_of hl
  obtain ⟨x0, x1, x2, x3, x4, x5, x6, x7, rfl⟩ := eight_of (show xs.length = 8 from hxl)
  have f0 : DataW.trod enc Tryz.prog W 0 (fun _ => true) held n 3 [c0] = some x0 := by simpa [Tryz.cellsInt] using hf 0 _ rfl
  have f1 : DataW.trod enc Tryz.prog W 0 (fun _ => true) held n 3 [c1] = some x1 := by simpa [Tryz.cellsInt] using hf 1 _ rfl
  have f2 : DataW.trod enc Tryz.prog W 0 (fun _ => true) held n 3 [c2] = some x2 := by simpa [Tryz.cellsInt] using hf 2 _ rfl
  have f3 : DataW.trod enc Tryz.prog W 0 (fun _ => true) held n 3 [c3] = some x3 := by simpa [Tryz.cellsInt] using hf 3 _ rfl
  have f4 : DataW.trod enc Tryz.prog W 0 (fun _ => true) held n 3 [c4] = some x4 := by simpa [Tryz.cellsInt] using hf 4 _ rfl
  have f5 : DataW.trod enc Tryz.prog W 0 (fun _ => true) held n 4 [c5] = some x5 := by simpa [Tryz.cellsBool] using hf 5 _ rfl
  have f6 : DataW.trod enc Tryz.prog W 0 (fun _ => true) held n 9 [c6] = some x6 := by simpa [Tryz.cellsStr] using hf 6 _ rfl
  have f7 : DataW.trod enc Tryz.prog W 0 (fun _ => true) held n 30 [c7, c8, c9, c10, c11, c12] = some x7 := by simpa [Tryz.cellsConf] using hf 7 _ rfl
  obtain ⟨n0, rfl, _⟩ := int_of (enc := enc) (W := W) (held := held) (x := x0) f0
  obtain ⟨n1, rfl, b1⟩ := int_of (enc := enc) (W := W) (held := held) (x := x1) f1
  obtain ⟨n2, rfl, _⟩ := int_of (enc := enc) (W := W) (held := held) (x := x2) f2
  obtain ⟨n3, rfl, _⟩ := int_of (enc := enc) (W := W) (held := held) (x := x3) f3
  obtain ⟨n4, rfl, b4⟩ := int_of (enc := enc) (W := W) (held := held) (x := x4) f4
  obtain ⟨o, e5, _⟩ := DataW.trod_bool (x := x5) Tryz.underlying4 f5
  obtain ⟨s, e6, _⟩ := DataW.trod_string (x := x6) Tryz.underlying9 f6
  simp at e5 e6
  subst e5 e6
  obtain ⟨ys, n', _, hy, _, hyl, hg⟩ := DataW.trod_struct (x := x7) Tryz.underlying30 f7
  obtain ⟨y0, y1, y2, y3, y4, y5, rfl⟩ := six_of (show ys.length = 6 from hyl)
  have g0 : DataW.trod enc Tryz.prog W 0 (fun _ => true) held n' 3 [c7] = some y0 := by simpa [Tryz.cellsInt] using hg 0 _ rfl
  have g1 : DataW.trod enc Tryz.prog W 0 (fun _ => true) held n' 3 [c8] = some y1 := by simpa [Tryz.cellsInt] using hg 1 _ rfl
  have g2 : DataW.trod enc Tryz.prog W 0 (fun _ => true) held n' 3 [c9] = some y2 := by simpa [Tryz.cellsInt] using hg 2 _ rfl
  have g3 : DataW.trod enc Tryz.prog W 0 (fun _ => true) held n' 3 [c10] = some y3 := by simpa [Tryz.cellsInt] using hg 3 _ rfl
  have g4 : DataW.trod enc Tryz.prog W 0 (fun _ => true) held n' 3 [c11] = some y4 := by simpa [Tryz.cellsInt] using hg 4 _ rfl
  have g5 : DataW.trod enc Tryz.prog W 0 (fun _ => true) held n' 28 [c12] = some y5 := by simpa [Tryz.cellsSl] using hg 5 _ rfl
  obtain ⟨m0, rfl, _⟩ := int_of (enc := enc) (W := W) (held := held) (x := y0) g0
  obtain ⟨m1, rfl, _⟩ := int_of (enc := enc) (W := W) (held := held) (x := y1) g1
  obtain ⟨m2, rfl, _⟩ := int_of (enc := enc) (W := W) (held := held) (x := y2) g2
  obtain ⟨m3, rfl, _⟩ := int_of (enc := enc) (W := W) (held := held) (x := y3) g3
  obtain ⟨m4, rfl, _⟩ := int_of (enc := enc) (W := W) (held := held) (x := y4) g4
  have hw5 : ∀ k ∈ y5.1.weights Tryz.prog 28, k ≤ reachBytes := by
    intro k hk
    apply hw
    rw [hx]
    simp only [DataW.weights, Tryz.underlying45]
    refine DataW.weights_mem_each (j := 7) (t := 30) (d := x7.1) rfl rfl k ?_
    rw [hy]
    simp only [DataW.weights, Tryz.underlying30]
    exact DataW.weights_mem_each (j := 5) (t := 28) (d := y5.1) rfl rfl k hk
  obtain ⟨a, na, ca, lim, rfl, hacc, hn⟩ := accs_of (enc := enc) (W := W) (held := held) (x := y5) g5 hw5
  exact ⟨⟨n0, n1, n2, n3, n4, o, s, m0, m1, m2, m3, m4, a, na, ca, lim⟩, rfl, hacc, hn, b1.1, b1.2, b4.1, b4.2⟩

theorem script_of {fuel : Nat} {a : Option Addr} {len cap : Nat} {x : DataW H × List MemPlace} (h : DataW.trod enc Tryz.prog W 0 (fun _ => true) held fuel 22 [.slice a len cap] = some x)
    (hw : ∀ k ∈ x.1.weights Tryz.prog 22, k ≤ reachBytes) : ∃ ops, ScriptAt W a len ops ∧ len ≤ 1099511627744 := by
  rcases open_slice Tryz.underlying22 h with ⟨hc, _⟩ | ⟨a', len', cap', m, n, D, Pl, hc, _, hl, _, hm, hx, hel⟩
  · simp only [List.cons.injEq, and_true, Value.slice.injEq] at hc
    obtain ⟨rfl, rfl, rfl⟩ := hc
    exact ⟨fun _ => ⟨0, 0, 0, 0, 0, false, ByteArray.empty, 0, 0, 0, 0, 0, none, 0, 0, fun _ _ => 0⟩, .inl rfl, by omega⟩
  · simp only [List.cons.injEq, and_true, Value.slice.injEq] at hc
    obtain ⟨rfl, rfl, rfl⟩ := hc
    simp only [if_true] at hm
    subst hm
    have hw2 := hw
    rw [hx] at hw hw2
    simp only [DataW.weights, Tryz.underlying22, List.mem_cons, List.length_map, List.length_range, Tryz.bytesOp, reachBytes] at hw
    have hb := hw _ (.inl rfl)
    have hn : len ≤ 1099511627744 := by omega
    by_cases h0 : len = 0
    · exact ⟨fun _ => ⟨0, 0, 0, 0, 0, false, ByteArray.empty, 0, 0, 0, 0, 0, none, 0, 0, fun _ _ => 0⟩, .inl h0, hn⟩
    rw [Tryz.cellsOp] at hel
    have hel2 : ∀ i, i < len → ∃ o : OpV, OpOk W o ∧ ∀ (j : Nat) (v : Value), o.cells[j]? = some v → W.cell? ((a'.add (i * 13)).add j) = some v := by
      intro i hi
      obtain ⟨cs', h1, h2⟩ := hel i (by omega)
      obtain ⟨o, rfl, hok⟩ := op_of h2 (fun k hk => by
        apply hw2
        simp only [DataW.weights, Tryz.underlying22, List.mem_cons, List.mem_append]
        exact .inr (.inl (weights_all_mem (List.mem_map.2 ⟨i, List.mem_range.2 hi, rfl⟩) hk)))
      obtain ⟨_, _, h5⟩ := World.cells?_some h1
      refine ⟨o, hok, fun j v hv => ?_⟩
      have hj : j < 13 := by
        rcases Nat.lt_or_ge j 13 with h6 | h6
        · exact h6
        · rw [List.getElem?_eq_none (by simpa [OpV.cells] using h6)] at hv; cases hv
      rw [h5 j hj]; exact hv
    have : Inhabited OpV := ⟨⟨0, 0, 0, 0, 0, false, ByteArray.empty, 0, 0, 0, 0, 0, none, 0, 0, fun _ _ => 0⟩⟩
    obtain ⟨ops, hops⟩ := choose_lt hel2
    obtain ⟨b, off, spot⟩ := a'
    have hs := World.cell?_spot ((hops 0 (by omega)).2 0 _ rfl)
    simp [Addr.add] at hs
    subst hs
    refine ⟨ops, .inr ⟨b, off, rfl, World.block_lt_of_cell? W _ ((hops 0 (by omega)).2 0 _ rfl), fun k hk => ⟨(hops k hk).1, fun j v hv => ?_⟩⟩, hn⟩
    have := (hops k hk).2 j v hv
    rwa [Addr.add_lit, Addr.add_lit] at this
end

theorem ScriptAt.below {w w' : World} {a : Option Addr} {len : Nat} {ops : Nat → OpV} (h : ScriptAt w a len ops) (hb : Below w.heap.size w w') : ScriptAt w' a len ops := by
  rcases h with h | ⟨b, off, rfl, hlt, h⟩
  · exact .inl h
  · refine .inr ⟨b, off, rfl, Nat.lt_of_lt_of_le hlt hb.size, fun k hk => ?_⟩
    obtain ⟨ok, hc⟩ := h k hk
    refine ⟨⟨ok.acc.below hb, ok.n, ok.g1, ok.g2, ok.p1, ok.p2⟩, fun j v hv => ?_⟩
    rw [hb.cell (p := ⟨b, _, none⟩) hlt]
    exact hc j v hv

end Go.Proofs.YtjhifhoniimfgaaGreat

