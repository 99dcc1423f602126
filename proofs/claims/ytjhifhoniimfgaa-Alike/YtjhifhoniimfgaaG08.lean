import Derived.Test.YtjhifhoniimfgaaG03
import Derived.Test.YtjhifhoniimfgaaG06
import Derived.Test.YtjhifhoniimfgaaG07
/-
  What becomes of a New: judge.
-/
namespace Go.Proofs.Ytjhifhoniimfgaa
open Go.RowKit

/-- An account at block ab: its limits, is it stopped, its open orders, how many were taken when. -/
structure AccP (w : World) (ab : Nat) (lim : Nat → Int) (stopped : Bool) (v : Value) (mb : Nat) (l : List Nat) (dat : Nat → Odr) (cv : Value) (c : List Cnt) : Prop where
  ords : OrdsAt w ab v mb l dat
  cells : ∃ cs, w.heap[ab]? = some (.cells cs 135 (0, 0)) ∧ cs.size = 13 ∧ (∀ i, i < 6 → cs[i]? = some (.int .i64 (lim i))) ∧ cs[6]? = some (.bool stopped) ∧ cs[12]? = some cv
  cnt : CntAt w cv c
  cvab : cv.ownBlock ≠ some ab
  cvmb : cv.ownBlock ≠ some mb
  cvl : ∀ b, b ∈ l → cv.ownBlock ≠ some b
  cvv : ∀ b, cv.ownBlock = some b → v.ownBlock ≠ some b

set_option maxRecDepth 20000 in
set_option maxHeartbeats 2000000 in
theorem judge_killed0 (w : World) (ab : Nat) (l0 l1 l2 l3 l4 l5 : Int) (cs : Array Value) (A N L : Int) (p q : Nat) (now own ws qs T : Int) (st B ob wb qb : Bool) (W0 Q0 : Int) (Z : World → Prop)
    (hcs : w.heap[ab]? = some (.cells cs 135 (0, 0))) (h0 : cs[0]? = some (.int .i64 l0)) (h1 : cs[1]? = some (.int .i64 l1)) (h2 : cs[2]? = some (.int .i64 l2)) (h3 : cs[3]? = some (.int .i64 l3)) (h4 : cs[4]? = some (.int .i64 l4)) (h5 : cs[5]? = some (.int .i64 l5)) (h6 : cs[6]? = some (.bool st)) (h9 : cs[9]? = some (.int .i64 Q0)) (h11 : cs[11]? = some (.int .i64 W0))
    (hT : ∀ W, Calls Try.prog 90 #[.int .i64 p, .int .i64 q] W fun e w' => e = .returned (.tuple #[.int .i64 own, .bool ob]) ∧ W = w')
    (hP1 : ∀ W, Calls Try.prog 91 #[.int .i64 W0, .int .i64 own] W fun e w' => e = .returned (.tuple #[.int .i64 ws, .bool wb]) ∧ W = w')
    (hP2 : ∀ W, Calls Try.prog 91 #[.int .i64 Q0, .int .i64 q] W fun e w' => e = .returned (.tuple #[.int .i64 qs, .bool qb]) ∧ W = w')
    (_hH : ∀ n, Calls Try.prog 87 #[.pointer (some ⟨ab, 7, none⟩), .int .i64 N] ((w.alloc (.cells #[.int .i64 A, .int .i64 0, .int .i64 N, .int .i64 p, .int .i64 q, .int .i64 L] 160)).drewN n) fun e w' => e = .returned (.bool B) ∧ (w.alloc (.cells #[.int .i64 A, .int .i64 0, .int .i64 N, .int .i64 p, .int .i64 q, .int .i64 L] 160)).drewN n = w')
    (_hA : ∀ n, Calls Try.prog 92 #[.pointer (some ⟨ab, 12, none⟩), .int .i64 (now - l5)] ((w.alloc (.cells #[.int .i64 A, .int .i64 0, .int .i64 N, .int .i64 p, .int .i64 q, .int .i64 L] 160)).drewN n) fun e w' => e = .returned (.int .i64 T) ∧ Z w')
    (_hZ : ∀ w', Z w' → w'.cell? ⟨ab, 4, none⟩ = some (.int .i64 l4) ∧ w'.cell? ⟨ab, 5, none⟩ = some (.int .i64 l5)) (hn : 0 ≤ now) (hn2 : now ≤ 1000000000000000) (hl5 : 0 ≤ l5) (hl52 : l5 ≤ 1000)
    (hst : st = true) :
    Calls Try.prog 84 #[.pointer (some ⟨ab, 0, none⟩), .agg #[.int .i64 A, .int .i64 0, .int .i64 N, .int .i64 p, .int .i64 q, .int .i64 L], .int .i64 now] w fun e w' => e = .returned (.int .i64 10) ∧ Below w.heap.size w w' := by
  have hlt := block_lt hcs
  have c0 := cellAt hcs h0
  have c1 := cellAt hcs h1
  have c2 := cellAt hcs h2
  have c3 := cellAt hcs h3
  have c4 := cellAt hcs h4
  have c5 := cellAt hcs h5
  have c6 := cellAt hcs h6
  have c9 := cellAt hcs h9
  have c11 := cellAt hcs h11
  have hw5 : -1000 ≤ now - l5 := by omega
  have hw6 : now - l5 ≤ 1000000000000000 := by omega
  have hwr : IntKind.i64.wrap (now - l5) = now - l5 := by rw [IntKind.wrap_i64]; omega
  clear hcs h0 h1 h2 h3 h4 h5 h6 h9 h11 hn hn2 hl5 hl52
  subst hst
  go_enter Try.func84, Try.ntmps84
  go_wp2_with fail
  refine (hT _).mono ?_
  rintro e w' ⟨rfl, rfl⟩
  go_wp2_with fail
  refine (hP1 _).mono ?_
  rintro e w' ⟨rfl, rfl⟩
  go_wp2_with fail
  go_quiet ((go_at_call 91; exact Calls.quiet_of_same ((hP2 _).mono (fun e w' h => ⟨h.1, h.2.symm⟩))))
  go_wp2_with fail
  go_ret
  refine ⟨rfl, ?_⟩
  (repeat (refine below_drewN ?_ _)); exact (Below.refl _ _).alloc (Nat.le_refl _) _

set_option maxRecDepth 20000 in
set_option maxHeartbeats 2000000 in
theorem judge_twice0 (w : World) (ab : Nat) (l0 l1 l2 l3 l4 l5 : Int) (cs : Array Value) (A N L : Int) (p q : Nat) (now own ws qs T : Int) (st B ob wb qb : Bool) (W0 Q0 : Int) (Z : World → Prop)
    (hcs : w.heap[ab]? = some (.cells cs 135 (0, 0))) (h0 : cs[0]? = some (.int .i64 l0)) (h1 : cs[1]? = some (.int .i64 l1)) (h2 : cs[2]? = some (.int .i64 l2)) (h3 : cs[3]? = some (.int .i64 l3)) (h4 : cs[4]? = some (.int .i64 l4)) (h5 : cs[5]? = some (.int .i64 l5)) (h6 : cs[6]? = some (.bool st)) (h9 : cs[9]? = some (.int .i64 Q0)) (h11 : cs[11]? = some (.int .i64 W0))
    (hT : ∀ W, Calls Try.prog 90 #[.int .i64 p, .int .i64 q] W fun e w' => e = .returned (.tuple #[.int .i64 own, .bool ob]) ∧ W = w')
    (hP1 : ∀ W, Calls Try.prog 91 #[.int .i64 W0, .int .i64 own] W fun e w' => e = .returned (.tuple #[.int .i64 ws, .bool wb]) ∧ W = w')
    (hP2 : ∀ W, Calls Try.prog 91 #[.int .i64 Q0, .int .i64 q] W fun e w' => e = .returned (.tuple #[.int .i64 qs, .bool qb]) ∧ W = w')
    (hH : ∀ n, Calls Try.prog 87 #[.pointer (some ⟨ab, 7, none⟩), .int .i64 N] ((w.alloc (.cells #[.int .i64 A, .int .i64 0, .int .i64 N, .int .i64 p, .int .i64 q, .int .i64 L] 160)).drewN n) fun e w' => e = .returned (.bool B) ∧ (w.alloc (.cells #[.int .i64 A, .int .i64 0, .int .i64 N, .int .i64 p, .int .i64 q, .int .i64 L] 160)).drewN n = w')
    (_hA : ∀ n, Calls Try.prog 92 #[.pointer (some ⟨ab, 12, none⟩), .int .i64 (now - l5)] ((w.alloc (.cells #[.int .i64 A, .int .i64 0, .int .i64 N, .int .i64 p, .int .i64 q, .int .i64 L] 160)).drewN n) fun e w' => e = .returned (.int .i64 T) ∧ Z w')
    (_hZ : ∀ w', Z w' → w'.cell? ⟨ab, 4, none⟩ = some (.int .i64 l4) ∧ w'.cell? ⟨ab, 5, none⟩ = some (.int .i64 l5)) (hn : 0 ≤ now) (hn2 : now ≤ 1000000000000000) (hl5 : 0 ≤ l5) (hl52 : l5 ≤ 1000)
    (hst : st = false) (hB : B = true) :
    Calls Try.prog 84 #[.pointer (some ⟨ab, 0, none⟩), .agg #[.int .i64 A, .int .i64 0, .int .i64 N, .int .i64 p, .int .i64 q, .int .i64 L], .int .i64 now] w fun e w' => e = .returned (.int .i64 11) ∧ Below w.heap.size w w' := by
  have hlt := block_lt hcs
  have c0 := cellAt hcs h0
  have c1 := cellAt hcs h1
  have c2 := cellAt hcs h2
  have c3 := cellAt hcs h3
  have c4 := cellAt hcs h4
  have c5 := cellAt hcs h5
  have c6 := cellAt hcs h6
  have c9 := cellAt hcs h9
  have c11 := cellAt hcs h11
  have hw5 : -1000 ≤ now - l5 := by omega
  have hw6 : now - l5 ≤ 1000000000000000 := by omega
  have hwr : IntKind.i64.wrap (now - l5) = now - l5 := by rw [IntKind.wrap_i64]; omega
  clear hcs h0 h1 h2 h3 h4 h5 h6 h9 h11 hn hn2 hl5 hl52
  subst hst
  subst hB
  go_enter Try.func84, Try.ntmps84
  go_wp2_with fail
  refine (hT _).mono ?_
  rintro e w' ⟨rfl, rfl⟩
  go_wp2_with fail
  refine (hP1 _).mono ?_
  rintro e w' ⟨rfl, rfl⟩
  go_wp2_with fail
  go_quiet ((go_at_call 91; exact Calls.quiet_of_same ((hP2 _).mono (fun e w' h => ⟨h.1, h.2.symm⟩))))
  go_wp2_with fail
  go_quiet ((go_at_call 87; exact (hH _).mono (fun e w' h => ⟨h.1, _, h.2.symm⟩)))
  go_wp2_with fail
  go_ret
  refine ⟨rfl, ?_⟩
  (repeat (refine below_drewN ?_ _)); exact (Below.refl _ _).alloc (Nat.le_refl _) _

set_option maxRecDepth 20000 in
set_option maxHeartbeats 2000000 in
theorem judge_overA0 (w : World) (ab : Nat) (l0 l1 l2 l3 l4 l5 : Int) (cs : Array Value) (A N L : Int) (p q : Nat) (now own ws qs T : Int) (st B ob wb qb : Bool) (W0 Q0 : Int) (Z : World → Prop)
    (hcs : w.heap[ab]? = some (.cells cs 135 (0, 0))) (h0 : cs[0]? = some (.int .i64 l0)) (h1 : cs[1]? = some (.int .i64 l1)) (h2 : cs[2]? = some (.int .i64 l2)) (h3 : cs[3]? = some (.int .i64 l3)) (h4 : cs[4]? = some (.int .i64 l4)) (h5 : cs[5]? = some (.int .i64 l5)) (h6 : cs[6]? = some (.bool st)) (h9 : cs[9]? = some (.int .i64 Q0)) (h11 : cs[11]? = some (.int .i64 W0))
    (hT : ∀ W, Calls Try.prog 90 #[.int .i64 p, .int .i64 q] W fun e w' => e = .returned (.tuple #[.int .i64 own, .bool ob]) ∧ W = w')
    (hP1 : ∀ W, Calls Try.prog 91 #[.int .i64 W0, .int .i64 own] W fun e w' => e = .returned (.tuple #[.int .i64 ws, .bool wb]) ∧ W = w')
    (hP2 : ∀ W, Calls Try.prog 91 #[.int .i64 Q0, .int .i64 q] W fun e w' => e = .returned (.tuple #[.int .i64 qs, .bool qb]) ∧ W = w')
    (hH : ∀ n, Calls Try.prog 87 #[.pointer (some ⟨ab, 7, none⟩), .int .i64 N] ((w.alloc (.cells #[.int .i64 A, .int .i64 0, .int .i64 N, .int .i64 p, .int .i64 q, .int .i64 L] 160)).drewN n) fun e w' => e = .returned (.bool B) ∧ (w.alloc (.cells #[.int .i64 A, .int .i64 0, .int .i64 N, .int .i64 p, .int .i64 q, .int .i64 L] 160)).drewN n = w')
    (_hA : ∀ n, Calls Try.prog 92 #[.pointer (some ⟨ab, 12, none⟩), .int .i64 (now - l5)] ((w.alloc (.cells #[.int .i64 A, .int .i64 0, .int .i64 N, .int .i64 p, .int .i64 q, .int .i64 L] 160)).drewN n) fun e w' => e = .returned (.int .i64 T) ∧ Z w')
    (_hZ : ∀ w', Z w' → w'.cell? ⟨ab, 4, none⟩ = some (.int .i64 l4) ∧ w'.cell? ⟨ab, 5, none⟩ = some (.int .i64 l5)) (hn : 0 ≤ now) (hn2 : now ≤ 1000000000000000) (hl5 : 0 ≤ l5) (hl52 : l5 ≤ 1000)
    (hst : st = false) (hB : B = false) (hob : ob = false) :
    Calls Try.prog 84 #[.pointer (some ⟨ab, 0, none⟩), .agg #[.int .i64 A, .int .i64 0, .int .i64 N, .int .i64 p, .int .i64 q, .int .i64 L], .int .i64 now] w fun e w' => e = .returned (.int .i64 12) ∧ Below w.heap.size w w' := by
  have hlt := block_lt hcs
  have c0 := cellAt hcs h0
  have c1 := cellAt hcs h1
  have c2 := cellAt hcs h2
  have c3 := cellAt hcs h3
  have c4 := cellAt hcs h4
  have c5 := cellAt hcs h5
  have c6 := cellAt hcs h6
  have c9 := cellAt hcs h9
  have c11 := cellAt hcs h11
  have hw5 : -1000 ≤ now - l5 := by omega
  have hw6 : now - l5 ≤ 1000000000000000 := by omega
  have hwr : IntKind.i64.wrap (now - l5) = now - l5 := by rw [IntKind.wrap_i64]; omega
  clear hcs h0 h1 h2 h3 h4 h5 h6 h9 h11 hn hn2 hl5 hl52
  subst hst
  subst hB
  subst hob
  go_enter Try.func84, Try.ntmps84
  go_wp2_with fail
  refine (hT _).mono ?_
  rintro e w' ⟨rfl, rfl⟩
  go_wp2_with fail
  refine (hP1 _).mono ?_
  rintro e w' ⟨rfl, rfl⟩
  go_wp2_with fail
  go_quiet ((go_at_call 91; exact Calls.quiet_of_same ((hP2 _).mono (fun e w' h => ⟨h.1, h.2.symm⟩))))
  go_wp2_with fail
  go_quiet ((go_at_call 87; exact (hH _).mono (fun e w' h => ⟨h.1, _, h.2.symm⟩)))
  go_wp2_with fail
  go_ret
  refine ⟨rfl, ?_⟩
  (repeat (refine below_drewN ?_ _)); exact (Below.refl _ _).alloc (Nat.le_refl _) _

set_option maxRecDepth 20000 in
set_option maxHeartbeats 2000000 in
theorem judge_overB0 (w : World) (ab : Nat) (l0 l1 l2 l3 l4 l5 : Int) (cs : Array Value) (A N L : Int) (p q : Nat) (now own ws qs T : Int) (st B ob wb qb : Bool) (W0 Q0 : Int) (Z : World → Prop)
    (hcs : w.heap[ab]? = some (.cells cs 135 (0, 0))) (h0 : cs[0]? = some (.int .i64 l0)) (h1 : cs[1]? = some (.int .i64 l1)) (h2 : cs[2]? = some (.int .i64 l2)) (h3 : cs[3]? = some (.int .i64 l3)) (h4 : cs[4]? = some (.int .i64 l4)) (h5 : cs[5]? = some (.int .i64 l5)) (h6 : cs[6]? = some (.bool st)) (h9 : cs[9]? = some (.int .i64 Q0)) (h11 : cs[11]? = some (.int .i64 W0))
    (hT : ∀ W, Calls Try.prog 90 #[.int .i64 p, .int .i64 q] W fun e w' => e = .returned (.tuple #[.int .i64 own, .bool ob]) ∧ W = w')
    (hP1 : ∀ W, Calls Try.prog 91 #[.int .i64 W0, .int .i64 own] W fun e w' => e = .returned (.tuple #[.int .i64 ws, .bool wb]) ∧ W = w')
    (hP2 : ∀ W, Calls Try.prog 91 #[.int .i64 Q0, .int .i64 q] W fun e w' => e = .returned (.tuple #[.int .i64 qs, .bool qb]) ∧ W = w')
    (hH : ∀ n, Calls Try.prog 87 #[.pointer (some ⟨ab, 7, none⟩), .int .i64 N] ((w.alloc (.cells #[.int .i64 A, .int .i64 0, .int .i64 N, .int .i64 p, .int .i64 q, .int .i64 L] 160)).drewN n) fun e w' => e = .returned (.bool B) ∧ (w.alloc (.cells #[.int .i64 A, .int .i64 0, .int .i64 N, .int .i64 p, .int .i64 q, .int .i64 L] 160)).drewN n = w')
    (_hA : ∀ n, Calls Try.prog 92 #[.pointer (some ⟨ab, 12, none⟩), .int .i64 (now - l5)] ((w.alloc (.cells #[.int .i64 A, .int .i64 0, .int .i64 N, .int .i64 p, .int .i64 q, .int .i64 L] 160)).drewN n) fun e w' => e = .returned (.int .i64 T) ∧ Z w')
    (_hZ : ∀ w', Z w' → w'.cell? ⟨ab, 4, none⟩ = some (.int .i64 l4) ∧ w'.cell? ⟨ab, 5, none⟩ = some (.int .i64 l5)) (hn : 0 ≤ now) (hn2 : now ≤ 1000000000000000) (hl5 : 0 ≤ l5) (hl52 : l5 ≤ 1000)
    (hst : st = false) (hB : B = false) (hob : ob = true) (hwb : wb = false) :
    Calls Try.prog 84 #[.pointer (some ⟨ab, 0, none⟩), .agg #[.int .i64 A, .int .i64 0, .int .i64 N, .int .i64 p, .int .i64 q, .int .i64 L], .int .i64 now] w fun e w' => e = .returned (.int .i64 12) ∧ Below w.heap.size w w' := by
  have hlt := block_lt hcs
  have c0 := cellAt hcs h0
  have c1 := cellAt hcs h1
  have c2 := cellAt hcs h2
  have c3 := cellAt hcs h3
  have c4 := cellAt hcs h4
  have c5 := cellAt hcs h5
  have c6 := cellAt hcs h6
  have c9 := cellAt hcs h9
  have c11 := cellAt hcs h11
  have hw5 : -1000 ≤ now - l5 := by omega
  have hw6 : now - l5 ≤ 1000000000000000 := by omega
  have hwr : IntKind.i64.wrap (now - l5) = now - l5 := by rw [IntKind.wrap_i64]; omega
  clear hcs h0 h1 h2 h3 h4 h5 h6 h9 h11 hn hn2 hl5 hl52
  subst hst
  subst hB
  subst hob
  subst hwb
  go_enter Try.func84, Try.ntmps84
  go_wp2_with fail
  refine (hT _).mono ?_
  rintro e w' ⟨rfl, rfl⟩
  go_wp2_with fail
  refine (hP1 _).mono ?_
  rintro e w' ⟨rfl, rfl⟩
  go_wp2_with fail
  go_quiet ((go_at_call 91; exact Calls.quiet_of_same ((hP2 _).mono (fun e w' h => ⟨h.1, h.2.symm⟩))))
  go_wp2_with fail
  go_quiet ((go_at_call 87; exact (hH _).mono (fun e w' h => ⟨h.1, _, h.2.symm⟩)))
  go_wp2_with fail
  go_ret
  refine ⟨rfl, ?_⟩
  (repeat (refine below_drewN ?_ _)); exact (Below.refl _ _).alloc (Nat.le_refl _) _

set_option maxRecDepth 20000 in
set_option maxHeartbeats 2000000 in
theorem judge_overC0 (w : World) (ab : Nat) (l0 l1 l2 l3 l4 l5 : Int) (cs : Array Value) (A N L : Int) (p q : Nat) (now own ws qs T : Int) (st B ob wb qb : Bool) (W0 Q0 : Int) (Z : World → Prop)
    (hcs : w.heap[ab]? = some (.cells cs 135 (0, 0))) (h0 : cs[0]? = some (.int .i64 l0)) (h1 : cs[1]? = some (.int .i64 l1)) (h2 : cs[2]? = some (.int .i64 l2)) (h3 : cs[3]? = some (.int .i64 l3)) (h4 : cs[4]? = some (.int .i64 l4)) (h5 : cs[5]? = some (.int .i64 l5)) (h6 : cs[6]? = some (.bool st)) (h9 : cs[9]? = some (.int .i64 Q0)) (h11 : cs[11]? = some (.int .i64 W0))
    (hT : ∀ W, Calls Try.prog 90 #[.int .i64 p, .int .i64 q] W fun e w' => e = .returned (.tuple #[.int .i64 own, .bool ob]) ∧ W = w')
    (hP1 : ∀ W, Calls Try.prog 91 #[.int .i64 W0, .int .i64 own] W fun e w' => e = .returned (.tuple #[.int .i64 ws, .bool wb]) ∧ W = w')
    (hP2 : ∀ W, Calls Try.prog 91 #[.int .i64 Q0, .int .i64 q] W fun e w' => e = .returned (.tuple #[.int .i64 qs, .bool qb]) ∧ W = w')
    (hH : ∀ n, Calls Try.prog 87 #[.pointer (some ⟨ab, 7, none⟩), .int .i64 N] ((w.alloc (.cells #[.int .i64 A, .int .i64 0, .int .i64 N, .int .i64 p, .int .i64 q, .int .i64 L] 160)).drewN n) fun e w' => e = .returned (.bool B) ∧ (w.alloc (.cells #[.int .i64 A, .int .i64 0, .int .i64 N, .int .i64 p, .int .i64 q, .int .i64 L] 160)).drewN n = w')
    (_hA : ∀ n, Calls Try.prog 92 #[.pointer (some ⟨ab, 12, none⟩), .int .i64 (now - l5)] ((w.alloc (.cells #[.int .i64 A, .int .i64 0, .int .i64 N, .int .i64 p, .int .i64 q, .int .i64 L] 160)).drewN n) fun e w' => e = .returned (.int .i64 T) ∧ Z w')
    (_hZ : ∀ w', Z w' → w'.cell? ⟨ab, 4, none⟩ = some (.int .i64 l4) ∧ w'.cell? ⟨ab, 5, none⟩ = some (.int .i64 l5)) (hn : 0 ≤ now) (hn2 : now ≤ 1000000000000000) (hl5 : 0 ≤ l5) (hl52 : l5 ≤ 1000)
    (hst : st = false) (hB : B = false) (hob : ob = true) (hwb : wb = true) (hqb : qb = false) :
    Calls Try.prog 84 #[.pointer (some ⟨ab, 0, none⟩), .agg #[.int .i64 A, .int .i64 0, .int .i64 N, .int .i64 p, .int .i64 q, .int .i64 L], .int .i64 now] w fun e w' => e = .returned (.int .i64 12) ∧ Below w.heap.size w w' := by
  have hlt := block_lt hcs
  have c0 := cellAt hcs h0
  have c1 := cellAt hcs h1
  have c2 := cellAt hcs h2
  have c3 := cellAt hcs h3
  have c4 := cellAt hcs h4
  have c5 := cellAt hcs h5
  have c6 := cellAt hcs h6
  have c9 := cellAt hcs h9
  have c11 := cellAt hcs h11
  have hw5 : -1000 ≤ now - l5 := by omega
  have hw6 : now - l5 ≤ 1000000000000000 := by omega
  have hwr : IntKind.i64.wrap (now - l5) = now - l5 := by rw [IntKind.wrap_i64]; omega
  clear hcs h0 h1 h2 h3 h4 h5 h6 h9 h11 hn hn2 hl5 hl52
  subst hst
  subst hB
  subst hob
  subst hwb
  subst hqb
  go_enter Try.func84, Try.ntmps84
  go_wp2_with fail
  refine (hT _).mono ?_
  rintro e w' ⟨rfl, rfl⟩
  go_wp2_with fail
  refine (hP1 _).mono ?_
  rintro e w' ⟨rfl, rfl⟩
  go_wp2_with fail
  go_quiet ((go_at_call 91; exact Calls.quiet_of_same ((hP2 _).mono (fun e w' h => ⟨h.1, h.2.symm⟩))))
  go_wp2_with fail
  go_quiet ((go_at_call 87; exact (hH _).mono (fun e w' h => ⟨h.1, _, h.2.symm⟩)))
  go_wp2_with fail
  go_ret
  refine ⟨rfl, ?_⟩
  (repeat (refine below_drewN ?_ _)); exact (Below.refl _ _).alloc (Nat.le_refl _) _

set_option maxRecDepth 20000 in
set_option maxHeartbeats 2000000 in
theorem judge_large0 (w : World) (ab : Nat) (l0 l1 l2 l3 l4 l5 : Int) (cs : Array Value) (A N L : Int) (p q : Nat) (now own ws qs T : Int) (st B ob wb qb : Bool) (W0 Q0 : Int) (Z : World → Prop)
    (hcs : w.heap[ab]? = some (.cells cs 135 (0, 0))) (h0 : cs[0]? = some (.int .i64 l0)) (h1 : cs[1]? = some (.int .i64 l1)) (h2 : cs[2]? = some (.int .i64 l2)) (h3 : cs[3]? = some (.int .i64 l3)) (h4 : cs[4]? = some (.int .i64 l4)) (h5 : cs[5]? = some (.int .i64 l5)) (h6 : cs[6]? = some (.bool st)) (h9 : cs[9]? = some (.int .i64 Q0)) (h11 : cs[11]? = some (.int .i64 W0))
    (hT : ∀ W, Calls Try.prog 90 #[.int .i64 p, .int .i64 q] W fun e w' => e = .returned (.tuple #[.int .i64 own, .bool ob]) ∧ W = w')
    (hP1 : ∀ W, Calls Try.prog 91 #[.int .i64 W0, .int .i64 own] W fun e w' => e = .returned (.tuple #[.int .i64 ws, .bool wb]) ∧ W = w')
    (hP2 : ∀ W, Calls Try.prog 91 #[.int .i64 Q0, .int .i64 q] W fun e w' => e = .returned (.tuple #[.int .i64 qs, .bool qb]) ∧ W = w')
    (hH : ∀ n, Calls Try.prog 87 #[.pointer (some ⟨ab, 7, none⟩), .int .i64 N] ((w.alloc (.cells #[.int .i64 A, .int .i64 0, .int .i64 N, .int .i64 p, .int .i64 q, .int .i64 L] 160)).drewN n) fun e w' => e = .returned (.bool B) ∧ (w.alloc (.cells #[.int .i64 A, .int .i64 0, .int .i64 N, .int .i64 p, .int .i64 q, .int .i64 L] 160)).drewN n = w')
    (_hA : ∀ n, Calls Try.prog 92 #[.pointer (some ⟨ab, 12, none⟩), .int .i64 (now - l5)] ((w.alloc (.cells #[.int .i64 A, .int .i64 0, .int .i64 N, .int .i64 p, .int .i64 q, .int .i64 L] 160)).drewN n) fun e w' => e = .returned (.int .i64 T) ∧ Z w')
    (_hZ : ∀ w', Z w' → w'.cell? ⟨ab, 4, none⟩ = some (.int .i64 l4) ∧ w'.cell? ⟨ab, 5, none⟩ = some (.int .i64 l5)) (hn : 0 ≤ now) (hn2 : now ≤ 1000000000000000) (hl5 : 0 ≤ l5) (hl52 : l5 ≤ 1000)
    (hst : st = false) (hB : B = false) (hob : ob = true) (hwb : wb = true) (hqb : qb = true) (hg : l0 < (q : Int)) :
    Calls Try.prog 84 #[.pointer (some ⟨ab, 0, none⟩), .agg #[.int .i64 A, .int .i64 0, .int .i64 N, .int .i64 p, .int .i64 q, .int .i64 L], .int .i64 now] w fun e w' => e = .returned (.int .i64 13) ∧ Below w.heap.size w w' := by
  have hlt := block_lt hcs
  have c0 := cellAt hcs h0
  have c1 := cellAt hcs h1
  have c2 := cellAt hcs h2
  have c3 := cellAt hcs h3
  have c4 := cellAt hcs h4
  have c5 := cellAt hcs h5
  have c6 := cellAt hcs h6
  have c9 := cellAt hcs h9
  have c11 := cellAt hcs h11
  have hw5 : -1000 ≤ now - l5 := by omega
  have hw6 : now - l5 ≤ 1000000000000000 := by omega
  have hwr : IntKind.i64.wrap (now - l5) = now - l5 := by rw [IntKind.wrap_i64]; omega
  clear hcs h0 h1 h2 h3 h4 h5 h6 h9 h11 hn hn2 hl5 hl52
  subst hst
  subst hB
  subst hob
  subst hwb
  subst hqb
  go_enter Try.func84, Try.ntmps84
  go_wp2_with fail
  refine (hT _).mono ?_
  rintro e w' ⟨rfl, rfl⟩
  go_wp2_with fail
  refine (hP1 _).mono ?_
  rintro e w' ⟨rfl, rfl⟩
  go_wp2_with fail
  go_quiet ((go_at_call 91; exact Calls.quiet_of_same ((hP2 _).mono (fun e w' h => ⟨h.1, h.2.symm⟩))))
  go_wp2_with fail
  go_quiet ((go_at_call 87; exact (hH _).mono (fun e w' h => ⟨h.1, _, h.2.symm⟩)))
  go_wp2_with fail
  go_quiet (fail)
  go_wp2_with fail
  go_ret
  refine ⟨rfl, ?_⟩
  (repeat (refine below_drewN ?_ _)); exact (Below.refl _ _).alloc (Nat.le_refl _) _

set_option maxRecDepth 20000 in
set_option maxHeartbeats 2000000 in
theorem judge_side0 (w : World) (ab : Nat) (l0 l1 l2 l3 l4 l5 : Int) (cs : Array Value) (A N L : Int) (p q : Nat) (now own ws qs T : Int) (st B ob wb qb : Bool) (W0 Q0 : Int) (Z : World → Prop)
    (hcs : w.heap[ab]? = some (.cells cs 135 (0, 0))) (h0 : cs[0]? = some (.int .i64 l0)) (h1 : cs[1]? = some (.int .i64 l1)) (h2 : cs[2]? = some (.int .i64 l2)) (h3 : cs[3]? = some (.int .i64 l3)) (h4 : cs[4]? = some (.int .i64 l4)) (h5 : cs[5]? = some (.int .i64 l5)) (h6 : cs[6]? = some (.bool st)) (h9 : cs[9]? = some (.int .i64 Q0)) (h11 : cs[11]? = some (.int .i64 W0))
    (hT : ∀ W, Calls Try.prog 90 #[.int .i64 p, .int .i64 q] W fun e w' => e = .returned (.tuple #[.int .i64 own, .bool ob]) ∧ W = w')
    (hP1 : ∀ W, Calls Try.prog 91 #[.int .i64 W0, .int .i64 own] W fun e w' => e = .returned (.tuple #[.int .i64 ws, .bool wb]) ∧ W = w')
    (hP2 : ∀ W, Calls Try.prog 91 #[.int .i64 Q0, .int .i64 q] W fun e w' => e = .returned (.tuple #[.int .i64 qs, .bool qb]) ∧ W = w')
    (hH : ∀ n, Calls Try.prog 87 #[.pointer (some ⟨ab, 7, none⟩), .int .i64 N] ((w.alloc (.cells #[.int .i64 A, .int .i64 0, .int .i64 N, .int .i64 p, .int .i64 q, .int .i64 L] 160)).drewN n) fun e w' => e = .returned (.bool B) ∧ (w.alloc (.cells #[.int .i64 A, .int .i64 0, .int .i64 N, .int .i64 p, .int .i64 q, .int .i64 L] 160)).drewN n = w')
    (_hA : ∀ n, Calls Try.prog 92 #[.pointer (some ⟨ab, 12, none⟩), .int .i64 (now - l5)] ((w.alloc (.cells #[.int .i64 A, .int .i64 0, .int .i64 N, .int .i64 p, .int .i64 q, .int .i64 L] 160)).drewN n) fun e w' => e = .returned (.int .i64 T) ∧ Z w')
    (_hZ : ∀ w', Z w' → w'.cell? ⟨ab, 4, none⟩ = some (.int .i64 l4) ∧ w'.cell? ⟨ab, 5, none⟩ = some (.int .i64 l5)) (hn : 0 ≤ now) (hn2 : now ≤ 1000000000000000) (hl5 : 0 ≤ l5) (hl52 : l5 ≤ 1000)
    (hst : st = false) (hB : B = false) (hob : ob = true) (hwb : wb = true) (hqb : qb = true) (hg : ¬ l0 < (q : Int)) (hs : l1 < qs) :
    Calls Try.prog 84 #[.pointer (some ⟨ab, 0, none⟩), .agg #[.int .i64 A, .int .i64 0, .int .i64 N, .int .i64 p, .int .i64 q, .int .i64 L], .int .i64 now] w fun e w' => e = .returned (.int .i64 14) ∧ Below w.heap.size w w' := by
  have hlt := block_lt hcs
  have c0 := cellAt hcs h0
  have c1 := cellAt hcs h1
  have c2 := cellAt hcs h2
  have c3 := cellAt hcs h3
  have c4 := cellAt hcs h4
  have c5 := cellAt hcs h5
  have c6 := cellAt hcs h6
  have c9 := cellAt hcs h9
  have c11 := cellAt hcs h11
  have hw5 : -1000 ≤ now - l5 := by omega
  have hw6 : now - l5 ≤ 1000000000000000 := by omega
  have hwr : IntKind.i64.wrap (now - l5) = now - l5 := by rw [IntKind.wrap_i64]; omega
  clear hcs h0 h1 h2 h3 h4 h5 h6 h9 h11 hn hn2 hl5 hl52
  subst hst
  subst hB
  subst hob
  subst hwb
  subst hqb
  have hg2 : decide (l0 < (q : Int)) = false := decide_eq_false hg
  go_enter Try.func84, Try.ntmps84
  go_wp2_with fail
  refine (hT _).mono ?_
  rintro e w' ⟨rfl, rfl⟩
  go_wp2_with fail
  refine (hP1 _).mono ?_
  rintro e w' ⟨rfl, rfl⟩
  go_wp2_with fail
  go_quiet ((go_at_call 91; exact Calls.quiet_of_same ((hP2 _).mono (fun e w' h => ⟨h.1, h.2.symm⟩))))
  go_wp2_with fail
  go_quiet ((go_at_call 87; exact (hH _).mono (fun e w' h => ⟨h.1, _, h.2.symm⟩)))
  go_wp2_with fail
  go_quiet (fail)
  go_wp2_with fail
  go_ret
  refine ⟨rfl, ?_⟩
  (repeat (refine below_drewN ?_ _)); exact (Below.refl _ _).alloc (Nat.le_refl _) _

set_option maxRecDepth 20000 in
set_option maxHeartbeats 2000000 in
theorem judge_worth0 (w : World) (ab : Nat) (l0 l1 l2 l3 l4 l5 : Int) (cs : Array Value) (A N L : Int) (p q : Nat) (now own ws qs T : Int) (st B ob wb qb : Bool) (W0 Q0 : Int) (Z : World → Prop)
    (hcs : w.heap[ab]? = some (.cells cs 135 (0, 0))) (h0 : cs[0]? = some (.int .i64 l0)) (h1 : cs[1]? = some (.int .i64 l1)) (h2 : cs[2]? = some (.int .i64 l2)) (h3 : cs[3]? = some (.int .i64 l3)) (h4 : cs[4]? = some (.int .i64 l4)) (h5 : cs[5]? = some (.int .i64 l5)) (h6 : cs[6]? = some (.bool st)) (h9 : cs[9]? = some (.int .i64 Q0)) (h11 : cs[11]? = some (.int .i64 W0))
    (hT : ∀ W, Calls Try.prog 90 #[.int .i64 p, .int .i64 q] W fun e w' => e = .returned (.tuple #[.int .i64 own, .bool ob]) ∧ W = w')
    (hP1 : ∀ W, Calls Try.prog 91 #[.int .i64 W0, .int .i64 own] W fun e w' => e = .returned (.tuple #[.int .i64 ws, .bool wb]) ∧ W = w')
    (hP2 : ∀ W, Calls Try.prog 91 #[.int .i64 Q0, .int .i64 q] W fun e w' => e = .returned (.tuple #[.int .i64 qs, .bool qb]) ∧ W = w')
    (hH : ∀ n, Calls Try.prog 87 #[.pointer (some ⟨ab, 7, none⟩), .int .i64 N] ((w.alloc (.cells #[.int .i64 A, .int .i64 0, .int .i64 N, .int .i64 p, .int .i64 q, .int .i64 L] 160)).drewN n) fun e w' => e = .returned (.bool B) ∧ (w.alloc (.cells #[.int .i64 A, .int .i64 0, .int .i64 N, .int .i64 p, .int .i64 q, .int .i64 L] 160)).drewN n = w')
    (_hA : ∀ n, Calls Try.prog 92 #[.pointer (some ⟨ab, 12, none⟩), .int .i64 (now - l5)] ((w.alloc (.cells #[.int .i64 A, .int .i64 0, .int .i64 N, .int .i64 p, .int .i64 q, .int .i64 L] 160)).drewN n) fun e w' => e = .returned (.int .i64 T) ∧ Z w')
    (_hZ : ∀ w', Z w' → w'.cell? ⟨ab, 4, none⟩ = some (.int .i64 l4) ∧ w'.cell? ⟨ab, 5, none⟩ = some (.int .i64 l5)) (hn : 0 ≤ now) (hn2 : now ≤ 1000000000000000) (hl5 : 0 ≤ l5) (hl52 : l5 ≤ 1000)
    (hst : st = false) (hB : B = false) (hob : ob = true) (hwb : wb = true) (hqb : qb = true) (hg : ¬ l0 < (q : Int)) (hs : ¬ l1 < qs) (hx : l3 < ws) :
    Calls Try.prog 84 #[.pointer (some ⟨ab, 0, none⟩), .agg #[.int .i64 A, .int .i64 0, .int .i64 N, .int .i64 p, .int .i64 q, .int .i64 L], .int .i64 now] w fun e w' => e = .returned (.int .i64 16) ∧ Below w.heap.size w w' := by
  have hlt := block_lt hcs
  have c0 := cellAt hcs h0
  have c1 := cellAt hcs h1
  have c2 := cellAt hcs h2
  have c3 := cellAt hcs h3
  have c4 := cellAt hcs h4
  have c5 := cellAt hcs h5
  have c6 := cellAt hcs h6
  have c9 := cellAt hcs h9
  have c11 := cellAt hcs h11
  have hw5 : -1000 ≤ now - l5 := by omega
  have hw6 : now - l5 ≤ 1000000000000000 := by omega
  have hwr : IntKind.i64.wrap (now - l5) = now - l5 := by rw [IntKind.wrap_i64]; omega
  clear hcs h0 h1 h2 h3 h4 h5 h6 h9 h11 hn hn2 hl5 hl52
  subst hst
  subst hB
  subst hob
  subst hwb
  subst hqb
  have hg2 : decide (l0 < (q : Int)) = false := decide_eq_false hg
  have hs2 : decide (l1 < qs) = false := decide_eq_false hs
  go_enter Try.func84, Try.ntmps84
  go_wp2_with fail
  refine (hT _).mono ?_
  rintro e w' ⟨rfl, rfl⟩
  go_wp2_with fail
  refine (hP1 _).mono ?_
  rintro e w' ⟨rfl, rfl⟩
  go_wp2_with fail
  go_quiet ((go_at_call 91; exact Calls.quiet_of_same ((hP2 _).mono (fun e w' h => ⟨h.1, h.2.symm⟩))))
  go_wp2_with fail
  go_quiet ((go_at_call 87; exact (hH _).mono (fun e w' h => ⟨h.1, _, h.2.symm⟩)))
  go_wp2_with fail
  go_quiet (fail)
  go_wp2_with fail
  go_ret
  refine ⟨rfl, ?_⟩
  (repeat (refine below_drewN ?_ _)); exact (Below.refl _ _).alloc (Nat.le_refl _) _

set_option maxRecDepth 20000 in
set_option maxHeartbeats 2000000 in
theorem judge_rate0 (w : World) (ab : Nat) (l0 l1 l2 l3 l4 l5 : Int) (cs : Array Value) (A N L : Int) (p q : Nat) (now own ws qs T : Int) (st B ob wb qb : Bool) (W0 Q0 : Int) (Z : World → Prop)
    (hcs : w.heap[ab]? = some (.cells cs 135 (0, 0))) (h0 : cs[0]? = some (.int .i64 l0)) (h1 : cs[1]? = some (.int .i64 l1)) (h2 : cs[2]? = some (.int .i64 l2)) (h3 : cs[3]? = some (.int .i64 l3)) (h4 : cs[4]? = some (.int .i64 l4)) (h5 : cs[5]? = some (.int .i64 l5)) (h6 : cs[6]? = some (.bool st)) (h9 : cs[9]? = some (.int .i64 Q0)) (h11 : cs[11]? = some (.int .i64 W0))
    (hT : ∀ W, Calls Try.prog 90 #[.int .i64 p, .int .i64 q] W fun e w' => e = .returned (.tuple #[.int .i64 own, .bool ob]) ∧ W = w')
    (hP1 : ∀ W, Calls Try.prog 91 #[.int .i64 W0, .int .i64 own] W fun e w' => e = .returned (.tuple #[.int .i64 ws, .bool wb]) ∧ W = w')
    (hP2 : ∀ W, Calls Try.prog 91 #[.int .i64 Q0, .int .i64 q] W fun e w' => e = .returned (.tuple #[.int .i64 qs, .bool qb]) ∧ W = w')
    (hH : ∀ n, Calls Try.prog 87 #[.pointer (some ⟨ab, 7, none⟩), .int .i64 N] ((w.alloc (.cells #[.int .i64 A, .int .i64 0, .int .i64 N, .int .i64 p, .int .i64 q, .int .i64 L] 160)).drewN n) fun e w' => e = .returned (.bool B) ∧ (w.alloc (.cells #[.int .i64 A, .int .i64 0, .int .i64 N, .int .i64 p, .int .i64 q, .int .i64 L] 160)).drewN n = w')
    (hA : ∀ n, Calls Try.prog 92 #[.pointer (some ⟨ab, 12, none⟩), .int .i64 (now - l5)] ((w.alloc (.cells #[.int .i64 A, .int .i64 0, .int .i64 N, .int .i64 p, .int .i64 q, .int .i64 L] 160)).drewN n) fun e w' => e = .returned (.int .i64 T) ∧ Z w')
    (hZ : ∀ w', Z w' → w'.cell? ⟨ab, 4, none⟩ = some (.int .i64 l4) ∧ w'.cell? ⟨ab, 5, none⟩ = some (.int .i64 l5)) (hn : 0 ≤ now) (hn2 : now ≤ 1000000000000000) (hl5 : 0 ≤ l5) (hl52 : l5 ≤ 1000)
    (hst : st = false) (hB : B = false) (hob : ob = true) (hwb : wb = true) (hqb : qb = true) (hg : ¬ l0 < (q : Int)) (hs : ¬ l1 < qs) (hx : ¬ l3 < ws) (hr : l4 ≤ T) :
    Calls Try.prog 84 #[.pointer (some ⟨ab, 0, none⟩), .agg #[.int .i64 A, .int .i64 0, .int .i64 N, .int .i64 p, .int .i64 q, .int .i64 L], .int .i64 now] w fun e w' => e = .returned (.int .i64 17) ∧ Z w' := by
  have hlt := block_lt hcs
  have c0 := cellAt hcs h0
  have c1 := cellAt hcs h1
  have c2 := cellAt hcs h2
  have c3 := cellAt hcs h3
  have c4 := cellAt hcs h4
  have c5 := cellAt hcs h5
  have c6 := cellAt hcs h6
  have c9 := cellAt hcs h9
  have c11 := cellAt hcs h11
  have HS45 : Hid (∀ n, ((w.alloc (.cells #[.int .i64 A, .int .i64 0, .int .i64 N, .int .i64 p, .int .i64 q, .int .i64 L] 160)).drewN n).drew.cell? ⟨ab, 4, none⟩ = some (.int .i64 l4) ∧ ((w.alloc (.cells #[.int .i64 A, .int .i64 0, .int .i64 N, .int .i64 p, .int .i64 q, .int .i64 L] 160)).drewN n).drew.cell? ⟨ab, 5, none⟩ = some (.int .i64 l5)) := fun n =>
    ⟨by rw [World.cell?_of_block (w := w) (show ((w.alloc (.cells #[.int .i64 A, .int .i64 0, .int .i64 N, .int .i64 p, .int .i64 q, .int .i64 L] 160)).drewN n).drew.heap[ab]? = w.heap[ab]? from Below.heap_alloc _ _ _ hlt)]; exact c4, by rw [World.cell?_of_block (w := w) (show ((w.alloc (.cells #[.int .i64 A, .int .i64 0, .int .i64 N, .int .i64 p, .int .i64 q, .int .i64 L] 160)).drewN n).drew.heap[ab]? = w.heap[ab]? from Below.heap_alloc _ _ _ hlt)]; exact c5⟩
  have hw5 : -1000 ≤ now - l5 := by omega
  have hw6 : now - l5 ≤ 1000000000000000 := by omega
  have hwr : IntKind.i64.wrap (now - l5) = now - l5 := by rw [IntKind.wrap_i64]; omega
  clear hcs h0 h1 h2 h3 h4 h5 h6 h9 h11 hn hn2 hl5 hl52
  subst hst
  subst hB
  subst hob
  subst hwb
  subst hqb
  have hg2 : decide (l0 < (q : Int)) = false := decide_eq_false hg
  have hs2 : decide (l1 < qs) = false := decide_eq_false hs
  have hx2 : decide (l3 < ws) = false := decide_eq_false hx
  go_enter Try.func84, Try.ntmps84
  go_wp2_with fail
  refine (hT _).mono ?_
  rintro e w' ⟨rfl, rfl⟩
  go_wp2_with fail
  refine (hP1 _).mono ?_
  rintro e w' ⟨rfl, rfl⟩
  go_wp2_with fail
  go_quiet ((go_at_call 91; exact Calls.quiet_of_same ((hP2 _).mono (fun e w' h => ⟨h.1, h.2.symm⟩))))
  go_wp2_with fail
  go_quiet ((go_at_call 87; exact (hH _).mono (fun e w' h => ⟨h.1, _, h.2.symm⟩)))
  go_wp2_with fail
  go_quiet (fail)
  go_wp2_with fail
  refine wp_region_noPanic ?_
  refine wp_region_held_drew (S := fun w' => w'.cell? ⟨ab, 4, none⟩ = some (.int .i64 l4) ∧ w'.cell? ⟨ab, 5, none⟩ = some (.int .i64 l5)) (by kernel_rfl) (HS45.out _) (fun _ => ?_)
  refine wpAnyH_take (i := 0) (v := ?_) rfl (by kernel_rfl) (by kernel_rfl) (by kernel_rfl) (fun _ _ _ h => h) (Or.inl ⟨by rfl, ?_⟩) (HS45.out _) ?_
  rotate_left
  (intro w hSw; obtain ⟨s4, s5⟩ := hSw; go_simp)
  try with_reducible rfl
  simp only [Act.put]
  refine wpAnyH_take (i := 1) (v := ?_) rfl (by kernel_rfl) (by kernel_rfl) (by kernel_rfl) (fun _ _ _ h => h) (Or.inl ⟨by rfl, ?_⟩) (HS45.out _) ?_
  rotate_left
  (intro w hSw; obtain ⟨s4, s5⟩ := hSw; go_simp)
  try with_reducible rfl
  simp only [Act.put]
  refine wpAnyH_take (i := 2) (v := ?_) rfl (by kernel_rfl) (by kernel_rfl) (by kernel_rfl) (fun _ _ _ h => h) (Or.inl ⟨by rfl, ?_⟩) (HS45.out _) ?_
  rotate_left
  (intro w hSw; obtain ⟨s4, s5⟩ := hSw; go_simp)
  try with_reducible rfl
  simp only [Act.put]
  refine wpAnyH_take (i := 3) (v := ?_) rfl (by kernel_rfl) (by kernel_rfl) (by kernel_rfl) (fun _ _ _ h => h) (Or.inl ⟨by rfl, ?_⟩) (HS45.out _) ?_
  rotate_left
  (intro w hSw; obtain ⟨s4, s5⟩ := hSw; go_simp)
  try with_reducible rfl
  simp only [Act.put]
  refine wpAnyH_take (i := 4) (v := ?_) rfl (by kernel_rfl) (by kernel_rfl) (by kernel_rfl) (fun _ _ _ h => h) (Or.inl ⟨by rfl, ?_⟩) (HS45.out _) ?_
  rotate_left
  (intro w hSw; obtain ⟨s4, s5⟩ := hSw; go_simp)
  try with_reducible rfl
  simp only [Act.put]
  refine wpAnyH_take (i := 5) (v := ?_) rfl (by kernel_rfl) (by kernel_rfl) (by kernel_rfl) (fun _ _ _ h => h) (Or.inl ⟨by rfl, ?_⟩) (HS45.out _) ?_
  rotate_left
  (intro w hSw; obtain ⟨s4, s5⟩ := hSw; go_simp)
  try with_reducible rfl
  simp only [Act.put]
  refine wpAnyH_take (i := 6) (v := ?_) rfl (by kernel_rfl) (by kernel_rfl) (by kernel_rfl) (fun _ _ _ h => h) (Or.inl ⟨by rfl, ?_⟩) (HS45.out _) ?_
  rotate_left
  (intro w hSw; obtain ⟨s4, s5⟩ := hSw; go_simp)
  try with_reducible rfl
  simp only [Act.put]
  refine wpAnyH_take (i := 7) (v := ?_) rfl (by kernel_rfl) (by kernel_rfl) (by kernel_rfl) (fun _ _ _ h => h) (Or.inl ⟨by rfl, ?_⟩) (HS45.out _) ?_
  rotate_left
  (intro w hSw; obtain ⟨s4, s5⟩ := hSw; go_simp)
  try with_reducible rfl
  simp only [Act.put]
  refine wpAnyH_take (i := 8) (v := ?_) rfl (by kernel_rfl) (by kernel_rfl) (by kernel_rfl) (fun _ _ _ h => h) (Or.inl ⟨by rfl, ?_⟩) (HS45.out _) ?_
  rotate_left
  (intro w hSw; obtain ⟨s4, s5⟩ := hSw; go_simp)
  try with_reducible rfl
  simp only [Act.put]
  refine wpAnyH_take (i := 9) (v := ?_) rfl (by kernel_rfl) (by kernel_rfl) (by kernel_rfl) (fun _ _ _ h => h) (Or.inl ⟨by rfl, ?_⟩) (HS45.out _) ?_
  rotate_left
  (intro w hSw; obtain ⟨s4, s5⟩ := hSw; go_simp)
  try with_reducible rfl
  simp only [Act.put]
  refine wpAnyH_take (i := 11) (v := ?_) rfl (by kernel_rfl) (by kernel_rfl) (by kernel_rfl) (fun _ _ _ h => h) (Or.inl ⟨by rfl, ?_⟩) (HS45.out _) ?_
  rotate_left
  (intro w hSw; obtain ⟨s4, s5⟩ := hSw; go_simp)
  try with_reducible rfl
  simp only [Act.put]
  refine wpAnyH_take (i := 12) (v := ?_) rfl (by kernel_rfl) (by kernel_rfl) (by kernel_rfl) (fun _ _ _ h => h) (Or.inl ⟨by rfl, ?_⟩) (HS45.out _) ?_
  rotate_left
  (intro w hSw; obtain ⟨s4, s5⟩ := hSw; go_simp)
  try with_reducible rfl
  simp only [Act.put]
  refine wpAnyH_take (i := 13) (v := ?_) rfl (by kernel_rfl) (by kernel_rfl) (by kernel_rfl) (fun _ _ _ h => h) (Or.inl ⟨by rfl, ?_⟩) (HS45.out _) ?_
  rotate_left
  (intro w hSw; obtain ⟨s4, s5⟩ := hSw; go_simp)
  try with_reducible rfl
  simp only [Act.put]
  refine wpAnyH_take (i := 14) (v := ?_) rfl (by kernel_rfl) (by kernel_rfl) (by kernel_rfl) (fun _ _ _ h => h) (Or.inl ⟨by rfl, ?_⟩) (HS45.out _) ?_
  rotate_left
  (intro w hSw; obtain ⟨s4, s5⟩ := hSw; go_simp)
  try with_reducible rfl
  simp only [Act.put]
  refine wpAnyH_take (i := 15) (v := ?_) rfl (by kernel_rfl) (by kernel_rfl) (by kernel_rfl) (fun _ _ _ h => h) (Or.inl ⟨by rfl, ?_⟩) (HS45.out _) ?_
  rotate_left
  (intro w hSw; obtain ⟨s4, s5⟩ := hSw; go_simp)
  try with_reducible rfl
  simp only [Act.put]
  refine wpAnyH_ready (rs := [10]) (by kernel_rfl) (by simp) ?_
  refine AllReadyH.cons rfl (fun K hK => ?_) AllReadyH.nil
  go_simp
  refine (hA _).mono ?_
  rintro e w1 ⟨rfl, hz⟩
  go_wp2_with fail
  refine hK.out _ _ (hZ _ hz) (fun _ => ?_)
  clear hK K
  refine wpAnyH_take (i := 16) (v := ?_) rfl (by kernel_rfl) (by kernel_rfl) (by kernel_rfl) (fun _ _ _ h => h) (Or.inl ⟨by rfl, ?_⟩) (hZ _ hz) ?_
  rotate_left
  (intro w hSw; obtain ⟨s4, s5⟩ := hSw; go_simp)
  try with_reducible rfl
  simp only [Act.put]
  refine wpAnyH_take (i := 17) (v := ?_) rfl (by kernel_rfl) (by kernel_rfl) (by kernel_rfl) (fun _ _ _ h => h) (Or.inl ⟨by rfl, ?_⟩) (hZ _ hz) ?_
  rotate_left
  (intro w hSw; obtain ⟨s4, s5⟩ := hSw; go_simp)
  try with_reducible rfl
  simp only [Act.put]
  refine wpAnyH_done (by kernel_rfl) (NoPanic.normal ?_) _
  go_wp2_with fail
  go_ret
  exact ⟨rfl, hz⟩

set_option maxRecDepth 20000 in
set_option maxHeartbeats 2000000 in
theorem judge_done0 (w : World) (ab : Nat) (l0 l1 l2 l3 l4 l5 : Int) (cs : Array Value) (A N L : Int) (p q : Nat) (now own ws qs T : Int) (st B ob wb qb : Bool) (W0 Q0 : Int) (Z : World → Prop)
    (hcs : w.heap[ab]? = some (.cells cs 135 (0, 0))) (h0 : cs[0]? = some (.int .i64 l0)) (h1 : cs[1]? = some (.int .i64 l1)) (h2 : cs[2]? = some (.int .i64 l2)) (h3 : cs[3]? = some (.int .i64 l3)) (h4 : cs[4]? = some (.int .i64 l4)) (h5 : cs[5]? = some (.int .i64 l5)) (h6 : cs[6]? = some (.bool st)) (h9 : cs[9]? = some (.int .i64 Q0)) (h11 : cs[11]? = some (.int .i64 W0))
    (hT : ∀ W, Calls Try.prog 90 #[.int .i64 p, .int .i64 q] W fun e w' => e = .returned (.tuple #[.int .i64 own, .bool ob]) ∧ W = w')
    (hP1 : ∀ W, Calls Try.prog 91 #[.int .i64 W0, .int .i64 own] W fun e w' => e = .returned (.tuple #[.int .i64 ws, .bool wb]) ∧ W = w')
    (hP2 : ∀ W, Calls Try.prog 91 #[.int .i64 Q0, .int .i64 q] W fun e w' => e = .returned (.tuple #[.int .i64 qs, .bool qb]) ∧ W = w')
    (hH : ∀ n, Calls Try.prog 87 #[.pointer (some ⟨ab, 7, none⟩), .int .i64 N] ((w.alloc (.cells #[.int .i64 A, .int .i64 0, .int .i64 N, .int .i64 p, .int .i64 q, .int .i64 L] 160)).drewN n) fun e w' => e = .returned (.bool B) ∧ (w.alloc (.cells #[.int .i64 A, .int .i64 0, .int .i64 N, .int .i64 p, .int .i64 q, .int .i64 L] 160)).drewN n = w')
    (hA : ∀ n, Calls Try.prog 92 #[.pointer (some ⟨ab, 12, none⟩), .int .i64 (now - l5)] ((w.alloc (.cells #[.int .i64 A, .int .i64 0, .int .i64 N, .int .i64 p, .int .i64 q, .int .i64 L] 160)).drewN n) fun e w' => e = .returned (.int .i64 T) ∧ Z w')
    (hZ : ∀ w', Z w' → w'.cell? ⟨ab, 4, none⟩ = some (.int .i64 l4) ∧ w'.cell? ⟨ab, 5, none⟩ = some (.int .i64 l5)) (hn : 0 ≤ now) (hn2 : now ≤ 1000000000000000) (hl5 : 0 ≤ l5) (hl52 : l5 ≤ 1000)
    (hst : st = false) (hB : B = false) (hob : ob = true) (hwb : wb = true) (hqb : qb = true) (hg : ¬ l0 < (q : Int)) (hs : ¬ l1 < qs) (hx : ¬ l3 < ws) (hr : ¬ l4 ≤ T) :
    Calls Try.prog 84 #[.pointer (some ⟨ab, 0, none⟩), .agg #[.int .i64 A, .int .i64 0, .int .i64 N, .int .i64 p, .int .i64 q, .int .i64 L], .int .i64 now] w fun e w' => e = .returned (.int .i64 0) ∧ Z w' := by
  have hlt := block_lt hcs
  have c0 := cellAt hcs h0
  have c1 := cellAt hcs h1
  have c2 := cellAt hcs h2
  have c3 := cellAt hcs h3
  have c4 := cellAt hcs h4
  have c5 := cellAt hcs h5
  have c6 := cellAt hcs h6
  have c9 := cellAt hcs h9
  have c11 := cellAt hcs h11
  have HS45 : Hid (∀ n, ((w.alloc (.cells #[.int .i64 A, .int .i64 0, .int .i64 N, .int .i64 p, .int .i64 q, .int .i64 L] 160)).drewN n).drew.cell? ⟨ab, 4, none⟩ = some (.int .i64 l4) ∧ ((w.alloc (.cells #[.int .i64 A, .int .i64 0, .int .i64 N, .int .i64 p, .int .i64 q, .int .i64 L] 160)).drewN n).drew.cell? ⟨ab, 5, none⟩ = some (.int .i64 l5)) := fun n =>
    ⟨by rw [World.cell?_of_block (w := w) (show ((w.alloc (.cells #[.int .i64 A, .int .i64 0, .int .i64 N, .int .i64 p, .int .i64 q, .int .i64 L] 160)).drewN n).drew.heap[ab]? = w.heap[ab]? from Below.heap_alloc _ _ _ hlt)]; exact c4, by rw [World.cell?_of_block (w := w) (show ((w.alloc (.cells #[.int .i64 A, .int .i64 0, .int .i64 N, .int .i64 p, .int .i64 q, .int .i64 L] 160)).drewN n).drew.heap[ab]? = w.heap[ab]? from Below.heap_alloc _ _ _ hlt)]; exact c5⟩
  have hw5 : -1000 ≤ now - l5 := by omega
  have hw6 : now - l5 ≤ 1000000000000000 := by omega
  have hwr : IntKind.i64.wrap (now - l5) = now - l5 := by rw [IntKind.wrap_i64]; omega
  clear hcs h0 h1 h2 h3 h4 h5 h6 h9 h11 hn hn2 hl5 hl52
  subst hst
  subst hB
  subst hob
  subst hwb
  subst hqb
  have hg2 : decide (l0 < (q : Int)) = false := decide_eq_false hg
  have hs2 : decide (l1 < qs) = false := decide_eq_false hs
  have hx2 : decide (l3 < ws) = false := decide_eq_false hx
  have hr2 : decide (l4 ≤ T) = false := decide_eq_false hr
  go_enter Try.func84, Try.ntmps84
  go_wp2_with fail
  refine (hT _).mono ?_
  rintro e w' ⟨rfl, rfl⟩
  go_wp2_with fail
  refine (hP1 _).mono ?_
  rintro e w' ⟨rfl, rfl⟩
  go_wp2_with fail
  go_quiet ((go_at_call 91; exact Calls.quiet_of_same ((hP2 _).mono (fun e w' h => ⟨h.1, h.2.symm⟩))))
  go_wp2_with fail
  go_quiet ((go_at_call 87; exact (hH _).mono (fun e w' h => ⟨h.1, _, h.2.symm⟩)))
  go_wp2_with fail
  go_quiet (fail)
  go_wp2_with fail
  refine wp_region_noPanic ?_
  refine wp_region_held_drew (S := fun w' => w'.cell? ⟨ab, 4, none⟩ = some (.int .i64 l4) ∧ w'.cell? ⟨ab, 5, none⟩ = some (.int .i64 l5)) (by kernel_rfl) (HS45.out _) (fun _ => ?_)
  refine wpAnyH_take (i := 0) (v := ?_) rfl (by kernel_rfl) (by kernel_rfl) (by kernel_rfl) (fun _ _ _ h => h) (Or.inl ⟨by rfl, ?_⟩) (HS45.out _) ?_
  rotate_left
  (intro w hSw; obtain ⟨s4, s5⟩ := hSw; go_simp)
  try with_reducible rfl
  simp only [Act.put]
  refine wpAnyH_take (i := 1) (v := ?_) rfl (by kernel_rfl) (by kernel_rfl) (by kernel_rfl) (fun _ _ _ h => h) (Or.inl ⟨by rfl, ?_⟩) (HS45.out _) ?_
  rotate_left
  (intro w hSw; obtain ⟨s4, s5⟩ := hSw; go_simp)
  try with_reducible rfl
  simp only [Act.put]
  refine wpAnyH_take (i := 2) (v := ?_) rfl (by kernel_rfl) (by kernel_rfl) (by kernel_rfl) (fun _ _ _ h => h) (Or.inl ⟨by rfl, ?_⟩) (HS45.out _) ?_
  rotate_left
  (intro w hSw; obtain ⟨s4, s5⟩ := hSw; go_simp)
  try with_reducible rfl
  simp only [Act.put]
  refine wpAnyH_take (i := 3) (v := ?_) rfl (by kernel_rfl) (by kernel_rfl) (by kernel_rfl) (fun _ _ _ h => h) (Or.inl ⟨by rfl, ?_⟩) (HS45.out _) ?_
  rotate_left
  (intro w hSw; obtain ⟨s4, s5⟩ := hSw; go_simp)
  try with_reducible rfl
  simp only [Act.put]
  refine wpAnyH_take (i := 4) (v := ?_) rfl (by kernel_rfl) (by kernel_rfl) (by kernel_rfl) (fun _ _ _ h => h) (Or.inl ⟨by rfl, ?_⟩) (HS45.out _) ?_
  rotate_left
  (intro w hSw; obtain ⟨s4, s5⟩ := hSw; go_simp)
  try with_reducible rfl
  simp only [Act.put]
  refine wpAnyH_take (i := 5) (v := ?_) rfl (by kernel_rfl) (by kernel_rfl) (by kernel_rfl) (fun _ _ _ h => h) (Or.inl ⟨by rfl, ?_⟩) (HS45.out _) ?_
  rotate_left
  (intro w hSw; obtain ⟨s4, s5⟩ := hSw; go_simp)
  try with_reducible rfl
  simp only [Act.put]
  refine wpAnyH_take (i := 6) (v := ?_) rfl (by kernel_rfl) (by kernel_rfl) (by kernel_rfl) (fun _ _ _ h => h) (Or.inl ⟨by rfl, ?_⟩) (HS45.out _) ?_
  rotate_left
  (intro w hSw; obtain ⟨s4, s5⟩ := hSw; go_simp)
  try with_reducible rfl
  simp only [Act.put]
  refine wpAnyH_take (i := 7) (v := ?_) rfl (by kernel_rfl) (by kernel_rfl) (by kernel_rfl) (fun _ _ _ h => h) (Or.inl ⟨by rfl, ?_⟩) (HS45.out _) ?_
  rotate_left
  (intro w hSw; obtain ⟨s4, s5⟩ := hSw; go_simp)
  try with_reducible rfl
  simp only [Act.put]
  refine wpAnyH_take (i := 8) (v := ?_) rfl (by kernel_rfl) (by kernel_rfl) (by kernel_rfl) (fun _ _ _ h => h) (Or.inl ⟨by rfl, ?_⟩) (HS45.out _) ?_
  rotate_left
  (intro w hSw; obtain ⟨s4, s5⟩ := hSw; go_simp)
  try with_reducible rfl
  simp only [Act.put]
  refine wpAnyH_take (i := 9) (v := ?_) rfl (by kernel_rfl) (by kernel_rfl) (by kernel_rfl) (fun _ _ _ h => h) (Or.inl ⟨by rfl, ?_⟩) (HS45.out _) ?_
  rotate_left
  (intro w hSw; obtain ⟨s4, s5⟩ := hSw; go_simp)
  try with_reducible rfl
  simp only [Act.put]
  refine wpAnyH_take (i := 11) (v := ?_) rfl (by kernel_rfl) (by kernel_rfl) (by kernel_rfl) (fun _ _ _ h => h) (Or.inl ⟨by rfl, ?_⟩) (HS45.out _) ?_
  rotate_left
  (intro w hSw; obtain ⟨s4, s5⟩ := hSw; go_simp)
  try with_reducible rfl
  simp only [Act.put]
  refine wpAnyH_take (i := 12) (v := ?_) rfl (by kernel_rfl) (by kernel_rfl) (by kernel_rfl) (fun _ _ _ h => h) (Or.inl ⟨by rfl, ?_⟩) (HS45.out _) ?_
  rotate_left
  (intro w hSw; obtain ⟨s4, s5⟩ := hSw; go_simp)
  try with_reducible rfl
  simp only [Act.put]
  refine wpAnyH_take (i := 13) (v := ?_) rfl (by kernel_rfl) (by kernel_rfl) (by kernel_rfl) (fun _ _ _ h => h) (Or.inl ⟨by rfl, ?_⟩) (HS45.out _) ?_
  rotate_left
  (intro w hSw; obtain ⟨s4, s5⟩ := hSw; go_simp)
  try with_reducible rfl
  simp only [Act.put]
  refine wpAnyH_take (i := 14) (v := ?_) rfl (by kernel_rfl) (by kernel_rfl) (by kernel_rfl) (fun _ _ _ h => h) (Or.inl ⟨by rfl, ?_⟩) (HS45.out _) ?_
  rotate_left
  (intro w hSw; obtain ⟨s4, s5⟩ := hSw; go_simp)
  try with_reducible rfl
  simp only [Act.put]
  refine wpAnyH_take (i := 15) (v := ?_) rfl (by kernel_rfl) (by kernel_rfl) (by kernel_rfl) (fun _ _ _ h => h) (Or.inl ⟨by rfl, ?_⟩) (HS45.out _) ?_
  rotate_left
  (intro w hSw; obtain ⟨s4, s5⟩ := hSw; go_simp)
  try with_reducible rfl
  simp only [Act.put]
  refine wpAnyH_ready (rs := [10]) (by kernel_rfl) (by simp) ?_
  refine AllReadyH.cons rfl (fun K hK => ?_) AllReadyH.nil
  go_simp
  refine (hA _).mono ?_
  rintro e w1 ⟨rfl, hz⟩
  go_wp2_with fail
  refine hK.out _ _ (hZ _ hz) (fun _ => ?_)
  clear hK K
  refine wpAnyH_take (i := 16) (v := ?_) rfl (by kernel_rfl) (by kernel_rfl) (by kernel_rfl) (fun _ _ _ h => h) (Or.inl ⟨by rfl, ?_⟩) (hZ _ hz) ?_
  rotate_left
  (intro w hSw; obtain ⟨s4, s5⟩ := hSw; go_simp)
  try with_reducible rfl
  simp only [Act.put]
  refine wpAnyH_take (i := 17) (v := ?_) rfl (by kernel_rfl) (by kernel_rfl) (by kernel_rfl) (fun _ _ _ h => h) (Or.inl ⟨by rfl, ?_⟩) (hZ _ hz) ?_
  rotate_left
  (intro w hSw; obtain ⟨s4, s5⟩ := hSw; go_simp)
  try with_reducible rfl
  simp only [Act.put]
  refine wpAnyH_done (by kernel_rfl) (NoPanic.normal ?_) _
  go_wp2_with fail
  go_ret
  exact ⟨rfl, hz⟩

end Go.Proofs.Ytjhifhoniimfgaa

