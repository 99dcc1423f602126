import Derived.Test.YtjhifhoniimfgaaG36
import Derived.Test.YtjhifhoniimfgaaG37
/-
  A game: steps of a script: core, polls, acks, time.
-/
namespace Go.Proofs.Ytjhifhoniimfgaa
open Go.RowKit

set_option maxRecDepth 100000 in
set_option maxHeartbeats 1000000 in
theorem mv_core {own : Nat → Nat} {T : Nat} {w : World} {xb : Nat} {x : Gm} {N : Nat} (h : GAt own T w xb x N) (hT : 0 < T) (hN : N < 280999999999900) (K A B : Int) (hK1 : -9223372036854775808 ≤ K) (hK2 : K ≤ 9223372036854775807) (hA1 : -9223372036854775808 ≤ A) (hA2 : A ≤ 9223372036854775807) (hB1 : -9223372036854775808 ≤ B) (hB2 : B ≤ 9223372036854775807) (i : Nat) (hi : i = pickN B 8 / 7) (kd : Nat) (hkd : kd = pickN K 16) (hk : kd = 6 ∨ kd = 7 ∨ kd = 8 ∨ kd = 9) :
    Calls Try.prog 9 #[.pointer (some ⟨xb, 0, none⟩), .agg #[.int .i64 K, .int .i64 A, .int .i64 B]] w fun e w' => e = .returned (.tuple #[]) ∧ GGo own T w xb (coreG x) (N + 18) w' := by
  have pA := fun W => pick_any A 3 W (by omega) (by omega) hA1 hA2
  have pB := fun W => pick_any B 8 W (by omega) (by omega) hB1 hB2
  have pK := fun W => pick_any K 16 W (by omega) (by omega) hK1 hK2
  rw [← hkd] at pK
  have hc3 : pickN A 3 < 3 := pickN_lt _ _ (by omega)
  have hq8 : pickN B 8 < 8 := pickN_lt _ _ (by omega)
  obtain ⟨c, hc⟩ : ∃ c, c = pickN A 3 := ⟨_, rfl⟩
  obtain ⟨q, hq⟩ : ∃ q, q = pickN B 8 := ⟨_, rfl⟩
  rw [← hc] at pA hc3
  rw [← hq] at pB hq8 hi
  have hi2 : i < 2 := by omega
  have hiq : (q : Int) / 7 = (i : Int) := by omega
  obtain ⟨t1, t2⟩ := tdiv8 hB1 hB2
  obtain ⟨hG, hO, ho, hk0⟩ := h.box hT (.cells #[.int .i64 K, .int .i64 A, .int .i64 B] 27)
  have hbx : (w.alloc (.cells #[.int .i64 K, .int .i64 A, .int .i64 B] 27)).heap[w.heap.size]? = some (.cells #[.int .i64 K, .int .i64 A, .int .i64 B] 27 (0, 0)) := heap_alloc_new w _
  have x0 := cellAt (i := 0) hbx rfl
  have x1 := cellAt (i := 1) hbx rfl
  have x2 := cellAt (i := 2) hbx rfl
  generalize hW : w.alloc (.cells #[.int .i64 K, .int .i64 A, .int .i64 B] 27) = W0 at *
  generalize hown : ext own w.heap.size 0 = own0 at *
  have H := hideE hG
  have HO := hideE hO
  have HTR := hideE (show ∀ x' M w', GGo own0 T W0 xb x' M w' → GGo own T w xb x' M w' from fun x' M w' hg => GGo.trans ho hk0 hg)
  have HBX := hideE hbx
  have HW := hideE hW
  have hN' : N < 281000000000000 := by omega
  have HIQ := hideE hiq
  have hwr : IntKind.i64.wrap (B.tdiv 8) = B.tdiv 8 := by rw [IntKind.wrap_i64]; omega
  clear hG hO ho hk0 hbx hW hown h hkd hq hc hi hiq
  dsimp only [List.getElem_toArray, List.getElem_cons_zero, List.getElem_cons_succ] at x0 x1 x2
  rcases hk with rfl | rfl | rfl | rfl
  · have pK2 : ∀ W, Calls Try.prog 18 #[.int .i64 K, .int .i64 16] W fun e w' => e = .returned (.int .i64 6) ∧ W = w' := pK
    have CC := hideE (g_core H.out hT hN')
    have HR := hideE (show 0 < T ∧ N < 280999999999900 ∧ i < 2 ∧ -9223372036854775808 ≤ B.tdiv 8 ∧ B.tdiv 8 ≤ 9223372036854775807 from ⟨hT, hN, hi2, t1, t2⟩)
    clear pK hK1 hK2 hA1 hA2 hB1 hB2 hc3 hi2 hN hN' hT t1 t2 hwr
    go_enter Try.func9, Try.ntmps9
    go_wp2_with fail
    rw [HW.out]
    refine (pA _).mono ?_
    rintro e wz ⟨rfl, rfl⟩
    clear pA
    go_wp2_with fail
    refine (pB _).mono ?_
    rintro e wz ⟨rfl, rfl⟩
    clear pB
    go_wp2_with fail
    refine (pK2 _).mono ?_
    rintro e wz ⟨rfl, rfl⟩
    clear pK2
    rw [HIQ.out]
    go_wp2_with fail
    refine CC.out.mono ?_
    rintro e w1 ⟨rfl, hg⟩
    have KEY := hideE (HTR.out _ _ _ (hg.more (M := N + 18) (by omega)))
    clear hg
    go_wp2_with fail
    go_end0
    exact ⟨rfl, KEY.out⟩
  · have pK2 : ∀ W, Calls Try.prog 18 #[.int .i64 K, .int .i64 16] W fun e w' => e = .returned (.int .i64 7) ∧ W = w' := pK
    have CC := hideE (g_core H.out hT hN')
    have HR := hideE (show 0 < T ∧ N < 280999999999900 ∧ i < 2 ∧ -9223372036854775808 ≤ B.tdiv 8 ∧ B.tdiv 8 ≤ 9223372036854775807 from ⟨hT, hN, hi2, t1, t2⟩)
    clear pK hK1 hK2 hA1 hA2 hB1 hB2 hc3 hi2 hN hN' hT t1 t2 hwr
    go_enter Try.func9, Try.ntmps9
    go_wp2_with fail
    rw [HW.out]
    refine (pA _).mono ?_
    rintro e wz ⟨rfl, rfl⟩
    clear pA
    go_wp2_with fail
    refine (pB _).mono ?_
    rintro e wz ⟨rfl, rfl⟩
    clear pB
    go_wp2_with fail
    refine (pK2 _).mono ?_
    rintro e wz ⟨rfl, rfl⟩
    clear pK2
    rw [HIQ.out]
    go_wp2_with fail
    refine CC.out.mono ?_
    rintro e w1 ⟨rfl, hg⟩
    have KEY := hideE (HTR.out _ _ _ (hg.more (M := N + 18) (by omega)))
    clear hg
    go_wp2_with fail
    go_end0
    exact ⟨rfl, KEY.out⟩
  · have pK2 : ∀ W, Calls Try.prog 18 #[.int .i64 K, .int .i64 16] W fun e w' => e = .returned (.int .i64 8) ∧ W = w' := pK
    have CC := hideE (g_core H.out hT hN')
    have HR := hideE (show 0 < T ∧ N < 280999999999900 ∧ i < 2 ∧ -9223372036854775808 ≤ B.tdiv 8 ∧ B.tdiv 8 ≤ 9223372036854775807 from ⟨hT, hN, hi2, t1, t2⟩)
    clear pK hK1 hK2 hA1 hA2 hB1 hB2 hc3 hi2 hN hN' hT t1 t2 hwr
    go_enter Try.func9, Try.ntmps9
    go_wp2_with fail
    rw [HW.out]
    refine (pA _).mono ?_
    rintro e wz ⟨rfl, rfl⟩
    clear pA
    go_wp2_with fail
    refine (pB _).mono ?_
    rintro e wz ⟨rfl, rfl⟩
    clear pB
    go_wp2_with fail
    refine (pK2 _).mono ?_
    rintro e wz ⟨rfl, rfl⟩
    clear pK2
    rw [HIQ.out]
    go_wp2_with fail
    refine CC.out.mono ?_
    rintro e w1 ⟨rfl, hg⟩
    have KEY := hideE (HTR.out _ _ _ (hg.more (M := N + 18) (by omega)))
    clear hg
    go_wp2_with fail
    go_end0
    exact ⟨rfl, KEY.out⟩
  · have pK2 : ∀ W, Calls Try.prog 18 #[.int .i64 K, .int .i64 16] W fun e w' => e = .returned (.int .i64 9) ∧ W = w' := pK
    have CC := hideE (g_core H.out hT hN')
    have HR := hideE (show 0 < T ∧ N < 280999999999900 ∧ i < 2 ∧ -9223372036854775808 ≤ B.tdiv 8 ∧ B.tdiv 8 ≤ 9223372036854775807 from ⟨hT, hN, hi2, t1, t2⟩)
    clear pK hK1 hK2 hA1 hA2 hB1 hB2 hc3 hi2 hN hN' hT t1 t2 hwr
    go_enter Try.func9, Try.ntmps9
    go_wp2_with fail
    rw [HW.out]
    refine (pA _).mono ?_
    rintro e wz ⟨rfl, rfl⟩
    clear pA
    go_wp2_with fail
    refine (pB _).mono ?_
    rintro e wz ⟨rfl, rfl⟩
    clear pB
    go_wp2_with fail
    refine (pK2 _).mono ?_
    rintro e wz ⟨rfl, rfl⟩
    clear pK2
    rw [HIQ.out]
    go_wp2_with fail
    refine CC.out.mono ?_
    rintro e w1 ⟨rfl, hg⟩
    have KEY := hideE (HTR.out _ _ _ (hg.more (M := N + 18) (by omega)))
    clear hg
    go_wp2_with fail
    go_end0
    exact ⟨rfl, KEY.out⟩

set_option maxRecDepth 100000 in
set_option maxHeartbeats 1000000 in
theorem mv_poll {own : Nat → Nat} {T : Nat} {w : World} {xb : Nat} {x : Gm} {N : Nat} (h : GAt own T w xb x N) (hT : 0 < T) (hN : N < 280999999999900) (K A B : Int) (hK1 : -9223372036854775808 ≤ K) (hK2 : K ≤ 9223372036854775807) (hA1 : -9223372036854775808 ≤ A) (hA2 : A ≤ 9223372036854775807) (hB1 : -9223372036854775808 ≤ B) (hB2 : B ≤ 9223372036854775807) (i : Nat) (hi : i = pickN B 8 / 7) (kd : Nat) (hkd : kd = pickN K 16) (hk : kd = 10 ∨ kd = 11) :
    Calls Try.prog 9 #[.pointer (some ⟨xb, 0, none⟩), .agg #[.int .i64 K, .int .i64 A, .int .i64 B]] w fun e w' => e = .returned (.tuple #[]) ∧ GGo own T w xb (pollG x (pickN A 3)) (N + 18) w' := by
  have pA := fun W => pick_any A 3 W (by omega) (by omega) hA1 hA2
  have pB := fun W => pick_any B 8 W (by omega) (by omega) hB1 hB2
  have pK := fun W => pick_any K 16 W (by omega) (by omega) hK1 hK2
  rw [← hkd] at pK
  have hc3 : pickN A 3 < 3 := pickN_lt _ _ (by omega)
  have hq8 : pickN B 8 < 8 := pickN_lt _ _ (by omega)
  obtain ⟨c, hc⟩ : ∃ c, c = pickN A 3 := ⟨_, rfl⟩
  obtain ⟨q, hq⟩ : ∃ q, q = pickN B 8 := ⟨_, rfl⟩
  rw [← hc] at pA hc3 ⊢
  rw [← hq] at pB hq8 hi
  have hi2 : i < 2 := by omega
  have hiq : (q : Int) / 7 = (i : Int) := by omega
  obtain ⟨t1, t2⟩ := tdiv8 hB1 hB2
  obtain ⟨hG, hO, ho, hk0⟩ := h.box hT (.cells #[.int .i64 K, .int .i64 A, .int .i64 B] 27)
  have hbx : (w.alloc (.cells #[.int .i64 K, .int .i64 A, .int .i64 B] 27)).heap[w.heap.size]? = some (.cells #[.int .i64 K, .int .i64 A, .int .i64 B] 27 (0, 0)) := heap_alloc_new w _
  have x0 := cellAt (i := 0) hbx rfl
  have x1 := cellAt (i := 1) hbx rfl
  have x2 := cellAt (i := 2) hbx rfl
  generalize hW : w.alloc (.cells #[.int .i64 K, .int .i64 A, .int .i64 B] 27) = W0 at *
  generalize hown : ext own w.heap.size 0 = own0 at *
  have H := hideE hG
  have HO := hideE hO
  have HTR := hideE (show ∀ x' M w', GGo own0 T W0 xb x' M w' → GGo own T w xb x' M w' from fun x' M w' hg => GGo.trans ho hk0 hg)
  have HBX := hideE hbx
  have HW := hideE hW
  have hN' : N < 281000000000000 := by omega
  have HIQ := hideE hiq
  have hwr : IntKind.i64.wrap (B.tdiv 8) = B.tdiv 8 := by rw [IntKind.wrap_i64]; omega
  clear hG hO ho hk0 hbx hW hown h hkd hq hc hi hiq
  dsimp only [List.getElem_toArray, List.getElem_cons_zero, List.getElem_cons_succ] at x0 x1 x2
  rcases hk with rfl | rfl
  · have pK2 : ∀ W, Calls Try.prog 18 #[.int .i64 K, .int .i64 16] W fun e w' => e = .returned (.int .i64 10) ∧ W = w' := pK
    have CC := hideE (g_poll H.out hN' c hc3)
    have HR := hideE (show 0 < T ∧ N < 280999999999900 ∧ i < 2 ∧ -9223372036854775808 ≤ B.tdiv 8 ∧ B.tdiv 8 ≤ 9223372036854775807 from ⟨hT, hN, hi2, t1, t2⟩)
    clear pK hK1 hK2 hA1 hA2 hB1 hB2 hc3 hi2 hN hN' hT t1 t2 hwr
    go_enter Try.func9, Try.ntmps9
    go_wp2_with fail
    rw [HW.out]
    refine (pA _).mono ?_
    rintro e wz ⟨rfl, rfl⟩
    clear pA
    go_wp2_with fail
    refine (pB _).mono ?_
    rintro e wz ⟨rfl, rfl⟩
    clear pB
    go_wp2_with fail
    refine (pK2 _).mono ?_
    rintro e wz ⟨rfl, rfl⟩
    clear pK2
    rw [HIQ.out]
    go_wp2_with fail
    refine CC.out.mono ?_
    rintro e w1 ⟨rfl, hg⟩
    have KEY := hideE (HTR.out _ _ _ (hg.more (M := N + 18) (by omega)))
    clear hg
    go_wp2_with fail
    go_end0
    exact ⟨rfl, KEY.out⟩
  · have pK2 : ∀ W, Calls Try.prog 18 #[.int .i64 K, .int .i64 16] W fun e w' => e = .returned (.int .i64 11) ∧ W = w' := pK
    have CC := hideE (g_poll H.out hN' c hc3)
    have HR := hideE (show 0 < T ∧ N < 280999999999900 ∧ i < 2 ∧ -9223372036854775808 ≤ B.tdiv 8 ∧ B.tdiv 8 ≤ 9223372036854775807 from ⟨hT, hN, hi2, t1, t2⟩)
    clear pK hK1 hK2 hA1 hA2 hB1 hB2 hc3 hi2 hN hN' hT t1 t2 hwr
    go_enter Try.func9, Try.ntmps9
    go_wp2_with fail
    rw [HW.out]
    refine (pA _).mono ?_
    rintro e wz ⟨rfl, rfl⟩
    clear pA
    go_wp2_with fail
    refine (pB _).mono ?_
    rintro e wz ⟨rfl, rfl⟩
    clear pB
    go_wp2_with fail
    refine (pK2 _).mono ?_
    rintro e wz ⟨rfl, rfl⟩
    clear pK2
    rw [HIQ.out]
    go_wp2_with fail
    refine CC.out.mono ?_
    rintro e w1 ⟨rfl, hg⟩
    have KEY := hideE (HTR.out _ _ _ (hg.more (M := N + 18) (by omega)))
    clear hg
    go_wp2_with fail
    go_end0
    exact ⟨rfl, KEY.out⟩

set_option maxRecDepth 100000 in
set_option maxHeartbeats 1000000 in
theorem mv_acks {own : Nat → Nat} {T : Nat} {w : World} {xb : Nat} {x : Gm} {N : Nat} (h : GAt own T w xb x N) (hT : 0 < T) (hN : N < 280999999999900) (K A B : Int) (hK1 : -9223372036854775808 ≤ K) (hK2 : K ≤ 9223372036854775807) (hA1 : -9223372036854775808 ≤ A) (hA2 : A ≤ 9223372036854775807) (hB1 : -9223372036854775808 ≤ B) (hB2 : B ≤ 9223372036854775807) (i : Nat) (hi : i = pickN B 8 / 7) (kd : Nat) (hkd : kd = pickN K 16) (hk : kd = 12) :
    Calls Try.prog 9 #[.pointer (some ⟨xb, 0, none⟩), .agg #[.int .i64 K, .int .i64 A, .int .i64 B]] w fun e w' => e = .returned (.tuple #[]) ∧ GGo own T w xb (acksG x (pickN A 3)) (N + 18) w' := by
  have pA := fun W => pick_any A 3 W (by omega) (by omega) hA1 hA2
  have pB := fun W => pick_any B 8 W (by omega) (by omega) hB1 hB2
  have pK := fun W => pick_any K 16 W (by omega) (by omega) hK1 hK2
  rw [← hkd] at pK
  have hc3 : pickN A 3 < 3 := pickN_lt _ _ (by omega)
  have hq8 : pickN B 8 < 8 := pickN_lt _ _ (by omega)
  obtain ⟨c, hc⟩ : ∃ c, c = pickN A 3 := ⟨_, rfl⟩
  obtain ⟨q, hq⟩ : ∃ q, q = pickN B 8 := ⟨_, rfl⟩
  rw [← hc] at pA hc3 ⊢
  rw [← hq] at pB hq8 hi
  have hi2 : i < 2 := by omega
  have hiq : (q : Int) / 7 = (i : Int) := by omega
  obtain ⟨t1, t2⟩ := tdiv8 hB1 hB2
  obtain ⟨hG, hO, ho, hk0⟩ := h.box hT (.cells #[.int .i64 K, .int .i64 A, .int .i64 B] 27)
  have hbx : (w.alloc (.cells #[.int .i64 K, .int .i64 A, .int .i64 B] 27)).heap[w.heap.size]? = some (.cells #[.int .i64 K, .int .i64 A, .int .i64 B] 27 (0, 0)) := heap_alloc_new w _
  have x0 := cellAt (i := 0) hbx rfl
  have x1 := cellAt (i := 1) hbx rfl
  have x2 := cellAt (i := 2) hbx rfl
  generalize hW : w.alloc (.cells #[.int .i64 K, .int .i64 A, .int .i64 B] 27) = W0 at *
  generalize hown : ext own w.heap.size 0 = own0 at *
  have H := hideE hG
  have HO := hideE hO
  have HTR := hideE (show ∀ x' M w', GGo own0 T W0 xb x' M w' → GGo own T w xb x' M w' from fun x' M w' hg => GGo.trans ho hk0 hg)
  have HBX := hideE hbx
  have HW := hideE hW
  have hN' : N < 281000000000000 := by omega
  have HIQ := hideE hiq
  have hwr : IntKind.i64.wrap (B.tdiv 8) = B.tdiv 8 := by rw [IntKind.wrap_i64]; omega
  clear hG hO ho hk0 hbx hW hown h hkd hq hc hi hiq
  dsimp only [List.getElem_toArray, List.getElem_cons_zero, List.getElem_cons_succ] at x0 x1 x2
  subst hk
  have pK2 : ∀ W, Calls Try.prog 18 #[.int .i64 K, .int .i64 16] W fun e w' => e = .returned (.int .i64 12) ∧ W = w' := pK
  have CC := hideE (g_acks H.out hT hN' c hc3)
  have HR := hideE (show 0 < T ∧ N < 280999999999900 ∧ i < 2 ∧ -9223372036854775808 ≤ B.tdiv 8 ∧ B.tdiv 8 ≤ 9223372036854775807 from ⟨hT, hN, hi2, t1, t2⟩)
  clear pK hK1 hK2 hA1 hA2 hB1 hB2 hc3 hi2 hN hN' hT t1 t2 hwr
  go_enter Try.func9, Try.ntmps9
  go_wp2_with fail
  rw [HW.out]
  refine (pA _).mono ?_
  rintro e wz ⟨rfl, rfl⟩
  clear pA
  go_wp2_with fail
  refine (pB _).mono ?_
  rintro e wz ⟨rfl, rfl⟩
  clear pB
  go_wp2_with fail
  refine (pK2 _).mono ?_
  rintro e wz ⟨rfl, rfl⟩
  clear pK2
  rw [HIQ.out]
  go_wp2_with fail
  refine CC.out.mono ?_
  rintro e w1 ⟨rfl, hg⟩
  have KEY := hideE (HTR.out _ _ _ (hg.more (M := N + 18) (by omega)))
  clear hg
  go_wp2_with fail
  go_end0
  exact ⟨rfl, KEY.out⟩

set_option maxRecDepth 100000 in
set_option maxHeartbeats 1000000 in
theorem mv_tick {own : Nat → Nat} {T : Nat} {w : World} {xb : Nat} {x : Gm} {N : Nat} (h : GAt own T w xb x N) (hT : 0 < T) (hN : N < 280999999999900) (K A B : Int) (hK1 : -9223372036854775808 ≤ K) (hK2 : K ≤ 9223372036854775807) (hA1 : -9223372036854775808 ≤ A) (hA2 : A ≤ 9223372036854775807) (hB1 : -9223372036854775808 ≤ B) (hB2 : B ≤ 9223372036854775807) (i : Nat) (hi : i = pickN B 8 / 7) (kd : Nat) (hkd : kd = pickN K 16) (hk : kd = 13) :
    Calls Try.prog 9 #[.pointer (some ⟨xb, 0, none⟩), .agg #[.int .i64 K, .int .i64 A, .int .i64 B]] w fun e w' => e = .returned (.tuple #[]) ∧ GGo own T w xb (tickG x) (N + 18) w' := by
  have pA := fun W => pick_any A 3 W (by omega) (by omega) hA1 hA2
  have pB := fun W => pick_any B 8 W (by omega) (by omega) hB1 hB2
  have pK := fun W => pick_any K 16 W (by omega) (by omega) hK1 hK2
  rw [← hkd] at pK
  have hc3 : pickN A 3 < 3 := pickN_lt _ _ (by omega)
  have hq8 : pickN B 8 < 8 := pickN_lt _ _ (by omega)
  obtain ⟨c, hc⟩ : ∃ c, c = pickN A 3 := ⟨_, rfl⟩
  obtain ⟨q, hq⟩ : ∃ q, q = pickN B 8 := ⟨_, rfl⟩
  rw [← hc] at pA hc3
  rw [← hq] at pB hq8 hi
  have hi2 : i < 2 := by omega
  have hiq : (q : Int) / 7 = (i : Int) := by omega
  obtain ⟨t1, t2⟩ := tdiv8 hB1 hB2
  obtain ⟨hG, hO, ho, hk0⟩ := h.box hT (.cells #[.int .i64 K, .int .i64 A, .int .i64 B] 27)
  have hbx : (w.alloc (.cells #[.int .i64 K, .int .i64 A, .int .i64 B] 27)).heap[w.heap.size]? = some (.cells #[.int .i64 K, .int .i64 A, .int .i64 B] 27 (0, 0)) := heap_alloc_new w _
  have x0 := cellAt (i := 0) hbx rfl
  have x1 := cellAt (i := 1) hbx rfl
  have x2 := cellAt (i := 2) hbx rfl
  generalize hW : w.alloc (.cells #[.int .i64 K, .int .i64 A, .int .i64 B] 27) = W0 at *
  generalize hown : ext own w.heap.size 0 = own0 at *
  have H := hideE hG
  have HO := hideE hO
  have HTR := hideE (show ∀ x' M w', GGo own0 T W0 xb x' M w' → GGo own T w xb x' M w' from fun x' M w' hg => GGo.trans ho hk0 hg)
  have HBX := hideE hbx
  have HW := hideE hW
  have hN' : N < 281000000000000 := by omega
  have HIQ := hideE hiq
  have hwr : IntKind.i64.wrap (B.tdiv 8) = B.tdiv 8 := by rw [IntKind.wrap_i64]; omega
  clear hG hO ho hk0 hbx hW hown h hkd hq hc hi hiq
  dsimp only [List.getElem_toArray, List.getElem_cons_zero, List.getElem_cons_succ] at x0 x1 x2
  subst hk
  have pK2 : ∀ W, Calls Try.prog 18 #[.int .i64 K, .int .i64 16] W fun e w' => e = .returned (.int .i64 13) ∧ W = w' := pK
  have CC := hideE (g_tick H.out hN')
  have HR := hideE (show 0 < T ∧ N < 280999999999900 ∧ i < 2 ∧ -9223372036854775808 ≤ B.tdiv 8 ∧ B.tdiv 8 ≤ 9223372036854775807 from ⟨hT, hN, hi2, t1, t2⟩)
  clear pK hK1 hK2 hA1 hA2 hB1 hB2 hc3 hi2 hN hN' hT t1 t2 hwr
  go_enter Try.func9, Try.ntmps9
  go_wp2_with fail
  rw [HW.out]
  refine (pA _).mono ?_
  rintro e wz ⟨rfl, rfl⟩
  clear pA
  go_wp2_with fail
  refine (pB _).mono ?_
  rintro e wz ⟨rfl, rfl⟩
  clear pB
  go_wp2_with fail
  refine (pK2 _).mono ?_
  rintro e wz ⟨rfl, rfl⟩
  clear pK2
  rw [HIQ.out]
  go_wp2_with fail
  refine CC.out.mono ?_
  rintro e w1 ⟨rfl, hg⟩
  have KEY := hideE (HTR.out _ _ _ (hg.more (M := N + 18) (by omega)))
  clear hg
  go_wp2_with fail
  go_end0
  exact ⟨rfl, KEY.out⟩

set_option maxRecDepth 100000 in
set_option maxHeartbeats 1000000 in
theorem mv_watch {own : Nat → Nat} {T : Nat} {w : World} {xb : Nat} {x : Gm} {N : Nat} (h : GAt own T w xb x N) (hT : 0 < T) (hN : N < 280999999999900) (K A B : Int) (hK1 : -9223372036854775808 ≤ K) (hK2 : K ≤ 9223372036854775807) (hA1 : -9223372036854775808 ≤ A) (hA2 : A ≤ 9223372036854775807) (hB1 : -9223372036854775808 ≤ B) (hB2 : B ≤ 9223372036854775807) (i : Nat) (hi : i = pickN B 8 / 7) (kd : Nat) (hkd : kd = pickN K 16) (hk : kd = 14) :
    Calls Try.prog 9 #[.pointer (some ⟨xb, 0, none⟩), .agg #[.int .i64 K, .int .i64 A, .int .i64 B]] w fun e w' => e = .returned (.tuple #[]) ∧ GGo own T w xb (watchG x) (N + 2) w' := by
  have pA := fun W => pick_any A 3 W (by omega) (by omega) hA1 hA2
  have pB := fun W => pick_any B 8 W (by omega) (by omega) hB1 hB2
  have pK := fun W => pick_any K 16 W (by omega) (by omega) hK1 hK2
  rw [← hkd] at pK
  have hc3 : pickN A 3 < 3 := pickN_lt _ _ (by omega)
  have hq8 : pickN B 8 < 8 := pickN_lt _ _ (by omega)
  obtain ⟨c, hc⟩ : ∃ c, c = pickN A 3 := ⟨_, rfl⟩
  obtain ⟨q, hq⟩ : ∃ q, q = pickN B 8 := ⟨_, rfl⟩
  rw [← hc] at pA hc3
  rw [← hq] at pB hq8 hi
  have hi2 : i < 2 := by omega
  have hiq : (q : Int) / 7 = (i : Int) := by omega
  obtain ⟨t1, t2⟩ := tdiv8 hB1 hB2
  obtain ⟨hG, hO, ho, hk0⟩ := h.box hT (.cells #[.int .i64 K, .int .i64 A, .int .i64 B] 27)
  have hbx : (w.alloc (.cells #[.int .i64 K, .int .i64 A, .int .i64 B] 27)).heap[w.heap.size]? = some (.cells #[.int .i64 K, .int .i64 A, .int .i64 B] 27 (0, 0)) := heap_alloc_new w _
  have x0 := cellAt (i := 0) hbx rfl
  have x1 := cellAt (i := 1) hbx rfl
  have x2 := cellAt (i := 2) hbx rfl
  generalize hW : w.alloc (.cells #[.int .i64 K, .int .i64 A, .int .i64 B] 27) = W0 at *
  generalize hown : ext own w.heap.size 0 = own0 at *
  have H := hideE hG
  have HO := hideE hO
  have HTR := hideE (show ∀ x' M w', GGo own0 T W0 xb x' M w' → GGo own T w xb x' M w' from fun x' M w' hg => GGo.trans ho hk0 hg)
  have HBX := hideE hbx
  have HW := hideE hW
  have hN' : N < 281000000000000 := by omega
  have HIQ := hideE hiq
  have hwr : IntKind.i64.wrap (B.tdiv 8) = B.tdiv 8 := by rw [IntKind.wrap_i64]; omega
  clear hG hO ho hk0 hbx hW hown h hkd hq hc hi hiq
  dsimp only [List.getElem_toArray, List.getElem_cons_zero, List.getElem_cons_succ] at x0 x1 x2
  subst hk
  have pK2 : ∀ W, Calls Try.prog 18 #[.int .i64 K, .int .i64 16] W fun e w' => e = .returned (.int .i64 14) ∧ W = w' := pK
  have CC := hideE (g_watch H.out hN')
  have HR := hideE (show 0 < T ∧ N < 280999999999900 ∧ i < 2 ∧ -9223372036854775808 ≤ B.tdiv 8 ∧ B.tdiv 8 ≤ 9223372036854775807 from ⟨hT, hN, hi2, t1, t2⟩)
  clear pK hK1 hK2 hA1 hA2 hB1 hB2 hc3 hi2 hN hN' hT t1 t2 hwr
  go_enter Try.func9, Try.ntmps9
  go_wp2_with fail
  rw [HW.out]
  refine (pA _).mono ?_
  rintro e wz ⟨rfl, rfl⟩
  clear pA
  go_wp2_with fail
  refine (pB _).mono ?_
  rintro e wz ⟨rfl, rfl⟩
  clear pB
  go_wp2_with fail
  refine (pK2 _).mono ?_
  rintro e wz ⟨rfl, rfl⟩
  clear pK2
  rw [HIQ.out]
  go_wp2_with fail
  refine CC.out.mono ?_
  rintro e w1 ⟨rfl, hg⟩
  have KEY := hideE (HTR.out _ _ _ (hg.more (M := N + 2) (by omega)))
  clear hg
  go_wp2_with fail
  go_end0
  exact ⟨rfl, KEY.out⟩

set_option maxRecDepth 100000 in
set_option maxHeartbeats 1000000 in
theorem mv_three {own : Nat → Nat} {T : Nat} {w : World} {xb : Nat} {x : Gm} {N : Nat} (h : GAt own T w xb x N) (hT : 0 < T) (hN : N < 280999999999900) (K A B : Int) (hK1 : -9223372036854775808 ≤ K) (hK2 : K ≤ 9223372036854775807) (hA1 : -9223372036854775808 ≤ A) (hA2 : A ≤ 9223372036854775807) (hB1 : -9223372036854775808 ≤ B) (hB2 : B ≤ 9223372036854775807) (i : Nat) (hi : i = pickN B 8 / 7) (kd : Nat) (hkd : kd = pickN K 16) (hk : kd = 15) :
    Calls Try.prog 9 #[.pointer (some ⟨xb, 0, none⟩), .agg #[.int .i64 K, .int .i64 A, .int .i64 B]] w fun e w' => e = .returned (.tuple #[]) ∧ GGo own T w xb (watchG (coreG (tickG x))) (N + 18) w' := by
  have pA := fun W => pick_any A 3 W (by omega) (by omega) hA1 hA2
  have pB := fun W => pick_any B 8 W (by omega) (by omega) hB1 hB2
  have pK := fun W => pick_any K 16 W (by omega) (by omega) hK1 hK2
  rw [← hkd] at pK
  have hc3 : pickN A 3 < 3 := pickN_lt _ _ (by omega)
  have hq8 : pickN B 8 < 8 := pickN_lt _ _ (by omega)
  obtain ⟨c, hc⟩ : ∃ c, c = pickN A 3 := ⟨_, rfl⟩
  obtain ⟨q, hq⟩ : ∃ q, q = pickN B 8 := ⟨_, rfl⟩
  rw [← hc] at pA hc3
  rw [← hq] at pB hq8 hi
  have hi2 : i < 2 := by omega
  have hiq : (q : Int) / 7 = (i : Int) := by omega
  obtain ⟨t1, t2⟩ := tdiv8 hB1 hB2
  obtain ⟨hG, hO, ho, hk0⟩ := h.box hT (.cells #[.int .i64 K, .int .i64 A, .int .i64 B] 27)
  have hbx : (w.alloc (.cells #[.int .i64 K, .int .i64 A, .int .i64 B] 27)).heap[w.heap.size]? = some (.cells #[.int .i64 K, .int .i64 A, .int .i64 B] 27 (0, 0)) := heap_alloc_new w _
  have x0 := cellAt (i := 0) hbx rfl
  have x1 := cellAt (i := 1) hbx rfl
  have x2 := cellAt (i := 2) hbx rfl
  generalize hW : w.alloc (.cells #[.int .i64 K, .int .i64 A, .int .i64 B] 27) = W0 at *
  generalize hown : ext own w.heap.size 0 = own0 at *
  have H := hideE hG
  have HO := hideE hO
  have HTR := hideE (show ∀ x' M w', GGo own0 T W0 xb x' M w' → GGo own T w xb x' M w' from fun x' M w' hg => GGo.trans ho hk0 hg)
  have HBX := hideE hbx
  have HW := hideE hW
  have hN' : N < 281000000000000 := by omega
  have HIQ := hideE hiq
  have hwr : IntKind.i64.wrap (B.tdiv 8) = B.tdiv 8 := by rw [IntKind.wrap_i64]; omega
  clear hG hO ho hk0 hbx hW hown h hkd hq hc hi hiq
  dsimp only [List.getElem_toArray, List.getElem_cons_zero, List.getElem_cons_succ] at x0 x1 x2
  subst hk
  have pK2 : ∀ W, Calls Try.prog 18 #[.int .i64 K, .int .i64 16] W fun e w' => e = .returned (.int .i64 15) ∧ W = w' := pK
  have CC := hideE (g_tick H.out hN')
  have HR := hideE (show 0 < T ∧ N < 280999999999900 ∧ i < 2 ∧ -9223372036854775808 ≤ B.tdiv 8 ∧ B.tdiv 8 ≤ 9223372036854775807 from ⟨hT, hN, hi2, t1, t2⟩)
  clear pK hK1 hK2 hA1 hA2 hB1 hB2 hc3 hi2 hN hN' hT t1 t2 hwr
  go_enter Try.func9, Try.ntmps9
  go_wp2_with fail
  rw [HW.out]
  refine (pA _).mono ?_
  rintro e wz ⟨rfl, rfl⟩
  clear pA
  go_wp2_with fail
  refine (pB _).mono ?_
  rintro e wz ⟨rfl, rfl⟩
  clear pB
  go_wp2_with fail
  refine (pK2 _).mono ?_
  rintro e wz ⟨rfl, rfl⟩
  clear pK2
  rw [HIQ.out]
  go_wp2_with fail
  refine CC.out.mono ?_
  rintro e w1 ⟨rfl, hg⟩
  obtain ⟨own1, hG1, ho1, hk1⟩ := hg
  have F1 := hideE (show ∀ x' M w', GGo own1 T w1 xb x' M w' → GGo own T w xb x' M w' from fun x' M w' hg => HTR.out _ _ _ (GGo.trans ho1 hk1 hg))
  obtain ⟨hT, hN, hi2, t1, t2⟩ := HR.out
  have cc := g_core hG1 hT (by omega)
  clear hG1 ho1 hk1 hT hN hi2 t1 t2
  go_wp2_with fail
  refine cc.mono ?_
  rintro e w2 ⟨rfl, hg⟩
  obtain ⟨own2, hG2, ho2, hk2⟩ := hg
  have F2 := hideE (show ∀ x' M w', GGo own2 T w2 xb x' M w' → GGo own T w xb x' M w' from fun x' M w' hg => F1.out _ _ _ (GGo.trans ho2 hk2 hg))
  obtain ⟨hT, hN, hi2, t1, t2⟩ := HR.out
  have cw := g_watch hG2 (by omega)
  clear cc hG2 ho2 hk2 hT hN hi2 t1 t2
  go_wp2_with fail
  refine cw.mono ?_
  rintro e w3 ⟨rfl, hg⟩
  have KEY := hideE (F2.out _ _ _ (hg.more (M := N + 18) (by omega)))
  clear hg cw
  go_wp2_with fail
  go_end0
  exact ⟨rfl, KEY.out⟩

end Go.Proofs.Ytjhifhoniimfgaa

/-
  A game: steps of a script: any step.
-/
namespace Go.Proofs.Ytjhifhoniimfgaa
open Go.RowKit

theorem g_moves {own : Nat → Nat} {T : Nat} {w : World} {xb : Nat} {x : Gm} {N : Nat} (h : GAt own T w xb x N) (hT : 0 < T) (hN : N < 280999999999900) (K A B : Int) (hK1 : -9223372036854775808 ≤ K) (hK2 : K ≤ 9223372036854775807) (hA1 : -9223372036854775808 ≤ A) (hA2 : A ≤ 9223372036854775807) (hB1 : -9223372036854775808 ≤ B) (hB2 : B ≤ 9223372036854775807) :
    Calls Try.prog 9 #[.pointer (some ⟨xb, 0, none⟩), .agg #[.int .i64 K, .int .i64 A, .int .i64 B]] w fun e w' => e = .returned (.tuple #[]) ∧ GGo own T w xb (movesG x K A B) (N + 18) w' := by
  have hk16 : pickN K 16 < 16 := pickN_lt _ _ (by omega)
  unfold movesG
  obtain ⟨kd, hkd⟩ : ∃ kd, kd = pickN K 16 := ⟨_, rfl⟩
  obtain ⟨i, hi⟩ : ∃ i, i = pickN B 8 / 7 := ⟨_, rfl⟩
  rw [← hkd] at hk16 ⊢
  rw [← hi]
  by_cases c1 : kd < 3
  · rw [if_pos c1]
    cases hm : mayClaim x i with
    | true => exact mv_fill h hT hN K A B hK1 hK2 hA1 hA2 hB1 hB2 i hi kd hkd (by omega) hm
    | false => exact mv_fill_no h hT hN K A B hK1 hK2 hA1 hA2 hB1 hB2 i hi kd hkd (by omega) hm
  rw [if_neg c1]
  by_cases c2 : kd = 3
  · rw [if_pos c2]
    cases hm : mayClaim x i with
    | true => exact mv_claim h hT hN K A B hK1 hK2 hA1 hA2 hB1 hB2 i hi kd hkd c2 hm
    | false => exact mv_claim_no h hT hN K A B hK1 hK2 hA1 hA2 hB1 hB2 i hi kd hkd c2 hm
  rw [if_neg c2]
  by_cases c3 : kd < 6
  · rw [if_pos c3]
    cases hh : holeG x i A with
    | none => exact mv_hole_no h hT hN K A B hK1 hK2 hA1 hA2 hB1 hB2 i hi kd hkd (by omega) hh
    | some j =>
      obtain ⟨g, g1, g2, g3⟩ := holeG_some hh
      show Calls _ _ _ _ fun e w' => _ ∧ GGo own T w xb (match (x.L i)[j]? with | some g => fillG x i j _ g | none => x) _ w'
      rw [g1]
      exact mv_hole h hT hN K A B hK1 hK2 hA1 hA2 hB1 hB2 i hi kd hkd (by omega) j g hh g1 g2 g3
  rw [if_neg c3]
  by_cases c4 : kd < 10
  · rw [if_pos c4]; exact mv_core h hT hN K A B hK1 hK2 hA1 hA2 hB1 hB2 i hi kd hkd (by omega)
  rw [if_neg c4]
  by_cases c5 : kd < 12
  · rw [if_pos c5]; exact mv_poll h hT hN K A B hK1 hK2 hA1 hA2 hB1 hB2 i hi kd hkd (by omega)
  rw [if_neg c5]
  by_cases c6 : kd = 12
  · rw [if_pos c6]; exact mv_acks h hT hN K A B hK1 hK2 hA1 hA2 hB1 hB2 i hi kd hkd c6
  rw [if_neg c6]
  by_cases c7 : kd = 13
  · rw [if_pos c7]; exact mv_tick h hT hN K A B hK1 hK2 hA1 hA2 hB1 hB2 i hi kd hkd c7
  rw [if_neg c7]
  by_cases c8 : kd = 14
  · rw [if_pos c8]; exact (mv_watch h hT hN K A B hK1 hK2 hA1 hA2 hB1 hB2 i hi kd hkd c8).mono (fun e w' hh => ⟨hh.1, hh.2.more (by omega)⟩)
  rw [if_neg c8]
  exact mv_three h hT hN K A B hK1 hK2 hA1 hA2 hB1 hB2 i hi kd hkd (by omega)

theorem g_movesW {own : Nat → Nat} {T : Nat} {w : World} {xb : Nat} {x : Gm} {N : Nat} (h : GAt own T w xb x N) (hT : 0 < T) (hN : N < 280999999999900) (K A B : Int) (hK1 : -9223372036854775808 ≤ K) (hK2 : K ≤ 9223372036854775807) (hA1 : -9223372036854775808 ≤ A) (hA2 : A ≤ 9223372036854775807) (hB1 : -9223372036854775808 ≤ B) (hB2 : B ≤ 9223372036854775807) (hk : pickN K 16 = 14) :
    Calls Try.prog 9 #[.pointer (some ⟨xb, 0, none⟩), .agg #[.int .i64 K, .int .i64 A, .int .i64 B]] w fun e w' => e = .returned (.tuple #[]) ∧ GGo own T w xb (movesG x K A B) (N + 2) w' := by
  unfold movesG
  rw [hk, if_neg (by omega), if_neg (by omega), if_neg (by omega), if_neg (by omega), if_neg (by omega), if_neg (by omega), if_neg (by omega), if_pos rfl]
  exact mv_watch h hT hN K A B hK1 hK2 hA1 hA2 hB1 hB2 _ rfl 14 hk.symm rfl

end Go.Proofs.Ytjhifhoniimfgaa

