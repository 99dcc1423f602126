import Derived.Test.YtjhifhoniimfgaaG36
/-
  A game: steps of a script: a place is claimed and filled.
-/
namespace Go.Proofs.Ytjhifhoniimfgaa
open Go.RowKit

set_option maxRecDepth 100000 in
set_option maxHeartbeats 1000000 in
theorem mv_fill {own : Nat → Nat} {T : Nat} {w : World} {xb : Nat} {x : Gm} {N : Nat} (h : GAt own T w xb x N) (hT : 0 < T) (hN : N < 280999999999900) (K A B : Int) (hK1 : -9223372036854775808 ≤ K) (hK2 : K ≤ 9223372036854775807) (hA1 : -9223372036854775808 ≤ A) (hA2 : A ≤ 9223372036854775807) (hB1 : -9223372036854775808 ≤ B) (hB2 : B ≤ 9223372036854775807) (i : Nat) (hi : i = pickN B 8 / 7) (kd : Nat) (hkd : kd = pickN K 16) (hk : kd = 0 ∨ kd = 1 ∨ kd = 2) (hm : mayClaim x i = true) :
    Calls Try.prog 9 #[.pointer (some ⟨xb, 0, none⟩), .agg #[.int .i64 K, .int .i64 A, .int .i64 B]] w fun e w' => e = .returned (.tuple #[]) ∧ GGo own T w xb (fillG (claimG x (pickN A 3) i) i (x.L i).length (pickN (B.tdiv 8) 1099511627776) (Snt.new (pickN A 3) i)) (N + 18) w' := by
  have pA := fun W => pick_any A 3 W (by omega) (by omega) hA1 hA2
  have pB := fun W => pick_any B 8 W (by omega) (by omega) hB1 hB2
  have pK := fun W => pick_any K 16 W (by omega) (by omega) hK1 hK2
  rw [← hkd] at pK
  have hc3 : pickN A 3 < 3 := pickN_lt _ _ (by omega)
  have hq8 : pickN B 8 < 8 := pickN_lt _ _ (by omega)
  obtain ⟨c, hc⟩ : ∃ c, c = pickN A 3 := ⟨_, rfl⟩
  obtain ⟨q, hq⟩ : ∃ q, q = pickN B 8 := ⟨_, rfl⟩
  rw [← hc] at pA hc3 ⊢
  rw [← hq] at pB hq8 hi
  have hi2 : i < 2 := by omega
  have hiq : (q : Int) / 7 = (i : Int) := by omega
  obtain ⟨t1, t2⟩ := tdiv8 hB1 hB2
  obtain ⟨hG, hO, ho, hk0⟩ := h.box hT (.cells #[.int .i64 K, .int .i64 A, .int .i64 B] 27)
  have hbx : (w.alloc (.cells #[.int .i64 K, .int .i64 A, .int .i64 B] 27)).heap[w.heap.size]? = some (.cells #[.int .i64 K, .int .i64 A, .int .i64 B] 27 (0, 0)) := heap_alloc_new w _
  have x0 := cellAt (i := 0) hbx rfl
  have x1 := cellAt (i := 1) hbx rfl
  have x2 := cellAt (i := 2) hbx rfl
  generalize hW : w.alloc (.cells #[.int .i64 K, .int .i64 A, .int .i64 B] 27) = W0 at *
  generalize hown : ext own w.heap.size 0 = own0 at *
  have H := hideE hG
  have HO := hideE hO
  have HTR := hideE (show ∀ x' M w', GGo own0 T W0 xb x' M w' → GGo own T w xb x' M w' from fun x' M w' hg => GGo.trans ho hk0 hg)
  have HBX := hideE hbx
  have HW := hideE hW
  have hN' : N < 281000000000000 := by omega
  have HIQ := hideE hiq
  have hwr : IntKind.i64.wrap (B.tdiv 8) = B.tdiv 8 := by rw [IntKind.wrap_i64]; omega
  clear hG hO ho hk0 hbx hW hown h hkd hq hc hi hiq
  dsimp only [List.getElem_toArray, List.getElem_cons_zero, List.getElem_cons_succ] at x0 x1 x2
  rcases hk with rfl | rfl | rfl
  · have pK2 : ∀ W, Calls Try.prog 18 #[.int .i64 K, .int .i64 16] W fun e w' => e = .returned (.int .i64 0) ∧ W = w' := pK
    have CC := hideE (g_claim_yes H.out hN' c i hc3 hi2 hm)
    have HR := hideE (show 0 < T ∧ N < 280999999999900 ∧ i < 2 ∧ -9223372036854775808 ≤ B.tdiv 8 ∧ B.tdiv 8 ≤ 9223372036854775807 from ⟨hT, hN, hi2, t1, t2⟩)
    clear pK hK1 hK2 hA1 hA2 hB1 hB2 hc3 hi2 hN hN' hT
    go_enter Try.func9, Try.ntmps9
    go_wp2_with fail
    rw [HW.out]
    refine (pA _).mono ?_
    rintro e wz ⟨rfl, rfl⟩
    clear pA
    go_wp2_with fail
    refine (pB _).mono ?_
    rintro e wz ⟨rfl, rfl⟩
    clear pB
    go_wp2_with fail
    refine (pK2 _).mono ?_
    rintro e wz ⟨rfl, rfl⟩
    clear pK2
    rw [HIQ.out]
    go_wp2_with fail
    refine CC.out.mono ?_
    rintro e w1 ⟨rfl, hg⟩
    have y2 : w1.cell? ⟨w.heap.size, 2, none⟩ = some (.int .i64 B) := cellAt (i := 2) (hg.mem HBX.out HO.out) rfl
    obtain ⟨own1, hG1, ho1, hk1⟩ := hg
    obtain ⟨hT, hN, hi2, t1, t2⟩ := HR.out
    have hl : (x.L i).length = x.s.m i := H.out.inv.len i hi2
    have ht := (H.out.ok.mt i hi2).1
    have gn : ((claimG x c i).L i)[(x.L i).length]? = some (Snt.new c i) := by
      show (upN x.L i (x.L i ++ [Snt.new c i]) i)[(x.L i).length]? = _
      rw [upN_same, List.getElem?_append_right (Nat.le_refl _)]
      simp
    have gf := g_fill hG1 (by omega) i (x.L i).length hi2 (Snt.new c i) gn rfl (by show x.s.t i ≤ _; omega) (B.tdiv 8) t1 t2
    have F1 := hideE (show ∀ x' M w', GGo own1 T w1 xb x' M w' → GGo own T w xb x' M w' from fun x' M w' hg => HTR.out _ _ _ (GGo.trans ho1 hk1 hg))
    clear hG1 ho1 hk1 hl ht gn hT hN hi2
    go_wp2_with fail
    refine gf.mono ?_
    rintro e w2 ⟨rfl, hg2⟩
    have KEY := hideE (F1.out _ _ _ (hg2.more (M := N + 18) (by omega)))
    clear hg2 gf
    go_wp2_with fail
    go_end0
    exact ⟨rfl, KEY.out⟩
  · have pK2 : ∀ W, Calls Try.prog 18 #[.int .i64 K, .int .i64 16] W fun e w' => e = .returned (.int .i64 1) ∧ W = w' := pK
    have CC := hideE (g_claim_yes H.out hN' c i hc3 hi2 hm)
    have HR := hideE (show 0 < T ∧ N < 280999999999900 ∧ i < 2 ∧ -9223372036854775808 ≤ B.tdiv 8 ∧ B.tdiv 8 ≤ 9223372036854775807 from ⟨hT, hN, hi2, t1, t2⟩)
    clear pK hK1 hK2 hA1 hA2 hB1 hB2 hc3 hi2 hN hN' hT
    go_enter Try.func9, Try.ntmps9
    go_wp2_with fail
    rw [HW.out]
    refine (pA _).mono ?_
    rintro e wz ⟨rfl, rfl⟩
    clear pA
    go_wp2_with fail
    refine (pB _).mono ?_
    rintro e wz ⟨rfl, rfl⟩
    clear pB
    go_wp2_with fail
    refine (pK2 _).mono ?_
    rintro e wz ⟨rfl, rfl⟩
    clear pK2
    rw [HIQ.out]
    go_wp2_with fail
    refine CC.out.mono ?_
    rintro e w1 ⟨rfl, hg⟩
    have y2 : w1.cell? ⟨w.heap.size, 2, none⟩ = some (.int .i64 B) := cellAt (i := 2) (hg.mem HBX.out HO.out) rfl
    obtain ⟨own1, hG1, ho1, hk1⟩ := hg
    obtain ⟨hT, hN, hi2, t1, t2⟩ := HR.out
    have hl : (x.L i).length = x.s.m i := H.out.inv.len i hi2
    have ht := (H.out.ok.mt i hi2).1
    have gn : ((claimG x c i).L i)[(x.L i).length]? = some (Snt.new c i) := by
      show (upN x.L i (x.L i ++ [Snt.new c i]) i)[(x.L i).length]? = _
      rw [upN_same, List.getElem?_append_right (Nat.le_refl _)]
      simp
    have gf := g_fill hG1 (by omega) i (x.L i).length hi2 (Snt.new c i) gn rfl (by show x.s.t i ≤ _; omega) (B.tdiv 8) t1 t2
    have F1 := hideE (show ∀ x' M w', GGo own1 T w1 xb x' M w' → GGo own T w xb x' M w' from fun x' M w' hg => HTR.out _ _ _ (GGo.trans ho1 hk1 hg))
    clear hG1 ho1 hk1 hl ht gn hT hN hi2
    go_wp2_with fail
    refine gf.mono ?_
    rintro e w2 ⟨rfl, hg2⟩
    have KEY := hideE (F1.out _ _ _ (hg2.more (M := N + 18) (by omega)))
    clear hg2 gf
    go_wp2_with fail
    go_end0
    exact ⟨rfl, KEY.out⟩
  · have pK2 : ∀ W, Calls Try.prog 18 #[.int .i64 K, .int .i64 16] W fun e w' => e = .returned (.int .i64 2) ∧ W = w' := pK
    have CC := hideE (g_claim_yes H.out hN' c i hc3 hi2 hm)
    have HR := hideE (show 0 < T ∧ N < 280999999999900 ∧ i < 2 ∧ -9223372036854775808 ≤ B.tdiv 8 ∧ B.tdiv 8 ≤ 9223372036854775807 from ⟨hT, hN, hi2, t1, t2⟩)
    clear pK hK1 hK2 hA1 hA2 hB1 hB2 hc3 hi2 hN hN' hT
    go_enter Try.func9, Try.ntmps9
    go_wp2_with fail
    rw [HW.out]
    refine (pA _).mono ?_
    rintro e wz ⟨rfl, rfl⟩
    clear pA
    go_wp2_with fail
    refine (pB _).mono ?_
    rintro e wz ⟨rfl, rfl⟩
    clear pB
    go_wp2_with fail
    refine (pK2 _).mono ?_
    rintro e wz ⟨rfl, rfl⟩
    clear pK2
    rw [HIQ.out]
    go_wp2_with fail
    refine CC.out.mono ?_
    rintro e w1 ⟨rfl, hg⟩
    have y2 : w1.cell? ⟨w.heap.size, 2, none⟩ = some (.int .i64 B) := cellAt (i := 2) (hg.mem HBX.out HO.out) rfl
    obtain ⟨own1, hG1, ho1, hk1⟩ := hg
    obtain ⟨hT, hN, hi2, t1, t2⟩ := HR.out
    have hl : (x.L i).length = x.s.m i := H.out.inv.len i hi2
    have ht := (H.out.ok.mt i hi2).1
    have gn : ((claimG x c i).L i)[(x.L i).length]? = some (Snt.new c i) := by
      show (upN x.L i (x.L i ++ [Snt.new c i]) i)[(x.L i).length]? = _
      rw [upN_same, List.getElem?_append_right (Nat.le_refl _)]
      simp
    have gf := g_fill hG1 (by omega) i (x.L i).length hi2 (Snt.new c i) gn rfl (by show x.s.t i ≤ _; omega) (B.tdiv 8) t1 t2
    have F1 := hideE (show ∀ x' M w', GGo own1 T w1 xb x' M w' → GGo own T w xb x' M w' from fun x' M w' hg => HTR.out _ _ _ (GGo.trans ho1 hk1 hg))
    clear hG1 ho1 hk1 hl ht gn hT hN hi2
    go_wp2_with fail
    refine gf.mono ?_
    rintro e w2 ⟨rfl, hg2⟩
    have KEY := hideE (F1.out _ _ _ (hg2.more (M := N + 18) (by omega)))
    clear hg2 gf
    go_wp2_with fail
    go_end0
    exact ⟨rfl, KEY.out⟩

set_option maxRecDepth 100000 in
set_option maxHeartbeats 1000000 in
theorem mv_fill_no {own : Nat → Nat} {T : Nat} {w : World} {xb : Nat} {x : Gm} {N : Nat} (h : GAt own T w xb x N) (hT : 0 < T) (hN : N < 280999999999900) (K A B : Int) (hK1 : -9223372036854775808 ≤ K) (hK2 : K ≤ 9223372036854775807) (hA1 : -9223372036854775808 ≤ A) (hA2 : A ≤ 9223372036854775807) (hB1 : -9223372036854775808 ≤ B) (hB2 : B ≤ 9223372036854775807) (i : Nat) (hi : i = pickN B 8 / 7) (kd : Nat) (hkd : kd = pickN K 16) (hk : kd = 0 ∨ kd = 1 ∨ kd = 2) (hm : mayClaim x i = false) :
    Calls Try.prog 9 #[.pointer (some ⟨xb, 0, none⟩), .agg #[.int .i64 K, .int .i64 A, .int .i64 B]] w fun e w' => e = .returned (.tuple #[]) ∧ GGo own T w xb (x) (N + 18) w' := by
  have pA := fun W => pick_any A 3 W (by omega) (by omega) hA1 hA2
  have pB := fun W => pick_any B 8 W (by omega) (by omega) hB1 hB2
  have pK := fun W => pick_any K 16 W (by omega) (by omega) hK1 hK2
  rw [← hkd] at pK
  have hc3 : pickN A 3 < 3 := pickN_lt _ _ (by omega)
  have hq8 : pickN B 8 < 8 := pickN_lt _ _ (by omega)
  obtain ⟨c, hc⟩ : ∃ c, c = pickN A 3 := ⟨_, rfl⟩
  obtain ⟨q, hq⟩ : ∃ q, q = pickN B 8 := ⟨_, rfl⟩
  rw [← hc] at pA hc3
  rw [← hq] at pB hq8 hi
  have hi2 : i < 2 := by omega
  have hiq : (q : Int) / 7 = (i : Int) := by omega
  obtain ⟨t1, t2⟩ := tdiv8 hB1 hB2
  obtain ⟨hG, hO, ho, hk0⟩ := h.box hT (.cells #[.int .i64 K, .int .i64 A, .int .i64 B] 27)
  have hbx : (w.alloc (.cells #[.int .i64 K, .int .i64 A, .int .i64 B] 27)).heap[w.heap.size]? = some (.cells #[.int .i64 K, .int .i64 A, .int .i64 B] 27 (0, 0)) := heap_alloc_new w _
  have x0 := cellAt (i := 0) hbx rfl
  have x1 := cellAt (i := 1) hbx rfl
  have x2 := cellAt (i := 2) hbx rfl
  generalize hW : w.alloc (.cells #[.int .i64 K, .int .i64 A, .int .i64 B] 27) = W0 at *
  generalize hown : ext own w.heap.size 0 = own0 at *
  have H := hideE hG
  have HO := hideE hO
  have HTR := hideE (show ∀ x' M w', GGo own0 T W0 xb x' M w' → GGo own T w xb x' M w' from fun x' M w' hg => GGo.trans ho hk0 hg)
  have HBX := hideE hbx
  have HW := hideE hW
  have hN' : N < 281000000000000 := by omega
  have HIQ := hideE hiq
  have hwr : IntKind.i64.wrap (B.tdiv 8) = B.tdiv 8 := by rw [IntKind.wrap_i64]; omega
  clear hG hO ho hk0 hbx hW hown h hkd hq hc hi hiq
  dsimp only [List.getElem_toArray, List.getElem_cons_zero, List.getElem_cons_succ] at x0 x1 x2
  rcases hk with rfl | rfl | rfl
  · have pK2 : ∀ W, Calls Try.prog 18 #[.int .i64 K, .int .i64 16] W fun e w' => e = .returned (.int .i64 0) ∧ W = w' := pK
    have CC := hideE (g_claim_no H.out hN' c i hc3 hi2 hm)
    have HR := hideE (show 0 < T ∧ N < 280999999999900 ∧ i < 2 ∧ -9223372036854775808 ≤ B.tdiv 8 ∧ B.tdiv 8 ≤ 9223372036854775807 from ⟨hT, hN, hi2, t1, t2⟩)
    clear pK hK1 hK2 hA1 hA2 hB1 hB2 hc3 hi2 hN hN' hT
    go_enter Try.func9, Try.ntmps9
    go_wp2_with fail
    rw [HW.out]
    refine (pA _).mono ?_
    rintro e wz ⟨rfl, rfl⟩
    clear pA
    go_wp2_with fail
    refine (pB _).mono ?_
    rintro e wz ⟨rfl, rfl⟩
    clear pB
    go_wp2_with fail
    refine (pK2 _).mono ?_
    rintro e wz ⟨rfl, rfl⟩
    clear pK2
    rw [HIQ.out]
    go_wp2_with fail
    refine CC.out.mono ?_
    rintro e w1 ⟨rfl, hg⟩
    have y2 : w1.cell? ⟨w.heap.size, 2, none⟩ = some (.int .i64 B) := cellAt (i := 2) (hg.mem HBX.out HO.out) rfl
    have KEY := hideE (HTR.out _ _ _ (hg.more (M := N + 18) (by omega)))
    clear hg
    go_wp2_with fail
    refine (g_fill_none _ _ _).mono ?_
    rintro e w2 ⟨rfl, rfl⟩
    go_wp2_with fail
    go_end0
    exact ⟨rfl, KEY.out⟩
  · have pK2 : ∀ W, Calls Try.prog 18 #[.int .i64 K, .int .i64 16] W fun e w' => e = .returned (.int .i64 1) ∧ W = w' := pK
    have CC := hideE (g_claim_no H.out hN' c i hc3 hi2 hm)
    have HR := hideE (show 0 < T ∧ N < 280999999999900 ∧ i < 2 ∧ -9223372036854775808 ≤ B.tdiv 8 ∧ B.tdiv 8 ≤ 9223372036854775807 from ⟨hT, hN, hi2, t1, t2⟩)
    clear pK hK1 hK2 hA1 hA2 hB1 hB2 hc3 hi2 hN hN' hT
    go_enter Try.func9, Try.ntmps9
    go_wp2_with fail
    rw [HW.out]
    refine (pA _).mono ?_
    rintro e wz ⟨rfl, rfl⟩
    clear pA
    go_wp2_with fail
    refine (pB _).mono ?_
    rintro e wz ⟨rfl, rfl⟩
    clear pB
    go_wp2_with fail
    refine (pK2 _).mono ?_
    rintro e wz ⟨rfl, rfl⟩
    clear pK2
    rw [HIQ.out]
    go_wp2_with fail
    refine CC.out.mono ?_
    rintro e w1 ⟨rfl, hg⟩
    have y2 : w1.cell? ⟨w.heap.size, 2, none⟩ = some (.int .i64 B) := cellAt (i := 2) (hg.mem HBX.out HO.out) rfl
    have KEY := hideE (HTR.out _ _ _ (hg.more (M := N + 18) (by omega)))
    clear hg
    go_wp2_with fail
    refine (g_fill_none _ _ _).mono ?_
    rintro e w2 ⟨rfl, rfl⟩
    go_wp2_with fail
    go_end0
    exact ⟨rfl, KEY.out⟩
  · have pK2 : ∀ W, Calls Try.prog 18 #[.int .i64 K, .int .i64 16] W fun e w' => e = .returned (.int .i64 2) ∧ W = w' := pK
    have CC := hideE (g_claim_no H.out hN' c i hc3 hi2 hm)
    have HR := hideE (show 0 < T ∧ N < 280999999999900 ∧ i < 2 ∧ -9223372036854775808 ≤ B.tdiv 8 ∧ B.tdiv 8 ≤ 9223372036854775807 from ⟨hT, hN, hi2, t1, t2⟩)
    clear pK hK1 hK2 hA1 hA2 hB1 hB2 hc3 hi2 hN hN' hT
    go_enter Try.func9, Try.ntmps9
    go_wp2_with fail
    rw [HW.out]
    refine (pA _).mono ?_
    rintro e wz ⟨rfl, rfl⟩
    clear pA
    go_wp2_with fail
    refine (pB _).mono ?_
    rintro e wz ⟨rfl, rfl⟩
    clear pB
    go_wp2_with fail
    refine (pK2 _).mono ?_
    rintro e wz ⟨rfl, rfl⟩
    clear pK2
    rw [HIQ.out]
    go_wp2_with fail
    refine CC.out.mono ?_
    rintro e w1 ⟨rfl, hg⟩
    have y2 : w1.cell? ⟨w.heap.size, 2, none⟩ = some (.int .i64 B) := cellAt (i := 2) (hg.mem HBX.out HO.out) rfl
    have KEY := hideE (HTR.out _ _ _ (hg.more (M := N + 18) (by omega)))
    clear hg
    go_wp2_with fail
    refine (g_fill_none _ _ _).mono ?_
    rintro e w2 ⟨rfl, rfl⟩
    go_wp2_with fail
    go_end0
    exact ⟨rfl, KEY.out⟩

end Go.Proofs.Ytjhifhoniimfgaa

/-
  A game: steps of a script: a place is claimed, or filled.
-/
namespace Go.Proofs.Ytjhifhoniimfgaa
open Go.RowKit

set_option maxRecDepth 100000 in
set_option maxHeartbeats 1000000 in
theorem mv_claim {own : Nat → Nat} {T : Nat} {w : World} {xb : Nat} {x : Gm} {N : Nat} (h : GAt own T w xb x N) (hT : 0 < T) (hN : N < 280999999999900) (K A B : Int) (hK1 : -9223372036854775808 ≤ K) (hK2 : K ≤ 9223372036854775807) (hA1 : -9223372036854775808 ≤ A) (hA2 : A ≤ 9223372036854775807) (hB1 : -9223372036854775808 ≤ B) (hB2 : B ≤ 9223372036854775807) (i : Nat) (hi : i = pickN B 8 / 7) (kd : Nat) (hkd : kd = pickN K 16) (hk : kd = 3) (hm : mayClaim x i = true) :
    Calls Try.prog 9 #[.pointer (some ⟨xb, 0, none⟩), .agg #[.int .i64 K, .int .i64 A, .int .i64 B]] w fun e w' => e = .returned (.tuple #[]) ∧ GGo own T w xb (claimG x (pickN A 3) i) (N + 18) w' := by
  have pA := fun W => pick_any A 3 W (by omega) (by omega) hA1 hA2
  have pB := fun W => pick_any B 8 W (by omega) (by omega) hB1 hB2
  have pK := fun W => pick_any K 16 W (by omega) (by omega) hK1 hK2
  rw [← hkd] at pK
  have hc3 : pickN A 3 < 3 := pickN_lt _ _ (by omega)
  have hq8 : pickN B 8 < 8 := pickN_lt _ _ (by omega)
  obtain ⟨c, hc⟩ : ∃ c, c = pickN A 3 := ⟨_, rfl⟩
  obtain ⟨q, hq⟩ : ∃ q, q = pickN B 8 := ⟨_, rfl⟩
  rw [← hc] at pA hc3 ⊢
  rw [← hq] at pB hq8 hi
  have hi2 : i < 2 := by omega
  have hiq : (q : Int) / 7 = (i : Int) := by omega
  obtain ⟨t1, t2⟩ := tdiv8 hB1 hB2
  obtain ⟨hG, hO, ho, hk0⟩ := h.box hT (.cells #[.int .i64 K, .int .i64 A, .int .i64 B] 27)
  have hbx : (w.alloc (.cells #[.int .i64 K, .int .i64 A, .int .i64 B] 27)).heap[w.heap.size]? = some (.cells #[.int .i64 K, .int .i64 A, .int .i64 B] 27 (0, 0)) := heap_alloc_new w _
  have x0 := cellAt (i := 0) hbx rfl
  have x1 := cellAt (i := 1) hbx rfl
  have x2 := cellAt (i := 2) hbx rfl
  generalize hW : w.alloc (.cells #[.int .i64 K, .int .i64 A, .int .i64 B] 27) = W0 at *
  generalize hown : ext own w.heap.size 0 = own0 at *
  have H := hideE hG
  have HO := hideE hO
  have HTR := hideE (show ∀ x' M w', GGo own0 T W0 xb x' M w' → GGo own T w xb x' M w' from fun x' M w' hg => GGo.trans ho hk0 hg)
  have HBX := hideE hbx
  have HW := hideE hW
  have hN' : N < 281000000000000 := by omega
  have HIQ := hideE hiq
  have hwr : IntKind.i64.wrap (B.tdiv 8) = B.tdiv 8 := by rw [IntKind.wrap_i64]; omega
  clear hG hO ho hk0 hbx hW hown h hkd hq hc hi hiq
  dsimp only [List.getElem_toArray, List.getElem_cons_zero, List.getElem_cons_succ] at x0 x1 x2
  subst hk
  have pK2 : ∀ W, Calls Try.prog 18 #[.int .i64 K, .int .i64 16] W fun e w' => e = .returned (.int .i64 3) ∧ W = w' := pK
  have CC := hideE (g_claim_yes H.out hN' c i hc3 hi2 hm)
  have HR := hideE (show 0 < T ∧ N < 280999999999900 ∧ i < 2 ∧ -9223372036854775808 ≤ B.tdiv 8 ∧ B.tdiv 8 ≤ 9223372036854775807 from ⟨hT, hN, hi2, t1, t2⟩)
  clear pK hK1 hK2 hA1 hA2 hB1 hB2 hc3 hi2 hN hN' hT t1 t2 hwr
  go_enter Try.func9, Try.ntmps9
  go_wp2_with fail
  rw [HW.out]
  refine (pA _).mono ?_
  rintro e wz ⟨rfl, rfl⟩
  clear pA
  go_wp2_with fail
  refine (pB _).mono ?_
  rintro e wz ⟨rfl, rfl⟩
  clear pB
  go_wp2_with fail
  refine (pK2 _).mono ?_
  rintro e wz ⟨rfl, rfl⟩
  clear pK2
  rw [HIQ.out]
  go_wp2_with fail
  refine CC.out.mono ?_
  rintro e w1 ⟨rfl, hg⟩
  have KEY := hideE (HTR.out _ _ _ (hg.more (M := N + 18) (by omega)))
  clear hg
  go_wp2_with fail
  go_end0
  exact ⟨rfl, KEY.out⟩

set_option maxRecDepth 100000 in
set_option maxHeartbeats 1000000 in
theorem mv_claim_no {own : Nat → Nat} {T : Nat} {w : World} {xb : Nat} {x : Gm} {N : Nat} (h : GAt own T w xb x N) (hT : 0 < T) (hN : N < 280999999999900) (K A B : Int) (hK1 : -9223372036854775808 ≤ K) (hK2 : K ≤ 9223372036854775807) (hA1 : -9223372036854775808 ≤ A) (hA2 : A ≤ 9223372036854775807) (hB1 : -9223372036854775808 ≤ B) (hB2 : B ≤ 9223372036854775807) (i : Nat) (hi : i = pickN B 8 / 7) (kd : Nat) (hkd : kd = pickN K 16) (hk : kd = 3) (hm : mayClaim x i = false) :
    Calls Try.prog 9 #[.pointer (some ⟨xb, 0, none⟩), .agg #[.int .i64 K, .int .i64 A, .int .i64 B]] w fun e w' => e = .returned (.tuple #[]) ∧ GGo own T w xb (x) (N + 18) w' := by
  have pA := fun W => pick_any A 3 W (by omega) (by omega) hA1 hA2
  have pB := fun W => pick_any B 8 W (by omega) (by omega) hB1 hB2
  have pK := fun W => pick_any K 16 W (by omega) (by omega) hK1 hK2
  rw [← hkd] at pK
  have hc3 : pickN A 3 < 3 := pickN_lt _ _ (by omega)
  have hq8 : pickN B 8 < 8 := pickN_lt _ _ (by omega)
  obtain ⟨c, hc⟩ : ∃ c, c = pickN A 3 := ⟨_, rfl⟩
  obtain ⟨q, hq⟩ : ∃ q, q = pickN B 8 := ⟨_, rfl⟩
  rw [← hc] at pA hc3
  rw [← hq] at pB hq8 hi
  have hi2 : i < 2 := by omega
  have hiq : (q : Int) / 7 = (i : Int) := by omega
  obtain ⟨t1, t2⟩ := tdiv8 hB1 hB2
  obtain ⟨hG, hO, ho, hk0⟩ := h.box hT (.cells #[.int .i64 K, .int .i64 A, .int .i64 B] 27)
  have hbx : (w.alloc (.cells #[.int .i64 K, .int .i64 A, .int .i64 B] 27)).heap[w.heap.size]? = some (.cells #[.int .i64 K, .int .i64 A, .int .i64 B] 27 (0, 0)) := heap_alloc_new w _
  have x0 := cellAt (i := 0) hbx rfl
  have x1 := cellAt (i := 1) hbx rfl
  have x2 := cellAt (i := 2) hbx rfl
  generalize hW : w.alloc (.cells #[.int .i64 K, .int .i64 A, .int .i64 B] 27) = W0 at *
  generalize hown : ext own w.heap.size 0 = own0 at *
  have H := hideE hG
  have HO := hideE hO
  have HTR := hideE (show ∀ x' M w', GGo own0 T W0 xb x' M w' → GGo own T w xb x' M w' from fun x' M w' hg => GGo.trans ho hk0 hg)
  have HBX := hideE hbx
  have HW := hideE hW
  have hN' : N < 281000000000000 := by omega
  have HIQ := hideE hiq
  have hwr : IntKind.i64.wrap (B.tdiv 8) = B.tdiv 8 := by rw [IntKind.wrap_i64]; omega
  clear hG hO ho hk0 hbx hW hown h hkd hq hc hi hiq
  dsimp only [List.getElem_toArray, List.getElem_cons_zero, List.getElem_cons_succ] at x0 x1 x2
  subst hk
  have pK2 : ∀ W, Calls Try.prog 18 #[.int .i64 K, .int .i64 16] W fun e w' => e = .returned (.int .i64 3) ∧ W = w' := pK
  have CC := hideE (g_claim_no H.out hN' c i hc3 hi2 hm)
  have HR := hideE (show 0 < T ∧ N < 280999999999900 ∧ i < 2 ∧ -9223372036854775808 ≤ B.tdiv 8 ∧ B.tdiv 8 ≤ 9223372036854775807 from ⟨hT, hN, hi2, t1, t2⟩)
  clear pK hK1 hK2 hA1 hA2 hB1 hB2 hc3 hi2 hN hN' hT t1 t2 hwr
  go_enter Try.func9, Try.ntmps9
  go_wp2_with fail
  rw [HW.out]
  refine (pA _).mono ?_
  rintro e wz ⟨rfl, rfl⟩
  clear pA
  go_wp2_with fail
  refine (pB _).mono ?_
  rintro e wz ⟨rfl, rfl⟩
  clear pB
  go_wp2_with fail
  refine (pK2 _).mono ?_
  rintro e wz ⟨rfl, rfl⟩
  clear pK2
  rw [HIQ.out]
  go_wp2_with fail
  refine CC.out.mono ?_
  rintro e w1 ⟨rfl, hg⟩
  have KEY := hideE (HTR.out _ _ _ (hg.more (M := N + 18) (by omega)))
  clear hg
  go_wp2_with fail
  go_end0
  exact ⟨rfl, KEY.out⟩

set_option maxRecDepth 100000 in
set_option maxHeartbeats 1000000 in
theorem mv_hole {own : Nat → Nat} {T : Nat} {w : World} {xb : Nat} {x : Gm} {N : Nat} (h : GAt own T w xb x N) (hT : 0 < T) (hN : N < 280999999999900) (K A B : Int) (hK1 : -9223372036854775808 ≤ K) (hK2 : K ≤ 9223372036854775807) (hA1 : -9223372036854775808 ≤ A) (hA2 : A ≤ 9223372036854775807) (hB1 : -9223372036854775808 ≤ B) (hB2 : B ≤ 9223372036854775807) (i : Nat) (hi : i = pickN B 8 / 7) (kd : Nat) (hkd : kd = pickN K 16) (hk : kd = 4 ∨ kd = 5) (j : Nat) (g : Snt) (hh : holeG x i A = some j) (hg : (x.L i)[j]? = some g) (hf : g.filled = false) (htj : x.s.t i ≤ j) :
    Calls Try.prog 9 #[.pointer (some ⟨xb, 0, none⟩), .agg #[.int .i64 K, .int .i64 A, .int .i64 B]] w fun e w' => e = .returned (.tuple #[]) ∧ GGo own T w xb (fillG x i j (pickN (B.tdiv 8) 1099511627776) g) (N + 18) w' := by
  have pA := fun W => pick_any A 3 W (by omega) (by omega) hA1 hA2
  have pB := fun W => pick_any B 8 W (by omega) (by omega) hB1 hB2
  have pK := fun W => pick_any K 16 W (by omega) (by omega) hK1 hK2
  rw [← hkd] at pK
  have hc3 : pickN A 3 < 3 := pickN_lt _ _ (by omega)
  have hq8 : pickN B 8 < 8 := pickN_lt _ _ (by omega)
  obtain ⟨c, hc⟩ : ∃ c, c = pickN A 3 := ⟨_, rfl⟩
  obtain ⟨q, hq⟩ : ∃ q, q = pickN B 8 := ⟨_, rfl⟩
  rw [← hc] at pA hc3
  rw [← hq] at pB hq8 hi
  have hi2 : i < 2 := by omega
  have hiq : (q : Int) / 7 = (i : Int) := by omega
  obtain ⟨t1, t2⟩ := tdiv8 hB1 hB2
  obtain ⟨hG, hO, ho, hk0⟩ := h.box hT (.cells #[.int .i64 K, .int .i64 A, .int .i64 B] 27)
  have hbx : (w.alloc (.cells #[.int .i64 K, .int .i64 A, .int .i64 B] 27)).heap[w.heap.size]? = some (.cells #[.int .i64 K, .int .i64 A, .int .i64 B] 27 (0, 0)) := heap_alloc_new w _
  have x0 := cellAt (i := 0) hbx rfl
  have x1 := cellAt (i := 1) hbx rfl
  have x2 := cellAt (i := 2) hbx rfl
  generalize hW : w.alloc (.cells #[.int .i64 K, .int .i64 A, .int .i64 B] 27) = W0 at *
  generalize hown : ext own w.heap.size 0 = own0 at *
  have H := hideE hG
  have HO := hideE hO
  have HTR := hideE (show ∀ x' M w', GGo own0 T W0 xb x' M w' → GGo own T w xb x' M w' from fun x' M w' hg => GGo.trans ho hk0 hg)
  have HBX := hideE hbx
  have HW := hideE hW
  have hN' : N < 281000000000000 := by omega
  have HIQ := hideE hiq
  have hwr : IntKind.i64.wrap (B.tdiv 8) = B.tdiv 8 := by rw [IntKind.wrap_i64]; omega
  clear hG hO ho hk0 hbx hW hown h hkd hq hc hi hiq
  dsimp only [List.getElem_toArray, List.getElem_cons_zero, List.getElem_cons_succ] at x0 x1 x2
  rcases hk with rfl | rfl
  · have pK2 : ∀ W, Calls Try.prog 18 #[.int .i64 K, .int .i64 16] W fun e w' => e = .returned (.int .i64 4) ∧ W = w' := pK
    have CC := hideE (hole_walk H.out hN' i (by omega) A hA1 hA2)
    have HR := hideE (show 0 < T ∧ N < 280999999999900 ∧ i < 2 ∧ -9223372036854775808 ≤ B.tdiv 8 ∧ B.tdiv 8 ≤ 9223372036854775807 from ⟨hT, hN, hi2, t1, t2⟩)
    clear pK hK1 hK2 hA1 hA2 hB1 hB2 hc3 hi2 hN hN' hT
    go_enter Try.func9, Try.ntmps9
    go_wp2_with fail
    rw [HW.out]
    refine (pA _).mono ?_
    rintro e wz ⟨rfl, rfl⟩
    clear pA
    go_wp2_with fail
    refine (pB _).mono ?_
    rintro e wz ⟨rfl, rfl⟩
    clear pB
    go_wp2_with fail
    refine (pK2 _).mono ?_
    rintro e wz ⟨rfl, rfl⟩
    clear pK2
    rw [HIQ.out]
    go_wp2_with fail
    refine CC.out.mono ?_
    rintro e w1 ⟨rfl, hb⟩
    rw [hh]
    have kT : Keep (fun _ => True) W0 w1 := Keep.ofBelow hb
    have hG1 : GAt own0 T w1 xb x N := H.out.keep kT (fun _ _ _ _ => trivial) (Same.refl _ _)
    have y2 : w1.cell? ⟨w.heap.size, 2, none⟩ = some (.int .i64 B) := cellAt (i := 2) (kT.get HBX.out trivial) rfl
    obtain ⟨hT, hN, hi2, t1, t2⟩ := HR.out
    have gf := g_fill hG1 (by omega) i j hi2 g hg hf htj (B.tdiv 8) t1 t2
    have F1 := hideE (show ∀ x' M w', GGo own0 T w1 xb x' M w' → GGo own T w xb x' M w' from fun x' M w' hg => HTR.out _ _ _ (GGo.trans (fun _ _ h => h) (kT.mono (fun _ _ _ => trivial)) hg))
    clear hG1 kT hb hT hN hi2
    go_wp2_with fail
    refine gf.mono ?_
    rintro e w2 ⟨rfl, hg2⟩
    have KEY := hideE (F1.out _ _ _ (hg2.more (M := N + 18) (by omega)))
    clear hg2 gf
    go_wp2_with fail
    go_end0
    exact ⟨rfl, KEY.out⟩
  · have pK2 : ∀ W, Calls Try.prog 18 #[.int .i64 K, .int .i64 16] W fun e w' => e = .returned (.int .i64 5) ∧ W = w' := pK
    have CC := hideE (hole_walk H.out hN' i (by omega) A hA1 hA2)
    have HR := hideE (show 0 < T ∧ N < 280999999999900 ∧ i < 2 ∧ -9223372036854775808 ≤ B.tdiv 8 ∧ B.tdiv 8 ≤ 9223372036854775807 from ⟨hT, hN, hi2, t1, t2⟩)
    clear pK hK1 hK2 hA1 hA2 hB1 hB2 hc3 hi2 hN hN' hT
    go_enter Try.func9, Try.ntmps9
    go_wp2_with fail
    rw [HW.out]
    refine (pA _).mono ?_
    rintro e wz ⟨rfl, rfl⟩
    clear pA
    go_wp2_with fail
    refine (pB _).mono ?_
    rintro e wz ⟨rfl, rfl⟩
    clear pB
    go_wp2_with fail
    refine (pK2 _).mono ?_
    rintro e wz ⟨rfl, rfl⟩
    clear pK2
    rw [HIQ.out]
    go_wp2_with fail
    refine CC.out.mono ?_
    rintro e w1 ⟨rfl, hb⟩
    rw [hh]
    have kT : Keep (fun _ => True) W0 w1 := Keep.ofBelow hb
    have hG1 : GAt own0 T w1 xb x N := H.out.keep kT (fun _ _ _ _ => trivial) (Same.refl _ _)
    have y2 : w1.cell? ⟨w.heap.size, 2, none⟩ = some (.int .i64 B) := cellAt (i := 2) (kT.get HBX.out trivial) rfl
    obtain ⟨hT, hN, hi2, t1, t2⟩ := HR.out
    have gf := g_fill hG1 (by omega) i j hi2 g hg hf htj (B.tdiv 8) t1 t2
    have F1 := hideE (show ∀ x' M w', GGo own0 T w1 xb x' M w' → GGo own T w xb x' M w' from fun x' M w' hg => HTR.out _ _ _ (GGo.trans (fun _ _ h => h) (kT.mono (fun _ _ _ => trivial)) hg))
    clear hG1 kT hb hT hN hi2
    go_wp2_with fail
    refine gf.mono ?_
    rintro e w2 ⟨rfl, hg2⟩
    have KEY := hideE (F1.out _ _ _ (hg2.more (M := N + 18) (by omega)))
    clear hg2 gf
    go_wp2_with fail
    go_end0
    exact ⟨rfl, KEY.out⟩

set_option maxRecDepth 100000 in
set_option maxHeartbeats 1000000 in
theorem mv_hole_no {own : Nat → Nat} {T : Nat} {w : World} {xb : Nat} {x : Gm} {N : Nat} (h : GAt own T w xb x N) (hT : 0 < T) (hN : N < 280999999999900) (K A B : Int) (hK1 : -9223372036854775808 ≤ K) (hK2 : K ≤ 9223372036854775807) (hA1 : -9223372036854775808 ≤ A) (hA2 : A ≤ 9223372036854775807) (hB1 : -9223372036854775808 ≤ B) (hB2 : B ≤ 9223372036854775807) (i : Nat) (hi : i = pickN B 8 / 7) (kd : Nat) (hkd : kd = pickN K 16) (hk : kd = 4 ∨ kd = 5) (hh : holeG x i A = none) :
    Calls Try.prog 9 #[.pointer (some ⟨xb, 0, none⟩), .agg #[.int .i64 K, .int .i64 A, .int .i64 B]] w fun e w' => e = .returned (.tuple #[]) ∧ GGo own T w xb (x) (N + 18) w' := by
  have pA := fun W => pick_any A 3 W (by omega) (by omega) hA1 hA2
  have pB := fun W => pick_any B 8 W (by omega) (by omega) hB1 hB2
  have pK := fun W => pick_any K 16 W (by omega) (by omega) hK1 hK2
  rw [← hkd] at pK
  have hc3 : pickN A 3 < 3 := pickN_lt _ _ (by omega)
  have hq8 : pickN B 8 < 8 := pickN_lt _ _ (by omega)
  obtain ⟨c, hc⟩ : ∃ c, c = pickN A 3 := ⟨_, rfl⟩
  obtain ⟨q, hq⟩ : ∃ q, q = pickN B 8 := ⟨_, rfl⟩
  rw [← hc] at pA hc3
  rw [← hq] at pB hq8 hi
  have hi2 : i < 2 := by omega
  have hiq : (q : Int) / 7 = (i : Int) := by omega
  obtain ⟨t1, t2⟩ := tdiv8 hB1 hB2
  obtain ⟨hG, hO, ho, hk0⟩ := h.box hT (.cells #[.int .i64 K, .int .i64 A, .int .i64 B] 27)
  have hbx : (w.alloc (.cells #[.int .i64 K, .int .i64 A, .int .i64 B] 27)).heap[w.heap.size]? = some (.cells #[.int .i64 K, .int .i64 A, .int .i64 B] 27 (0, 0)) := heap_alloc_new w _
  have x0 := cellAt (i := 0) hbx rfl
  have x1 := cellAt (i := 1) hbx rfl
  have x2 := cellAt (i := 2) hbx rfl
  generalize hW : w.alloc (.cells #[.int .i64 K, .int .i64 A, .int .i64 B] 27) = W0 at *
  generalize hown : ext own w.heap.size 0 = own0 at *
  have H := hideE hG
  have HO := hideE hO
  have HTR := hideE (show ∀ x' M w', GGo own0 T W0 xb x' M w' → GGo own T w xb x' M w' from fun x' M w' hg => GGo.trans ho hk0 hg)
  have HBX := hideE hbx
  have HW := hideE hW
  have hN' : N < 281000000000000 := by omega
  have HIQ := hideE hiq
  have hwr : IntKind.i64.wrap (B.tdiv 8) = B.tdiv 8 := by rw [IntKind.wrap_i64]; omega
  clear hG hO ho hk0 hbx hW hown h hkd hq hc hi hiq
  dsimp only [List.getElem_toArray, List.getElem_cons_zero, List.getElem_cons_succ] at x0 x1 x2
  rcases hk with rfl | rfl
  · have pK2 : ∀ W, Calls Try.prog 18 #[.int .i64 K, .int .i64 16] W fun e w' => e = .returned (.int .i64 4) ∧ W = w' := pK
    have CC := hideE (hole_walk H.out hN' i (by omega) A hA1 hA2)
    have HR := hideE (show 0 < T ∧ N < 280999999999900 ∧ i < 2 ∧ -9223372036854775808 ≤ B.tdiv 8 ∧ B.tdiv 8 ≤ 9223372036854775807 from ⟨hT, hN, hi2, t1, t2⟩)
    clear pK hK1 hK2 hA1 hA2 hB1 hB2 hc3 hi2 hN hN' hT
    go_enter Try.func9, Try.ntmps9
    go_wp2_with fail
    rw [HW.out]
    refine (pA _).mono ?_
    rintro e wz ⟨rfl, rfl⟩
    clear pA
    go_wp2_with fail
    refine (pB _).mono ?_
    rintro e wz ⟨rfl, rfl⟩
    clear pB
    go_wp2_with fail
    refine (pK2 _).mono ?_
    rintro e wz ⟨rfl, rfl⟩
    clear pK2
    rw [HIQ.out]
    go_wp2_with fail
    refine CC.out.mono ?_
    rintro e w1 ⟨rfl, hb⟩
    rw [hh]
    have kT : Keep (fun _ => True) W0 w1 := Keep.ofBelow hb
    have y2 : w1.cell? ⟨w.heap.size, 2, none⟩ = some (.int .i64 B) := cellAt (i := 2) (kT.get HBX.out trivial) rfl
    have KEY := hideE (HTR.out _ _ _ ((GGo.refl H.out kT).more (M := N + 18) (by omega)))
    clear kT hb
    go_wp2_with fail
    refine (g_fill_none _ _ _).mono ?_
    rintro e w2 ⟨rfl, rfl⟩
    go_wp2_with fail
    go_end0
    exact ⟨rfl, KEY.out⟩
  · have pK2 : ∀ W, Calls Try.prog 18 #[.int .i64 K, .int .i64 16] W fun e w' => e = .returned (.int .i64 5) ∧ W = w' := pK
    have CC := hideE (hole_walk H.out hN' i (by omega) A hA1 hA2)
    have HR := hideE (show 0 < T ∧ N < 280999999999900 ∧ i < 2 ∧ -9223372036854775808 ≤ B.tdiv 8 ∧ B.tdiv 8 ≤ 9223372036854775807 from ⟨hT, hN, hi2, t1, t2⟩)
    clear pK hK1 hK2 hA1 hA2 hB1 hB2 hc3 hi2 hN hN' hT
    go_enter Try.func9, Try.ntmps9
    go_wp2_with fail
    rw [HW.out]
    refine (pA _).mono ?_
    rintro e wz ⟨rfl, rfl⟩
    clear pA
    go_wp2_with fail
    refine (pB _).mono ?_
    rintro e wz ⟨rfl, rfl⟩
    clear pB
    go_wp2_with fail
    refine (pK2 _).mono ?_
    rintro e wz ⟨rfl, rfl⟩
    clear pK2
    rw [HIQ.out]
    go_wp2_with fail
    refine CC.out.mono ?_
    rintro e w1 ⟨rfl, hb⟩
    rw [hh]
    have kT : Keep (fun _ => True) W0 w1 := Keep.ofBelow hb
    have y2 : w1.cell? ⟨w.heap.size, 2, none⟩ = some (.int .i64 B) := cellAt (i := 2) (kT.get HBX.out trivial) rfl
    have KEY := hideE (HTR.out _ _ _ ((GGo.refl H.out kT).more (M := N + 18) (by omega)))
    clear kT hb
    go_wp2_with fail
    refine (g_fill_none _ _ _).mono ?_
    rintro e w2 ⟨rfl, rfl⟩
    go_wp2_with fail
    go_end0
    exact ⟨rfl, KEY.out⟩

end Go.Proofs.Ytjhifhoniimfgaa

