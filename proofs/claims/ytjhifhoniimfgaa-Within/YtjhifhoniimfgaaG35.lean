import Derived.Test.YtjhifhoniimfgaaG34
/-
  A game: a place is filled, as a step.
-/
namespace Go.Proofs.Ytjhifhoniimfgaa
open Go.RowKit

def FS (xb gb pb : Nat) (c : Int) (W : World) : Prop := W.cell? ⟨xb, 0, none⟩ = some (.pointer (some ⟨gb, 0, none⟩)) ∧ W.cell? ⟨pb, 0, none⟩ = some (.int .i64 c)

set_option maxRecDepth 100000 in
set_option maxHeartbeats 1000000 in
theorem fill_walk {w : World} {T : Nat} {own : Nat → Nat} {X : XB} {lim : Nat → Nat → Int} {v : XV} {L : Nat → List Snt} (gb : Nat) (hgb : X.gb = gb) (hx : XAt own T w X lim v L) (i : Nat) (hi : i = 0 ∨ i = 1) (k : Nat) (g : Snt) (hg : (L i)[k]? = some g) (hl : g.lane = i) (b : Int) (n : Nat) (hn : n = pickN b 1099511627776) (h1 : -9223372036854775808 ≤ b) (h2 : b ≤ 9223372036854775807)
    (Y : World → Prop) (hY : ∀ w2, Y w2 → w2.cell? ⟨X.xb, 0, none⟩ = some (.pointer (some ⟨gb, 0, none⟩)) ∧ w2.cell? ⟨X.pb i k, 0, none⟩ = some (.int .i64 g.client) ∧ w2.cell? ⟨X.xb, 15, none⟩ = some (.bool false) ∧ w2.frozen? ⟨X.xb, 15, none⟩ = false)
    (hc : ∀ w1, XAt own T w1 X lim v (upN L i ((L i).set k (saidK g n).1)) → Keep (fun b => own b ≠ T) w w1 → Calls Try.prog 19 #[.pointer (some ⟨gb, 0, none⟩), .int .i64 g.client, .int .i64 i, .int .i64 k, .string (saidK g n).2] w1 fun r w' => r = .returned (.int .i64 0) ∧ Y w') :
    Calls Try.prog 16 #[.pointer (some ⟨X.xb, 0, none⟩), .int .i64 i, .int .i64 k, .int .i64 b] w fun r w' => r = .returned (.tuple #[]) ∧ ∃ w2, Y w2 ∧ w' = w2.setCell ⟨X.xb, 15, none⟩ (.bool false) := by
  have hi2 : i < 2 := by omega
  have hkl := (List.getElem?_eq_some_iff.1 hg).1
  have c0 := hx.c0
  have cL := hx.cL i hi2
  obtain ⟨rb, cap, e1, e2, e3, e4⟩ := hx.rowcell i hi2 (by omega)
  have eR := e2 k hkl
  rw [e1] at cL
  rw [hgb] at c0
  have hb := hx.sent i k g hi2 hg
  have hnx := hx.neX i k hi2 hkl
  have s0 := sc0 hb
  have lk : (k : Int) < ((L i).length : Int) := by omega
  obtain ⟨ln, hln⟩ : ∃ ln, ln = (L i).length := ⟨_, rfl⟩
  rw [← hln] at cL lk
  obtain ⟨pb, hpb⟩ : ∃ pb, pb = X.pb i k := ⟨_, rfl⟩
  have sw := fun (W : World) (hW : W.heap[pb]? = some (.cells (sCells g) 43 (0, 0))) => said_walk hW b n hn h1 h2 (by omega)
  have hcl : (saidK g n).1.client = g.client := (saidK_flags g n).1
  have HC : Hid (∀ w1, Keep (fun k => k ≠ pb) w w1 → w1.heap[pb]? = some (.cells (sCells (saidK g n).1) 43 (0, 0)) → FS X.xb gb pb g.client w1 ∧ Calls Try.prog 19 #[.pointer (some ⟨gb, 0, none⟩), .int .i64 g.client, .int .i64 i, .int .i64 k, .string (saidK g n).2] w1 fun r w' => r = .returned (.int .i64 0) ∧ Y w') := fun w1 hk hb1 => by
    rw [hpb] at hk hb1
    have x1 := hx.sput i k hi2 g _ hg hk hb1
    refine ⟨⟨?_, ?_⟩, hc w1 x1 (hk.mono (fun b _ hb e => hb (e ▸ hx.os i k hi2 hkl)))⟩
    · have := x1.c0
      rw [hgb] at this
      exact this
    · rw [hpb]
      have h3 := sc0 hb1
      rw [hcl] at h3
      exact h3
  rw [← hpb] at eR hb hnx s0
  have HY : Hid (∀ w2, Y w2 → w2.cell? ⟨X.xb, 0, none⟩ = some (.pointer (some ⟨gb, 0, none⟩)) ∧ w2.cell? ⟨pb, 0, none⟩ = some (.int .i64 g.client) ∧ w2.cell? ⟨X.xb, 15, none⟩ = some (.bool false) ∧ w2.frozen? ⟨X.xb, 15, none⟩ = false) := by
    rw [hpb]; exact hY
  have HB := hideE hb
  have F0 : FS X.xb gb pb g.client w := ⟨c0, s0⟩
  generalize (saidK g n).2 = fr at *
  generalize (saidK g n).1 = g' at *
  clear hY hc hx e1 e2 e3 e4 hg hkl hb hln hpb hgb hn h1 h2 hl hcl
  rcases hi with rfl | rfl
  · simp only [Nat.add_zero] at cL
    go_enter Try.func16, Try.ntmps16
    go_wp2_with fail
    refine wp_region_noPanic ?_
    refine wp_region_held_drew (S := FS X.xb gb pb g.client) (by kernel_rfl) F0 (fun _ => ?_)
    refine wpAnyH_take (i := 0) (v := ?_) rfl (by kernel_rfl) (by kernel_rfl) (by kernel_rfl) (fun _ _ _ h => h) (Or.inl ⟨by rfl, ?_⟩) F0 ?_
    rotate_left
    (intro w hSw; obtain ⟨y0, y1⟩ := hSw; go_simp)
    try with_reducible rfl
    simp only [Act.put]
    refine wpAnyH_take (i := 1) (v := ?_) rfl (by kernel_rfl) (by kernel_rfl) (by kernel_rfl) (fun _ _ _ h => h) (Or.inl ⟨by rfl, ?_⟩) F0 ?_
    rotate_left
    (intro w hSw; obtain ⟨y0, y1⟩ := hSw; go_simp)
    try with_reducible rfl
    simp only [Act.put]
    refine wpAnyH_take (i := 2) (v := ?_) rfl (by kernel_rfl) (by kernel_rfl) (by kernel_rfl) (fun _ _ _ h => h) (Or.inl ⟨by rfl, ?_⟩) F0 ?_
    rotate_left
    (intro w hSw; obtain ⟨y0, y1⟩ := hSw; go_simp)
    try with_reducible rfl
    simp only [Act.put]
    refine wpAnyH_take (i := 3) (v := ?_) rfl (by kernel_rfl) (by kernel_rfl) (by kernel_rfl) (fun _ _ _ h => h) (Or.inl ⟨by rfl, ?_⟩) F0 ?_
    rotate_left
    (intro w hSw; obtain ⟨y0, y1⟩ := hSw; go_simp)
    try with_reducible rfl
    simp only [Act.put]
    refine wpAnyH_take (i := 4) (v := ?_) rfl (by kernel_rfl) (by kernel_rfl) (by kernel_rfl) (fun _ _ _ h => h) (Or.inl ⟨by rfl, ?_⟩) F0 ?_
    rotate_left
    (intro w hSw; obtain ⟨y0, y1⟩ := hSw; go_simp)
    try with_reducible rfl
    simp only [Act.put]
    refine wpAnyH_take (i := 5) (v := ?_) rfl (by kernel_rfl) (by kernel_rfl) (by kernel_rfl) (fun _ _ _ h => h) (Or.inl ⟨by rfl, ?_⟩) F0 ?_
    rotate_left
    (intro w hSw; obtain ⟨y0, y1⟩ := hSw; go_simp)
    try with_reducible rfl
    simp only [Act.put]
    refine wpAnyH_take (i := 6) (v := ?_) rfl (by kernel_rfl) (by kernel_rfl) (by kernel_rfl) (fun _ _ _ h => h) (Or.inl ⟨by rfl, ?_⟩) F0 ?_
    rotate_left
    (intro w hSw; obtain ⟨y0, y1⟩ := hSw; go_simp)
    try with_reducible rfl
    simp only [Act.put]
    refine wpAnyH_take (i := 7) (v := ?_) rfl (by kernel_rfl) (by kernel_rfl) (by kernel_rfl) (fun _ _ _ h => h) (Or.inl ⟨by rfl, ?_⟩) F0 ?_
    rotate_left
    (intro w hSw; obtain ⟨y0, y1⟩ := hSw; go_simp)
    try with_reducible rfl
    simp only [Act.put]
    refine wpAnyH_take (i := 8) (v := ?_) rfl (by kernel_rfl) (by kernel_rfl) (by kernel_rfl) (fun _ _ _ h => h) (Or.inl ⟨by rfl, ?_⟩) F0 ?_
    rotate_left
    (intro w hSw; obtain ⟨y0, y1⟩ := hSw; go_simp)
    try with_reducible rfl
    simp only [Act.put]
    refine wpAnyH_take (i := 9) (v := ?_) rfl (by kernel_rfl) (by kernel_rfl) (by kernel_rfl) (fun _ _ _ h => h) (Or.inl ⟨by rfl, ?_⟩) F0 ?_
    rotate_left
    (intro w hSw; obtain ⟨y0, y1⟩ := hSw; go_simp)
    try with_reducible rfl
    simp only [Act.put]
    refine wpAnyH_take (i := 10) (v := ?_) rfl (by kernel_rfl) (by kernel_rfl) (by kernel_rfl) (fun _ _ _ h => h) (Or.inl ⟨by rfl, ?_⟩) F0 ?_
    rotate_left
    (intro w hSw; obtain ⟨y0, y1⟩ := hSw; go_simp)
    try with_reducible rfl
    simp only [Act.put]
    refine wpAnyH_take (i := 11) (v := ?_) rfl (by kernel_rfl) (by kernel_rfl) (by kernel_rfl) (fun _ _ _ h => h) (Or.inl ⟨by rfl, ?_⟩) F0 ?_
    rotate_left
    (intro w hSw; obtain ⟨y0, y1⟩ := hSw; go_simp)
    try with_reducible rfl
    simp only [Act.put]
    refine wpAnyH_ready (rs := [12]) (by kernel_rfl) (by simp) ?_
    refine AllReadyH.cons rfl (fun K hK => ?_) AllReadyH.nil
    go_simp
    refine (sw w.drew HB.out).mono ?_
    rintro e w1 ⟨rfl, k1, b1⟩
    obtain ⟨F1, hcc⟩ := HC.out w1 ((Keep.refl _ w).drew.trans k1) b1
    clear k1 b1
    go_wp2_with fail
    refine hK.out _ _ F1 (fun _ => ?_)
    clear hK K
    refine wpAnyH_ready (rs := [13]) (by kernel_rfl) (by simp) ?_
    refine AllReadyH.cons rfl (fun K hK => ?_) AllReadyH.nil
    go_simp
    refine hcc.mono ?_
    rintro e w2 ⟨rfl, hy⟩
    obtain ⟨y0, y1, y2, y3⟩ := HY.out w2 hy
    have F2 : FS X.xb gb pb g.client w2 := ⟨y0, y1⟩
    have HYY := hideE hy
    clear hy hcc
    go_wp2_with fail
    refine hK.out _ _ F2 (fun _ => ?_)
    clear hK K
    refine wpAnyH_ready (rs := [14]) (by kernel_rfl) (by simp) ?_
    refine AllReadyH.cons rfl (fun K hK => ?_) AllReadyH.nil
    go_simp
    refine hK.out _ _ F2 (fun _ => ?_)
    clear hK K
    refine wpAnyH_done (by kernel_rfl) (NoPanic.normal ?_) _
    go_wp2_with fail
    go_end0
    exact ⟨rfl, w2, HYY.out, rfl⟩
  · simp only [Nat.reduceAdd] at cL
    go_enter Try.func16, Try.ntmps16
    go_wp2_with fail
    refine wp_region_noPanic ?_
    refine wp_region_held_drew (S := FS X.xb gb pb g.client) (by kernel_rfl) F0 (fun _ => ?_)
    refine wpAnyH_take (i := 0) (v := ?_) rfl (by kernel_rfl) (by kernel_rfl) (by kernel_rfl) (fun _ _ _ h => h) (Or.inl ⟨by rfl, ?_⟩) F0 ?_
    rotate_left
    (intro w hSw; obtain ⟨y0, y1⟩ := hSw; go_simp)
    try with_reducible rfl
    simp only [Act.put]
    refine wpAnyH_take (i := 1) (v := ?_) rfl (by kernel_rfl) (by kernel_rfl) (by kernel_rfl) (fun _ _ _ h => h) (Or.inl ⟨by rfl, ?_⟩) F0 ?_
    rotate_left
    (intro w hSw; obtain ⟨y0, y1⟩ := hSw; go_simp)
    try with_reducible rfl
    simp only [Act.put]
    refine wpAnyH_take (i := 2) (v := ?_) rfl (by kernel_rfl) (by kernel_rfl) (by kernel_rfl) (fun _ _ _ h => h) (Or.inl ⟨by rfl, ?_⟩) F0 ?_
    rotate_left
    (intro w hSw; obtain ⟨y0, y1⟩ := hSw; go_simp)
    try with_reducible rfl
    simp only [Act.put]
    refine wpAnyH_take (i := 3) (v := ?_) rfl (by kernel_rfl) (by kernel_rfl) (by kernel_rfl) (fun _ _ _ h => h) (Or.inl ⟨by rfl, ?_⟩) F0 ?_
    rotate_left
    (intro w hSw; obtain ⟨y0, y1⟩ := hSw; go_simp)
    try with_reducible rfl
    simp only [Act.put]
    refine wpAnyH_take (i := 4) (v := ?_) rfl (by kernel_rfl) (by kernel_rfl) (by kernel_rfl) (fun _ _ _ h => h) (Or.inl ⟨by rfl, ?_⟩) F0 ?_
    rotate_left
    (intro w hSw; obtain ⟨y0, y1⟩ := hSw; go_simp)
    try with_reducible rfl
    simp only [Act.put]
    refine wpAnyH_take (i := 5) (v := ?_) rfl (by kernel_rfl) (by kernel_rfl) (by kernel_rfl) (fun _ _ _ h => h) (Or.inl ⟨by rfl, ?_⟩) F0 ?_
    rotate_left
    (intro w hSw; obtain ⟨y0, y1⟩ := hSw; go_simp)
    try with_reducible rfl
    simp only [Act.put]
    refine wpAnyH_take (i := 6) (v := ?_) rfl (by kernel_rfl) (by kernel_rfl) (by kernel_rfl) (fun _ _ _ h => h) (Or.inl ⟨by rfl, ?_⟩) F0 ?_
    rotate_left
    (intro w hSw; obtain ⟨y0, y1⟩ := hSw; go_simp)
    try with_reducible rfl
    simp only [Act.put]
    refine wpAnyH_take (i := 7) (v := ?_) rfl (by kernel_rfl) (by kernel_rfl) (by kernel_rfl) (fun _ _ _ h => h) (Or.inl ⟨by rfl, ?_⟩) F0 ?_
    rotate_left
    (intro w hSw; obtain ⟨y0, y1⟩ := hSw; go_simp)
    try with_reducible rfl
    simp only [Act.put]
    refine wpAnyH_take (i := 8) (v := ?_) rfl (by kernel_rfl) (by kernel_rfl) (by kernel_rfl) (fun _ _ _ h => h) (Or.inl ⟨by rfl, ?_⟩) F0 ?_
    rotate_left
    (intro w hSw; obtain ⟨y0, y1⟩ := hSw; go_simp)
    try with_reducible rfl
    simp only [Act.put]
    refine wpAnyH_take (i := 9) (v := ?_) rfl (by kernel_rfl) (by kernel_rfl) (by kernel_rfl) (fun _ _ _ h => h) (Or.inl ⟨by rfl, ?_⟩) F0 ?_
    rotate_left
    (intro w hSw; obtain ⟨y0, y1⟩ := hSw; go_simp)
    try with_reducible rfl
    simp only [Act.put]
    refine wpAnyH_take (i := 10) (v := ?_) rfl (by kernel_rfl) (by kernel_rfl) (by kernel_rfl) (fun _ _ _ h => h) (Or.inl ⟨by rfl, ?_⟩) F0 ?_
    rotate_left
    (intro w hSw; obtain ⟨y0, y1⟩ := hSw; go_simp)
    try with_reducible rfl
    simp only [Act.put]
    refine wpAnyH_take (i := 11) (v := ?_) rfl (by kernel_rfl) (by kernel_rfl) (by kernel_rfl) (fun _ _ _ h => h) (Or.inl ⟨by rfl, ?_⟩) F0 ?_
    rotate_left
    (intro w hSw; obtain ⟨y0, y1⟩ := hSw; go_simp)
    try with_reducible rfl
    simp only [Act.put]
    refine wpAnyH_ready (rs := [12]) (by kernel_rfl) (by simp) ?_
    refine AllReadyH.cons rfl (fun K hK => ?_) AllReadyH.nil
    go_simp
    refine (sw w.drew HB.out).mono ?_
    rintro e w1 ⟨rfl, k1, b1⟩
    obtain ⟨F1, hcc⟩ := HC.out w1 ((Keep.refl _ w).drew.trans k1) b1
    clear k1 b1
    go_wp2_with fail
    refine hK.out _ _ F1 (fun _ => ?_)
    clear hK K
    refine wpAnyH_ready (rs := [13]) (by kernel_rfl) (by simp) ?_
    refine AllReadyH.cons rfl (fun K hK => ?_) AllReadyH.nil
    go_simp
    refine hcc.mono ?_
    rintro e w2 ⟨rfl, hy⟩
    obtain ⟨y0, y1, y2, y3⟩ := HY.out w2 hy
    have F2 : FS X.xb gb pb g.client w2 := ⟨y0, y1⟩
    have HYY := hideE hy
    clear hy hcc
    go_wp2_with fail
    refine hK.out _ _ F2 (fun _ => ?_)
    clear hK K
    refine wpAnyH_ready (rs := [14]) (by kernel_rfl) (by simp) ?_
    refine AllReadyH.cons rfl (fun K hK => ?_) AllReadyH.nil
    go_simp
    refine hK.out _ _ F2 (fun _ => ?_)
    clear hK K
    refine wpAnyH_done (by kernel_rfl) (NoPanic.normal ?_) _
    go_wp2_with fail
    go_end0
    exact ⟨rfl, w2, HYY.out, rfl⟩

theorem g_fillS {own : Nat → Nat} {T : Nat} {w : World} {xb : Nat} {x : Gm} {N : Nat} (h : GAt own T w xb x N) (hN : N < 1000000000000000) (i k : Nat) (hi : i < 2) (g : Snt) (hg : (x.L i)[k]? = some g) (hf : g.filled = false) (ht : x.s.t i ≤ k) (b : Int) (h1 : -9223372036854775808 ≤ b) (h2 : b ≤ 9223372036854775807) :
    Calls Try.prog 16 #[.pointer (some ⟨xb, 0, none⟩), .int .i64 i, .int .i64 k, .int .i64 b] w fun e w' => e = .returned (.tuple #[]) ∧ GGo own T w xb (fillG x i k (pickN b 1099511627776) g) (N + 1) w' := by
  obtain ⟨B, X, st0, st1, hM, rfl⟩ := h
  have hp := hM.inv.pl i k g hi hg
  have hkl := (List.getElem?_eq_some_iff.1 hg).1
  obtain ⟨n, hn⟩ : ∃ n, n = pickN b 1099511627776 := ⟨_, rfl⟩
  rw [← hn]
  have e := pubS_eq x hM.inv.cl i k n g hp hf hi (by rw [← hM.inv.len i hi]; exact hkl)
  have ok := pub_ok hM.ok g.client i k (saidK g n).2
  rw [e] at ok
  have inv := fill_inv hM.inv i k n g hi hg hf ht
  have hsame : (saidK g n).1.client = g.client := (saidK_flags g n).1
  refine (fill_walk B.gb hM.gb hM.at_ i (by omega) k g hg hp.lane b n hn h1 h2 (fun w2 => w2.cell? ⟨X.pb i k, 0, none⟩ = some (.int .i64 g.client) ∧ ∃ own' B', PG own' T w2 B' (fillG x i k n g).s (N + 1) ∧ B.Like B' ∧ Same own own' w ∧ Keep (OutG own T) w w2 ∧ XAt own' (T + 100) w2 X x.s.lim (vOf x.s st0 st1) (fillG x i k n g).L) (fun w2 hy => ?_) (fun w1 hx hk => ?_)).mono ?_
  · obtain ⟨y1, own', B', p1, p2, p3, p4, p5⟩ := hy
    have := p5.c0
    rw [hM.gb] at this
    exact ⟨this, y1, p5.c15, p5.fz 15⟩
  · have hP1 : PG own T w1 B x.s N := hM.pg.keep hM.ok.cl.2 hM.ok.na.2 hk (fun b _ _ _ => by omega) (Same.refl _ _)
    have c := gPublish hP1 hM.ok (by omega) g.client i k (saidK g n).2
    rw [e] at c
    refine c.mono ?_
    rintro r w2 ⟨rfl, own', B', g1, g2, g3, g4⟩
    have x2 : XAt own' (T + 100) w2 X x.s.lim (vOf x.s st0 st1) (fillG x i k n g).L := hx.keep g4 (fun b h1 h2 => .inr (by omega)) (fun b hb _ => g3 b hb)
    refine ⟨rfl, ?_, own', B', g1, g2, fun b hb => g3 b (Nat.lt_of_lt_of_le hb hk.size), (keep_own hk).trans' g4 (fun b hb hO => by unfold OutG at hO; unfold Out; omega), x2⟩
    have h3 := sc0 (x2.sent i k (saidK g n).1 hi (by show (upN x.L i _ i)[k]? = _; rw [upN_same, List.getElem?_set_self hkl]))
    rw [hsame] at h3
    exact h3
  · rintro r w' ⟨rfl, w2, ⟨_, own', B', p1, p2, p3, p4, p5⟩, rfl⟩
    refine ⟨rfl, GGo.badF ⟨own', ⟨B', X, st0, st1, ⟨p1, ok, p5, by rw [p2.gb]; exact hM.gb, inv, hM.sz.same rfl rfl (Nat.le_succ N)⟩, rfl⟩, p3.outG T, p4⟩⟩

theorem g_fill {own : Nat → Nat} {T : Nat} {w : World} {xb : Nat} {x : Gm} {N : Nat} (h : GAt own T w xb x N) (hN : N < 281000000000000) (i k : Nat) (hi : i < 2) (g : Snt) (hg : (x.L i)[k]? = some g) (hf : g.filled = false) (ht : x.s.t i ≤ k) (b : Int) (h1 : -9223372036854775808 ≤ b) (h2 : b ≤ 9223372036854775807) :
    Calls Try.prog 16 #[.pointer (some ⟨xb, 0, none⟩), .int .i64 i, .int .i64 k, .int .i64 b] w fun e w' => e = .returned (.tuple #[]) ∧ GGo own T w xb (fillG x i k (pickN b 1099511627776) g) (N + 1) w' :=
  g_fillS h (by omega) i k hi g hg hf ht b h1 h2

set_option maxHeartbeats 400000 in
theorem g_fill_none {w : World} (xb : Nat) (i : Int) (b : Int) :
    Calls Try.prog 16 #[.pointer (some ⟨xb, 0, none⟩), .int .i64 i, .int .i64 (-1), .int .i64 b] w fun e w' => e = .returned (.tuple #[]) ∧ w = w' := by
  go_enter Try.func16, Try.ntmps16
  go_wp2
  refine bodyPost_ret (results_none rfl _ _ _) rfl ?_
  exact ⟨rfl, rfl⟩

end Go.Proofs.Ytjhifhoniimfgaa

