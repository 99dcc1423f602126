import Derived.Test.YtjhifhoniimfgaaG12
import Derived.Deep.RegionHeld3
/-
  A New that is let through: the walk.
-/
namespace Go.Proofs.Ytjhifhoniimfgaa
open Go.RowKit

set_option maxRecDepth 20000 in
set_option maxHeartbeats 2000000 in
theorem open_walk (w : World) (ab nb : Nat) (A S N L p q now : Int) (Y Z : World → Prop) (hnb : nb = w.heap.size)
    (hj : Calls Try.prog 84 #[.pointer (some ⟨ab, 0, none⟩), .agg #[.int .i64 A, .int .i64 S, .int .i64 N, .int .i64 p, .int .i64 q, .int .i64 L], .int .i64 now] (w.alloc (.cells #[.int .i64 A, .int .i64 S, .int .i64 N, .int .i64 p, .int .i64 q, .int .i64 L] 160)) fun e w' => e = .returned (.int .i64 0) ∧ Y w')
    (hY : ∀ W, Y W → W.heap[nb]? = some (.cells #[.int .i64 A, .int .i64 S, .int .i64 N, .int .i64 p, .int .i64 q, .int .i64 L] 160 (0, 0)))
    (hadd : ∀ W n, Y W → Calls Try.prog 85 #[.pointer (some ⟨ab, 7, none⟩), .pointer (some ⟨W.heap.size, 0, none⟩)] ((W.drewN n).alloc (.cells #[.int .i64 N, .int .i64 S, .int .i64 q, .int .i64 (p * q), .int .i64 (now + L), .int .i64 0] 149)) fun e w' => e = .returned (.tuple #[]) ∧ w'.heap[nb]? = some (.cells #[.int .i64 A, .int .i64 S, .int .i64 N, .int .i64 p, .int .i64 q, .int .i64 L] 160 (0, 0)) ∧
      Calls Try.prog 86 #[.pointer (some ⟨ab, 12, none⟩), .int .i64 now] w' fun e w' => e = .returned (.tuple #[]) ∧ Z w')
    (hpq : 0 ≤ p * q) (hpq2 : p * q ≤ 9223372036854775807) (hn : 0 ≤ now) (hn2 : now ≤ 1000000000000000) (hL : 0 ≤ L) (hL2 : L ≤ 1000000) :
    Calls Try.prog 75 #[.pointer (some ⟨ab, 0, none⟩), .agg #[.int .i64 A, .int .i64 S, .int .i64 N, .int .i64 p, .int .i64 q, .int .i64 L], .int .i64 now] w fun e w' => e = .returned (.int .i64 0) ∧ Z w' := by
  have hw1 : IntKind.i64.wrap (p * q) = p * q := by rw [IntKind.wrap_i64]; omega
  have hw2 : IntKind.i64.wrap (now + L) = now + L := by rw [IntKind.wrap_i64]; omega
  go_enter Try.func75, Try.ntmps75
  go_wp2_with fail
  refine hj.mono ?_
  rintro e w1 ⟨rfl, hy⟩
  have HNB : Hid (∀ n, (w1.drewN n).cell? ⟨nb, 1, none⟩ = some (.int .i64 S) ∧ (w1.drewN n).cell? ⟨nb, 2, none⟩ = some (.int .i64 N) ∧ (w1.drewN n).cell? ⟨nb, 3, none⟩ = some (.int .i64 p) ∧ (w1.drewN n).cell? ⟨nb, 4, none⟩ = some (.int .i64 q) ∧ (w1.drewN n).cell? ⟨nb, 5, none⟩ = some (.int .i64 L)) := fun n => by
    have h := hY w1 hy
    exact ⟨cellAt (i := 1) h rfl, cellAt (i := 2) h rfl, cellAt (i := 3) h rfl, cellAt (i := 4) h rfl, cellAt (i := 5) h rfl⟩
  have HNC : Hid (∀ n o, ((w1.drewN n).alloc o).cell? ⟨nb, 1, none⟩ = some (.int .i64 S) ∧ ((w1.drewN n).alloc o).cell? ⟨nb, 2, none⟩ = some (.int .i64 N) ∧ ((w1.drewN n).alloc o).cell? ⟨nb, 3, none⟩ = some (.int .i64 p) ∧ ((w1.drewN n).alloc o).cell? ⟨nb, 4, none⟩ = some (.int .i64 q) ∧ ((w1.drewN n).alloc o).cell? ⟨nb, 5, none⟩ = some (.int .i64 L)) := fun n o => by
    have h : ((w1.drewN n).alloc o).heap[nb]? = some (.cells #[.int .i64 A, .int .i64 S, .int .i64 N, .int .i64 p, .int .i64 q, .int .i64 L] 160 (0, 0)) := (Below.heap_alloc (w1.drewN n) _ _ (block_lt (hY w1 hy))).trans (hY w1 hy)
    exact ⟨cellAt (i := 1) h rfl, cellAt (i := 2) h rfl, cellAt (i := 3) h rfl, cellAt (i := 4) h rfl, cellAt (i := 5) h rfl⟩
  subst hnb
  go_wp2_with fail
  refine wp_region_noPanic ?_
  refine wp_region_held_drew (S := (fun W => W.cell? ⟨w.heap.size, 1, none⟩ = some (.int .i64 S) ∧ W.cell? ⟨w.heap.size, 2, none⟩ = some (.int .i64 N) ∧ W.cell? ⟨w.heap.size, 3, none⟩ = some (.int .i64 p) ∧ W.cell? ⟨w.heap.size, 4, none⟩ = some (.int .i64 q) ∧ W.cell? ⟨w.heap.size, 5, none⟩ = some (.int .i64 L))) (by kernel_rfl) (HNB.out 1) (fun _ => ?_)
  refine wpAnyH_take (i := 0) (v := ?_) rfl (by kernel_rfl) (by kernel_rfl) (by kernel_rfl) (fun _ _ _ h => h) (Or.inl ⟨by rfl, ?_⟩) (HNB.out _) ?_
  rotate_left
  (intro w hSw; obtain ⟨s1, s2, s3, s4, s5⟩ := hSw; go_simp)
  try with_reducible rfl
  simp only [Act.put]
  refine wpAnyH_take (i := 1) (v := ?_) rfl (by kernel_rfl) (by kernel_rfl) (by kernel_rfl) (fun _ _ _ h => h) (Or.inl ⟨by rfl, ?_⟩) (HNB.out _) ?_
  rotate_left
  (intro w hSw; obtain ⟨s1, s2, s3, s4, s5⟩ := hSw; go_simp)
  try with_reducible rfl
  simp only [Act.put]
  refine wpAnyH_take (i := 2) (v := ?_) rfl (by kernel_rfl) (by kernel_rfl) (by kernel_rfl) (fun _ _ _ h => h) (Or.inl ⟨by rfl, ?_⟩) (HNB.out _) ?_
  rotate_left
  (intro w hSw; obtain ⟨s1, s2, s3, s4, s5⟩ := hSw; go_simp)
  try with_reducible rfl
  simp only [Act.put]
  refine wpAnyH_take (i := 3) (v := ?_) rfl (by kernel_rfl) (by kernel_rfl) (by kernel_rfl) (fun _ _ _ h => h) (Or.inl ⟨by rfl, ?_⟩) (HNB.out _) ?_
  rotate_left
  (intro w hSw; obtain ⟨s1, s2, s3, s4, s5⟩ := hSw; go_simp)
  try with_reducible rfl
  simp only [Act.put]
  refine wpAnyH_take (i := 4) (v := ?_) rfl (by kernel_rfl) (by kernel_rfl) (by kernel_rfl) (fun _ _ _ h => h) (Or.inl ⟨by rfl, ?_⟩) (HNB.out _) ?_
  rotate_left
  (intro w hSw; obtain ⟨s1, s2, s3, s4, s5⟩ := hSw; go_simp)
  try with_reducible rfl
  simp only [Act.put]
  refine wpAnyH_take (i := 5) (v := ?_) rfl (by kernel_rfl) (by kernel_rfl) (by kernel_rfl) (fun _ _ _ h => h) (Or.inl ⟨by rfl, ?_⟩) (HNB.out _) ?_
  rotate_left
  (intro w hSw; obtain ⟨s1, s2, s3, s4, s5⟩ := hSw; go_simp)
  try with_reducible rfl
  simp only [Act.put]
  refine wpAnyH_take (i := 6) (v := ?_) rfl (by kernel_rfl) (by kernel_rfl) (by kernel_rfl) (fun _ _ _ h => h) (Or.inl ⟨by rfl, ?_⟩) (HNB.out _) ?_
  rotate_left
  (intro w hSw; obtain ⟨s1, s2, s3, s4, s5⟩ := hSw; go_simp)
  try with_reducible rfl
  simp only [Act.put]
  refine wpAnyH_take (i := 7) (v := ?_) rfl (by kernel_rfl) (by kernel_rfl) (by kernel_rfl) (fun _ _ _ h => h) (Or.inl ⟨by rfl, ?_⟩) (HNB.out _) ?_
  rotate_left
  (intro w hSw; obtain ⟨s1, s2, s3, s4, s5⟩ := hSw; go_simp)
  try with_reducible rfl
  simp only [Act.put]
  refine wpAnyH_take (i := 8) (v := ?_) rfl (by kernel_rfl) (by kernel_rfl) (by kernel_rfl) (fun _ _ _ h => h) (Or.inl ⟨by rfl, ?_⟩) (HNB.out _) ?_
  rotate_left
  (intro w hSw; obtain ⟨s1, s2, s3, s4, s5⟩ := hSw; go_simp)
  try with_reducible rfl
  simp only [Act.put]
  refine wpAnyH_take (i := 9) (v := ?_) rfl (by kernel_rfl) (by kernel_rfl) (by kernel_rfl) (fun _ _ _ h => h) (Or.inl ⟨by rfl, ?_⟩) (HNB.out _) ?_
  rotate_left
  (intro w hSw; obtain ⟨s1, s2, s3, s4, s5⟩ := hSw; go_simp)
  try with_reducible rfl
  simp only [Act.put]
  refine wpAnyH_take (i := 10) (v := ?_) rfl (by kernel_rfl) (by kernel_rfl) (by kernel_rfl) (fun _ _ _ h => h) (Or.inl ⟨by rfl, ?_⟩) (HNB.out _) ?_
  rotate_left
  (intro w hSw; obtain ⟨s1, s2, s3, s4, s5⟩ := hSw; go_simp)
  try with_reducible rfl
  simp only [Act.put]
  refine wpAnyH_take (i := 11) (v := ?_) rfl (by kernel_rfl) (by kernel_rfl) (by kernel_rfl) (fun _ _ _ h => h) (Or.inl ⟨by rfl, ?_⟩) (HNB.out _) ?_
  rotate_left
  (intro w hSw; obtain ⟨s1, s2, s3, s4, s5⟩ := hSw; go_simp)
  try with_reducible rfl
  simp only [Act.put]
  refine wpAnyH_take (i := 12) (v := ?_) rfl (by kernel_rfl) (by kernel_rfl) (by kernel_rfl) (fun _ _ _ h => h) (Or.inl ⟨by rfl, ?_⟩) (HNB.out _) ?_
  rotate_left
  (intro w hSw; obtain ⟨s1, s2, s3, s4, s5⟩ := hSw; go_simp)
  try with_reducible rfl
  simp only [Act.put]
  refine wpAnyH_take (i := 13) (v := ?_) rfl (by kernel_rfl) (by kernel_rfl) (by kernel_rfl) (fun _ _ _ h => h) (Or.inl ⟨by rfl, ?_⟩) (HNB.out _) ?_
  rotate_left
  (intro w hSw; obtain ⟨s1, s2, s3, s4, s5⟩ := hSw; go_simp)
  try with_reducible rfl
  simp only [Act.put]
  refine wpAnyH_take (i := 14) (v := ?_) rfl (by kernel_rfl) (by kernel_rfl) (by kernel_rfl) (fun _ _ _ h => h) (Or.inl ⟨by rfl, ?_⟩) (HNB.out _) ?_
  rotate_left
  (intro w hSw; obtain ⟨s1, s2, s3, s4, s5⟩ := hSw; go_simp)
  try with_reducible rfl
  simp only [Act.put]
  refine wpAnyH_take (i := 15) (v := ?_) rfl (by kernel_rfl) (by kernel_rfl) (by kernel_rfl) (fun _ _ _ h => h) (Or.inl ⟨by rfl, ?_⟩) (HNB.out _) ?_
  rotate_left
  (intro w hSw; obtain ⟨s1, s2, s3, s4, s5⟩ := hSw; go_simp)
  try with_reducible rfl
  simp only [Act.put]
  refine wpAnyH_take (i := 16) (v := ?_) rfl (by kernel_rfl) (by kernel_rfl) (by kernel_rfl) (fun _ _ _ h => h) (Or.inl ⟨by rfl, ?_⟩) (HNB.out _) ?_
  rotate_left
  (intro w hSw; obtain ⟨s1, s2, s3, s4, s5⟩ := hSw; go_simp)
  try with_reducible rfl
  simp only [Act.put]
  refine wpAnyH_take (i := 17) (v := ?_) rfl (by kernel_rfl) (by kernel_rfl) (by kernel_rfl) (fun _ _ _ h => h) (Or.inl ⟨by rfl, ?_⟩) (HNB.out _) ?_
  rotate_left
  (intro w hSw; obtain ⟨s1, s2, s3, s4, s5⟩ := hSw; go_simp)
  try with_reducible rfl
  simp only [Act.put]
  refine wpAnyH_take (i := 18) (v := ?_) rfl (by kernel_rfl) (by kernel_rfl) (by kernel_rfl) (fun _ _ _ h => h) (Or.inl ⟨by rfl, ?_⟩) (HNB.out _) ?_
  rotate_left
  (intro w hSw; obtain ⟨s1, s2, s3, s4, s5⟩ := hSw; go_simp)
  try with_reducible rfl
  simp only [Act.put]
  refine wpAnyH_ready (rs := [19]) (by kernel_rfl) (by simp) ?_
  refine AllReadyH.cons rfl (fun K hK => ?_) AllReadyH.nil
  go_simp
  refine hK.out _ _ (HNC.out _ _) (fun _ => ?_)
  clear hK K
  refine wpAnyH_ready (rs := [20]) (by kernel_rfl) (by simp) ?_
  refine AllReadyH.cons rfl (fun K hK => ?_) AllReadyH.nil
  go_simp
  refine (hadd w1 1 hy).mono ?_
  rintro e w2 ⟨rfl, hb2, hcnt⟩
  go_wp2_with fail
  refine hK.out _ _ ⟨cellAt (i := 1) hb2 rfl, cellAt (i := 2) hb2 rfl, cellAt (i := 3) hb2 rfl, cellAt (i := 4) hb2 rfl, cellAt (i := 5) hb2 rfl⟩ (fun _ => ?_)
  clear hK K
  refine wpAnyH_done (by kernel_rfl) (NoPanic.normal ?_) _
  go_wp2_with fail
  refine hcnt.mono ?_
  rintro e w3 ⟨rfl, hz⟩
  go_wp2_with fail
  go_ret
  exact ⟨rfl, hz⟩

end Go.Proofs.Ytjhifhoniimfgaa

/-
  A New that is let through: what it leaves.
-/
namespace Go.Proofs.Ytjhifhoniimfgaa
open Go.RowKit

theorem CntAt.lt {w : World} {v : Value} {c : List Cnt} (h : CntAt w v c) (b : Nat) (hb : v.ownBlock = some b) : b < w.heap.size := by
  rcases h with ⟨rfl, _⟩ | ⟨cb, cap, cur, rfl, q, _⟩
  · cases hb
  · cases hb; exact block_lt q

theorem HeapAt.lt {w : World} {v : Value} {l : List Nat} {dat : Nat → Odr} (h : HeapAt w v l dat) (b : Nat) (hb : v.ownBlock = some b) : b < w.heap.size := by
  rcases h.row with ⟨rfl, _⟩ | ⟨hb', cap, cur, rfl, q, _⟩
  · cases hb
  · cases hb; exact block_lt q

theorem HeapAt.ltl {w : World} {v : Value} {l : List Nat} {dat : Nat → Odr} (h : HeapAt w v l dat) (b : Nat) (hb : b ∈ l) : b < w.heap.size := by
  obtain ⟨i, hi⟩ := List.getElem?_of_mem hb
  exact block_lt (h.ords i b hi)

theorem OrdsAt.ltm {w : World} {ab : Nat} {v : Value} {mb : Nat} {l : List Nat} {dat : Nat → Odr} (h : OrdsAt w ab v mb l dat) : ab < w.heap.size ∧ mb < w.heap.size := by
  obtain ⟨cs, a, _⟩ := h.cells
  obtain ⟨ks, ⟨es, clock, q, _⟩, _⟩ := h.map
  exact ⟨block_lt a, block_lt q⟩

theorem OrdsAt.congr {w : World} {ab : Nat} {v : Value} {mb : Nat} {l : List Nat} {dat dat' : Nat → Odr} (h : OrdsAt w ab v mb l dat) (hd : ∀ b, b ∈ l → dat' b = dat b) : OrdsAt w ab v mb l dat' := by
  obtain ⟨cs, a, b, c, d, e, f, g⟩ := h.cells
  obtain ⟨ks, m1, m2, m3, m4⟩ := h.map
  have eq : ∀ s : Int, tot (qtyF dat' s) l = tot (qtyF dat s) l := fun s => tot_congr _ _ l (fun b hb => by simp only [qtyF, hd b hb])
  have ew : tot (worthF dat') l = tot (worthF dat) l := tot_congr _ _ l (fun b hb => by simp only [worthF, hd b hb])
  refine { h with cells := ⟨cs, a, b, c, d, by rw [eq]; exact e, by rw [eq]; exact f, by rw [ew]; exact g⟩, heap := ⟨h.heap.row, fun i b hi => by rw [hd b (List.mem_of_getElem? hi)]; exact h.heap.ords i b hi, h.heap.nodup, h.heap.away⟩, ok := ?_, map := ⟨ks, m1, m2, m3, fun p hp => ?_⟩ }
  · refine heapOk_congr h.ok (fun k hk => ?_)
    obtain ⟨b, hb⟩ : ∃ b, l[k]? = some b := ⟨_, List.getElem?_eq_getElem hk⟩
    rw [endAt_get hb, endAt_get hb, hd b (List.mem_of_getElem? hb)]
  · rw [hd p.2 (m3.mem_iff.1 (List.mem_map.2 ⟨p, hp, rfl⟩))]; exact m4 p hp

theorem AccP.congr {w : World} {ab : Nat} {lim : Nat → Int} {st : Bool} {v : Value} {mb : Nat} {l : List Nat} {dat dat' : Nat → Odr} {cv : Value} {c : List Cnt} (h : AccP w ab lim st v mb l dat cv c) (hd : ∀ b, b ∈ l → dat' b = dat b) : AccP w ab lim st v mb l dat' cv c :=
  { h with ords := h.ords.congr hd }

theorem hasN_congr {dat dat' : Nat → Odr} {l : List Nat} (hd : ∀ b, b ∈ l → dat' b = dat b) (k : Int) : hasN dat' l k = hasN dat l k := by
  unfold hasN
  rw [Bool.eq_iff_iff, List.any_eq_true, List.any_eq_true]
  constructor
  · rintro ⟨b, hb, h⟩; exact ⟨b, hb, by rw [← hd b hb]; exact h⟩
  · rintro ⟨b, hb, h⟩; exact ⟨b, hb, by rw [hd b hb]; exact h⟩

/-- Other counts: all else of the account is as it was. -/
theorem AccP.recnt {w w' : World} {ab : Nat} {lim : Nat → Int} {st : Bool} {v : Value} {mb : Nat} {l : List Nat} {dat : Nat → Odr} {cv cv' : Value} {c c' : List Cnt} (h : AccP w ab lim st v mb l dat cv c) (hc : CntAt w' cv' c')
    (ho : cv'.ownBlock = cv.ownBlock ∨ ∃ b, cv'.ownBlock = some b ∧ w.heap.size ≤ b) (hs : HeadSet w w' ab 12 cv') (hk : Keep (fun b => b ≠ ab ∧ cv.ownBlock ≠ some b) w w') : AccP w' ab lim st v mb l dat cv' c' := by
  obtain ⟨cs, a, b1, b2, b3, b4⟩ := h.cells
  have a' := hs cs _ _ a
  obtain ⟨cs2, q1, q2, q3, q4, q5, q6, q7⟩ := h.ords.cells
  rw [a] at q1
  cases q1
  obtain ⟨ks, m1, m2⟩ := h.ords.map
  have hlt := h.ords.ltm
  have hmb : mb ≠ ab ∧ cv.ownBlock ≠ some mb := ⟨Ne.symm h.ords.abm, h.cvmb⟩
  have g : ∀ i, i ≠ 12 → (cs.setIfInBounds 12 cv')[i]? = cs[i]? := fun i hi => by rw [Array.getElem?_setIfInBounds, if_neg (Ne.symm hi)]
  have away : ∀ b, b < w.heap.size → cv.ownBlock ≠ some b → cv'.ownBlock ≠ some b := fun b hb hn => by
    rcases ho with e | ⟨x, e, hx⟩
    · rw [e]; exact hn
    · rw [e]; intro q; cases q; omega
  refine ⟨{ h.ords with cells := ⟨_, a', by simpa using q2, by rw [g 7 (by omega)]; exact q3, by rw [g 8 (by omega)]; exact q4, by rw [g 9 (by omega)]; exact q5, by rw [g 10 (by omega)]; exact q6, by rw [g 11 (by omega)]; exact q7⟩,
                            heap := h.ords.heap.keep hk (fun b hb => ⟨fun e => h.ords.vab (e ▸ hb), fun e => h.cvv b e hb⟩) (fun b hb => ⟨fun e => h.ords.abl (e ▸ hb), h.cvl b hb⟩),
                            map := ⟨ks, m1.keep hk hmb, m2⟩ }, ⟨_, a', by simpa using b1, fun i hi => by rw [g i (by omega)]; exact b2 i hi, by rw [g 6 (by omega)]; exact b3, by rw [Array.getElem?_setIfInBounds, if_pos rfl, if_pos (by omega)]⟩, hc,
    away ab hlt.1 h.cvab, away mb hlt.2 h.cvmb, fun b hb => away b (h.ords.heap.ltl b hb) (h.cvl b hb), fun b hb hv => away b (h.ords.heap.lt b hv) (fun e => h.cvv b e hv) hb⟩

/-- One more is counted. -/
theorem cadd_any (w : World) (ab : Nat) (lim : Nat → Int) (st : Bool) (v : Value) (mb : Nat) (l : List Nat) (dat : Nat → Odr) (cv : Value) (c : List Cnt) (h : AccP w ab lim st v mb l dat cv c) (now : Int) (hlen : c.length < 8796093022208) (hm : ∀ x, x ∈ c → 0 ≤ x.2 ∧ x.2 < 8796093022208) :
    Calls Try.prog 86 #[.pointer (some ⟨ab, 12, none⟩), .int .i64 now] w fun e w' => e = .returned (.tuple #[]) ∧
      ∃ cv', AccP w' ab lim st v mb l dat cv' (addC c now) ∧ (cv'.ownBlock = cv.ownBlock ∨ ∃ b, cv'.ownBlock = some b ∧ w.heap.size ≤ b) ∧ Keep (fun b => b ≠ ab ∧ cv.ownBlock ≠ some b) w w' := by
  obtain ⟨cs, a, b1, b2, b3, b4⟩ := h.cells
  by_cases hs : ∃ d m, c = d ++ [(now, m)]
  · obtain ⟨d, m, rfl⟩ := hs
    have hm' := hm (now, m) (by simp)
    refine (cadd_same w ab cv d now m h.cnt (cellAt a b4) h.cvab (by simp at hlen; omega) hm').mono ?_
    rintro e w' ⟨rfl, c12, hc', hk'⟩
    refine ⟨rfl, cv, ?_, .inl rfl, hk'.mono (fun _ _ q => q.2)⟩
    rw [addC_same]
    refine h.recnt hc' (.inl rfl) (fun cs' T f hcs => ?_) (hk'.mono (fun _ _ q => q.2))
    have hb := hk'.get hcs h.cvab
    rw [a] at hcs
    cases hcs
    rw [hb]
    congr 2
    apply Array.ext_getElem?
    intro i
    rw [Array.getElem?_setIfInBounds]
    by_cases e : 12 = i
    · subst e; rw [if_pos rfl, if_pos (by omega)]; exact b4
    · rw [if_neg e]
  · have hl : ∀ x, c.getLast? = some x → x.1 ≠ now := fun x hx e => hs (by
      obtain ⟨d, hd⟩ := List.getLast?_eq_some_iff.1 hx
      obtain ⟨x1, x2⟩ := x
      simp at e
      exact ⟨d, x2, by rw [hd, e]⟩)
    refine (cadd_new w ab cv c now h.cnt hl (cellAt a b4) (frozenAt a) h.cvab hlen).mono ?_
    rintro e w' ⟨rfl, cv', c12, hc', ho', hs', hk'⟩
    refine ⟨rfl, cv', ?_, ho', hk'⟩
    rw [addC_new c now hl]
    exact h.recnt hc' ho' hs' hk'

end Go.Proofs.Ytjhifhoniimfgaa

/-
  Open: a New is let through, or not.
-/
namespace Go.Proofs.Ytjhifhoniimfgaa
open Go.RowKit

/-- What Open leaves where the New is let through: a new order ob, with these data. -/
def Opened (w w' : World) (ab : Nat) (lim : Nat → Int) (st : Bool) (v : Value) (mb : Nat) (l : List Nat) (dat : Nat → Odr) (cv : Value) (c : List Cnt) (t now : Int) (x : Odr) : Prop :=
  ∃ ob dat' v' l' cv' c', (c' = c ∨ c' = c.filter (keepP t)) ∧ AccP w' ab lim st v' mb l' dat' cv' (addC c' now) ∧ l'.Perm (l ++ [ob]) ∧ w.heap.size ≤ ob ∧ dat' ob = x ∧ (∀ b, b ≠ ob → dat' b = dat b) ∧
    (v'.ownBlock = v.ownBlock ∨ ∃ b, v'.ownBlock = some b ∧ w.heap.size ≤ b) ∧ (cv'.ownBlock = cv.ownBlock ∨ ∃ b, cv'.ownBlock = some b ∧ w.heap.size ≤ b) ∧
    Keep (fun b => b ≠ ab ∧ b ≠ mb ∧ v.ownBlock ≠ some b ∧ cv.ownBlock ≠ some b ∧ b ∉ l) w w'

theorem jCode_zero {lim : Nat → Int} {st B : Bool} {S : Int} {p q : Nat} {W0 Q0 T : Int} (h : jCode lim st B S p q W0 Q0 T = 0) : B = false ∧ timesOk p q = true ∧ plusOk W0 (timesV p q) = true ∧ plusOk Q0 q = true := by
  unfold jCode at h
  split at h
  · omega
  split at h
  · omega
  split at h
  · omega
  rename_i h1 h2 h3
  simp only [not_or, Bool.not_eq_false, Bool.not_eq_true] at h2 h3
  exact ⟨h2, h3.1, h3.2.1, h3.2.2⟩

set_option maxHeartbeats 1000000 in
theorem open_yes (w : World) (ab : Nat) (lim : Nat → Int) (st : Bool) (v : Value) (mb : Nat) (l : List Nat) (dat : Nat → Odr) (cv : Value) (c : List Cnt) (h : AccP w ab lim st v mb l dat cv c) (hg : GoodL dat l) (A S N L : Int) (p q : Nat) (now : Int) (hs : S = 0 ∨ S = 1)
    (hp : p ≤ 9223372036854775807) (hq : q ≤ 9223372036854775807) (hL : 0 ≤ L) (hL2 : L ≤ 1000000)
    (hn : 0 ≤ now) (hn2 : now ≤ 1000000000000000) (hl5 : 0 ≤ lim 5) (hl52 : lim 5 ≤ 1000) (hlen : l.length < 8796093022208) (hcl : c.length < 8796093022208) (hcp : ∀ x, x ∈ c → 0 ≤ x.2 ∧ x.2 < 8796093022208) (hcs : sumM (c.filter (keepP (now - lim 5))) ≤ 8796093022208)
    (hj : jCode lim st (hasN dat l N) S p q (tot (worthF dat) l) (tot (qtyF dat S) l) (sumM (c.filter (keepP (now - lim 5)))) = 0) :
    Calls Try.prog 75 #[.pointer (some ⟨ab, 0, none⟩), .agg #[.int .i64 A, .int .i64 S, .int .i64 N, .int .i64 p, .int .i64 q, .int .i64 L], .int .i64 now] w fun e w' =>
      e = .returned (.int .i64 0) ∧ Opened w w' ab lim st v mb l dat cv c (now - lim 5) now ⟨N, S, q, ((p * q : Nat) : Int), now + L⟩ := by
  obtain ⟨jB, jt, jw, jq⟩ := jCode_zero hj
  have hpq : p * q ≤ 9223372036854775807 := of_decide_eq_true jt
  have htv : timesV p q = ((p * q : Nat) : Int) := by unfold timesV; rw [if_pos jt]
  have hw0 := hg.worthPos
  have hw1 := hg.w
  have hq0 := hg.qtyPos S
  have hq1 : tot (qtyF dat S) l ≤ 9223372036854775807 := by
    rcases hs with e | e
    · rw [e]; exact hg.q0
    · rw [e]; exact hg.q1
  have hsw : tot (worthF dat) l + ((p * q : Nat) : Int) ≤ 9223372036854775807 := by
    have := of_decide_eq_true jw; rw [htv] at this; omega
  have hsq : tot (qtyF dat S) l + (q : Int) ≤ 9223372036854775807 := by
    have := of_decide_eq_true jq; omega
  obtain ⟨O, hO⟩ : ∃ O : Obj, O = .cells #[.int .i64 A, .int .i64 S, .int .i64 N, .int .i64 p, .int .i64 q, .int .i64 L] 160 := ⟨_, rfl⟩
  have h0 : AccP (w.alloc O) ab lim st v mb l dat cv c := h.keep (S := fun _ => True) ((Keep.refl _ w).alloc _) trivial trivial (fun _ _ => trivial) (fun _ _ => trivial) (fun _ _ => trivial)
  have hjd := judge_any (w.alloc O) ab lim st v mb l dat cv c h0 A S N L p q now hs hp hq hw0 hw1 hq0 hq1 hn hn2 hl5 hl52 (by omega) (fun x hx => (hcp x hx).1) hcs
  rw [hj] at hjd
  have hlt := h.ords.ltm
  have hcvlt := h.cnt.lt
  have hnbk : ∀ W, Judged (w.alloc O) W ab lim st v mb l dat cv c (now - lim 5) → W.heap[w.heap.size]? = some O ∧ w.heap.size < W.heap.size := fun W hy => by
    obtain ⟨cv', c', _, _, _, hk⟩ := hy
    have hb := hk.get (b := w.heap.size) (heap_alloc_new w O) ⟨by omega, fun e => Nat.lt_irrefl _ (hcvlt _ e)⟩
    exact ⟨hb, block_lt hb⟩
  refine (open_walk w ab w.heap.size A S N L p q now (fun W => Judged (w.alloc O) W ab lim st v mb l dat cv c (now - lim 5)) (fun w' => Opened w w' ab lim st v mb l dat cv c (now - lim 5) now ⟨N, S, q, ((p * q : Nat) : Int), now + L⟩) rfl (by rw [← hO]; exact hjd) (fun W hy => by rw [(hnbk W hy).1, hO]) ?_ (by omega) (by omega) hn hn2 hL hL2)
  intro W n hy
  have hnb := hnbk W hy
  obtain ⟨cv', c', hc', hacc, hcvo, hk⟩ := hy
  have hkw : Keep (fun b => b ≠ ab ∧ cv.ownBlock ≠ some b) w W := ((Keep.refl _ w).alloc O).trans hk
  obtain ⟨x, hx⟩ : ∃ x : Odr, x = ⟨N, S, q, ((p * q : Nat) : Int), now + L⟩ := ⟨_, rfl⟩
  obtain ⟨dat', hdat⟩ : ∃ dat' : Nat → Odr, dat' = fun b => if b = W.heap.size then x else dat b := ⟨_, rfl⟩
  have hd1 : dat' W.heap.size = x := by rw [hdat]; exact if_pos rfl
  have hd2 : ∀ b, b ≠ W.heap.size → dat' b = dat b := fun b hb => by rw [hdat]; exact if_neg hb
  have hdl : ∀ b, b ∈ l → dat' b = dat b := fun b hb => hd2 b (Nat.ne_of_lt (hacc.ords.heap.ltl b hb))
  have hOB : (.cells #[.int .i64 N, .int .i64 S, .int .i64 q, .int .i64 ((p : Int) * (q : Int)), .int .i64 (now + L), .int .i64 0] 149 : Obj) = .cells #[.int .i64 x.num, .int .i64 x.side, .int .i64 x.qty, .int .i64 x.worth, .int .i64 x.till, .int .i64 ((0 : Nat) : Int)] 149 := by
    rw [hx, Int.natCast_mul]; rfl
  rw [hOB]
  obtain ⟨OB, hOB2⟩ : ∃ OB : Obj, OB = .cells #[.int .i64 x.num, .int .i64 x.side, .int .i64 x.qty, .int .i64 x.worth, .int .i64 x.till, .int .i64 ((0 : Nat) : Int)] 149 := ⟨_, rfl⟩
  rw [← hOB2]
  have kW3 : Keep (fun _ => True) W ((W.drewN n).alloc OB) := ((Keep.refl _ W).drewN n).alloc OB
  have hacc3 : AccP ((W.drewN n).alloc OB) ab lim st v mb l dat' cv' c' := (hacc.keep kW3 trivial trivial (fun _ _ => trivial) (fun _ _ => trivial) (fun _ _ => trivial)).congr hdl
  have hord : OrdAt ((W.drewN n).alloc OB) W.heap.size (dat' W.heap.size) 0 := by
    rw [hd1]
    have := heap_alloc_new (W.drewN n) OB
    unfold OrdAt
    rw [← hOB2]
    exact this
  have hltW := hacc.ords.ltm
  have etq : tot (qtyF dat' x.side) l = tot (qtyF dat S) l := by
    have : x.side = S := by rw [hx]
    rw [this]
    exact tot_congr _ _ l (fun b hb => by simp only [qtyF, hdl b hb])
  have etw : tot (worthF dat') l = tot (worthF dat) l := tot_congr _ _ l (fun b hb => by simp only [worthF, hdl b hb])
  have hxq : x.qty = (q : Int) := by rw [hx]
  have hxw : x.worth = ((p * q : Nat) : Int) := by rw [hx]
  have hxs : x.side = 0 ∨ x.side = 1 := by rw [hx]; exact hs
  have hxn : x.num = N := by rw [hx]
  have hadd := add_any _ ab W.heap.size v mb l dat' 0 hacc3.ords hord (by rw [hd1]; exact hxs) (fun e => Nat.lt_irrefl _ (hacc.ords.heap.ltl _ e)) (by omega) (by omega) (fun e => Nat.lt_irrefl _ (hacc.ords.heap.lt _ e))
    (by rw [hd1, hxn, hasN_congr hdl]; exact jB) hlen (by rw [hd1, etq, hxq]; omega) (by rw [hd1, etw, hxw]; omega)
  refine hadd.mono ?_
  rintro e w4 ⟨rfl, v4, l4, ho4, hp4, hv4, hcell4, hk4⟩
  have hcv'lt := hacc.cnt.lt
  have hnl : w.heap.size ∉ l := fun e => Nat.lt_irrefl _ (h.ords.heap.ltl _ e)
  refine ⟨rfl, ?_, ?_⟩
  · have hb : ((W.drewN n).alloc OB).heap[w.heap.size]? = some O := (Below.heap_alloc (W.drewN n) _ _ hnb.2).trans hnb.1
    rw [hk4.get hb ⟨by omega, by omega, by omega, fun e => Nat.lt_irrefl _ (h.ords.heap.lt _ e), hnl⟩, hO]
  have hml4 : ∀ b, b ∈ l4 → b ∈ l ∨ b = W.heap.size := fun b hb => by
    rcases List.mem_append.1 (hp4.mem_iff.1 hb) with q | q
    · exact .inl q
    · simp at q; exact .inr q
  have hcv4 : ∀ b, cv'.ownBlock = some b → b ≠ ab ∧ b ≠ mb ∧ b ≠ W.heap.size ∧ v.ownBlock ≠ some b ∧ b ∉ l := fun b hb =>
    ⟨fun e => hacc.cvab (e ▸ hb), fun e => hacc.cvmb (e ▸ hb), Nat.ne_of_lt (hcv'lt b hb), hacc.cvv b hb, fun e => hacc.cvl b e hb⟩
  have hacc4 : AccP w4 ab lim st v4 mb l4 dat' cv' c' := by
    refine hacc3.reord ho4 hcell4 (hacc3.cnt.keep hk4 (fun b hb => hcv4 b hb)) (fun b hb e => ?_) (fun b hb e => ?_)
    · rcases hml4 b hb with q | q
      · exact hacc.cvl b q e
      · exact (hcv4 b e).2.2.1 q
    · rcases hv4 with q | ⟨y, q, hy⟩
      · rw [q] at e; exact hacc.cvv b hb e
      · rw [q] at e
        cases e
        have := hcv'lt _ hb
        have h2 : W.heap.size ≤ ((W.drewN n).alloc OB).heap.size := kW3.size
        omega
  have hclen : c'.length < 8796093022208 := by
    rcases hc' with e | e
    · rw [e]; exact hcl
    · rw [e]; have := List.length_filter_le (keepP (now - lim 5)) c; omega
  have hcm : ∀ y, y ∈ c' → 0 ≤ y.2 ∧ y.2 < 8796093022208 := fun y hy => by
    rcases hc' with e | e
    · rw [e] at hy; exact hcp y hy
    · rw [e] at hy; exact hcp y (List.mem_filter.1 hy).1
  refine (cadd_any w4 ab lim st v4 mb l4 dat' cv' c' hacc4 now hclen hcm).mono ?_
  rintro e w5 ⟨rfl, cv5, hacc5, hcv5, hk5⟩
  have hsz1 : w.heap.size ≤ W.heap.size := hkw.size
  have hsz3 : W.heap.size ≤ ((W.drewN n).alloc OB).heap.size := kW3.size
  have hsz4 := hk4.size
  refine ⟨rfl, W.heap.size, dat', v4, l4, cv5, c', hc', hacc5, hp4, hsz1, by rw [hd1, hx], hd2, ?_, ?_, ?_⟩
  · rcases hv4 with q | ⟨y, q, hy⟩
    · exact .inl q
    · exact .inr ⟨y, q, by omega⟩
  · rcases hcv5 with q | ⟨y, q, hy⟩
    · exact .inl (q.trans hcvo)
    · exact .inr ⟨y, q, by omega⟩
  · have kA : Keep (fun b => b ≠ ab ∧ b ≠ mb ∧ v.ownBlock ≠ some b ∧ cv.ownBlock ≠ some b ∧ b ∉ l) w ((W.drewN n).alloc OB) := (hkw.mono (T := fun b => b ≠ ab ∧ b ≠ mb ∧ v.ownBlock ≠ some b ∧ cv.ownBlock ≠ some b ∧ b ∉ l) (fun b _ q => ⟨q.1, q.2.2.2.1⟩)).trans' kW3 (fun _ _ _ => trivial)
    have kB := kA.trans' hk4 (fun b hb q => ⟨q.1, q.2.1, by omega, q.2.2.1, q.2.2.2.2⟩)
    exact kB.trans' hk5 (fun b _ q => ⟨q.1, by rw [hcvo]; exact q.2.2.2.1⟩)

end Go.Proofs.Ytjhifhoniimfgaa

