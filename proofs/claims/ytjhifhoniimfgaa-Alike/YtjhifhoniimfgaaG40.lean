import Derived.Test.YtjhifhoniimfgaaG27
import Derived.Deep.RegionHeld3
import Derived.Test.YtjhifhoniimfgaaG29
/-
  A game's settings.
-/
namespace Go.Proofs.Ytjhifhoniimfgaa
open Go.RowKit

def szOf (i : Nat) : Nat := if i = 0 then 2 else if i = 1 then 4 else if i = 2 then 8 else 16

/-- The limits of a game's accounts. -/
def kLim (n : Nat) (a j : Nat) : Int :=
  if a = 0 then (if j = 0 then 10 else if j = 1 then 12 + (n / 256 % 9 : Nat) else if j = 2 then 15 else if j = 3 then 200 else if j = 4 then 1 + (n / 4096 % 9 : Nat) else 1 + (n / 65536 % 9 : Nat))
  else (if j = 0 then 9 else if j = 1 then 30 else if j = 2 then 0 else if j = 3 then 100000 else if j = 4 then 1000 else 1)

def KS (sb i0 i1 i2 : Nat) (W : World) : Prop := W.cell? ⟨sb, i0, none⟩ = some (.int .i64 (szOf i0)) ∧ W.cell? ⟨sb, i1, none⟩ = some (.int .i64 (szOf i1)) ∧ W.cell? ⟨sb, i2, none⟩ = some (.int .i64 (szOf i2))

theorem KS.keep {sb i0 i1 i2 : Nat} {W W' : World} {q : Nat} (h : KS sb i0 i1 i2 (W.drewN q)) (hk : Keep (fun b => b = sb) W W') (hl : sb < W.heap.size) : KS sb i0 i1 i2 W' := by
  have e : ∀ i, W'.cell? ⟨sb, i, none⟩ = W.cell? ⟨sb, i, none⟩ := fun i => World.cell?_of_block (w := W) (hk.block sb hl rfl)
  obtain ⟨h1, h2, h3⟩ := h
  exact ⟨(e i0).trans h1, (e i1).trans h2, (e i2).trans h3⟩

set_option maxRecDepth 100000 in
set_option maxHeartbeats 2000000 in
theorem settings_any (raw : Int) (n : Nat) (hn : n = pickN raw 1073741824) (h1 : -9223372036854775808 ≤ raw) (h2 : raw ≤ 9223372036854775807) (w : World) :
    Calls Try.prog 27 #[.int .i64 raw] w fun e w' => ∃ b, e = .returned (.agg #[.int .i64 3, .int .i64 (szOf (n % 4)), .int .i64 (szOf (n / 4 % 4)), .int .i64 (szOf (n / 16 % 4)), .int .i64 (1 + (n / 64 % 4 : Nat)), .slice (some ⟨b, 0, none⟩) 2 2]) ∧ Below w.heap.size w w' ∧ AccAt w' (some ⟨b, 0, none⟩) 2 (kLim n) ∧ w.heap.size ≤ b := by
  have hp := fun w => pick_any raw 1073741824 w (by omega) (by omega) h1 h2
  rw [← hn] at hp
  have hlt : n < 1073741824 := by rw [hn]; exact pickN_lt _ _ (by omega)
  clear hn h1 h2
  go_enter Try.func27, Try.ntmps27
  go_wp2_with fail
  refine (hp _).mono ?_
  rintro e w0 ⟨rfl, rfl⟩
  clear hp
  go_wp2_with fail
  obtain ⟨i0, hi0⟩ : ∃ i0, i0 = n % 4 := ⟨_, rfl⟩
  obtain ⟨i1, hi1⟩ : ∃ i1, i1 = n / 4 % 4 := ⟨_, rfl⟩
  obtain ⟨i2, hi2⟩ : ∃ i2, i2 = n / 16 % 4 := ⟨_, rfl⟩
  have key : ∀ i, i < 4 → (((w.alloc (.cells #[.int .i64 0, .int .i64 0, .int .i64 0, .int .i64 0, .int .i64 0, .slice none 0 0] 31)).alloc (.cells #[.int .i64 2, .int .i64 4, .int .i64 8, .int .i64 16] 3)).drewN 1).cell? ⟨w.heap.size + 1, i, none⟩ = some (.int .i64 (szOf i)) := fun i hi => by
    rcases (show i = 0 ∨ i = 1 ∨ i = 2 ∨ i = 3 by omega) with rfl | rfl | rfl | rfl <;> simp [szOf]
  have key2 : ∀ (A L : Obj) (i : Nat), i < 4 → ((((w.alloc A).alloc (.cells #[.int .i64 2, .int .i64 4, .int .i64 8, .int .i64 16] 3)).alloc L).drew).cell? ⟨w.heap.size + 1, i, none⟩ = some (.int .i64 (szOf i)) := fun A L i hi => by
    have h0 : ((((w.alloc A).alloc (.cells #[.int .i64 2, .int .i64 4, .int .i64 8, .int .i64 16] 3)).alloc L).drew).heap[w.heap.size + 1]? = some (.cells #[.int .i64 2, .int .i64 4, .int .i64 8, .int .i64 16] 3 (0, 0)) := by
      show ((((w.alloc A).alloc (.cells #[.int .i64 2, .int .i64 4, .int .i64 8, .int .i64 16] 3)).alloc L)).heap[w.heap.size + 1]? = _
      rw [Below.heap_alloc _ _ _ (by simp)]
      have := heap_alloc_new (w.alloc A) (.cells #[.int .i64 2, .int .i64 4, .int .i64 8, .int .i64 16] 3)
      simpa using this
    refine cellAt h0 ?_
    rcases (show i = 0 ∨ i = 1 ∨ i = 2 ∨ i = 3 by omega) with rfl | rfl | rfl | rfl <;> rfl
  have b0 : i0 < 4 := by omega
  have b1 : i1 < 4 := by omega
  have b2 : i2 < 4 := by omega
  have s0 : KS (w.heap.size + 1) i0 i1 i2 (((w.alloc (.cells #[.int .i64 0, .int .i64 0, .int .i64 0, .int .i64 0, .int .i64 0, .slice none 0 0] 31)).alloc (.cells #[.int .i64 2, .int .i64 4, .int .i64 8, .int .i64 16] 3)).drewN 1) := by
    exact ⟨key i0 b0, key i1 b1, key i2 b2⟩
  have tm : ∀ (m k : Nat), (m : Int).tmod k = ((m % k : Nat) : Int) := fun m k => by rw [Int.tmod_eq_emod_of_nonneg (by omega)]; rfl
  have wr : ∀ k : Nat, IntKind.i64.wrap ((n : Int) / k) = ((n / k : Nat) : Int) := fun k => by
    have h1 : ((n : Int) / k) = ((n / k : Nat) : Int) := rfl
    have h2 : n / k ≤ n := Nat.div_le_self n k
    rw [h1, IntKind.wrap_i64]
    generalize n / k = m at h2 ⊢
    omega
  have e0 : (n : Int).tmod 4 = (i0 : Int) := by rw [hi0]; exact tm n 4
  have e1 : (IntKind.i64.wrap ((n : Int) / 4)).tmod 4 = (i1 : Int) := by rw [hi1, show IntKind.i64.wrap ((n : Int) / 4) = ((n / 4 : Nat) : Int) from wr 4]; exact tm _ 4
  have e2 : (IntKind.i64.wrap ((n : Int) / 16)).tmod 4 = (i2 : Int) := by rw [hi2, show IntKind.i64.wrap ((n : Int) / 16) = ((n / 16 : Nat) : Int) from wr 16]; exact tm _ 4
  have e3 : (IntKind.i64.wrap ((n : Int) / 64)).tmod 4 = ((n / 64 % 4 : Nat) : Int) := by rw [show IntKind.i64.wrap ((n : Int) / 64) = ((n / 64 : Nat) : Int) from wr 64]; exact tm _ 4
  have e4 : (IntKind.i64.wrap ((n : Int) / 256)).tmod 9 = ((n / 256 % 9 : Nat) : Int) := by rw [show IntKind.i64.wrap ((n : Int) / 256) = ((n / 256 : Nat) : Int) from wr 256]; exact tm _ 9
  have e5 : (IntKind.i64.wrap ((n : Int) / 4096)).tmod 9 = ((n / 4096 % 9 : Nat) : Int) := by rw [show IntKind.i64.wrap ((n : Int) / 4096) = ((n / 4096 : Nat) : Int) from wr 4096]; exact tm _ 9
  have e6 : (IntKind.i64.wrap ((n : Int) / 65536)).tmod 9 = ((n / 65536 % 9 : Nat) : Int) := by rw [show IntKind.i64.wrap ((n : Int) / 65536) = ((n / 65536 : Nat) : Int) from wr 65536]; exact tm _ 9
  have c0 : (i0 : Int) < 4 := by omega
  have c1 : (i1 : Int) < 4 := by omega
  have c2 : (i2 : Int) < 4 := by omega
  have HI := hideE (show i0 = n % 4 ∧ i1 = n / 4 % 4 ∧ i2 = n / 16 % 4 from ⟨hi0, hi1, hi2⟩)
  clear hi0 hi1 hi2 tm wr key
  have HK2 := hideE (fun (A L : Obj) => show KS (w.heap.size + 1) i0 i1 i2 ((((w.alloc A).alloc (.cells #[.int .i64 2, .int .i64 4, .int .i64 8, .int .i64 16] 3)).alloc L).drew) from ⟨key2 A L i0 b0, key2 A L i1 b1, key2 A L i2 b2⟩)
  clear key2
  have HKS := hideE (fun (W' : World) (hk : Keep (fun b => b = w.heap.size + 1) ((w.alloc (.cells #[.int .i64 0, .int .i64 0, .int .i64 0, .int .i64 0, .int .i64 0, .slice none 0 0] 31)).alloc (.cells #[.int .i64 2, .int .i64 4, .int .i64 8, .int .i64 16] 3)) W') => KS.keep s0 (((Keep.refl _ _)).trans' hk (fun _ _ h => h)) (by simp))
  refine wp_region_noPanic ?_
  refine wp_region_held_drew (S := KS (w.heap.size + 1) i0 i1 i2) (by kernel_rfl) s0 (fun _ => ?_)
  refine wpAnyH_take (i := 0) (v := ?_) rfl (by kernel_rfl) (by kernel_rfl) (by kernel_rfl) (fun _ _ _ h => h) (Or.inl ⟨by rfl, ?_⟩) s0 ?_
  rotate_left
  (intro w hSw; obtain ⟨z0, z1, z2⟩ := hSw; go_simp)
  try with_reducible rfl
  simp only [Act.put]
  refine wpAnyH_take (i := 1) (v := ?_) rfl (by kernel_rfl) (by kernel_rfl) (by kernel_rfl) (fun _ _ _ h => h) (Or.inl ⟨by rfl, ?_⟩) s0 ?_
  rotate_left
  (intro w hSw; obtain ⟨z0, z1, z2⟩ := hSw; go_simp)
  try with_reducible rfl
  simp only [Act.put]
  refine wpAnyH_take (i := 2) (v := ?_) rfl (by kernel_rfl) (by kernel_rfl) (by kernel_rfl) (fun _ _ _ h => h) (Or.inl ⟨by rfl, ?_⟩) s0 ?_
  rotate_left
  (intro w hSw; obtain ⟨z0, z1, z2⟩ := hSw; go_simp)
  try with_reducible rfl
  simp only [Act.put]
  refine wpAnyH_take (i := 3) (v := ?_) rfl (by kernel_rfl) (by kernel_rfl) (by kernel_rfl) (fun _ _ _ h => h) (Or.inl ⟨by rfl, ?_⟩) s0 ?_
  rotate_left
  (intro w hSw; obtain ⟨z0, z1, z2⟩ := hSw; go_simp)
  try with_reducible rfl
  simp only [Act.put]
  refine wpAnyH_take (i := 4) (v := ?_) rfl (by kernel_rfl) (by kernel_rfl) (by kernel_rfl) (fun _ _ _ h => h) (Or.inl ⟨by rfl, ?_⟩) s0 ?_
  rotate_left
  (intro w hSw; obtain ⟨z0, z1, z2⟩ := hSw; go_simp)
  try with_reducible rfl
  simp only [Act.put]
  refine wpAnyH_take (i := 5) (v := ?_) rfl (by kernel_rfl) (by kernel_rfl) (by kernel_rfl) (fun _ _ _ h => h) (Or.inl ⟨by rfl, ?_⟩) s0 ?_
  rotate_left
  (intro w hSw; obtain ⟨z0, z1, z2⟩ := hSw; go_simp)
  try with_reducible rfl
  simp only [Act.put]
  refine wpAnyH_take (i := 6) (v := ?_) rfl (by kernel_rfl) (by kernel_rfl) (by kernel_rfl) (fun _ _ _ h => h) (Or.inl ⟨by rfl, ?_⟩) s0 ?_
  rotate_left
  (intro w hSw; obtain ⟨z0, z1, z2⟩ := hSw; go_simp)
  try with_reducible rfl
  simp only [Act.put]
  refine wpAnyH_take (i := 7) (v := ?_) rfl (by kernel_rfl) (by kernel_rfl) (by kernel_rfl) (fun _ _ _ h => h) (Or.inl ⟨by rfl, ?_⟩) s0 ?_
  rotate_left
  (intro w hSw; obtain ⟨z0, z1, z2⟩ := hSw; go_simp)
  try with_reducible rfl
  simp only [Act.put]
  refine wpAnyH_take (i := 8) (v := ?_) rfl (by kernel_rfl) (by kernel_rfl) (by kernel_rfl) (fun _ _ _ h => h) (Or.inl ⟨by rfl, ?_⟩) s0 ?_
  rotate_left
  (intro w hSw; obtain ⟨z0, z1, z2⟩ := hSw; go_simp)
  try with_reducible rfl
  simp only [Act.put]
  refine wpAnyH_take (i := 9) (v := ?_) rfl (by kernel_rfl) (by kernel_rfl) (by kernel_rfl) (fun _ _ _ h => h) (Or.inl ⟨by rfl, ?_⟩) s0 ?_
  rotate_left
  (intro w hSw; obtain ⟨z0, z1, z2⟩ := hSw; go_simp)
  try with_reducible rfl
  simp only [Act.put]
  refine wpAnyH_take (i := 10) (v := ?_) rfl (by kernel_rfl) (by kernel_rfl) (by kernel_rfl) (fun _ _ _ h => h) (Or.inl ⟨by rfl, ?_⟩) s0 ?_
  rotate_left
  (intro w hSw; obtain ⟨z0, z1, z2⟩ := hSw; go_simp)
  try with_reducible rfl
  simp only [Act.put]
  refine wpAnyH_take (i := 11) (v := ?_) rfl (by kernel_rfl) (by kernel_rfl) (by kernel_rfl) (fun _ _ _ h => h) (Or.inl ⟨by rfl, ?_⟩) s0 ?_
  rotate_left
  (intro w hSw; obtain ⟨z0, z1, z2⟩ := hSw; go_simp)
  try with_reducible rfl
  simp only [Act.put]
  refine wpAnyH_take (i := 12) (v := ?_) rfl (by kernel_rfl) (by kernel_rfl) (by kernel_rfl) (fun _ _ _ h => h) (Or.inl ⟨by rfl, ?_⟩) s0 ?_
  rotate_left
  (intro w hSw; obtain ⟨z0, z1, z2⟩ := hSw; go_simp)
  try with_reducible rfl
  simp only [Act.put]
  refine wpAnyH_take (i := 13) (v := ?_) rfl (by kernel_rfl) (by kernel_rfl) (by kernel_rfl) (fun _ _ _ h => h) (Or.inl ⟨by rfl, ?_⟩) s0 ?_
  rotate_left
  (intro w hSw; obtain ⟨z0, z1, z2⟩ := hSw; go_simp)
  try with_reducible rfl
  simp only [Act.put]
  refine wpAnyH_take (i := 14) (v := ?_) rfl (by kernel_rfl) (by kernel_rfl) (by kernel_rfl) (fun _ _ _ h => h) (Or.inl ⟨by rfl, ?_⟩) s0 ?_
  rotate_left
  (intro w hSw; obtain ⟨z0, z1, z2⟩ := hSw; go_simp)
  try with_reducible rfl
  simp only [Act.put]
  refine wpAnyH_take (i := 15) (v := ?_) rfl (by kernel_rfl) (by kernel_rfl) (by kernel_rfl) (fun _ _ _ h => h) (Or.inl ⟨by rfl, ?_⟩) s0 ?_
  rotate_left
  (intro w hSw; obtain ⟨z0, z1, z2⟩ := hSw; go_simp)
  try with_reducible rfl
  simp only [Act.put]
  refine wpAnyH_take (i := 16) (v := ?_) rfl (by kernel_rfl) (by kernel_rfl) (by kernel_rfl) (fun _ _ _ h => h) (Or.inl ⟨by rfl, ?_⟩) s0 ?_
  rotate_left
  (intro w hSw; obtain ⟨z0, z1, z2⟩ := hSw; go_simp)
  try with_reducible rfl
  simp only [Act.put]
  refine wpAnyH_take (i := 17) (v := ?_) rfl (by kernel_rfl) (by kernel_rfl) (by kernel_rfl) (fun _ _ _ h => h) (Or.inl ⟨by rfl, ?_⟩) s0 ?_
  rotate_left
  (intro w hSw; obtain ⟨z0, z1, z2⟩ := hSw; go_simp)
  try with_reducible rfl
  simp only [Act.put]
  refine wpAnyH_take (i := 18) (v := ?_) rfl (by kernel_rfl) (by kernel_rfl) (by kernel_rfl) (fun _ _ _ h => h) (Or.inl ⟨by rfl, ?_⟩) s0 ?_
  rotate_left
  (intro w hSw; obtain ⟨z0, z1, z2⟩ := hSw; go_simp)
  try with_reducible rfl
  simp only [Act.put]
  refine wpAnyH_take (i := 19) (v := ?_) rfl (by kernel_rfl) (by kernel_rfl) (by kernel_rfl) (fun _ _ _ h => h) (Or.inl ⟨by rfl, ?_⟩) s0 ?_
  rotate_left
  (intro w hSw; obtain ⟨z0, z1, z2⟩ := hSw; go_simp)
  try with_reducible rfl
  simp only [Act.put]
  refine wpAnyH_take (i := 20) (v := ?_) rfl (by kernel_rfl) (by kernel_rfl) (by kernel_rfl) (fun _ _ _ h => h) (Or.inl ⟨by rfl, ?_⟩) s0 ?_
  rotate_left
  (intro w hSw; obtain ⟨z0, z1, z2⟩ := hSw; go_simp)
  try with_reducible rfl
  simp only [Act.put]
  refine wpAnyH_take (i := 21) (v := ?_) rfl (by kernel_rfl) (by kernel_rfl) (by kernel_rfl) (fun _ _ _ h => h) (Or.inl ⟨by rfl, ?_⟩) s0 ?_
  rotate_left
  (intro w hSw; obtain ⟨z0, z1, z2⟩ := hSw; go_simp)
  try with_reducible rfl
  simp only [Act.put]
  refine wpAnyH_take (i := 22) (v := ?_) rfl (by kernel_rfl) (by kernel_rfl) (by kernel_rfl) (fun _ _ _ h => h) (Or.inl ⟨by rfl, ?_⟩) s0 ?_
  rotate_left
  (intro w hSw; obtain ⟨z0, z1, z2⟩ := hSw; go_simp)
  try with_reducible rfl
  simp only [Act.put]
  refine wpAnyH_take (i := 23) (v := ?_) rfl (by kernel_rfl) (by kernel_rfl) (by kernel_rfl) (fun _ _ _ h => h) (Or.inl ⟨by rfl, ?_⟩) s0 ?_
  rotate_left
  (intro w hSw; obtain ⟨z0, z1, z2⟩ := hSw; go_simp)
  try with_reducible rfl
  simp only [Act.put]
  refine wpAnyH_take (i := 24) (v := ?_) rfl (by kernel_rfl) (by kernel_rfl) (by kernel_rfl) (fun _ _ _ h => h) (Or.inl ⟨by rfl, ?_⟩) s0 ?_
  rotate_left
  (intro w hSw; obtain ⟨z0, z1, z2⟩ := hSw; go_simp)
  try with_reducible rfl
  simp only [Act.put]
  refine wpAnyH_take (i := 25) (v := ?_) rfl (by kernel_rfl) (by kernel_rfl) (by kernel_rfl) (fun _ _ _ h => h) (Or.inl ⟨by rfl, ?_⟩) s0 ?_
  rotate_left
  (intro w hSw; obtain ⟨z0, z1, z2⟩ := hSw; go_simp)
  try with_reducible rfl
  simp only [Act.put]
  refine wpAnyH_take (i := 26) (v := ?_) rfl (by kernel_rfl) (by kernel_rfl) (by kernel_rfl) (fun _ _ _ h => h) (Or.inl ⟨by rfl, ?_⟩) s0 ?_
  rotate_left
  (intro w hSw; obtain ⟨z0, z1, z2⟩ := hSw; go_simp)
  try with_reducible rfl
  simp only [Act.put]
  refine wpAnyH_take (i := 27) (v := ?_) rfl (by kernel_rfl) (by kernel_rfl) (by kernel_rfl) (fun _ _ _ h => h) (Or.inl ⟨by rfl, ?_⟩) s0 ?_
  rotate_left
  (intro w hSw; obtain ⟨z0, z1, z2⟩ := hSw; go_simp)
  try with_reducible rfl
  simp only [Act.put]
  refine wpAnyH_take (i := 28) (v := ?_) rfl (by kernel_rfl) (by kernel_rfl) (by kernel_rfl) (fun _ _ _ h => h) (Or.inl ⟨by rfl, ?_⟩) s0 ?_
  rotate_left
  (intro w hSw; obtain ⟨z0, z1, z2⟩ := hSw; go_simp)
  try with_reducible rfl
  simp only [Act.put]
  refine wpAnyH_take (i := 29) (v := ?_) rfl (by kernel_rfl) (by kernel_rfl) (by kernel_rfl) (fun _ _ _ h => h) (Or.inl ⟨by rfl, ?_⟩) s0 ?_
  rotate_left
  (intro w hSw; obtain ⟨z0, z1, z2⟩ := hSw; go_simp)
  try with_reducible rfl
  simp only [Act.put]
  refine wpAnyH_take (i := 30) (v := ?_) rfl (by kernel_rfl) (by kernel_rfl) (by kernel_rfl) (fun _ _ _ h => h) (Or.inl ⟨by rfl, ?_⟩) s0 ?_
  rotate_left
  (intro w hSw; obtain ⟨z0, z1, z2⟩ := hSw; go_simp)
  try with_reducible rfl
  simp only [Act.put]
  refine wpAnyH_take (i := 31) (v := ?_) rfl (by kernel_rfl) (by kernel_rfl) (by kernel_rfl) (fun _ _ _ h => h) (Or.inl ⟨by rfl, ?_⟩) s0 ?_
  rotate_left
  (intro w hSw; obtain ⟨z0, z1, z2⟩ := hSw; go_simp)
  try with_reducible rfl
  simp only [Act.put]
  refine wpAnyH_take (i := 32) (v := ?_) rfl (by kernel_rfl) (by kernel_rfl) (by kernel_rfl) (fun _ _ _ h => h) (Or.inl ⟨by rfl, ?_⟩) s0 ?_
  rotate_left
  (intro w hSw; obtain ⟨z0, z1, z2⟩ := hSw; go_simp)
  try with_reducible rfl
  simp only [Act.put]
  refine wpAnyH_take (i := 33) (v := ?_) rfl (by kernel_rfl) (by kernel_rfl) (by kernel_rfl) (fun _ _ _ h => h) (Or.inl ⟨by rfl, ?_⟩) s0 ?_
  rotate_left
  (intro w hSw; obtain ⟨z0, z1, z2⟩ := hSw; go_simp)
  try with_reducible rfl
  simp only [Act.put]
  refine wpAnyH_take (i := 34) (v := ?_) rfl (by kernel_rfl) (by kernel_rfl) (by kernel_rfl) (fun _ _ _ h => h) (Or.inl ⟨by rfl, ?_⟩) s0 ?_
  rotate_left
  (intro w hSw; obtain ⟨z0, z1, z2⟩ := hSw; go_simp)
  try with_reducible rfl
  simp only [Act.put]
  refine wpAnyH_ready (rs := [35]) (by kernel_rfl) (by simp) ?_
  refine AllReadyH.cons rfl (fun K hK => ?_) AllReadyH.nil
  go_simp
  refine hK.out _ _ (HKS.out _ (by repeat (first | exact Keep.refl _ _ | apply Keep.drew | apply Keep.drewN | apply Keep.alloc | (refine Keep.setCell ?_ _ (fun _ h => absurd h (by simp)) _)))) (fun _ => ?_)
  clear hK K
  refine wpAnyH_take (i := 36) (v := ?_) rfl (by kernel_rfl) (by kernel_rfl) (by kernel_rfl) (fun _ _ _ h => h) (Or.inl ⟨by rfl, ?_⟩) (HKS.out _ (by repeat (first | exact Keep.refl _ _ | apply Keep.drew | apply Keep.drewN | apply Keep.alloc | (refine Keep.setCell ?_ _ (fun _ h => absurd h (by simp)) _)))) ?_
  rotate_left
  (intro w hSw; obtain ⟨z0, z1, z2⟩ := hSw; go_simp)
  try with_reducible rfl
  simp only [Act.put]
  refine wpAnyH_ready (rs := [37]) (by kernel_rfl) (by simp) ?_
  refine AllReadyH.cons rfl (fun K hK => ?_) AllReadyH.nil
  go_simp
  refine hK.out _ _ (HK2.out _ _) (fun _ => ?_)
  clear hK K
  refine wpAnyH_done (by kernel_rfl) (NoPanic.normal ?_) _
  go_wp2_with fail
  have w1 : IntKind.i64.wrap (1 + (n : Int) / 64 % 4) = 1 + ((n / 64 % 4 : Nat) : Int) := by
    have h0 : n / 64 % 4 < 4 := Nat.mod_lt _ (by omega)
    rw [show (n : Int) / 64 % 4 = ((n / 64 % 4 : Nat) : Int) from rfl, IntKind.wrap_i64]
    generalize n / 64 % 4 = m at h0 ⊢
    omega
  have w2 : IntKind.i64.wrap (12 + (n : Int) / 256 % 9) = 12 + ((n / 256 % 9 : Nat) : Int) := by
    have h0 : n / 256 % 9 < 9 := Nat.mod_lt _ (by omega)
    rw [show (n : Int) / 256 % 9 = ((n / 256 % 9 : Nat) : Int) from rfl, IntKind.wrap_i64]
    generalize n / 256 % 9 = m at h0 ⊢
    omega
  have w3 : IntKind.i64.wrap (1 + (n : Int) / 4096 % 9) = 1 + ((n / 4096 % 9 : Nat) : Int) := by
    have h0 : n / 4096 % 9 < 9 := Nat.mod_lt _ (by omega)
    rw [show (n : Int) / 4096 % 9 = ((n / 4096 % 9 : Nat) : Int) from rfl, IntKind.wrap_i64]
    generalize n / 4096 % 9 = m at h0 ⊢
    omega
  have w4 : IntKind.i64.wrap (1 + (n : Int) / 65536 % 9) = 1 + ((n / 65536 % 9 : Nat) : Int) := by
    have h0 : n / 65536 % 9 < 9 := Nat.mod_lt _ (by omega)
    rw [show (n : Int) / 65536 % 9 = ((n / 65536 % 9 : Nat) : Int) from rfl, IntKind.wrap_i64]
    generalize n / 65536 % 9 = m at h0 ⊢
    omega
  rw [w1, w2, w3, w4]
  refine bodyPost_ret (v := .agg #[.int .i64 3, .int .i64 (szOf i0), .int .i64 (szOf i1), .int .i64 (szOf i2), .int .i64 (1 + (n / 64 % 4 : Nat)), .slice (some ⟨w.heap.size + 1 + 1, 0, none⟩) 2 2]) (by simp [results, Try.results27, go_sem]) rfl ?_
  obtain ⟨rfl, rfl, rfl⟩ := HI.out
  refine ⟨w.heap.size + 1 + 1, rfl, ?_, .inr ⟨w.heap.size + 1 + 1, 0, rfl, fun k j hk hj => ?_⟩, by omega⟩
  · rw [World.drew_is_drewN]
    exact below_drewN ((((Below.refl _ _).alloc (Nat.le_refl _) _).alloc (by simp) _).alloc (by simp; omega) _) 1
  · have hb := heap_alloc_new ((w.alloc (.cells #[.int .i64 3, .int .i64 (szOf (n % 4)), .int .i64 (szOf (n / 4 % 4)), .int .i64 (szOf (n / 16 % 4)), .int .i64 (1 + (n / 64 % 4 : Nat)), .slice (some ⟨w.heap.size + 1 + 1, 0, none⟩) 2 2] 31)).alloc (.cells #[.int .i64 2, .int .i64 4, .int .i64 8, .int .i64 16] 3)) (.cells #[.int .i64 10, .int .i64 (12 + (n / 256 % 9 : Nat)), .int .i64 15, .int .i64 200, .int .i64 (1 + (n / 4096 % 9 : Nat)), .int .i64 (1 + (n / 65536 % 9 : Nat)), .int .i64 9, .int .i64 30, .int .i64 0, .int .i64 100000, .int .i64 1000, .int .i64 1] 70)
    rw [World.size_alloc, World.size_alloc] at hb
    refine cellAt (w := World.drew _) hb ?_
    rcases (show k = 0 ∨ k = 1 by omega) with rfl | rfl <;> rcases (show j = 0 ∨ j = 1 ∨ j = 2 ∨ j = 3 ∨ j = 4 ∨ j = 5 by omega) with rfl | rfl | rfl | rfl | rfl | rfl <;> rfl

end Go.Proofs.Ytjhifhoniimfgaa

/-
  The settings of a game may be.
-/
namespace Go.Proofs.Ytjhifhoniimfgaa
open Go.RowKit

theorem szOf_cases (i : Nat) : szOf i = 2 ∨ szOf i = 4 ∨ szOf i = 8 ∨ szOf i = 16 := by
  unfold szOf
  split
  · exact .inl rfl
  · split
    · exact .inr (.inl rfl)
    · split
      · exact .inr (.inr (.inl rfl))
      · exact .inr (.inr (.inr rfl))

theorem szOf_pow (i : Nat) : powB (szOf i : Int) = true := by
  rcases szOf_cases i with h | h | h | h <;> rw [h] <;> decide

theorem kLim_ok (n k : Nat) : limOk (kLim n) k = true := by
  have h1 : n / 256 % 9 < 9 := Nat.mod_lt _ (by omega)
  have h2 : n / 4096 % 9 < 9 := Nat.mod_lt _ (by omega)
  have h3 : n / 65536 % 9 < 9 := Nat.mod_lt _ (by omega)
  generalize ha : n / 256 % 9 = a at h1
  generalize hb : n / 4096 % 9 = b at h2
  generalize hc : n / 65536 % 9 = c at h3
  unfold limOk limsB limB winB kLim
  rw [ha, hb, hc]
  by_cases h : k = 0
  · simp [h]; omega
  · simp [h]

theorem k_may (n : Nat) : mayB 3 (szOf (n % 4) : Nat) (szOf (n / 4 % 4) : Nat) (szOf (n / 16 % 4) : Nat) ((1 + n / 64 % 4 : Nat) : Int) 2 (kLim n) = true := by
  have h1 : n / 64 % 4 < 4 := Nat.mod_lt _ (by omega)
  unfold mayB inB accB
  rw [szOf_pow, szOf_pow, szOf_pow, allOk_iff.2 (fun k _ => kLim_ok n k)]
  generalize n / 64 % 4 = a at h1
  simp
  omega

end Go.Proofs.Ytjhifhoniimfgaa

/-
  A game as it begins: no code.
-/
namespace Go.Proofs.Ytjhifhoniimfgaa
open Go.RowKit

def gm0 (n : Nat) : Gm := ⟨newS 3 (szOf (n / 16 % 4)) (1 + n / 64 % 4) 2 (kLim n) (fun i => if i = 0 then szOf (n % 4) else szOf (n / 4 % 4)), fun _ => []⟩
def bg1 (n : Nat) : Gm := claimG (gm0 n) 2 0
def bg2 (n : Nat) : Gm := fillG (bg1 n) 0 0 299015 (Snt.new 2 0)
def bg3 (n : Nat) : Gm := coreG (bg2 n)
def begG (n : Nat) : Gm := pollG (bg3 n) 2

/-- The order with which a game begins. -/
def begS : Snt := ⟨2, 0, 1, 1, 0, 5, 3, 2, 1, 0, true, true, true, false, 0, 0⟩
def begS0 : Snt := ⟨2, 0, 1, 1, 0, 5, 3, 2, 1, 0, true, false, false, false, 0, 0⟩

theorem gm0_inv (n : Nat) : GInv (gm0 n) :=
  ⟨rfl, rfl, fun _ _ => rfl, fun i k g _ hg => by simp [gm0] at hg, fun _ _ => rfl, fun _ _ => rfl, fun _ => Nat.le_refl _⟩

theorem sz_pow (i : Nat) : powB (szOf i : Int) = true := szOf_pow i

theorem gm0_ok (n : Nat) : Ok (gm0 n).s 0 := by
  have h3 : n / 64 % 4 < 4 := Nat.mod_lt _ (by omega)
  have a1 : n / 256 % 9 < 9 := Nat.mod_lt _ (by omega)
  have a2 : n / 4096 % 9 < 9 := Nat.mod_lt _ (by omega)
  have a3 : n / 65536 % 9 < 9 := Nat.mod_lt _ (by omega)
  refine new_ok _ _ _ _ _ _ (by omega) (szOf_pow _) (by omega) (by omega) (fun a ha => ?_) (fun i hi => ?_)
  · unfold kLim
    generalize n / 256 % 9 = b1 at *
    generalize n / 4096 % 9 = b2 at *
    generalize n / 65536 % 9 = b3 at *
    rcases (show a = 0 ∨ a = 1 by omega) with rfl | rfl
    · refine ⟨fun j hj => ?_, by simp; omega, by simp; omega⟩
      rcases (show j = 0 ∨ j = 1 ∨ j = 2 ∨ j = 3 ∨ j = 4 by omega) with rfl | rfl | rfl | rfl | rfl <;> simp <;> omega
    · refine ⟨fun j hj => ?_, by simp, by simp⟩
      rcases (show j = 0 ∨ j = 1 ∨ j = 2 ∨ j = 3 ∨ j = 4 by omega) with rfl | rfl | rfl | rfl | rfl <;> simp
  · split
    · exact szOf_pow _
    · exact szOf_pow _

theorem sz_pos (i : Nat) : 2 ≤ szOf i := by rcases szOf_cases i with h | h | h | h <;> omega

theorem gm0_may (n : Nat) : mayClaim (gm0 n) 0 = true := by
  unfold mayClaim
  have := sz_pos (n % 4)
  simp [gm0, newS]
  omega

theorem bg_claim (n : Nat) : claimS (gm0 n).s 2 0 = (0, 0, (bg1 n).s) := (claimS_eq (gm0 n) rfl 2 0 (by omega) (by omega)).1 (gm0_may n)

theorem bg_said : saidK (Snt.new 2 0) 299015 = (begS0, orderB 1 0 5 3 2 1) := by
  unfold saidK
  rw [if_neg (by decide), if_neg (by decide), if_neg (by decide)]
  rfl

theorem bg1_inv (n : Nat) : GInv (bg1 n) := claim_inv (gm0_inv n) (gm0_ok n) 2 0 (by omega) (by omega)
theorem bg1_ok (n : Nat) : Ok (bg1 n).s 1 := by
  have := claim_ok (gm0_ok n) 2 0
  rw [bg_claim] at this
  exact this

theorem bg_pub (n : Nat) : pubS (bg1 n).s 2 0 0 (orderB 1 0 5 3 2 1) = (0, (bg2 n).s) := by
  have := pubS_eq (bg1 n) rfl 0 0 299015 (Snt.new 2 0) ((bg1_inv n).pl 0 0 _ (by omega) rfl) rfl (by omega) (by show 0 < 0 + 1; omega)
  rw [bg_said] at this
  exact this

theorem bg2_inv (n : Nat) : GInv (bg2 n) := fill_inv (bg1_inv n) 0 0 299015 (Snt.new 2 0) (by omega) rfl rfl (Nat.le_refl _)
theorem bg2_ok (n : Nat) : Ok (bg2 n).s 2 := by
  have := pub_ok (bg1_ok n) 2 0 0 (orderB 1 0 5 3 2 1)
  rw [bg_pub] at this
  exact this

theorem bg2_L (n : Nat) : (bg2 n).L 0 = [begS0] := by
  show [(saidK (Snt.new 2 0) 299015).1] = _
  rw [bg_said]

theorem bg_news (n : Nat) : doS (bg2 n).s (saidG begS0) = (0, { (bg2 n).s with book := upN (bg2 n).s.book 1 [⟨5, 0, 3, 2, 0, 1, false⟩] }) := by
  show doS (bg2 n).s (.new 1 0 5 3 2 1) = _
  rw [doS_new]
  have : newsV (bg2 n).s (1 : Int).toNat 0 5 (3 : Int).toNat (2 : Int).toNat = 0 := by
    show newsV (bg2 n).s 1 0 5 3 2 = 0
    unfold newsV
    rw [if_neg (show ¬ (bg2 n).s.shut = true by simp [bg2, bg1, fillG, claimG, gm0, newS])]
    rfl
  rw [if_pos this, this]
  rfl

theorem bg_core (n : Nat) : (coreS (bg2 n).s).1 = 2 ∧ (bg3 n).L = upN (bg2 n).L 0 [tookG begS0 0 0] ∧ (bg3 n).s = { (bg2 n).s with stepped := true, book := upN (bg2 n).s.book 1 [⟨5, 0, 3, 2, 0, 1, false⟩], t := upN (bg2 n).s.t 0 1, ring := upN (bg2 n).s.ring 2 [(0, 0)] } := by
  have han := sz_pos (n / 16 % 4)
  have cs : (bg3 n).s = (coreS (bg2 n).s).2 := rfl
  cases core_case (bg2_inv n) (bg2_ok n) with
  | rush g hn hg hp hf hr hL => cases hn
  | free c a hn hh hl hr hL => cases hh
  | wait c a hn hh hl hr hL => cases hh
  | hold g hn1 hh hn hg hp hf hl hr hL =>
    refine absurd ?_ hl
    show 0 < szOf (n / 16 % 4)
    omega
  | idle hn1 hh hn hr hL => cases hn
  | serve g hn1 hh hn hg hp hf hl hr hL =>
    rw [bg2_L] at hg
    have hg : some begS0 = some g := hg
    simp only [Option.some.injEq] at hg
    subst hg
    rw [bg_news] at hr hL
    refine ⟨by rw [hr], ?_, ?_⟩
    · show (coreG (bg2 n)).L = _
      rw [hL, bg2_L]
      rfl
    · rw [cs, hr]
      rfl

theorem bg3_inv (n : Nat) : GInv (bg3 n) := core_inv (bg2_inv n) (bg2_ok n)
theorem bg3_ok (n : Nat) : Ok (bg3 n).s 3 := core_ok (bg2_ok n)

theorem bg_poll (n : Nat) : pollS (bg3 n).s 2 = ((0, 0), 0, (begG n).s) ∧ (begG n).L 0 = [begS] ∧ (begG n).L 1 = [] ∧ (begG n).s.t 0 = 1 ∧ (begG n).s.t 1 = 0 ∧ (begG n).s.time = 0 ∧ (begG n).s.shut = false ∧ (begG n).s.held = none := by
  obtain ⟨_, hL, hs⟩ := bg_core n
  have hr : (bg3 n).s.ring 2 = [(0, 0)] := by rw [hs]; rfl
  have hb : begG n = ⟨{ (bg3 n).s with ring := upN (bg3 n).s.ring 2 [] }, upN (bg3 n).L 0 (told1 2 ((bg3 n).L 0))⟩ := by
    unfold begG pollG
    rw [hr]
    rfl
  refine ⟨?_, ?_, ?_, ?_, ?_, ?_, ?_, ?_⟩
  · unfold pollS
    rw [if_neg (by rw [(bg3_inv n).cl]; decide)]
    show (match (bg3 n).s.ring 2 with | [] => _ | a :: r => _) = _
    rw [hr, hb]
    rfl
  · rw [hb, hL]
    rfl
  · rw [hb, hL]
    rfl
  · rw [hb, hs]; rfl
  · rw [hb, hs]; rfl
  · rw [hb, hs]; rfl
  · rw [hb, hs]; rfl
  · rw [hb, hs]; rfl

theorem beg_inv (n : Nat) : GInv (begG n) := poll_inv (bg3_inv n) 2 (by omega)
theorem beg_ok (n : Nat) : Ok (begG n).s 4 := by
  have := poll_ok (bg3_ok n) 2
  rw [(bg_poll n).1] at this
  exact this

theorem beg_set (n : Nat) : (begG n).s.lim = kLim n ∧ (begG n).s.n = (fun i => if i = 0 then szOf (n % 4) else szOf (n / 4 % 4)) ∧ (begG n).s.an = szOf (n / 16 % 4) ∧ (begG n).s.ch = 1 + n / 64 % 4 := by
  obtain ⟨_, hL, hs⟩ := bg_core n
  have hr : (bg3 n).s.ring 2 = [(0, 0)] := by rw [hs]; rfl
  have hb : (begG n).s = { (bg3 n).s with ring := upN (bg3 n).s.ring 2 [] } := by
    unfold begG pollG
    rw [hr]
  rw [hb, hs]
  exact ⟨rfl, rfl, rfl, rfl⟩

end Go.Proofs.Ytjhifhoniimfgaa

