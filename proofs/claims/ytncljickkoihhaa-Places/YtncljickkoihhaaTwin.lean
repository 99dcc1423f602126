/-
  The program's gate and the document's, side by side: Claim and Publish answer alike, and turn nothing of other gates.
-/
import Derived.Test.YtncljickkoihhaaWRef2
import Derived.Test.YtncljickkoihhaaWGate
namespace Go.Proofs.Ytncljickkoihhaa
open Go.RowKit

/-- The gates number t: the program's at x, the document's at y, both nil or both not; what lies in them is alike; 'own' tells whose a block is. -/
def TwinAt (own : Nat → Nat) (t : Nat) (w : World) (x y : Value) : Prop :=
  (x = .pointer none ∧ y = .pointer none) ∨
  ∃ gb cb cl lb sb n m f rb v, x = .pointer (some ⟨gb, 0, none⟩) ∧ y = .pointer (some ⟨rb, 0, none⟩) ∧ PGate w gb cb cl lb sb n m f ∧ RGate w rb cl n m f v ∧
    own gb = 2 * t ∧ own cb = 2 * t ∧ (∀ i, i < 2 → own (lb i) = 2 * t ∧ own (sb i) = 2 * t) ∧ own rb = 2 * t + 1 ∧ (∀ i b, i < 2 → (v i).ownBlock = some b → own b = 2 * t + 1) ∧
    (∀ i k, i < 2 → m i ≤ k → f i k = zeroPl)

/-- The blocks that are not of the gates number t. -/
def Other (own : Nat → Nat) (t : Nat) (b : Nat) : Prop := own b ≠ 2 * t ∧ own b ≠ 2 * t + 1

/-- What is new from block n on is of the tag g. -/
def ext (own : Nat → Nat) (n g : Nat) : Nat → Nat := fun b => if b < n then own b else g

theorem PLane.lt {w : World} {lb sb n m : Nat} {f : Nat → Pl} (h : PLane w lb sb n m f) : lb < w.heap.size ∧ sb < w.heap.size := by
  obtain ⟨a, _, cs, b, _⟩ := h
  exact ⟨block_lt a, block_lt b⟩

theorem RGate.lt {w : World} {rb : Nat} {cl : Int} {n m : Nat → Nat} {f : Nat → Nat → Pl} {v : Nat → Value} (h : RGate w rb cl n m f v) : rb < w.heap.size := by
  obtain ⟨cs, a, _⟩ := h.gate
  exact block_lt a

theorem TwinAt.keep {own own' : Nat → Nat} {t : Nat} {w w' : World} {x y : Value} {S : Nat → Prop} (h : TwinAt own t w x y) (hk : Keep S w w') (hs : ∀ b, b < w.heap.size → own b = 2 * t ∨ own b = 2 * t + 1 → S b)
    (ho : ∀ b, b < w.heap.size → own' b = own b) : TwinAt own' t w' x y := by
  rcases h with h | ⟨gb, cb, cl, lb, sb, n, m, f, rb, v, hx, hy, hp, hr, o1, o2, o3, o4, o5, hz⟩
  · exact .inl h
  · have l1 := block_lt hp.gate
    have l2 := block_lt hp.chan
    have l3 := fun i hi => (hp.lane i hi).lt
    have l4 := hr.lt
    have l5 := fun i hi b hb => (hr.row i hi).lt b hb
    refine .inr ⟨gb, cb, cl, lb, sb, n, m, f, rb, v, hx, hy, hp.keep hk (hs _ l1 (.inl o1)) (hs _ l2 (.inl o2)) (fun i hi => ⟨hs _ (l3 i hi).1 (.inl (o3 i hi).1), hs _ (l3 i hi).2 (.inl (o3 i hi).2)⟩),
      hr.keep hk (hs _ l4 (.inr o4)) (fun i b hi hb => hs _ (l5 i hi b hb) (.inr (o5 i b hi hb))), ?_, ?_, ?_, ?_, ?_, hz⟩
    · rw [ho _ l1]; exact o1
    · rw [ho _ l2]; exact o2
    · intro i hi; rw [ho _ (l3 i hi).1, ho _ (l3 i hi).2]; exact o3 i hi
    · rw [ho _ l4]; exact o4
    · intro i b hi hb; rw [ho _ (l5 i hi b hb)]; exact o5 i b hi hb

theorem refuse_lane {cl client lane : Int} (h : refuse cl client lane = 0) : ∃ i, i < 2 ∧ ((lane = 0 ∧ i = 0) ∨ (lane = 1 ∧ i = 1)) := by
  unfold refuse at h
  by_cases h1 : client < 0 ∨ cl ≤ client
  · rw [if_pos h1] at h; omega
  · rw [if_neg h1] at h
    by_cases h2 : lane = 0 ∨ lane = 1
    · rcases h2 with h2 | h2
      · exact ⟨0, by omega, .inl ⟨h2, rfl⟩⟩
      · exact ⟨1, by omega, .inr ⟨h2, rfl⟩⟩
    · rw [if_neg h2] at h; omega

theorem ext_lt {own : Nat → Nat} {n g b : Nat} (h : b < n) : ext own n g b = own b := if_pos h
theorem ext_ge {own : Nat → Nat} {n g b : Nat} (h : n ≤ b) : ext own n g b = g := if_neg (by omega)

set_option maxHeartbeats 1000000 in
theorem twin_claim (own : Nat → Nat) (t : Nat) (w : World) (x y : Value) (client lane : Int) (h : TwinAt own t w x y) :
    ∃ N E : Int, Calls Try.prog 8 #[x, .int .i64 client, .int .i64 lane] w fun e w1 => e = .returned (.tuple #[.int .i64 N, .int .i64 E]) ∧ Keep (Other own t) w w1 ∧
      Calls Try.prog 23 #[y, .int .i64 client, .int .i64 lane] w1 fun e w2 => e = .returned (.tuple #[.int .i64 N, .int .i64 E]) ∧ Keep (Other own t) w w2 ∧
        TwinAt (ext own w.heap.size (2 * t + 1)) t w2 x y := by
  rcases h with ⟨rfl, rfl⟩ | ⟨gb, cb, cl, lb, sb, n, m, f, rb, v, rfl, rfl, hp, hr, o1, o2, o3, o4, o5, hz⟩
  · refine ⟨0, 1, (gClaim_nil client lane w).mono ?_⟩
    rintro e w1 ⟨rfl, rfl⟩
    refine ⟨rfl, Keep.refl _ _, (rClaim_nil client lane w).mono ?_⟩
    rintro e w2 ⟨rfl, rfl⟩
    exact ⟨rfl, Keep.refl _ _, .inl ⟨rfl, rfl⟩⟩
  have h0 : TwinAt own t w (.pointer (some ⟨gb, 0, none⟩)) (.pointer (some ⟨rb, 0, none⟩)) := .inr ⟨gb, cb, cl, lb, sb, n, m, f, rb, v, rfl, rfl, hp, hr, o1, o2, o3, o4, o5, hz⟩
  have same : ∀ q, TwinAt (ext own w.heap.size (2 * t + 1)) t (w.drewN q) (.pointer (some ⟨gb, 0, none⟩)) (.pointer (some ⟨rb, 0, none⟩)) := fun q =>
    h0.keep (S := fun _ => True) ((Keep.refl _ w).drewN q) (fun _ _ _ => trivial) (fun b hb => ext_lt hb)
  cases hre : refuse cl client lane != 0
  · have hr0 : refuse cl client lane = 0 := by simpa using hre
    obtain ⟨i, hi, hl⟩ := refuse_lane hr0
    have hle := hp.le i hi
    by_cases hm : m i = n i
    · refine ⟨0, 6, (gClaim_full client lane i hl hp hr0 hm).mono ?_⟩
      rintro e w1 ⟨rfl, q, rfl⟩
      refine ⟨rfl, (Keep.refl _ _).drewN q, (rClaim_full client lane i hl (hr.drewN q) hr0 hm).mono ?_⟩
      rintro e w2 ⟨rfl, q2, rfl⟩
      exact ⟨rfl, ((Keep.refl _ _).drewN q).drewN q2, by rw [World.drewN_drewN]; exact same _⟩
    · refine ⟨m i, 0, (gClaim_room client lane i hl hp hr0 (by omega)).mono ?_⟩
      rintro e w1 ⟨rfl, hp1, hk1⟩
      have k1 : Keep (Other own t) w w1 := hk1.mono (fun b _ hb => ⟨fun e => hb.1 (by rw [e]; exact (o3 i hi).1), fun e => hb.1 (by rw [e]; exact (o3 i hi).2)⟩)
      have hr1 : RGate w1 rb cl n m f v := hr.keep hk1 ⟨fun e => by have := (o3 i hi).1; rw [← e, o4] at this; omega, fun e => by have := (o3 i hi).2; rw [← e, o4] at this; omega⟩
        (fun j b hj hb => ⟨fun e => by have := o5 j b hj hb; rw [e, (o3 i hi).1] at this; omega, fun e => by have := o5 j b hj hb; rw [e, (o3 i hi).2] at this; omega⟩)
      refine ⟨rfl, k1, (rClaim_room client lane i hl hr1 hr0 (by omega)).mono ?_⟩
      rintro e w2 ⟨rfl, v', hr2, hb2, hk2⟩
      have hzi : (f i (m i)).2 = (false, ByteArray.empty) := by rw [hz i (m i) hi (Nat.le_refl _)]; rfl
      have k2 : Keep (Other own t) w w2 := k1.trans' hk2 (fun b _ hb => ⟨fun e => hb.2 (by rw [e]; exact o4), fun e => hb.2 (o5 i b hi e.symm)⟩)
      have hp2 : PGate w2 gb cb cl lb sb n (updN m i (m i + 1)) (updN f i (upd (f i) (m i) (client, (f i (m i)).2))) := by
        refine hp1.keep hk2 ⟨fun e => by rw [e, o4] at o1; omega, fun e => by have := o5 i gb hi e.symm; omega⟩ ⟨fun e => by rw [e, o4] at o2; omega, fun e => by have := o5 i cb hi e.symm; omega⟩ (fun j hj => ⟨⟨fun e => ?_, fun e => ?_⟩, ⟨fun e => ?_, fun e => ?_⟩⟩)
        · have := (o3 j hj).1; rw [e, o4] at this; omega
        · have := (o3 j hj).1; rw [o5 i _ hi e.symm] at this; omega
        · have := (o3 j hj).2; rw [e, o4] at this; omega
        · have := (o3 j hj).2; rw [o5 i _ hi e.symm] at this; omega
      rw [hzi] at hp2
      have l1 := block_lt hp.gate
      have l2 := block_lt hp.chan
      have l4 := hr.lt
      refine ⟨rfl, k2, .inr ⟨gb, cb, cl, lb, sb, n, _, _, rb, _, rfl, rfl, hp2, hr2, ?_, ?_, ?_, ?_, ?_, ?_⟩⟩
      · rw [ext_lt l1]; exact o1
      · rw [ext_lt l2]; exact o2
      · intro j hj; rw [ext_lt (hp.lane j hj).lt.1, ext_lt (hp.lane j hj).lt.2]; exact o3 j hj
      · rw [ext_lt l4]; exact o4
      · intro j b hj hb
        by_cases e : j = i
        · subst e
          simp only [updN, if_true] at hb
          rcases hb2 with h2 | ⟨b2, h2, h3⟩
          · rw [h2] at hb; rw [ext_lt ((hr.row j hj).lt b hb)]; exact o5 j b hj hb
          · rw [h2] at hb; simp only [Option.some.injEq] at hb; rw [ext_ge (by have := k1.size; omega)]
        · simp only [updN, if_neg e] at hb
          rw [ext_lt ((hr.row j hj).lt b hb)]; exact o5 j b hj hb
      · intro j k hj hk
        by_cases e : j = i
        · subst e
          simp only [updN, if_true] at hk ⊢
          rw [upd, if_neg (by omega)]
          exact hz j k hj (by omega)
        · simp only [updN, if_neg e] at hk ⊢
          exact hz j k hj hk
  · refine ⟨0, refuse cl client lane, (gClaim_no client lane hp hre).mono ?_⟩
    rintro e w1 ⟨rfl, rfl⟩
    refine ⟨rfl, Keep.refl _ _, (rClaim_no client lane hr hre).mono ?_⟩
    rintro e w2 ⟨rfl, rfl⟩
    exact ⟨rfl, Keep.refl _ _, by have := same 0; rwa [World.drewN_zero] at this⟩

theorem fill_cases (m : Nat) (f : Nat → Pl) (client place : Int) : NoFill m f client place ∨ ∃ p : Nat, place = p ∧ p < m ∧ ((f p).1 != client) = false ∧ (f p).2.1 = false := by
  by_cases h0 : place < 0
  · exact .inl (.inl h0)
  by_cases h1 : (m : Int) ≤ place
  · exact .inl (.inr (.inl h1))
  obtain ⟨p, rfl⟩ := Int.eq_ofNat_of_zero_le (show 0 ≤ place by omega)
  cases h2 : (f p).1 != client
  · cases h3 : (f p).2.1
    · exact .inr ⟨p, rfl, by omega, h2, h3⟩
    · exact .inl (.inr (.inr ⟨p, rfl, by omega, .inr ⟨h2, h3⟩⟩))
  · exact .inl (.inr (.inr ⟨p, rfl, by omega, .inl h2⟩))

set_option maxHeartbeats 1000000 in
theorem twin_publish (own : Nat → Nat) (t : Nat) (w : World) (x y : Value) (client lane place : Int) (s : ByteArray) (h : TwinAt own t w x y) :
    ∃ E : Int, Calls Try.prog 9 #[x, .int .i64 client, .int .i64 lane, .int .i64 place, .string s] w fun e w1 => e = .returned (.int .i64 E) ∧ Keep (Other own t) w w1 ∧
      Calls Try.prog 43 #[y, .int .i64 client, .int .i64 lane, .int .i64 place, .string s] w1 fun e w2 => e = .returned (.int .i64 E) ∧ Keep (Other own t) w w2 ∧
        TwinAt (ext own w.heap.size (2 * t + 1)) t w2 x y := by
  rcases h with ⟨rfl, rfl⟩ | ⟨gb, cb, cl, lb, sb, n, m, f, rb, v, rfl, rfl, hp, hr, o1, o2, o3, o4, o5, hz⟩
  · refine ⟨1, (gPublish_nil client lane place s w).mono ?_⟩
    rintro e w1 ⟨rfl, rfl⟩
    refine ⟨rfl, Keep.refl _ _, (rPublish_nil client lane place s w).mono ?_⟩
    rintro e w2 ⟨rfl, rfl⟩
    exact ⟨rfl, Keep.refl _ _, .inl ⟨rfl, rfl⟩⟩
  have h0 : TwinAt own t w (.pointer (some ⟨gb, 0, none⟩)) (.pointer (some ⟨rb, 0, none⟩)) := .inr ⟨gb, cb, cl, lb, sb, n, m, f, rb, v, rfl, rfl, hp, hr, o1, o2, o3, o4, o5, hz⟩
  have same : ∀ q, TwinAt (ext own w.heap.size (2 * t + 1)) t (w.drewN q) (.pointer (some ⟨gb, 0, none⟩)) (.pointer (some ⟨rb, 0, none⟩)) := fun q =>
    h0.keep (S := fun _ => True) ((Keep.refl _ w).drewN q) (fun _ _ _ => trivial) (fun b hb => ext_lt hb)
  cases hre : refuse cl client lane != 0
  · have hr0 : refuse cl client lane = 0 := by simpa using hre
    obtain ⟨i, hi, hl⟩ := refuse_lane hr0
    rcases fill_cases (m i) (f i) client place with hno | ⟨p, rfl, hpm, hq1, hq2⟩
    · refine ⟨7, (gPublish_tick client lane place s i hl hp hr0 hno).mono ?_⟩
      rintro e w1 ⟨rfl, q, rfl⟩
      refine ⟨rfl, (Keep.refl _ _).drewN q, (rPublish_tick client lane place s i hl (hr.drewN q) hr0 hno).mono ?_⟩
      rintro e w2 ⟨rfl, rfl⟩
      exact ⟨rfl, (Keep.refl _ _).drewN q, same _⟩
    · refine ⟨0, (gPublish_yes client lane p s i hl hp hr0 hpm hq1 hq2).mono ?_⟩
      rintro e w1 ⟨rfl, hp1, hk1⟩
      have k1 : Keep (Other own t) w w1 := hk1.mono (fun b _ hb => ⟨fun e => hb.1 (by rw [e]; exact (o3 i hi).1), fun e => hb.1 (by rw [e]; exact (o3 i hi).2)⟩)
      have hr1 : RGate w1 rb cl n m f v := hr.keep hk1 ⟨fun e => by have := (o3 i hi).1; rw [← e, o4] at this; omega, fun e => by have := (o3 i hi).2; rw [← e, o4] at this; omega⟩
        (fun j b hj hb => ⟨fun e => by have := o5 j b hj hb; rw [e, (o3 i hi).1] at this; omega, fun e => by have := o5 j b hj hb; rw [e, (o3 i hi).2] at this; omega⟩)
      refine ⟨rfl, k1, (rPublish_yes client lane p s i hl hr1 hr0 hpm hq1 hq2).mono ?_⟩
      rintro e w2 ⟨rfl, hr2, hk2⟩
      have k2 : Keep (Other own t) w w2 := k1.trans' hk2 (fun b _ hb => ⟨fun e => hb.2 (by rw [e]; exact o4), fun e => hb.2 (o5 i b hi e.symm)⟩)
      have hp2 : PGate w2 gb cb cl lb sb n (updN m i (m i)) (updN f i (upd (f i) p ((f i p).1, true, s))) := by
        refine hp1.keep hk2 ⟨fun e => by rw [e, o4] at o1; omega, fun e => by have := o5 i gb hi e.symm; omega⟩ ⟨fun e => by rw [e, o4] at o2; omega, fun e => by have := o5 i cb hi e.symm; omega⟩ (fun j hj => ⟨⟨fun e => ?_, fun e => ?_⟩, ⟨fun e => ?_, fun e => ?_⟩⟩)
        · have := (o3 j hj).1; rw [e, o4] at this; omega
        · have := (o3 j hj).1; rw [o5 i _ hi e.symm] at this; omega
        · have := (o3 j hj).2; rw [e, o4] at this; omega
        · have := (o3 j hj).2; rw [o5 i _ hi e.symm] at this; omega
      have l1 := block_lt hp.gate
      have l2 := block_lt hp.chan
      have l4 := hr.lt
      refine ⟨rfl, k2, .inr ⟨gb, cb, cl, lb, sb, n, _, _, rb, v, rfl, rfl, hp2, hr2, ?_, ?_, ?_, ?_, ?_, ?_⟩⟩
      · rw [ext_lt l1]; exact o1
      · rw [ext_lt l2]; exact o2
      · intro j hj; rw [ext_lt (hp.lane j hj).lt.1, ext_lt (hp.lane j hj).lt.2]; exact o3 j hj
      · rw [ext_lt l4]; exact o4
      · intro j b hj hb
        rw [ext_lt ((hr.row j hj).lt b hb)]; exact o5 j b hj hb
      · intro j k hj hk
        by_cases e : j = i
        · subst e
          simp only [updN, if_true] at hk ⊢
          rw [upd, if_neg (by omega)]
          exact hz j k hj hk
        · simp only [updN, if_neg e] at hk ⊢
          exact hz j k hj hk
  · refine ⟨refuse cl client lane, (gPublish_no client lane place s hp hre).mono ?_⟩
    rintro e w1 ⟨rfl, rfl⟩
    refine ⟨rfl, Keep.refl _ _, (rPublish_no client lane place s hr hre).mono ?_⟩
    rintro e w2 ⟨rfl, rfl⟩
    exact ⟨rfl, Keep.refl _ _, by have := same 0; rwa [World.drewN_zero] at this⟩

end Go.Proofs.Ytncljickkoihhaa
