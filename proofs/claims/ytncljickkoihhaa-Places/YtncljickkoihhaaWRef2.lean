/-
  The document's gate: Publish.
-/
import Derived.Test.YtncljickkoihhaaWRef
namespace Go.Proofs.Ytncljickkoihhaa
open Go.RowKit

set_option maxHeartbeats 400000 in
theorem rPublish_nil (client lane place : Int) (s : ByteArray) (w : World) :
    Calls Try.prog 43 #[.pointer none, .int .i64 client, .int .i64 lane, .int .i64 place, .string s] w fun e w' => e = .returned (.int .i64 1) ∧ w = w' := by
  go_enter Try.func43, Try.ntmps43
  go_wp2_with (go_at_call 42; refine (refuses_nil _ _ _).mono ?_; rintro e w' ⟨rfl, rfl⟩)
  go_ret
  exact ⟨rfl, rfl⟩

set_option maxHeartbeats 400000 in
theorem rPublish_no {w : World} {rb : Nat} {cl : Int} {n m : Nat → Nat} {f : Nat → Nat → Pl} {v : Nat → Value} (client lane place : Int) (s : ByteArray) (h : RGate w rb cl n m f v) (hr : (refuse cl client lane != 0) = true) :
    Calls Try.prog 43 #[.pointer (some ⟨rb, 0, none⟩), .int .i64 client, .int .i64 lane, .int .i64 place, .string s] w fun e w' => e = .returned (.int .i64 (refuse cl client lane)) ∧ w = w' := by
  obtain ⟨cs, h1, h2, h3, h4⟩ := h.gate
  have hc := fun lane => refuses_any rb cl client lane _ w h1 h3
  clear h h1 h2 h3 h4
  go_enter Try.func43, Try.ntmps43
  go_wp2_with (go_at_call 42; refine (hc _).mono ?_; rintro e w' ⟨rfl, rfl⟩)
  go_ret
  exact ⟨rfl, rfl⟩

set_option maxHeartbeats 1000000 in
theorem rPublish_tick {w : World} {rb : Nat} {cl : Int} {n m : Nat → Nat} {f : Nat → Nat → Pl} {v : Nat → Value} (client lane place : Int) (s : ByteArray) (i : Nat) (hi : (lane = 0 ∧ i = 0) ∨ (lane = 1 ∧ i = 1)) (h : RGate w rb cl n m f v)
    (hr : refuse cl client lane = 0) (hno : NoFill (m i) (f i) client place) :
    Calls Try.prog 43 #[.pointer (some ⟨rb, 0, none⟩), .int .i64 client, .int .i64 lane, .int .i64 place, .string s] w fun e w' => e = .returned (.int .i64 7) ∧ w = w' := by
  obtain ⟨cs, h1, h2, h3, h4, h5⟩ := h.gate
  have hc : Calls Try.prog 42 #[.pointer (some ⟨rb, 0, none⟩), .int .i64 client, .int .i64 lane] w fun e w' => e = .returned (.int .i64 0) ∧ w = w' := by
    have := refuses_any rb cl client lane _ w h1 h3
    rwa [hr] at this
  have c1 := cellAt h1 (h5 i (by omega)).2.1
  have hl := (h.le i (by omega)).1
  rcases h.row i (by omega) with ⟨hv, hm0⟩ | ⟨g, cap, cur, hv, hg, _, _, _, hcur⟩
  · rw [hv] at c1
    have hno' : place < 0 ∨ (0 : Int) ≤ place := by omega
    clear h h1 h2 h3 h4 h5 hr hno hv hl
    rcases hi with ⟨rfl, rfl⟩ | ⟨rfl, rfl⟩
    all_goals
      rcases hno' with hp | hp
      all_goals
        go_enter Try.func43, Try.ntmps43
        go_wp2_with (go_at_call 42; refine hc.mono ?_; rintro e w' ⟨rfl, rfl⟩)
        go_ret
        exact ⟨rfl, rfl⟩
  · rw [hv] at c1
    rcases hno with hp | hp | ⟨p, rfl, hp, hq⟩
    · clear h h1 h2 h3 h4 h5 hr hv hcur hg
      generalize m i = mi at *
      rcases hi with ⟨rfl, rfl⟩ | ⟨rfl, rfl⟩
      all_goals
        go_enter Try.func43, Try.ntmps43
        go_wp2_with (go_at_call 42; refine hc.mono ?_; rintro e w' ⟨rfl, rfl⟩)
        go_ret
        exact ⟨rfl, rfl⟩
    · have hp0 : 0 ≤ place := by omega
      clear h h1 h2 h3 h4 h5 hr hv hcur hg
      generalize m i = mi at *
      rcases hi with ⟨rfl, rfl⟩ | ⟨rfl, rfl⟩
      all_goals
        go_enter Try.func43, Try.ntmps43
        go_wp2_with (go_at_call 42; refine hc.mono ?_; rintro e w' ⟨rfl, rfl⟩)
        go_ret
        exact ⟨rfl, rfl⟩
    · have d0 := cellAt hg (hcur p hp).1
      have d1 := cellAt hg (hcur p hp).2.1
      have hpi : (p : Int) < (m i : Int) := by omega
      clear h h1 h2 h3 h4 h5 hr hv hcur hg
      generalize m i = mi at *
      generalize f i p = fp at *
      rcases hq with hq | ⟨hq, hq2⟩
      all_goals
        rcases hi with ⟨rfl, rfl⟩ | ⟨rfl, rfl⟩
        all_goals
          go_enter Try.func43, Try.ntmps43
          go_wp2_with (go_at_call 42; refine hc.mono ?_; rintro e w' ⟨rfl, rfl⟩)
          go_ret
          exact ⟨rfl, rfl⟩

/-- The place p of lane i is filled. -/
theorem ref_filled {w : World} {rb : Nat} {cl : Int} {n m : Nat → Nat} {f : Nat → Nat → Pl} {v : Nat → Value} (h : RGate w rb cl n m f v) (i : Nat) (hi : i < 2) (p : Nat) (s : ByteArray) {g cap : Nat}
    (hv : v i = .slice (some ⟨g, 0, none⟩) (m i) cap) :
    RGate ((w.setCell ⟨g, p * 3 + 1, none⟩ (.bool true)).setCell ⟨g, p * 3 + 2, none⟩ (.string s)) rb cl n (updN m i (m i)) (updN f i (upd (f i) p ((f i p).1, true, s))) v ∧
    Keep (fun b => b ≠ rb ∧ some b ≠ (v i).ownBlock) w ((w.setCell ⟨g, p * 3 + 1, none⟩ (.bool true)).setCell ⟨g, p * 3 + 2, none⟩ (.string s)) := by
  have hob : (v i).ownBlock = some g := by rw [hv]; rfl
  have k0 : Keep (fun b => b ≠ g) w ((w.setCell ⟨g, p * 3 + 1, none⟩ (.bool true)).setCell ⟨g, p * 3 + 2, none⟩ (.string s)) :=
    ((Keep.refl _ w).setCell _ (fun _ h => h rfl) _).setCell _ (fun _ h => h rfl) _
  have hrb : rb ≠ g := fun e => h.away i hi (by rw [hob, e])
  have hmm : updN m i (m i) = m := by funext j; by_cases e : j = i <;> simp [updN, e]
  rw [hmm]
  refine ⟨⟨?_, fun j hj => ?_, h.le, h.away, h.apart⟩, k0.mono (fun b _ hb e => hb.2 (by rw [e, hob]))⟩
  · obtain ⟨cs, h1, h2⟩ := h.gate
    exact ⟨cs, k0.get h1 hrb, h2⟩
  · by_cases e : j = i
    · subst e
      simp only [updN, if_true]
      rcases h.row j hj with ⟨hv2, _⟩ | ⟨g2, cap2, cur, hv2, hg, h3, h4, h5, h6⟩
      · rw [hv] at hv2; simp at hv2
      · rw [hv] at hv2
        simp only [Value.slice.injEq, Option.some.injEq, Addr.mk.injEq, and_true, true_and] at hv2
        obtain ⟨rfl, rfl⟩ := hv2
        refine .inr ⟨g, cap, _, hv, heap_setCell_at _ (heap_setCell_at _ hg), h3, h4, by simpa using h5, fun k hk => ?_⟩
        obtain ⟨a, b, c⟩ := h6 k hk
        by_cases e : k = p
        · subst e
          refine ⟨?_, ?_, ?_⟩
          · rw [Array.getElem?_setIfInBounds_ne (by omega), Array.getElem?_setIfInBounds_ne (by omega)]; simpa [upd] using a
          · rw [Array.getElem?_setIfInBounds_ne (by omega), Array.getElem?_setIfInBounds_self, if_pos (by omega)]; simp [upd]
          · rw [Array.getElem?_setIfInBounds_self, if_pos (by simp; omega)]; simp [upd]
        · simp only [upd, if_neg e]
          refine ⟨?_, ?_, ?_⟩
          · rw [Array.getElem?_setIfInBounds_ne (by omega), Array.getElem?_setIfInBounds_ne (by omega)]; exact a
          · rw [Array.getElem?_setIfInBounds_ne (by omega), Array.getElem?_setIfInBounds_ne (by omega)]; exact b
          · rw [Array.getElem?_setIfInBounds_ne (by omega), Array.getElem?_setIfInBounds_ne (by omega)]; exact c
    · simp only [updN, if_neg e]
      refine (h.row j hj).keep k0 (fun b hb e2 => ?_)
      rcases (show (i = 0 ∧ j = 1) ∨ (i = 1 ∧ j = 0) by omega) with ⟨rfl, rfl⟩ | ⟨rfl, rfl⟩
      · exact h.apart b (by rw [hob, e2]) hb
      · exact h.apart b hb (by rw [hob, e2])

set_option maxHeartbeats 1000000 in
theorem rPublish_yes {w : World} {rb : Nat} {cl : Int} {n m : Nat → Nat} {f : Nat → Nat → Pl} {v : Nat → Value} (client lane : Int) (p : Nat) (s : ByteArray) (i : Nat) (hi : (lane = 0 ∧ i = 0) ∨ (lane = 1 ∧ i = 1)) (h : RGate w rb cl n m f v)
    (hr : refuse cl client lane = 0) (hp : p < m i) (hq : ((f i p).1 != client) = false) (hq2 : (f i p).2.1 = false) :
    Calls Try.prog 43 #[.pointer (some ⟨rb, 0, none⟩), .int .i64 client, .int .i64 lane, .int .i64 p, .string s] w fun e w' => e = .returned (.int .i64 0) ∧
      RGate w' rb cl n (updN m i (m i)) (updN f i (upd (f i) p ((f i p).1, true, s))) v ∧ Keep (fun b => b ≠ rb ∧ some b ≠ (v i).ownBlock) w w' := by
  obtain ⟨cs, h1, h2, h3, h4, h5⟩ := h.gate
  have hc : Calls Try.prog 42 #[.pointer (some ⟨rb, 0, none⟩), .int .i64 client, .int .i64 lane] w fun e w' => e = .returned (.int .i64 0) ∧ w = w' := by
    have := refuses_any rb cl client lane _ w h1 h3
    rwa [hr] at this
  have c1 := cellAt h1 (h5 i (by omega)).2.1
  have hl := (h.le i (by omega)).1
  rcases h.row i (by omega) with ⟨hv, hm0⟩ | ⟨g, cap, cur, hv, hg, _, _, _, hcur⟩
  · omega
  have HF : Hid _ := ref_filled h i (by omega) p s hv
  have hgr : g ≠ rb := fun e => h.away i (by omega) (by rw [hv, e]; rfl)
  rw [hv] at c1
  have d0 := cellAt hg (hcur p hp).1
  have d1 := cellAt hg (hcur p hp).2.1
  have d2 := cellAt hg (hcur p hp).2.2
  have z1 := frozenAt (i := p * 3 + 1) hg
  have z2 := frozenAt (i := p * 3 + 2) hg
  have hpi : (p : Int) < (m i : Int) := by omega
  clear h h1 h2 h3 h4 h5 hr hv hcur hg
  rcases hi with ⟨rfl, rfl⟩ | ⟨rfl, rfl⟩
  all_goals
    go_enter Try.func43, Try.ntmps43
    go_wp2_with (go_at_call 42; refine hc.mono ?_; rintro e w' ⟨rfl, rfl⟩)
    go_ret
    exact ⟨rfl, HF.out⟩

end Go.Proofs.Ytncljickkoihhaa
