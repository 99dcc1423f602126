import Derived.Test.YtjhifhoniimfgaaGreatG01
import Derived.Test.YtjhifhoniimfgaaGreatG14
import Derived.Test.YtjhifhoniimfgaaGreatG29
import Derived.Test.YtjhifhoniimfgaaGreatG31
import Derived.Test.YtjhifhoniimfgaaGreatG32
/-
  The document's Tick and Watch.
-/
namespace Go.Proofs.YtjhifhoniimfgaaGreat
open Go.RowKit

set_option maxHeartbeats 400000 in
theorem rTick_nil (w : World) : Calls Tryz.prog 30 #[.pointer none] w fun e w' => e = .returned (.int .i64 1) ∧ w = w' := by
  go_enter Tryz.func30, Tryz.ntmps30
  go_wp2
  go_ret
  exact ⟨rfl, rfl⟩

set_option maxHeartbeats 400000 in
theorem rTick_any (rb : Nat) (cs : Array Value) (time : Int) (ticked : Bool) (w : World) (h : w.heap[rb]? = some (.cells cs 115 (0, 0))) (h6 : cs[6]? = some (.int .i64 time)) (h26 : cs[26]? = some (.bool ticked))
    (ht1 : 0 ≤ time) (ht2 : time < 9223372036854775807) :
    Calls Tryz.prog 30 #[.pointer (some ⟨rb, 0, none⟩)] w fun e w' => e = .returned (.int .i64 0) ∧
      w'.heap[rb]? = some (.cells ((cs.setIfInBounds 6 (.int .i64 (time + 1))).setIfInBounds 26 (.bool true)) 115 (0, 0)) ∧ Keep (fun b => b ≠ rb) w w' := by
  have c6 := cellAt h h6
  have c26 := cellAt h h26
  have z6 := frozenAt (i := 6) h
  have z26 := frozenAt (i := 26) h
  have HB : Hid ((((w.setCell ⟨rb, 6, none⟩ (.int .i64 (time + 1))).setCell ⟨rb, 26, none⟩ (.bool true)).heap[rb]? = some (.cells ((cs.setIfInBounds 6 (.int .i64 (time + 1))).setIfInBounds 26 (.bool true)) 115 (0, 0)))) :=
    heap_setCell_at _ (heap_setCell_at _ h)
  have HK : Hid (Keep (fun b => b ≠ rb) w ((w.setCell ⟨rb, 6, none⟩ (.int .i64 (time + 1))).setCell ⟨rb, 26, none⟩ (.bool true))) :=
    ((Keep.refl _ w).setCell _ (fun _ h => h rfl) _).setCell _ (fun _ h => h rfl) _
  clear h h6 h26
  go_enter Tryz.func30, Tryz.ntmps30
  go_wp2
  go_ret
  exact ⟨rfl, HB.out, HK.out⟩

set_option maxHeartbeats 400000 in
theorem rWatch_nil (w : World) : Calls Tryz.prog 32 #[.pointer none] w fun e w' => e = .returned (.tuple #[.bool false, .int .i64 1]) ∧ w = w' := by
  go_enter Tryz.func32, Tryz.ntmps32
  go_wp2
  go_ret2
  exact ⟨rfl, rfl⟩

set_option maxHeartbeats 400000 in
theorem rWatch_still (rb : Nat) (cs : Array Value) (shut : Bool) (w : World) (h : w.heap[rb]? = some (.cells cs 115 (0, 0))) (h26 : cs[26]? = some (.bool false)) (h29 : cs[29]? = some (.bool shut)) :
    Calls Tryz.prog 32 #[.pointer (some ⟨rb, 0, none⟩)] w fun e w' => e = .returned (.tuple #[.bool shut, .int .i64 0]) ∧ w = w' := by
  have c26 := cellAt h h26
  have c29 := cellAt h h29
  clear h h26 h29
  go_enter Tryz.func32, Tryz.ntmps32
  go_wp2
  go_ret2
  exact ⟨rfl, rfl⟩

/-- The misses behind a check. -/
def missV (stepped : Bool) (misses : Int) : Int := if stepped then 0 else misses + 1

set_option maxHeartbeats 1000000 in
theorem rWatch_check (rb : Nat) (cs : Array Value) (stepped shut : Bool) (misses checks : Int) (w : World) (h : w.heap[rb]? = some (.cells cs 115 (0, 0))) (hs : cs.size = 30) (h4 : cs[4]? = some (.int .i64 checks))
    (h26 : cs[26]? = some (.bool true)) (h27 : cs[27]? = some (.bool stepped)) (h28 : cs[28]? = some (.int .i64 misses)) (h29 : cs[29]? = some (.bool shut)) (hm1 : 0 ≤ misses) (hm2 : misses < 9223372036854775807) :
    Calls Tryz.prog 32 #[.pointer (some ⟨rb, 0, none⟩)] w fun e w' =>
      e = .returned (.tuple #[.bool (shut || decide (checks ≤ missV stepped misses)), .int .i64 0]) ∧ Keep (fun b => b ≠ rb) w w' ∧
      ∃ cs', w'.heap[rb]? = some (.cells cs' 115 (0, 0)) ∧ cs'.size = 30 ∧ cs'[26]? = some (.bool false) ∧ cs'[27]? = some (.bool false) ∧ cs'[28]? = some (.int .i64 (missV stepped misses)) ∧
        cs'[29]? = some (.bool (shut || decide (checks ≤ missV stepped misses))) ∧ ∀ i, i < 26 → cs'[i]? = cs[i]? := by
  have c4 := cellAt h h4
  have c26 := cellAt h h26
  have c27 := cellAt h h27
  have c28 := cellAt h h28
  have c29 := cellAt h h29
  have z26 := frozenAt (i := 26) h
  have z27 := frozenAt (i := 27) h
  have z28 := frozenAt (i := 28) h
  have z29 := frozenAt (i := 29) h
  have HH : Hid (w.heap[rb]? = some (.cells cs 115 (0, 0))) := h
  clear h h4 h26 h27 h28
  cases stepped
  · by_cases hc : checks ≤ misses + 1
    · have hv : decide (checks ≤ missV false misses) = true := decide_eq_true hc
      have HV : Hid (decide (checks ≤ missV false misses) = true) := hv
      clear hv
      go_enter Tryz.func32, Tryz.ntmps32
      go_wp2
      go_quiet (fail)
      go_wp2
      go_ret2
      refine ⟨by rw [HV.out, Bool.or_true]; rfl, (((((Keep.refl _ w).setCell _ (fun _ h => h rfl) _).drewN nq).setCell _ (fun _ h => h rfl) _).setCell _ (fun _ h => h rfl) _).setCell _ (fun _ h => h rfl) _, _, heap_setCell_at _ (heap_setCell_at _ (heap_setCell_at _ ((show (World.drewN _ nq).heap[rb]? = _ from heap_setCell_at _ (HH.out))))), by simp [hs], ?_, ?_, ?_, ?_, fun i hi => ?_⟩
      · rw [Array.getElem?_setIfInBounds_ne (by omega), Array.getElem?_setIfInBounds_self]; simp [hs]
      · rw [Array.getElem?_setIfInBounds_self]; simp [hs]
      · rw [Array.getElem?_setIfInBounds_ne (by omega), Array.getElem?_setIfInBounds_ne (by omega), Array.getElem?_setIfInBounds_ne (by omega), Array.getElem?_setIfInBounds_self]; simp [hs, missV]
      · rw [Array.getElem?_setIfInBounds_ne (by omega), Array.getElem?_setIfInBounds_ne (by omega), Array.getElem?_setIfInBounds_self]; simp [hs, HV.out]
      · rw [Array.getElem?_setIfInBounds_ne (by omega), Array.getElem?_setIfInBounds_ne (by omega), Array.getElem?_setIfInBounds_ne (by omega), Array.getElem?_setIfInBounds_ne (by omega)]
    · have hv : decide (checks ≤ missV false misses) = false := decide_eq_false hc
      have HV : Hid (decide (checks ≤ missV false misses) = false) := hv
      clear hv
      go_enter Tryz.func32, Tryz.ntmps32
      go_wp2
      go_quiet (fail)
      go_wp2
      go_ret2
      refine ⟨by rw [HV.out, Bool.or_false]; rfl, ((((Keep.refl _ w).setCell _ (fun _ h => h rfl) _).drewN nq).setCell _ (fun _ h => h rfl) _).setCell _ (fun _ h => h rfl) _, _, heap_setCell_at _ (heap_setCell_at _ ((show (World.drewN _ nq).heap[rb]? = _ from heap_setCell_at _ (HH.out)))), by simp [hs], ?_, ?_, ?_, ?_, fun i hi => ?_⟩
      · rw [Array.getElem?_setIfInBounds_ne (by omega), Array.getElem?_setIfInBounds_self]; simp [hs]
      · rw [Array.getElem?_setIfInBounds_self]; simp [hs]
      · rw [Array.getElem?_setIfInBounds_ne (by omega), Array.getElem?_setIfInBounds_ne (by omega), Array.getElem?_setIfInBounds_self]; simp [hs, missV]
      · rw [Array.getElem?_setIfInBounds_ne (by omega), Array.getElem?_setIfInBounds_ne (by omega), Array.getElem?_setIfInBounds_ne (by omega)]; rw [HV.out, Bool.or_false]; exact h29
      · rw [Array.getElem?_setIfInBounds_ne (by omega), Array.getElem?_setIfInBounds_ne (by omega), Array.getElem?_setIfInBounds_ne (by omega)]
  · by_cases hc : checks ≤ 0
    · have hv : decide (checks ≤ missV true misses) = true := decide_eq_true hc
      have HV : Hid (decide (checks ≤ missV true misses) = true) := hv
      clear hv
      go_enter Tryz.func32, Tryz.ntmps32
      go_wp2
      go_quiet (fail)
      go_wp2
      go_ret2
      refine ⟨by rw [HV.out, Bool.or_true]; rfl, ((((((Keep.refl _ w).setCell _ (fun _ h => h rfl) _).setCell _ (fun _ h => h rfl) _).drewN nq).setCell _ (fun _ h => h rfl) _).setCell _ (fun _ h => h rfl) _).setCell _ (fun _ h => h rfl) _, _, heap_setCell_at _ (heap_setCell_at _ (heap_setCell_at _ ((show (World.drewN _ nq).heap[rb]? = _ from heap_setCell_at _ (heap_setCell_at _ (HH.out)))))), by simp [hs], ?_, ?_, ?_, ?_, fun i hi => ?_⟩
      · rw [Array.getElem?_setIfInBounds_ne (by omega), Array.getElem?_setIfInBounds_self]; simp [hs]
      · rw [Array.getElem?_setIfInBounds_self]; simp [hs]
      · rw [Array.getElem?_setIfInBounds_ne (by omega), Array.getElem?_setIfInBounds_ne (by omega), Array.getElem?_setIfInBounds_ne (by omega), Array.getElem?_setIfInBounds_self]; simp [hs, missV]
      · rw [Array.getElem?_setIfInBounds_ne (by omega), Array.getElem?_setIfInBounds_ne (by omega), Array.getElem?_setIfInBounds_self]; simp [hs, HV.out]
      · rw [Array.getElem?_setIfInBounds_ne (by omega), Array.getElem?_setIfInBounds_ne (by omega), Array.getElem?_setIfInBounds_ne (by omega), Array.getElem?_setIfInBounds_ne (by omega), Array.getElem?_setIfInBounds_ne (by omega)]
    · have hv : decide (checks ≤ missV true misses) = false := decide_eq_false hc
      have HV : Hid (decide (checks ≤ missV true misses) = false) := hv
      clear hv
      go_enter Tryz.func32, Tryz.ntmps32
      go_wp2
      go_quiet (fail)
      go_wp2
      go_ret2
      refine ⟨by rw [HV.out, Bool.or_false]; rfl, (((((Keep.refl _ w).setCell _ (fun _ h => h rfl) _).setCell _ (fun _ h => h rfl) _).drewN nq).setCell _ (fun _ h => h rfl) _).setCell _ (fun _ h => h rfl) _, _, heap_setCell_at _ (heap_setCell_at _ ((show (World.drewN _ nq).heap[rb]? = _ from heap_setCell_at _ (heap_setCell_at _ (HH.out))))), by simp [hs], ?_, ?_, ?_, ?_, fun i hi => ?_⟩
      · rw [Array.getElem?_setIfInBounds_ne (by omega), Array.getElem?_setIfInBounds_self]; simp [hs]
      · rw [Array.getElem?_setIfInBounds_self]; simp [hs]
      · rw [Array.getElem?_setIfInBounds_ne (by omega), Array.getElem?_setIfInBounds_ne (by omega), Array.getElem?_setIfInBounds_self]; simp [hs, missV]
      · rw [Array.getElem?_setIfInBounds_ne (by omega), Array.getElem?_setIfInBounds_ne (by omega), Array.getElem?_setIfInBounds_ne (by omega), Array.getElem?_setIfInBounds_ne (by omega)]; rw [HV.out, Bool.or_false]; exact h29
      · rw [Array.getElem?_setIfInBounds_ne (by omega), Array.getElem?_setIfInBounds_ne (by omega), Array.getElem?_setIfInBounds_ne (by omega), Array.getElem?_setIfInBounds_ne (by omega)]

end Go.Proofs.YtjhifhoniimfgaaGreat

/-
  The document's calls on a gate in memory: Claim, Publish, Poll, Acks, Tick, Watch.
-/
namespace Go.Proofs.YtjhifhoniimfgaaGreat
open Go.RowKit

theorem rRefuse {own : Nat → Nat} {T : Nat} {w : World} {R : RB} {s : St} (h : RG own T w R s) (client lane : Int) :
    Calls Tryz.prog 52 #[.pointer (some ⟨R.rb, 0, none⟩), .int .i64 client, .int .i64 lane] w fun e w' => e = .returned (.int .i64 (refuse s.cl client lane)) ∧ w = w' :=
  refuses_any R.rb s.cl client lane _ w h.gate rfl

/-- The cells of a lane. -/
theorem RG.laneAt {own : Nat → Nat} {T : Nat} {w : World} {R : RB} {s : St} (h : RG own T w R s) : w.cell? ⟨R.rb, 7, none⟩ = some (.int .i64 (s.n 0)) ∧ w.cell? ⟨R.rb, 8, none⟩ = some (R.lv 0) ∧ w.cell? ⟨R.rb, 9, none⟩ = some (.int .i64 (s.t 0)) ∧
    w.cell? ⟨R.rb, 10, none⟩ = some (.int .i64 (s.n 1)) ∧ w.cell? ⟨R.rb, 11, none⟩ = some (R.lv 1) ∧ w.cell? ⟨R.rb, 12, none⟩ = some (.int .i64 (s.t 1)) ∧ w.cell? ⟨R.rb, 29, none⟩ = some (.bool s.shut) :=
  ⟨cellAt (i := 7) h.gate rfl, cellAt (i := 8) h.gate rfl, cellAt (i := 9) h.gate rfl, cellAt (i := 10) h.gate rfl, cellAt (i := 11) h.gate rfl, cellAt (i := 12) h.gate rfl, cellAt (i := 29) h.gate rfl⟩

theorem RG.laneNe {own : Nat → Nat} {T : Nat} {w : World} {R : RB} {s : St} (h : RG own T w R s) (i : Nat) (hi : i < 2) : (R.lv i).ownBlock ≠ some R.rb := fun e => by
  have := h.oln i _ hi e
  rw [h.og] at this
  omega

/-- A place more in a lane. -/
theorem RG.claimed {own : Nat → Nat} {T : Nat} {w w3 : World} {R : RB} {s : St} (h : RG own T w R s) (i : Nat) (hi : i < 2) (client : Int) {g' cap' : Nat} (h1 : w3.ownsRow 0 118 3 (.slice (some ⟨g', 0, none⟩) (s.m i + 1) cap') (s.m i + 1) (plFlat (s.f i) (s.m i) ++ [.int .i64 client, .bool false, .string ByteArray.empty]))
    (h2 : Keep (fun b => (R.lv i).ownBlock ≠ some b) w w3) (h3 : (R.lv i).ownBlock = some g' ∨ w.heap.size ≤ g') :
    GoesR own T w R.rb { s with m := upN s.m i (s.m i + 1), f := upN s.f i (upd (s.f i) (s.m i) (client, false, ByteArray.empty)) } (w3.setCell ⟨R.rb, 8 + 3 * i, none⟩ (.slice (some ⟨g', 0, none⟩) (s.m i + 1) cap')) := by
  have g3 := h2.get h.gate (h.laneNe i hi)
  have kS : Keep (fun b => b ≠ R.rb) w3 (w3.setCell ⟨R.rb, 8 + 3 * i, none⟩ (.slice (some ⟨g', 0, none⟩) (s.m i + 1) cap')) := (Keep.refl _ w3).setCell _ (fun _ h => h rfl) _
  have hgr : g' ≠ R.rb := by
    rcases h3 with e | e
    · intro e2; subst e2; exact h.laneNe i hi e
    · have := block_lt h.gate; omega
  have e1 : plFlat (s.f i) (s.m i) ++ [.int .i64 client, .bool false, .string ByteArray.empty] = plFlat (upd (s.f i) (s.m i) (client, false, ByteArray.empty)) (s.m i + 1) := by
    rw [plFlat]
    congr 1
    · exact plFlat_congr _ (fun k hk => by simp [upd, Nat.ne_of_lt hk])
    · simp [upd]
  rw [e1] at h1
  obtain ⟨r1, r2⟩ := h.relane i hi (.slice (some ⟨g', 0, none⟩) (s.m i + 1) cap') (s.m i + 1) (s.t i) (upd (s.f i) (s.m i) (client, false, ByteArray.empty))
    ((h2.mono (T := fun b => b ≠ R.rb ∧ (R.lv i).ownBlock ≠ some b) (fun b _ hb => hb.2)).trans' kS (fun b _ hb => hb.1)) (by
      rw [heap_setCell_at _ g3]
      rcases (show i = 0 ∨ i = 1 by omega) with rfl | rfl
      · simp [rCells, upN]
      · simp [rCells, upN]) (ownsRow_keep h1 kS (fun b hb => by simp [Value.ownBlock] at hb; subst hb; exact hgr)) (fun b hb => by simp [Value.ownBlock] at hb; subst hb; exact h3)
  rw [upN_self] at r1
  exact ⟨_, _, r1, rfl, Same.ext own w _, r2⟩

theorem rClaim {own : Nat → Nat} {T : Nat} {w : World} {R : RB} {s : St} {N : Nat} (h : RG own T w R s) (hk : Ok s N) (hN : N < 1099511627776) (client lane : Int) :
    Calls Tryz.prog 22 #[.pointer (some ⟨R.rb, 0, none⟩), .int .i64 client, .int .i64 lane] w fun e w' =>
      e = .returned (.tuple #[.int .i64 (claimS s client lane).1, .int .i64 (claimS s client lane).2.1]) ∧ GoesR own T w R.rb (claimS s client lane).2.2 w' := by
  unfold claimS
  by_cases h1 : refuse s.cl client lane ≠ 0
  · rw [if_pos h1]
    refine (rClaim_no R.rb s.cl client lane _ w h.gate rfl (by simpa using h1)).mono ?_
    rintro e w' ⟨rfl, rfl⟩
    exact ⟨rfl, GoesR.same h hk.cl.2 (Keep.refl _ _)⟩
  rw [if_neg h1]
  have hr : refuse s.cl client lane = 0 := Classical.not_not.1 h1
  have hc := rRefuse h client lane
  rw [hr] at hc
  obtain ⟨q1, q2, hl⟩ := refuse_lane hr
  obtain ⟨a0, a1, a2, b0, b1, b2, c29⟩ := h.laneAt
  by_cases h2 : s.shut = true
  · rw [if_pos h2]
    rw [h2] at c29
    rcases hl with ⟨rfl, _⟩ | ⟨rfl, _⟩
    · refine (rClaim_shut0 R.rb client w hc c29).mono ?_
      rintro e w' ⟨rfl, rfl⟩
      exact ⟨rfl, GoesR.same h hk.cl.2 (Keep.refl _ _)⟩
    · refine (rClaim_shut1 R.rb client w hc c29).mono ?_
      rintro e w' ⟨rfl, rfl⟩
      exact ⟨rfl, GoesR.same h hk.cl.2 (Keep.refl _ _)⟩
  rw [if_neg h2]
  rw [show s.shut = false by simpa using h2] at c29
  rcases hl with ⟨rfl, hl⟩ | ⟨rfl, hl⟩
  · rw [hl]
    have hmt := hk.mt 0 (by omega)
    obtain ⟨a, cap, hv⟩ := ownsRow_slice (h.lane 0 (by omega))
    rw [hv] at a1
    by_cases h3 : s.t 0 + s.n 0 ≤ s.m 0
    · rw [if_pos h3]
      refine (rClaim_full0 R.rb (s.m 0) (s.t 0) (s.n 0) cap a client w hc c29 a0 a1 a2 h3 (by omega)).mono ?_
      rintro e w' ⟨rfl, q, rfl⟩
      exact ⟨rfl, GoesR.same h hk.cl.2 ((Keep.refl _ _).drewN q)⟩
    · rw [if_neg h3]
      have hrow := h.lane 0 (by omega)
      unfold PlRow at hrow
      have hne := h.laneNe 0 (by omega)
      rw [hv] at hrow hne
      refine (rClaim_room0 R.rb (s.m 0) (s.t 0) (s.n 0) cap a client _ w hc c29 a0 a1 a2 (frozenAt h.gate) hrow hne (by omega) hmt.1 (by omega)).mono ?_
      rintro e w' ⟨rfl, g', cap', w3, r1, r2, r3, rfl⟩
      exact ⟨rfl, h.claimed 0 (by omega) client r1 (by rw [hv]; exact r2) (by rw [hv]; exact r3)⟩
  · rw [hl]
    have hmt := hk.mt 1 (by omega)
    obtain ⟨a, cap, hv⟩ := ownsRow_slice (h.lane 1 (by omega))
    rw [hv] at b1
    by_cases h3 : s.t 1 + s.n 1 ≤ s.m 1
    · rw [if_pos h3]
      refine (rClaim_full1 R.rb (s.m 1) (s.t 1) (s.n 1) cap a client w hc c29 b0 b1 b2 h3 (by omega)).mono ?_
      rintro e w' ⟨rfl, q, rfl⟩
      exact ⟨rfl, GoesR.same h hk.cl.2 ((Keep.refl _ _).drewN q)⟩
    · rw [if_neg h3]
      have hrow := h.lane 1 (by omega)
      unfold PlRow at hrow
      have hne := h.laneNe 1 (by omega)
      rw [hv] at hrow hne
      refine (rClaim_room1 R.rb (s.m 1) (s.t 1) (s.n 1) cap a client _ w hc c29 b0 b1 b2 (frozenAt h.gate) hrow hne (by omega) hmt.1 (by omega)).mono ?_
      rintro e w' ⟨rfl, g', cap', w3, r1, r2, r3, rfl⟩
      exact ⟨rfl, h.claimed 1 (by omega) client r1 (by rw [hv]; exact r2) (by rw [hv]; exact r3)⟩

/-- A place of a lane is filled. -/
theorem RG.filled {own : Nat → Nat} {T : Nat} {w : World} {R : RB} {s : St} (h : RG own T w R s) (i : Nat) (hi : i < 2) (p : Nat) (hp : p < s.m i) (b : ByteArray) {g cap : Nat} (hv : R.lv i = .slice (some ⟨g, 0, none⟩) (s.m i) cap) :
    GoesR own T w R.rb { s with f := upN s.f i (upd (s.f i) p ((s.f i p).1, true, b)) } ((w.setCell ⟨g, p * 3 + 1, none⟩ (.bool true)).setCell ⟨g, p * 3 + 2, none⟩ (.string b)) := by
  have hrow := h.lane i hi
  have hgr : g ≠ R.rb := fun e => h.laneNe i hi (by rw [hv, e]; rfl)
  obtain ⟨g2, cap2, cur, hv2, hg⟩ : ∃ g2 cap2 cur, R.lv i = .slice (some ⟨g2, 0, none⟩) (s.m i) cap2 ∧ w.heap[g2]? = some (.cells cur 118 (0, 0)) ∧ s.m i ≤ cap2 ∧ cap2 ≤ maxLen ∧ cur.size = cap2 * 3 ∧ cur.toList.take (s.m i * 3) = plFlat (s.f i) (s.m i) := by
    rcases hrow.2 with ⟨q, q0⟩ | ⟨g2, cap2, cur, q, _, q1, q2, q3, q4, q5⟩
    · omega
    · exact ⟨g2, cap2, cur, q, q1, q2, q3, q4, q5⟩
  rw [hv] at hv2
  simp only [Value.slice.injEq, Option.some.injEq, Addr.mk.injEq, and_true, true_and] at hv2
  obtain ⟨rfl, rfl⟩ := hv2
  obtain ⟨hg, q2, q3, q4, q5⟩ := hg
  have kS : Keep (fun b => b ≠ g) w ((w.setCell ⟨g, p * 3 + 1, none⟩ (.bool true)).setCell ⟨g, p * 3 + 2, none⟩ (.string b)) := ((Keep.refl _ w).setCell _ (fun _ h => h rfl) _).setCell _ (fun _ h => h rfl) _
  have hnew : ((w.setCell ⟨g, p * 3 + 1, none⟩ (.bool true)).setCell ⟨g, p * 3 + 2, none⟩ (.string b)).heap[g]? = some (.cells ((cur.setIfInBounds (p * 3 + 1) (.bool true)).setIfInBounds (p * 3 + 2) (.string b)) 118 (0, 0)) := heap_setCell_at _ (heap_setCell_at _ hg)
  have hrow' : PlRow ((w.setCell ⟨g, p * 3 + 1, none⟩ (.bool true)).setCell ⟨g, p * 3 + 2, none⟩ (.string b)) (.slice (some ⟨g, 0, none⟩) (s.m i) cap) (s.m i) (upd (s.f i) p ((s.f i p).1, true, b)) := by
    refine ⟨plFlat_len _ _, .inr ⟨g, cap, _, rfl, Nat.zero_le _, hnew, q2, q3, by simpa using q4, ?_⟩⟩
    apply List.ext_getElem?
    intro k
    by_cases hk : k < s.m i * 3
    · rw [List.getElem?_take_of_lt hk]
      obtain ⟨j, r, rfl, hr⟩ : ∃ j r, k = j * 3 + r ∧ r < 3 := ⟨k / 3, k % 3, by omega, by omega⟩
      have hj : j < s.m i := by omega
      obtain ⟨n0, n1, n2⟩ := plFlat_get (upd (s.f i) p ((s.f i p).1, true, b)) (s.m i) j hj
      obtain ⟨o0, o1, o2⟩ := plFlat_get (s.f i) (s.m i) j hj
      rw [← q5, List.getElem?_take_of_lt (by omega)] at o0 o1 o2
      have hsz : p * 3 + 2 < cur.size := by omega
      rcases (show r = 0 ∨ r = 1 ∨ r = 2 by omega) with rfl | rfl | rfl
      · simp only [Nat.add_zero]
        rw [n0]
        by_cases e : j = p
        · subst e
          simp only [upd, if_true]
          simp only [Array.getElem?_toList]
          rw [Array.getElem?_setIfInBounds_ne (by omega), Array.getElem?_setIfInBounds_ne (by omega)]
          simpa using o0
        · simp only [upd, if_neg e, Array.getElem?_toList]
          rw [Array.getElem?_setIfInBounds_ne (by omega), Array.getElem?_setIfInBounds_ne (by omega)]
          simpa using o0
      · rw [n1]
        by_cases e : j = p
        · subst e
          simp only [upd, if_true, Array.getElem?_toList]
          rw [Array.getElem?_setIfInBounds_ne (by omega), Array.getElem?_setIfInBounds_self, if_pos (by omega)]
        · simp only [upd, if_neg e, Array.getElem?_toList]
          rw [Array.getElem?_setIfInBounds_ne (by omega), Array.getElem?_setIfInBounds_ne (by omega)]
          simpa using o1
      · rw [n2]
        by_cases e : j = p
        · subst e
          simp only [upd, if_true, Array.getElem?_toList]
          rw [Array.getElem?_setIfInBounds_self, if_pos (by simpa using hsz)]
        · simp only [upd, if_neg e, Array.getElem?_toList]
          rw [Array.getElem?_setIfInBounds_ne (by omega), Array.getElem?_setIfInBounds_ne (by omega)]
          simpa using o2
    · rw [List.getElem?_eq_none (by simp; omega), List.getElem?_eq_none (by rw [plFlat_len]; omega)]
  obtain ⟨r1, r2⟩ := h.relane i hi (R.lv i) (s.m i) (s.t i) (upd (s.f i) p ((s.f i p).1, true, b)) (kS.mono (fun c _ hb e => by rw [hv] at hb; exact hb.2 (by rw [e]; rfl))) (by
    rw [kS.get h.gate (Ne.symm hgr)]
    simp [rCells, upN_self]) (by rw [hv]; exact hrow') (fun b hb => .inl hb)
  rw [upN_self, upN_self, upN_self] at r1
  exact ⟨_, _, r1, rfl, Same.ext own w _, r2⟩

theorem rPublish {own : Nat → Nat} {T : Nat} {w : World} {R : RB} {s : St} {N : Nat} (h : RG own T w R s) (hk : Ok s N) (client lane place : Int) (b : ByteArray) :
    Calls Tryz.prog 53 #[.pointer (some ⟨R.rb, 0, none⟩), .int .i64 client, .int .i64 lane, .int .i64 place, .string b] w fun e w' =>
      e = .returned (.int .i64 (pubS s client lane place b).1) ∧ GoesR own T w R.rb (pubS s client lane place b).2 w' := by
  have same : GoesR own T w R.rb s w := GoesR.same h hk.cl.2 (Keep.refl _ _)
  unfold pubS
  by_cases h1 : refuse s.cl client lane ≠ 0
  · rw [if_pos h1]
    refine (rPublish_no R.rb s.cl client lane place b _ w h.gate rfl (by simpa using h1)).mono ?_
    rintro e w' ⟨rfl, rfl⟩
    exact ⟨rfl, same⟩
  rw [if_neg h1]
  have hr : refuse s.cl client lane = 0 := Classical.not_not.1 h1
  have hc := rRefuse h client lane
  rw [hr] at hc
  obtain ⟨q1, q2, hl⟩ := refuse_lane hr
  obtain ⟨a0, a1, a2, b0, b1, b2, c29⟩ := h.laneAt
  obtain ⟨i, hi⟩ : ∃ i, i = lane.toNat := ⟨_, rfl⟩
  rw [← hi] at hl ⊢
  have hi2 : i < 2 := by omega
  have ca : w.cell? ⟨R.rb, 8 + 3 * i, none⟩ = some (R.lv i) := by rcases (show i = 0 ∨ i = 1 by omega) with rfl | rfl; exact a1; exact b1
  clear hi
  obtain ⟨a, cap, hv⟩ := ownsRow_slice (h.lane i hi2)
  -- out of range
  by_cases ho : place < 0 ∨ (s.m i : Int) ≤ place
  · have hb : fillB (s.m i) (s.f i) client place = false := by
      unfold fillB
      rcases ho with ho | ho
      · rw [decide_eq_false (show ¬ 0 ≤ place by omega)]; rfl
      · rw [decide_eq_false (show ¬ place < (s.m i : Int) by omega), Bool.and_false]; rfl
    rw [hb, if_neg (by decide)]
    rw [hv] at ca
    rcases hl with ⟨rfl, rfl⟩ | ⟨rfl, rfl⟩
    · refine (rPublish_out0 R.rb (s.m 0) cap a client place b w hc ca ho).mono ?_
      rintro e w' ⟨rfl, rfl⟩
      exact ⟨rfl, same⟩
    · refine (rPublish_out1 R.rb (s.m 1) cap a client place b w hc ca ho).mono ?_
      rintro e w' ⟨rfl, rfl⟩
      exact ⟨rfl, same⟩
  obtain ⟨p, rfl⟩ := Int.eq_ofNat_of_zero_le (show 0 ≤ place by omega)
  have hp : p < s.m i := by omega
  obtain ⟨g, cap2, cs, hv2, hg, hcs⟩ := ownsRow_cells (h.lane i hi2) (by omega)
  rw [hv2] at ca
  obtain ⟨n0, n1, n2⟩ := plFlat_get (s.f i) (s.m i) p hp
  have d0 := cellAt hg (hcs _ _ n0)
  have d1 := cellAt hg (hcs _ _ n1)
  have d2 := cellAt hg (hcs _ _ n2)
  rw [Int.toNat_natCast]
  have hfb : fillB (s.m i) (s.f i) client p = (decide ((s.f i p).1 = client) && !(s.f i p).2.1) := by
    unfold fillB
    rw [decide_eq_true (show (0 : Int) ≤ (p : Int) by omega), decide_eq_true (show (p : Int) < (s.m i : Int) by omega), Int.toNat_natCast]
    rfl
  rw [hfb]
  by_cases hq : (s.f i p).1 = client ∧ (s.f i p).2.1 = false
  · obtain ⟨hq1, hq2⟩ := hq
    rw [hq2] at d1
    rw [hq1, hq2, if_pos (by simp)]
    have hf := h.filled i hi2 p hp b hv2
    rw [hq1] at hf
    have hbq : ((s.f i p).1 != client) = false := by simp [hq1]
    rcases hl with ⟨rfl, rfl⟩ | ⟨rfl, rfl⟩
    · refine (rPublish_yes0 R.rb (s.m 0) p cap2 g _ _ b client w hc ca hp d0 d1 d2 (frozenAt hg) (frozenAt hg) hbq).mono ?_
      rintro e w' ⟨rfl, rfl⟩
      exact ⟨rfl, hf⟩
    · refine (rPublish_yes1 R.rb (s.m 1) p cap2 g _ _ b client w hc ca hp d0 d1 d2 (frozenAt hg) (frozenAt hg) hbq).mono ?_
      rintro e w' ⟨rfl, rfl⟩
      exact ⟨rfl, hf⟩
  · have hbb : (decide ((s.f i p).1 = client) && !(s.f i p).2.1) = false := by
      by_cases e1 : (s.f i p).1 = client
      · rw [decide_eq_true e1]
        cases e2 : (s.f i p).2.1
        · exact absurd ⟨e1, e2⟩ hq
        · rfl
      · rw [decide_eq_false e1]; rfl
    rw [hbb, if_neg (by decide)]
    have hno : ((s.f i p).1 != client) = true ∨ (((s.f i p).1 != client) = false ∧ (s.f i p).2.1 = true) := by
      by_cases e1 : (s.f i p).1 = client
      · right
        refine ⟨by simp [e1], ?_⟩
        cases e2 : (s.f i p).2.1
        · exact absurd ⟨e1, e2⟩ hq
        · rfl
      · left; simpa using e1
    rcases hl with ⟨rfl, rfl⟩ | ⟨rfl, rfl⟩
    · refine (rPublish_not0 R.rb (s.m 0) p cap2 g _ _ b client w hc ca hp d0 d1 hno).mono ?_
      rintro e w' ⟨rfl, rfl⟩
      exact ⟨rfl, same⟩
    · refine (rPublish_not1 R.rb (s.m 1) p cap2 g _ _ b client w hc ca hp d0 d1 hno).mono ?_
      rintro e w' ⟨rfl, rfl⟩
      exact ⟨rfl, same⟩

theorem rTick {own : Nat → Nat} {T : Nat} {w : World} {R : RB} {s : St} {N : Nat} (h : RG own T w R s) (hk : Ok s N) (hN : N < 1099511627776) :
    Calls Tryz.prog 30 #[.pointer (some ⟨R.rb, 0, none⟩)] w fun e w' => e = .returned (.int .i64 0) ∧ GoesR own T w R.rb (tickS s) w' := by
  have ht := hk.time
  refine (rTick_any R.rb _ s.time s.ticked w h.gate rfl rfl (by omega) (by omega)).mono ?_
  rintro e w' ⟨rfl, hg, hkp⟩
  obtain ⟨r1, r2⟩ := h.recell (R' := R) (s' := tickS s) hkp (by rw [hg]; simp [rCells, tickS]) rfl ⟨rfl, rfl, rfl, rfl, rfl, rfl, rfl, rfl⟩ h.held
  exact ⟨rfl, _, _, r1, rfl, Same.ext own w T, r2.outT⟩

theorem cells_eq {a b : Array Value} (h1 : a.size = b.size) (h2 : ∀ i, i < b.size → a[i]? = b[i]?) : a = b := by
  apply Array.ext_getElem?
  intro i
  by_cases hi : i < b.size
  · exact h2 i hi
  · rw [Array.getElem?_eq_none (by omega), Array.getElem?_eq_none (by omega)]

theorem rWatch {own : Nat → Nat} {T : Nat} {w : World} {R : RB} {s : St} {N : Nat} (h : RG own T w R s) (hk : Ok s N) (hN : N < 1099511627776) :
    Calls Tryz.prog 32 #[.pointer (some ⟨R.rb, 0, none⟩)] w fun e w' => e = .returned (.tuple #[.bool (watchS s).1, .int .i64 0]) ∧ GoesR own T w R.rb (watchS s).2 w' := by
  unfold watchS
  have hm := hk.miss
  have hg := h.gate
  by_cases ht : s.ticked = false
  · rw [if_pos ht]
    refine (rWatch_still R.rb _ s.shut w hg (by rw [← ht]; rfl) rfl).mono ?_
    rintro e w' ⟨rfl, rfl⟩
    exact ⟨rfl, GoesR.same h hk.cl.2 (Keep.refl _ _)⟩
  · rw [if_neg ht]
    have ht2 : s.ticked = true := by simpa using ht
    refine (rWatch_check R.rb _ s.stepped s.shut s.misses s.ch w hg rfl rfl (by rw [← ht2]; rfl) rfl rfl rfl (by omega) (by omega)).mono ?_
    rintro e w' ⟨rfl, hkp, cs', c0, c1, c26, c27, c28, c29, cr⟩
    have hM : missV s.stepped s.misses = ((if s.stepped = true then 0 else s.misses + 1 : Nat) : Int) := by
      unfold missV
      split <;> simp
    have hd : decide ((s.ch : Int) ≤ missV s.stepped s.misses) = decide (s.ch ≤ (if s.stepped = true then 0 else s.misses + 1)) := by
      rw [hM]
      by_cases e : s.ch ≤ (if s.stepped = true then 0 else s.misses + 1)
      · rw [decide_eq_true e, decide_eq_true (by omega)]
      · rw [decide_eq_false e, decide_eq_false (by omega)]
    rw [hd] at c29 ⊢
    rw [hM] at c28
    have hcs : cs' = rCells R { s with ticked := false, stepped := false, misses := if s.stepped then 0 else s.misses + 1, shut := s.shut || decide (s.ch ≤ (if s.stepped then 0 else s.misses + 1)) } := by
      refine cells_eq (by rw [c1]; rfl) (fun i hi => ?_)
      have hi : i < 30 := hi
      by_cases e : i < 26
      · rw [cr i e]
        match i, e with
        | 0, _ => rfl | 1, _ => rfl | 2, _ => rfl | 3, _ => rfl | 4, _ => rfl | 5, _ => rfl | 6, _ => rfl | 7, _ => rfl | 8, _ => rfl | 9, _ => rfl | 10, _ => rfl | 11, _ => rfl | 12, _ => rfl
        | 13, _ => rfl | 14, _ => rfl | 15, _ => rfl | 16, _ => rfl | 17, _ => rfl | 18, _ => rfl | 19, _ => rfl | 20, _ => rfl | 21, _ => rfl | 22, _ => rfl | 23, _ => rfl | 24, _ => rfl | 25, _ => rfl
        | k + 26, e => exact absurd e (by omega)
      · rcases (show i = 26 ∨ i = 27 ∨ i = 28 ∨ i = 29 by omega) with rfl | rfl | rfl | rfl
        · exact c26
        · exact c27
        · exact c28
        · exact c29
    rw [hcs] at c0
    obtain ⟨r1, r2⟩ := h.recell (R' := R) hkp c0 rfl ⟨rfl, rfl, rfl, rfl, rfl, rfl, rfl, rfl⟩ h.held
    exact ⟨rfl, _, _, r1, rfl, Same.ext own w T, r2.outT⟩

end Go.Proofs.YtjhifhoniimfgaaGreat

