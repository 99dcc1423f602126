import Derived.Test.YtjhifhoniimfgaaG17
/-
  The program's Claim and Publish.
-/
namespace Go.Proofs.Ytjhifhoniimfgaa
open Go.RowKit

set_option maxHeartbeats 400000 in
theorem checkClient_nil (client : Int) (w : World) :
    Calls Try.prog 53 #[.pointer none, .int .i64 client] w fun e w' => e = .returned (.int .i64 1) ∧ w = w' := by
  go_enter Try.func53, Try.ntmps53
  go_wp2
  go_ret
  exact ⟨rfl, rfl⟩

def clientV (cl client : Int) : Int := if client < 0 ∨ cl ≤ client then 3 else 0

set_option maxHeartbeats 400000 in
theorem checkClient_any (gb : Nat) (a : Option Addr) (cl cap : Nat) (client : Int) (w : World) (hc : w.cell? ⟨gb, 0, none⟩ = some (.slice a cl cap)) :
    Calls Try.prog 53 #[.pointer (some ⟨gb, 0, none⟩), .int .i64 client] w fun e w' => e = .returned (.int .i64 (clientV cl client)) ∧ w = w' := by
  by_cases h0 : client < 0
  · have e : clientV cl client = 3 := if_pos (.inl h0)
    rw [e]
    go_enter Try.func53, Try.ntmps53
    go_wp2
    go_ret
    exact ⟨rfl, rfl⟩
  by_cases h1 : (cl : Int) ≤ client
  · have e : clientV cl client = 3 := if_pos (.inr h1)
    rw [e]
    go_enter Try.func53, Try.ntmps53
    go_wp2
    go_ret
    exact ⟨rfl, rfl⟩
  · have e : clientV cl client = 0 := if_neg (by omega)
    rw [e]
    go_enter Try.func53, Try.ntmps53
    go_wp2
    go_ret
    exact ⟨rfl, rfl⟩

theorem refuse_client (cl client lane : Int) : (clientV cl client ≠ 0 → refuse cl client lane = clientV cl client) ∧ (clientV cl client = 0 → refuse cl client lane = if lane = 0 ∨ lane = 1 then 0 else 4) := by
  unfold clientV refuse
  by_cases h : client < 0 ∨ cl ≤ client
  · rw [if_pos h, if_pos h]; exact ⟨fun _ => rfl, fun h => by omega⟩
  · rw [if_neg h, if_neg h]; exact ⟨fun h => absurd rfl h, fun _ => rfl⟩

set_option maxHeartbeats 400000 in
theorem checkLane_nil (client lane : Int) (w : World) :
    Calls Try.prog 34 #[.pointer none, .int .i64 client, .int .i64 lane] w fun e w' => e = .returned (.int .i64 1) ∧ w = w' := by
  go_enter Try.func34, Try.ntmps34
  go_wp2_with fail
  refine (checkClient_nil _ _).mono ?_
  rintro e w' ⟨rfl, rfl⟩
  go_wp2_with fail
  go_ret
  exact ⟨rfl, rfl⟩

set_option maxHeartbeats 400000 in
theorem checkLane_any (gb : Nat) (a : Option Addr) (cl cap : Nat) (client lane : Int) (w : World) (hc : w.cell? ⟨gb, 0, none⟩ = some (.slice a cl cap)) :
    Calls Try.prog 34 #[.pointer (some ⟨gb, 0, none⟩), .int .i64 client, .int .i64 lane] w fun e w' => e = .returned (.int .i64 (refuse cl client lane)) ∧ w = w' := by
  have hcc := checkClient_any gb a cl cap client w hc
  obtain ⟨r1, r2⟩ := refuse_client cl client lane
  clear hc
  generalize clientV cl client = cv at *
  cases h1 : (cv != 0)
  · have h2 : cv = 0 := by simpa using h1
    subst h2
    rw [r2 rfl]
    clear r1 r2 h1
    by_cases hl0 : lane < 0
    · rw [if_neg (by omega)]
      go_enter Try.func34, Try.ntmps34
      go_wp2_with fail
      refine hcc.mono ?_
      rintro e w' ⟨rfl, rfl⟩
      go_wp2_with fail
      go_ret
      exact ⟨rfl, rfl⟩
    by_cases hl1 : 2 ≤ lane
    · rw [if_neg (by omega)]
      go_enter Try.func34, Try.ntmps34
      go_wp2_with fail
      refine hcc.mono ?_
      rintro e w' ⟨rfl, rfl⟩
      go_wp2_with fail
      go_ret
      exact ⟨rfl, rfl⟩
    · rw [if_pos (by omega)]
      go_enter Try.func34, Try.ntmps34
      go_wp2_with fail
      refine hcc.mono ?_
      rintro e w' ⟨rfl, rfl⟩
      go_wp2_with fail
      go_ret
      exact ⟨rfl, rfl⟩
  · rw [r1 (by simpa using h1)]
    clear r1 r2
    go_enter Try.func34, Try.ntmps34
    go_wp2_with fail
    refine hcc.mono ?_
    rintro e w' ⟨rfl, rfl⟩
    go_wp2_with fail
    go_ret
    exact ⟨rfl, rfl⟩

set_option maxHeartbeats 400000 in
theorem gClaim_nil (client lane : Int) (w : World) :
    Calls Try.prog 17 #[.pointer none, .int .i64 client, .int .i64 lane] w fun e w' => e = .returned (.tuple #[.int .i64 0, .int .i64 1]) ∧ w = w' := by
  go_enter Try.func17, Try.ntmps17
  go_wp2_with fail
  refine (checkLane_nil _ _ _).mono ?_
  rintro e w' ⟨rfl, rfl⟩
  go_wp2_with fail
  go_ret2
  exact ⟨rfl, rfl⟩

set_option maxHeartbeats 400000 in
theorem gClaim_no (gb : Nat) (a : Option Addr) (cl cap : Nat) (client lane : Int) (w : World) (hc : w.cell? ⟨gb, 0, none⟩ = some (.slice a cl cap)) (hr : (refuse cl client lane != 0) = true) :
    Calls Try.prog 17 #[.pointer (some ⟨gb, 0, none⟩), .int .i64 client, .int .i64 lane] w fun e w' => e = .returned (.tuple #[.int .i64 0, .int .i64 (refuse cl client lane)]) ∧ w = w' := by
  have hcc := checkLane_any gb a cl cap client lane w hc
  clear hc
  go_enter Try.func17, Try.ntmps17
  go_wp2_with fail
  refine hcc.mono ?_
  rintro e w' ⟨rfl, rfl⟩
  go_wp2_with fail
  go_ret2
  exact ⟨rfl, rfl⟩

set_option maxHeartbeats 400000 in
theorem gClaim_shut (gb wb : Nat) (a : Option Addr) (cl cap : Nat) (client lane : Int) (w : World) (hc : w.cell? ⟨gb, 0, none⟩ = some (.slice a cl cap)) (h6 : w.cell? ⟨gb, 6, none⟩ = some (.pointer (some ⟨wb, 0, none⟩)))
    (hr : refuse cl client lane = 0) (hs : Calls Try.prog 35 #[.pointer (some ⟨wb, 0, none⟩)] w fun e w' => e = .returned (.bool true) ∧ w = w') :
    Calls Try.prog 17 #[.pointer (some ⟨gb, 0, none⟩), .int .i64 client, .int .i64 lane] w fun e w' => e = .returned (.tuple #[.int .i64 0, .int .i64 5]) ∧ w = w' := by
  have hcc := checkLane_any gb a cl cap client lane w hc
  rw [hr] at hcc
  clear hc hr
  go_enter Try.func17, Try.ntmps17
  go_wp2_with fail
  refine hcc.mono ?_
  rintro e w' ⟨rfl, rfl⟩
  go_wp2_with fail
  refine hs.mono ?_
  rintro e w' ⟨rfl, rfl⟩
  go_wp2_with fail
  go_ret2
  exact ⟨rfl, rfl⟩

set_option maxHeartbeats 1000000 in
theorem gClaim_lane (gb wb : Nat) (lb : Nat → Nat) (a : Option Addr) (cl cap : Nat) (client lane : Int) (i : Nat) (hi : (lane = 0 ∧ i = 0) ∨ (lane = 1 ∧ i = 1)) (w : World) (hc : w.cell? ⟨gb, 0, none⟩ = some (.slice a cl cap)) (h6 : w.cell? ⟨gb, 6, none⟩ = some (.pointer (some ⟨wb, 0, none⟩)))
    (h2 : w.cell? ⟨gb, 2, none⟩ = some (.pointer (some ⟨lb 0, 0, none⟩))) (h3 : w.cell? ⟨gb, 3, none⟩ = some (.pointer (some ⟨lb 1, 0, none⟩)))
    (hr : refuse cl client lane = 0) (hs : Calls Try.prog 35 #[.pointer (some ⟨wb, 0, none⟩)] w fun e w' => e = .returned (.bool false) ∧ w = w') (n : Int) (b : Bool) (Z : World → Prop)
    (hl : Calls Try.prog 36 #[.pointer (some ⟨lb i, 0, none⟩), .int .i64 client] w fun e w' => e = .returned (.tuple #[.int .i64 n, .bool b]) ∧ Z w') :
    Calls Try.prog 17 #[.pointer (some ⟨gb, 0, none⟩), .int .i64 client, .int .i64 lane] w fun e w' => e = .returned (.tuple #[.int .i64 (if b then n else 0), .int .i64 (if b then 0 else 6)]) ∧ Z w' := by
  have hcc := checkLane_any gb a cl cap client lane w hc
  rw [hr] at hcc
  clear hc hr
  rcases hi with ⟨rfl, rfl⟩ | ⟨rfl, rfl⟩
  all_goals
    cases b
    all_goals
      go_enter Try.func17, Try.ntmps17
      go_wp2_with fail
      refine hcc.mono ?_
      rintro e w' ⟨rfl, rfl⟩
      go_wp2_with fail
      refine hs.mono ?_
      rintro e w' ⟨rfl, rfl⟩
      go_wp2_with fail
      refine hl.mono ?_
      rintro e w1 ⟨rfl, hz⟩
      go_wp2_with fail
      go_ret2
      exact ⟨rfl, hz⟩

theorem gClaim {own : Nat → Nat} {T : Nat} {w : World} {B : GB} {s : St} {N : Nat} (h : PG own T w B s N) (hk : Ok s N) (hN : N < 1000000000000000) (client lane : Int) :
    Calls Try.prog 17 #[.pointer (some ⟨B.gb, 0, none⟩), .int .i64 client, .int .i64 lane] w fun e w' =>
      e = .returned (.tuple #[.int .i64 (claimS s client lane).1, .int .i64 (claimS s client lane).2.1]) ∧ GoesP own T w B (claimS s client lane).2.2 (N + 1) w' := by
  have c0 := cellAt (i := 0) h.gate rfl
  have c2 := cellAt (i := 2) h.gate rfl
  have c3 := cellAt (i := 3) h.gate rfl
  have c6 := cellAt (i := 6) h.gate rfl
  have same : ∀ w', Keep (fun _ => True) w w' → GoesP own T w B s (N + 1) w' := fun w' hk' => GoesP.same (h.more (Nat.le_succ N)) hk.cl.2 hk.na.2 hk'
  unfold claimS
  by_cases h1 : refuse s.cl client lane ≠ 0
  · rw [if_pos h1]
    refine (gClaim_no B.gb _ s.cl _ client lane w c0 (by simpa using h1)).mono ?_
    rintro e w' ⟨rfl, rfl⟩
    exact ⟨rfl, same _ (Keep.refl _ _)⟩
  rw [if_neg h1]
  have hr : refuse s.cl client lane = 0 := Classical.not_not.1 h1
  obtain ⟨mi, ti, st, hw1, hw2⟩ := h.watch
  have hs := isShut_any hw1
  by_cases h2 : s.shut = true
  · rw [if_pos h2]
    rw [h2] at hs
    refine (gClaim_shut B.gb B.wb _ s.cl _ client lane w c0 c6 hr hs).mono ?_
    rintro e w' ⟨rfl, rfl⟩
    exact ⟨rfl, same _ (Keep.refl _ _)⟩
  rw [if_neg h2]
  rw [show s.shut = false by simpa using h2] at hs
  obtain ⟨q1, q2, hl⟩ := refuse_lane hr
  obtain ⟨i, hi⟩ : ∃ i, i = lane.toNat := ⟨_, rfl⟩
  rw [← hi] at hl ⊢
  have hi2 : i < 2 := by omega
  obtain ⟨sb, hp, o1, o2⟩ := h.lane i hi2
  have hmt := hk.mt i hi2
  by_cases h3 : s.t i + s.n i ≤ s.m i
  · rw [if_pos h3]
    refine (gClaim_lane B.gb B.wb B.lb _ s.cl _ client lane i hl w c0 c6 c2 c3 hr hs 0 false _ (laneClaim_full client hp (by omega) (by omega))).mono ?_
    rintro e w' ⟨rfl, nq, rfl⟩
    exact ⟨rfl, same _ ((Keep.refl _ _).drewN nq)⟩
  · rw [if_neg h3]
    refine (gClaim_lane B.gb B.wb B.lb _ s.cl _ client lane i hl w c0 c6 c2 c3 hr hs (s.m i) true _ (laneClaim_room client hp (by omega) (by omega))).mono ?_
    rintro e w' ⟨rfl, hp', hk'⟩
    obtain ⟨r1, r2⟩ := LaneR.new hp o1 o2 hp' hk'
    refine ⟨rfl, _, B, ?_, .refl _, Same.ext own w (T + 1 + i), r2.out (by omega) (by omega)⟩
    have := (h.more (Nat.le_succ N)).relane i hi2 _ _ _ r1 r2
    rw [upN_self] at this
    exact this

set_option maxHeartbeats 400000 in
theorem gPublish_nil (client lane place : Int) (b : ByteArray) (w : World) :
    Calls Try.prog 19 #[.pointer none, .int .i64 client, .int .i64 lane, .int .i64 place, .string b] w fun e w' => e = .returned (.int .i64 1) ∧ w = w' := by
  go_enter Try.func19, Try.ntmps19
  go_wp2_with fail
  refine (checkLane_nil _ _ _).mono ?_
  rintro e w' ⟨rfl, rfl⟩
  go_wp2_with fail
  go_ret
  exact ⟨rfl, rfl⟩

set_option maxHeartbeats 400000 in
theorem gPublish_no (gb : Nat) (a : Option Addr) (cl cap : Nat) (client lane place : Int) (b : ByteArray) (w : World) (hc : w.cell? ⟨gb, 0, none⟩ = some (.slice a cl cap)) (hr : (refuse cl client lane != 0) = true) :
    Calls Try.prog 19 #[.pointer (some ⟨gb, 0, none⟩), .int .i64 client, .int .i64 lane, .int .i64 place, .string b] w fun e w' => e = .returned (.int .i64 (refuse cl client lane)) ∧ w = w' := by
  have hcc := checkLane_any gb a cl cap client lane w hc
  clear hc
  go_enter Try.func19, Try.ntmps19
  go_wp2_with fail
  refine hcc.mono ?_
  rintro e w' ⟨rfl, rfl⟩
  go_wp2_with fail
  go_ret
  exact ⟨rfl, rfl⟩

set_option maxHeartbeats 1000000 in
theorem gPublish_lane (gb : Nat) (lb : Nat → Nat) (a : Option Addr) (cl cap : Nat) (client lane place : Int) (s : ByteArray) (i : Nat) (hi : (lane = 0 ∧ i = 0) ∨ (lane = 1 ∧ i = 1)) (w : World) (hc : w.cell? ⟨gb, 0, none⟩ = some (.slice a cl cap))
    (h2 : w.cell? ⟨gb, 2, none⟩ = some (.pointer (some ⟨lb 0, 0, none⟩))) (h3 : w.cell? ⟨gb, 3, none⟩ = some (.pointer (some ⟨lb 1, 0, none⟩)))
    (hr : refuse cl client lane = 0) (b : Bool) (Z : World → Prop)
    (hl : Calls Try.prog 37 #[.pointer (some ⟨lb i, 0, none⟩), .int .i64 client, .int .i64 place, .string s] w fun e w' => e = .returned (.bool b) ∧ Z w') :
    Calls Try.prog 19 #[.pointer (some ⟨gb, 0, none⟩), .int .i64 client, .int .i64 lane, .int .i64 place, .string s] w fun e w' => e = .returned (.int .i64 (if b then 0 else 7)) ∧ Z w' := by
  have hcc := checkLane_any gb a cl cap client lane w hc
  rw [hr] at hcc
  clear hc hr
  rcases hi with ⟨rfl, rfl⟩ | ⟨rfl, rfl⟩
  all_goals
    cases b
    all_goals
      go_enter Try.func19, Try.ntmps19
      go_wp2_with fail
      refine hcc.mono ?_
      rintro e w' ⟨rfl, rfl⟩
      go_wp2_with fail
      refine hl.mono ?_
      rintro e w1 ⟨rfl, hz⟩
      go_wp2_with fail
      go_ret
      exact ⟨rfl, hz⟩

theorem fill_not {w : World} {lb sb n m t : Nat} {f : Nat → Pl} {client place : Int} {s : ByteArray} (h : PLane w lb sb n m t f) (hb : m < 4611686018427387904) (hno : fillB m f client place = false) :
    Calls Try.prog 37 #[.pointer (some ⟨lb, 0, none⟩), .int .i64 client, .int .i64 place, .string s] w fun e w' => e = .returned (.bool false) ∧ ∃ nq, w' = w.drewN nq := by
  by_cases h0 : place < t
  · exact fill_out client place s h (.inl h0)
  by_cases h1 : (m : Int) ≤ place
  · exact fill_out client place s h (.inr h1)
  obtain ⟨p, rfl⟩ := Int.eq_ofNat_of_zero_le (show 0 ≤ place by omega)
  refine fill_no p client s h (by omega) (by omega) hb ?_
  simp only [fillB, Bool.and_eq_false_iff, decide_eq_false_iff_not, Bool.not_eq_false', Int.toNat_natCast] at hno
  rcases hno with ((hno | hno) | hno) | hno
  · omega
  · omega
  · left; simpa using hno
  · by_cases hc : (f p).1 = client
    · right; exact ⟨by simpa using hc, hno⟩
    · left; simpa using hc

theorem gPublish {own : Nat → Nat} {T : Nat} {w : World} {B : GB} {s : St} {N : Nat} (h : PG own T w B s N) (hk : Ok s N) (hN : N < 1000000000000000) (client lane place : Int) (b : ByteArray) :
    Calls Try.prog 19 #[.pointer (some ⟨B.gb, 0, none⟩), .int .i64 client, .int .i64 lane, .int .i64 place, .string b] w fun e w' =>
      e = .returned (.int .i64 (pubS s client lane place b).1) ∧ GoesP own T w B (pubS s client lane place b).2 (N + 1) w' := by
  have c0 := cellAt (i := 0) h.gate rfl
  have c2 := cellAt (i := 2) h.gate rfl
  have c3 := cellAt (i := 3) h.gate rfl
  have same : ∀ w', Keep (fun _ => True) w w' → GoesP own T w B s (N + 1) w' := fun w' hk' => GoesP.same (h.more (Nat.le_succ N)) hk.cl.2 hk.na.2 hk'
  unfold pubS
  by_cases h1 : refuse s.cl client lane ≠ 0
  · rw [if_pos h1]
    refine (gPublish_no B.gb _ s.cl _ client lane place b w c0 (by simpa using h1)).mono ?_
    rintro e w' ⟨rfl, rfl⟩
    exact ⟨rfl, same _ (Keep.refl _ _)⟩
  rw [if_neg h1]
  have hr : refuse s.cl client lane = 0 := Classical.not_not.1 h1
  obtain ⟨q1, q2, hl⟩ := refuse_lane hr
  obtain ⟨i, hi⟩ : ∃ i, i = lane.toNat := ⟨_, rfl⟩
  rw [← hi] at hl ⊢
  have hi2 : i < 2 := by omega
  obtain ⟨sb, hp, o1, o2⟩ := h.lane i hi2
  have hmt := hk.mt i hi2
  cases hf : fillB (s.m i) (s.f i) client place
  · refine (gPublish_lane B.gb B.lb _ s.cl _ client lane place b i hl w c0 c2 c3 hr false _ (fill_not hp (by omega) hf)).mono ?_
    rintro e w' ⟨rfl, nq, rfl⟩
    exact ⟨rfl, same _ ((Keep.refl _ _).drewN nq)⟩
  · rw [if_pos rfl]
    have hf2 := hf
    simp only [fillB, Bool.and_eq_true, decide_eq_true_eq, Bool.not_eq_true'] at hf2
    obtain ⟨⟨⟨p1, p2⟩, p3⟩, p4⟩ := hf2
    obtain ⟨p, rfl⟩ := Int.eq_ofNat_of_zero_le p1
    rw [Int.toNat_natCast] at p3 p4 ⊢
    have htp : s.t i ≤ p := by
      rcases Nat.lt_or_ge p (s.t i) with h3 | h3
      · rw [hk.full i p hi2 h3] at p4; cases p4
      · exact h3
    refine (gPublish_lane B.gb B.lb _ s.cl _ client lane p b i hl w c0 c2 c3 hr true _ (fill_yes p client b hp htp (by omega) (by omega) (by simpa using p3) p4)).mono ?_
    rintro e w' ⟨rfl, hp', hk'⟩
    obtain ⟨r1, r2⟩ := LaneR.new hp o1 o2 hp' hk'
    refine ⟨rfl, _, B, ?_, .refl _, Same.ext own w (T + 1 + i), r2.out (by omega) (by omega)⟩
    have := (h.more (Nat.le_succ N)).relane i hi2 _ _ _ r1 r2
    rw [upN_self, upN_self] at this
    exact this

end Go.Proofs.Ytjhifhoniimfgaa

/-
  The program's Poll, Acks and Watch.
-/
namespace Go.Proofs.Ytjhifhoniimfgaa
open Go.RowKit

set_option maxHeartbeats 400000 in
theorem gPoll_nil (client : Int) (w : World) :
    Calls Try.prog 31 #[.pointer none, .int .i64 client] w fun e w' => e = .returned (.tuple #[.agg #[.int .i64 0, .int .i64 0], .int .i64 1]) ∧ Below w.heap.size w w' := by
  go_enter Try.func31, Try.ntmps31
  go_wp2_with fail
  refine (checkClient_nil _ _).mono ?_
  rintro e w' ⟨rfl, rfl⟩
  go_wp2_with fail
  exact bodyPost_ret (v := .tuple #[.agg #[.int .i64 0, .int .i64 0], .int .i64 1]) (by simp [results, Try.results31, go_sem]) rfl ⟨rfl, (Below.refl _ _).alloc (Nat.le_refl _) _⟩

set_option maxHeartbeats 400000 in
theorem gPoll_no (gb : Nat) (a : Option Addr) (cl cap : Nat) (client : Int) (w : World) (hc : w.cell? ⟨gb, 0, none⟩ = some (.slice a cl cap)) (hr : (clientV cl client != 0) = true) :
    Calls Try.prog 31 #[.pointer (some ⟨gb, 0, none⟩), .int .i64 client] w fun e w' => e = .returned (.tuple #[.agg #[.int .i64 0, .int .i64 0], .int .i64 (clientV cl client)]) ∧ Below w.heap.size w w' := by
  have hcc := fun W hW => checkClient_any gb a cl cap client W hW
  have hlt := World.block_lt_of_cell? w _ hc
  go_enter Try.func31, Try.ntmps31
  go_wp2_with fail
  refine (hcc _ (by rw [World.cell?_of_block (w := w) (Below.heap_alloc _ _ _ hlt)]; exact hc)).mono ?_
  rintro e w' ⟨rfl, rfl⟩
  go_wp2_with fail
  exact bodyPost_ret (v := .tuple #[.agg #[.int .i64 0, .int .i64 0], .int .i64 (clientV cl client)]) (by simp [results, Try.results31, go_sem]) rfl ⟨rfl, (Below.refl _ _).alloc (Nat.le_refl _) _⟩

theorem two_cells {w1 : World} {k : Nat} {U : TypeId} {x y : Value} (h : w1.heap[k]? = some (.cells #[x, y] U (0, 0))) (u v : Value) (O : Obj) :
    (((w1.setCell ⟨k, 0, none⟩ u).setCell ⟨k, 1, none⟩ v).alloc O).cell? ⟨k, 0, none⟩ = some u ∧ (((w1.setCell ⟨k, 0, none⟩ u).setCell ⟨k, 1, none⟩ v).alloc O).cell? ⟨k, 1, none⟩ = some v := by
  have h2 : (((w1.setCell ⟨k, 0, none⟩ u).setCell ⟨k, 1, none⟩ v).alloc O).heap[k]? = some (.cells #[u, v] U (0, 0)) := by
    rw [Below.heap_alloc _ _ _ (by rw [size_setCell, size_setCell]; exact block_lt h), heap_setCell_at _ (heap_setCell_at _ h)]
    simp
  exact ⟨cellAt (i := 0) h2 rfl, cellAt (i := 1) h2 rfl⟩

/-- The result's own block, as it begins. -/
def ansO : Obj := .cells #[.int .i64 0, .int .i64 0] 66

set_option maxHeartbeats 1000000 in
theorem gPoll_box (gb ir ic cl ib lb : Nat) (c : Nat) (v : Value) (w : World) (hc : w.cell? ⟨gb, 0, none⟩ = some (.slice (some ⟨ir, 0, none⟩) cl ic)) (hcl : c < cl) (hi : w.cell? ⟨ir, c, none⟩ = some (.pointer (some ⟨ib, 0, none⟩)))
    (hb : w.heap[ib]? = some (.cells #[.pointer (some ⟨lb, 0, none⟩), v] 96 (0, 0))) (p q : Int) (b : Bool) (Z : World → Prop)
    (hl : Calls Try.prog 54 #[.pointer (some ⟨lb, 0, none⟩)] (w.alloc ansO) fun e w' => e = .returned (.tuple #[.agg #[.int .i64 p, .int .i64 q], .bool b]) ∧ Z w') (hpq : b = false → p = 0 ∧ q = 0)
    (hZ : ∀ W, Z W → W.heap[w.heap.size]? = some ansO) :
    Calls Try.prog 31 #[.pointer (some ⟨gb, 0, none⟩), .int .i64 c] w fun e w' => e = .returned (.tuple #[.agg #[.int .i64 p, .int .i64 q], .int .i64 (if b then 0 else 8)]) ∧ ∃ W, Z W ∧ Keep (fun k => k < w.heap.size) W w' := by
  have hcc := fun W hW => checkClient_any gb (some ⟨ir, 0, none⟩) cl ic c W hW
  rw [show clientV cl c = 0 from if_neg (by omega)] at hcc
  have hlt := World.block_lt_of_cell? w _ hc
  have hlti := World.block_lt_of_cell? w _ hi
  have hltb := block_lt hb
  have d0 : w.cell? ⟨ib, 0, none⟩ = some (.pointer (some ⟨lb, 0, none⟩)) := cellAt (i := 0) hb rfl
  have hcl2 : (c : Int) < (cl : Int) := by omega
  have HZ : Hid (∀ W, Z W → W.heap[w.heap.size]? = some (.cells #[.int .i64 0, .int .i64 0] 66 (0, 0))) := hZ
  have HL : Hid (Calls Try.prog 54 #[.pointer (some ⟨lb, 0, none⟩)] (w.alloc (.cells #[.int .i64 0, .int .i64 0] 66)) fun e w' => e = .returned (.tuple #[.agg #[.int .i64 p, .int .i64 q], .bool b]) ∧ Z w') := hl
  clear hb hZ hl
  cases b
  · obtain ⟨rfl, rfl⟩ := hpq rfl
    clear hpq
    go_enter Try.func31, Try.ntmps31
    go_wp2_with fail
    refine (hcc _ (by rw [World.cell?_of_block (w := w) (Below.heap_alloc _ _ _ hlt)]; exact hc)).mono ?_
    rintro e w' ⟨rfl, rfl⟩
    go_wp2_with fail
    refine HL.out.mono ?_
    rintro e w1 ⟨rfl, hz⟩
    have hx := HZ.out w1 hz
    have x0 := cellAt (i := 0) hx rfl
    have x1 := cellAt (i := 1) hx rfl
    have y0 := frozenAt (i := 0) hx
    have y1 := frozenAt (i := 1) hx
    have hltx := block_lt hx
    have R : Hid (∀ u v O, (((w1.setCell ⟨w.heap.size, 0, none⟩ u).setCell ⟨w.heap.size, 1, none⟩ v).alloc O).cell? ⟨w.heap.size, 0, none⟩ = some u ∧ (((w1.setCell ⟨w.heap.size, 0, none⟩ u).setCell ⟨w.heap.size, 1, none⟩ v).alloc O).cell? ⟨w.heap.size, 1, none⟩ = some v) := two_cells hx
    clear hx
    go_wp2_with fail
    refine bodyPost_ret (v := .tuple #[.agg #[.int .i64 0, .int .i64 0], .int .i64 8]) (by simp [results, Try.results31, go_sem, (R.out _ _ _).1, (R.out _ _ _).2]) rfl ⟨rfl, w1, hz, ?_⟩
    exact (((Keep.refl (fun k => k < w.heap.size) w1).setCell _ (fun _ h => Nat.lt_irrefl _ h) _).setCell _ (fun _ h => Nat.lt_irrefl _ h) _).alloc _
  · go_enter Try.func31, Try.ntmps31
    go_wp2_with fail
    refine (hcc _ (by rw [World.cell?_of_block (w := w) (Below.heap_alloc _ _ _ hlt)]; exact hc)).mono ?_
    rintro e w' ⟨rfl, rfl⟩
    go_wp2_with fail
    refine HL.out.mono ?_
    rintro e w1 ⟨rfl, hz⟩
    have hx := HZ.out w1 hz
    have x0 := cellAt (i := 0) hx rfl
    have x1 := cellAt (i := 1) hx rfl
    have y0 := frozenAt (i := 0) hx
    have y1 := frozenAt (i := 1) hx
    have hltx := block_lt hx
    have R : Hid (∀ u v O, (((w1.setCell ⟨w.heap.size, 0, none⟩ u).setCell ⟨w.heap.size, 1, none⟩ v).alloc O).cell? ⟨w.heap.size, 0, none⟩ = some u ∧ (((w1.setCell ⟨w.heap.size, 0, none⟩ u).setCell ⟨w.heap.size, 1, none⟩ v).alloc O).cell? ⟨w.heap.size, 1, none⟩ = some v) := two_cells hx
    clear hx
    go_wp2_with fail
    refine bodyPost_ret (v := .tuple #[.agg #[.int .i64 p, .int .i64 q], .int .i64 0]) (by simp [results, Try.results31, go_sem, (R.out _ _ _).1, (R.out _ _ _).2]) rfl ⟨rfl, w1, hz, ?_⟩
    exact (((Keep.refl (fun k => k < w.heap.size) w1).setCell _ (fun _ h => Nat.lt_irrefl _ h) _).setCell _ (fun _ h => Nat.lt_irrefl _ h) _).alloc _

theorem PG.boxAt {own : Nat → Nat} {T : Nat} {w : World} {B : GB} {s : St} {N : Nat} (h : PG own T w B s N) (c : Nat) (hc : c < s.cl) : w.cell? ⟨B.ir, c, none⟩ = some (.pointer (some ⟨B.ib c, 0, none⟩)) := by
  obtain ⟨cs, h1, h2⟩ := h.irow
  exact cellAt h1 (h2 c hc)

theorem PG.accAt {own : Nat → Nat} {T : Nat} {w : World} {B : GB} {s : St} {N : Nat} (h : PG own T w B s N) (a : Nat) (ha : a < s.na) : w.cell? ⟨B.ar, a, none⟩ = some (.pointer (some ⟨B.ab a, 0, none⟩)) := by
  obtain ⟨cs, h1, h2⟩ := h.arow
  exact cellAt h1 (h2 a ha)

theorem refuse_zero (cl client : Int) : refuse cl client 0 = clientV cl client := by
  unfold refuse clientV
  by_cases h : client < 0 ∨ cl ≤ client
  · rw [if_pos h, if_pos h]
  · rw [if_neg h, if_neg h, if_pos (.inl rfl)]

/-- A part's own step ends: what is new is the part's; behind it nothing of the gate's turned. -/
theorem Keep.part {own : Nat → Nat} {τ : Nat} {w W w' : World} (h : Keep (fun b => own b ≠ τ) w W) (k : Keep (fun k => k < w.heap.size) W w') : Keep (fun b => own b ≠ τ) w w' :=
  h.trans' k (fun _ hi _ => hi)

set_option maxHeartbeats 400000 in
theorem gPoll {own : Nat → Nat} {T : Nat} {w : World} {B : GB} {s : St} {N : Nat} (h : PG own T w B s N) (hk : Ok s N) (hN : N < 1000000000000000) (client : Int) :
    Calls Try.prog 31 #[.pointer (some ⟨B.gb, 0, none⟩), .int .i64 client] w fun e w' =>
      e = .returned (.tuple #[.agg #[.int .i64 (pollS s client).1.1, .int .i64 (pollS s client).1.2], .int .i64 (pollS s client).2.1]) ∧ GoesP own T w B (pollS s client).2.2 (N + 1) w' := by
  have c0 := cellAt (i := 0) h.gate rfl
  have same : ∀ w', Keep (fun _ => True) w w' → GoesP own T w B s (N + 1) w' := fun w' hk' => GoesP.same (h.more (Nat.le_succ N)) hk.cl.2 hk.na.2 hk'
  unfold pollS
  by_cases h1 : refuse s.cl client 0 ≠ 0
  · rw [if_pos h1, refuse_zero]
    rw [refuse_zero] at h1
    refine (gPoll_no B.gb _ s.cl _ client w c0 (by simpa using h1)).mono ?_
    rintro e w' ⟨rfl, hb⟩
    exact ⟨rfl, same _ (Keep.ofBelow hb)⟩
  rw [if_neg h1]
  obtain ⟨q1, q2, _⟩ := refuse_lane (Classical.not_not.1 h1)
  obtain ⟨c, rfl⟩ := Int.eq_ofNat_of_zero_le q1
  rw [Int.toNat_natCast]
  have hc : c < s.cl := by omega
  have hc8 := hk.cl.2
  obtain ⟨lb, sb, tt, v, p⟩ := h.box c hc
  have hbox := h.boxAt c hc
  have hle := p.le
  have kA : Keep (fun _ => True) w (w.alloc ansO) := (Keep.refl _ w).alloc _
  have pA := p.ans.keep kA trivial trivial
  have hnew : (w.alloc ansO).heap[w.heap.size]? = some ansO := heap_alloc_new w _
  have l2 := p.ans.lt
  cases hr : s.ring c with
  | nil =>
    rw [hr] at pA
    refine (gPoll_box B.gb B.ir B.ic s.cl (B.ib c) lb c v w c0 hc hbox p.box 0 0 false _ (apoll_empty pA) (fun _ => ⟨rfl, rfl⟩) (fun W hW => (hW.block _ (by simp)).trans hnew)).mono ?_
    rintro e w' ⟨rfl, W, hW, hkW⟩
    exact ⟨rfl, same _ ((kA.trans (Keep.ofBelow hW)).mono (T := fun b => b < w.heap.size) (fun _ _ _ => trivial) |>.trans' hkW (fun _ _ h => h) |>.mono (fun b hb _ => hb))⟩
  | cons a r =>
    rw [hr] at pA hle
    refine (gPoll_box B.gb B.ir B.ic s.cl (B.ib c) lb c v w c0 hc hbox p.box a.1 a.2 true _ (apoll_take pA (by simp at hle; omega)) (fun h => by cases h) (fun W hW => hW.2.get hnew ⟨fun e => by omega, fun e => by omega⟩)).mono ?_
    rintro e w' ⟨rfl, W, ⟨hW, hkW⟩, hkW'⟩
    have k1 : Keep (fun b => own b ≠ T + 10 + c) w W := ((Keep.refl _ w).alloc ansO).trans' hkW (fun b _ hb => ⟨fun e => hb (e ▸ p.o2), fun e => hb (e ▸ p.o3)⟩)
    have k2 : Keep (fun b => own b ≠ T + 10 + c) w w' := k1.part hkW'
    have k3 : Keep (fun b => b ≠ lb ∧ b ≠ sb) w W := ((Keep.refl _ w).alloc ansO).trans hkW
    have k4 : Keep (fun b => b ≠ lb ∧ b ≠ sb) w w' := k3.trans' hkW' (fun _ hi _ => hi)
    have l1 := block_lt p.box
    have nb : B.ib c ≠ lb := block_ne p.box p.ans.ring (by decide)
    have nb2 : B.ib c ≠ sb := by obtain ⟨cs, q, _⟩ := p.ans.slots; exact block_ne p.box q (by decide)
    have hb' := k4.get p.box ⟨nb, nb2⟩
    have ha' : AckAt w' v (s.acks c) := p.ack.keep k4 (fun b hb => by
      refine ⟨fun e => ?_, (p.o4 b hb).2⟩
      rcases p.ack.2 with ⟨q, _⟩ | ⟨g, cap, cur, q, _, q1, _⟩
      · rw [q] at hb; cases hb
      · rw [q] at hb
        simp [Value.ownBlock] at hb
        subst hb
        exact block_ne q1 p.ans.ring (by decide) e)
    have hans : PAns w' lb sb s.an (tt + 1) r := hW.keep hkW' l2.1 l2.2
    refine ⟨rfl, _, B, ?_, .refl _, Same.ext own w (T + 10 + c), k2.out (by omega) (by omega)⟩
    have := (h.more (Nat.le_succ N)).rebox hk.cl.2 c hc r (s.acks c) ⟨lb, sb, tt + 1, v, ⟨hb', hans, ha', by rw [ext_lt l1]; exact p.o1, by rw [ext_lt l2.1]; exact p.o2, by rw [ext_lt l2.2]; exact p.o3, fun b hb => by rw [ext_lt (p.ack.lt b hb)]; exact p.o4 b hb, by simp at hle; omega⟩⟩ k2
    rw [upN_self] at this
    exact this

set_option maxHeartbeats 400000 in
theorem gAcks_nil (client : Int) (w : World) :
    Calls Try.prog 55 #[.pointer none, .int .i64 client] w fun e w' => e = .returned (.tuple #[.slice none 0 0, .int .i64 1]) ∧ w = w' := by
  go_enter Try.func55, Try.ntmps55
  go_wp2_with fail
  refine (checkClient_nil _ _).mono ?_
  rintro e w' ⟨rfl, rfl⟩
  go_wp2_with fail
  go_ret2
  exact ⟨rfl, rfl⟩

set_option maxHeartbeats 400000 in
theorem gAcks_no (gb : Nat) (a : Option Addr) (cl cap : Nat) (client : Int) (w : World) (hc : w.cell? ⟨gb, 0, none⟩ = some (.slice a cl cap)) (hr : (clientV cl client != 0) = true) :
    Calls Try.prog 55 #[.pointer (some ⟨gb, 0, none⟩), .int .i64 client] w fun e w' => e = .returned (.tuple #[.slice none 0 0, .int .i64 (clientV cl client)]) ∧ w = w' := by
  have hcc := checkClient_any gb a cl cap client w hc
  clear hc
  go_enter Try.func55, Try.ntmps55
  go_wp2_with fail
  refine hcc.mono ?_
  rintro e w' ⟨rfl, rfl⟩
  go_wp2_with fail
  go_ret2
  exact ⟨rfl, rfl⟩

set_option maxHeartbeats 1000000 in
theorem gAcks_box (gb ir ic cl ib : Nat) (x : Value) (c : Nat) (v : Value) (w : World) (hc : w.cell? ⟨gb, 0, none⟩ = some (.slice (some ⟨ir, 0, none⟩) cl ic)) (hcl : c < cl) (hi : w.cell? ⟨ir, c, none⟩ = some (.pointer (some ⟨ib, 0, none⟩)))
    (hb : w.heap[ib]? = some (.cells #[x, v] 96 (0, 0))) (hv : ∃ a n cp, v = .slice a n cp) :
    Calls Try.prog 55 #[.pointer (some ⟨gb, 0, none⟩), .int .i64 c] w fun e w' => e = .returned (.tuple #[v, .int .i64 0]) ∧ w.setCell ⟨ib, 1, none⟩ (.slice none 0 0) = w' := by
  have hcc := checkClient_any gb (some ⟨ir, 0, none⟩) cl ic c w hc
  rw [show clientV cl c = 0 from if_neg (by omega)] at hcc
  have d1 := cellAt (i := 1) hb rfl
  have z1 := frozenAt (i := 1) hb
  have hcl2 : (c : Int) < (cl : Int) := by omega
  obtain ⟨a, n, cp, rfl⟩ := hv
  clear hb
  go_enter Try.func55, Try.ntmps55
  go_wp2_with fail
  refine hcc.mono ?_
  rintro e w' ⟨rfl, rfl⟩
  go_wp2_with fail
  go_ret2
  exact ⟨rfl, rfl⟩

/-- The list of acks that comes out: it is the caller's from now on. -/
def AcksOut (own : Nat → Nat) (T : Nat) (w w' : World) (v : Value) (l : List Ans) : Prop :=
  AckAt w' v l ∧ ∀ b, v.ownBlock = some b → T ≤ own b ∧ own b < T + 100 ∧ b < w.heap.size

theorem AckAt.slice {w : World} {v : Value} {l : List Ans} (h : AckAt w v l) : ∃ a cp, v = .slice a l.length cp := by
  rcases h.2 with ⟨rfl, q⟩ | ⟨g, cap, cur, rfl, _⟩
  · exact ⟨none, 0, by rw [q]⟩
  · exact ⟨_, cap, rfl⟩

end Go.Proofs.Ytjhifhoniimfgaa

