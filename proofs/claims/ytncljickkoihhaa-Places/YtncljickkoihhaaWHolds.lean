/-
  A script is played on both sides, step by step: all answers are alike.
-/
import Derived.Test.YtncljickkoihhaaInv
import Derived.BigRegion
import Derived.Deep.RegionWith
namespace Go.Proofs.Ytncljickkoihhaa
open Go.RowKit

theorem OpV.at {w : World} {b o : Nat} {x : OpV} (h : ∀ (j : Nat) (v : Value), x.cells[j]? = some v → w.cell? ⟨b, o + j, none⟩ = some v) :
    w.cell? ⟨b, o, none⟩ = some (.int .i64 x.kind) ∧ w.cell? ⟨b, o + 1, none⟩ = some (.int .i64 x.g) ∧ w.cell? ⟨b, o + 2, none⟩ = some (.int .i64 x.client) ∧ w.cell? ⟨b, o + 3, none⟩ = some (.int .i64 x.lane) ∧
    w.cell? ⟨b, o + 4, none⟩ = some (.int .i64 x.place) ∧ w.cell? ⟨b, o + 5, none⟩ = some (.bool x.o) ∧ w.cell? ⟨b, o + 6, none⟩ = some (.string x.s) ∧ w.cell? ⟨b, o + 7, none⟩ = some (.int .i64 x.c0) ∧
    w.cell? ⟨b, o + 8, none⟩ = some (.int .i64 x.c1) ∧ w.cell? ⟨b, o + 9, none⟩ = some (.int .i64 x.c2) ∧ w.cell? ⟨b, o + 10, none⟩ = some (.int .i64 x.c3) ∧ w.cell? ⟨b, o + 11, none⟩ = some (.int .i64 x.c4) ∧
    w.cell? ⟨b, o + 12, none⟩ = some (.slice x.acc x.n x.c) :=
  ⟨h 0 _ rfl, h 1 _ rfl, h 2 _ rfl, h 3 _ rfl, h 4 _ rfl, h 5 _ rfl, h 6 _ rfl, h 7 _ rfl, h 8 _ rfl, h 9 _ rfl, h 10 _ rfl, h 11 _ rfl, h 12 _ rfl⟩

theorem cell_two_at (w : World) (x y : Value) (t : TypeId) (n : Nat) (hn : n = w.heap.size) : ∀ j u, [x, y][j]? = some u → (w.alloc (.cells #[x, y] t)).cell? ((⟨n, 0, none⟩ : Addr).add j) = some u := by
  subst hn
  exact cell_two_new w x y t

set_option maxRecDepth 100000 in
set_option maxHeartbeats 2000000 in
theorem holds_any (w : World) (a : Option Addr) (len cap : Nat) (ops : Nat → OpV) (hs : ScriptAt w a len ops) (hl : len ≤ 1099511627776) :
    Calls Try.prog 5 #[.slice a len cap, .int .i64 4] w fun e w' => e = .returned (.bool true) ∧ Below w.heap.size w w' := by
  have HS : Hid (ScriptAt w a len ops) := hs
  have H0 : Hid (HInv w (w.alloc (.cells #[.slice none 0 0, .slice none 0 0, .int .i64 0] 43)) (fun _ => 0) [] (.slice none 0 0) w.heap.size) :=
    ⟨heap_alloc_new w _, rfl, Nat.le_refl _, World.ownsRow_nil _ _ _ _, fun b hb => by simp [Value.ownBlock] at hb, fun i p hp => by simp at hp, (Below.refl _ _).alloc (Nat.le_refl _) _, fun _ _ => rfl⟩
  clear hs
  go_enter Try.func5, Try.ntmps5
  go_wp2
  go_loopw [5, 7] (fun av i wr => ∃ (k : Nat) (own : Nat → Nat) (ts : List Pair), k ≤ len ∧ i = .int .i64 k ∧ ts.length ≤ k ∧ HInv w wr own ts av w.heap.size) (fun _ i _ => len - (intOf i).toNat)
  case atStart => exact ⟨0, fun _ => 0, [], Nat.zero_le _, rfl, Nat.le_refl _, H0.out⟩
  case round =>
    obtain ⟨k, own, ts, hk, rfl, htk, hinv⟩ := hrel
    obtain ⟨va, vc, hav⟩ := hinv.row_slice
    subst hav
    have HI : Hid (HInv w wr own ts (.slice va ts.length vc) w.heap.size) := hinv
    by_cases hlt : k < len
    · rcases HS.out with h0 | ⟨b, off, rfl, hbw, hops⟩
      · omega
      have hlt' : (k : Int) < (len : Int) := by omega
      obtain ⟨hok, hcells⟩ := hops k hlt
      obtain ⟨x, hx⟩ : ∃ x, x = ops k := ⟨_, rfl⟩
      rw [← hx] at hok hcells
      obtain ⟨d0, d1, d2, d3, d4, d5, d6, d7, d8, d9, d10, d11, d12⟩ := OpV.at hcells
      rw [← hinv.below.cell (p := ⟨b, _, none⟩) hbw] at d0 d1 d2 d3 d4 d5 d6 d7 d8 d9 d10 d11 d12
      have HOK : Hid (OpOk w x) := hok
      have hws := hinv.size
      have hbk : wr.heap[w.heap.size]? = some (.cells #[.slice none 0 0, .slice none 0 0, .int .i64 0] 43 (0, 0)) := hinv.book
      have HB : Hid (wr.heap[w.heap.size]? = some (.cells #[.slice none 0 0, .slice none 0 0, .int .i64 0] 43 (0, 0))) := hbk
      clear hok hcells hx hops hinv hbk
      by_cases hk1 : x.kind < 1
      · go_wp2_with fail
        refine (still_empty w.heap.size _ (HI.out.alloc _).book).mono ?_
        rintro e w9 ⟨rfl, rfl⟩
        go_wp2
        go_roundw
        case rel => exact ⟨k + 1, _, ts, by omega, by go_num, by omega, HI.out.alloc _⟩
        case measure => simp [intOf]; omega
      by_cases hk2 : 4 < x.kind
      · have hk1' : ¬ x.kind < 1 := hk1
        go_wp2_with fail
        refine (still_empty w.heap.size _ (HI.out.alloc _).book).mono ?_
        rintro e w9 ⟨rfl, rfl⟩
        go_wp2
        go_roundw
        case rel => exact ⟨k + 1, _, ts, by omega, by go_num, by omega, HI.out.alloc _⟩
        case measure => simp [intOf]; omega
      rcases (show x.kind = 1 ∨ x.kind = 2 ∨ x.kind = 3 ∨ x.kind = 4 by omega) with hkd | hkd | hkd | hkd
      · clear hk1 hk2
        have HA : Hid (AccAt (wr.alloc (.cells #[.int .i64 x.kind, .int .i64 x.g, .int .i64 x.client, .int .i64 x.lane, .int .i64 x.place, .bool x.o, .string x.s, .int .i64 x.c0, .int .i64 x.c1, .int .i64 x.c2, .int .i64 x.c3, .int .i64 x.c4, .slice x.acc x.n x.c] 45)) x.acc x.n x.lim) := (HOK.out.acc.below HI.out.below).below ((Below.refl _ _).alloc (Nat.le_refl _) _)
        rw [hkd] at HA
        cases hm : mayB x.c0 x.c1 x.c2 x.c3 x.c4 x.n x.lim
        · go_wp2_with fail
          refine (made_no x.c0 x.c1 x.c2 x.c3 x.c4 x.acc x.n x.c x.lim _ HA.out HOK.out.n hm).mono ?_
          rintro e w2 ⟨rfl, hb2⟩
          have HI2 : Hid (HInv w w2 (ext own wr.heap.size 0) ts (.slice va ts.length vc) w.heap.size) := (HI.out.alloc _).grow hb2 (fun _ _ => rfl)
          clear hb2 HA
          go_wp2_with fail
          refine (still_empty w.heap.size _ (HI2.out.alloc _).book).mono ?_
          rintro e w9 ⟨rfl, rfl⟩
          go_wp2
          go_roundw
          case rel => exact ⟨k + 1, _, ts, by omega, by go_num, by omega, HI2.out.alloc _⟩
          case measure => simp [intOf]; omega
        · go_wp2_with fail
          refine (made_yes x.c0 x.c1 x.c2 x.c3 x.c4 x.acc x.n x.c x.lim _ HA.out HOK.out.n hm).mono ?_
          rintro e w2 ⟨bx, bY, rfl, hb2, htw⟩
          obtain ⟨own2, q1, q2, tw⟩ := htw (ext own wr.heap.size 0) (ts.length + 1)
          have hi2 : HInv w w2 own2 ts (.slice va ts.length vc) w.heap.size := (HI.out.alloc _).grow hb2 q1
          have HI2 : Hid (HInv w ((w2.alloc (.cells #[.pointer (some ⟨bx, 0, none⟩), .pointer (some ⟨bY, 0, none⟩)] 48)).alloc (.cells #[.pointer (some ⟨bx, 0, none⟩), .pointer (some ⟨bY, 0, none⟩)] 48)) (ext (ext own2 w2.heap.size 0) (w2.heap.size + 1) 0) ts (.slice va ts.length vc) w.heap.size) := by
            have hj := (hi2.alloc (.cells #[.pointer (some ⟨bx, 0, none⟩), .pointer (some ⟨bY, 0, none⟩)] 48)).alloc (.cells #[.pointer (some ⟨bx, 0, none⟩), .pointer (some ⟨bY, 0, none⟩)] 48)
            show HInv _ _ _ _ _ _
            simpa using hj
          have HT2 : Hid (TwinAt (ext (ext own2 w2.heap.size 0) (w2.heap.size + 1) 0) (ts.length + 1) ((w2.alloc (.cells #[.pointer (some ⟨bx, 0, none⟩), .pointer (some ⟨bY, 0, none⟩)] 48)).alloc (.cells #[.pointer (some ⟨bx, 0, none⟩), .pointer (some ⟨bY, 0, none⟩)] 48)) (.pointer (some ⟨bx, 0, none⟩)) (.pointer (some ⟨bY, 0, none⟩))) :=
            tw.keep (S := fun _ => True) (((Keep.refl _ _).alloc _).alloc _) (fun _ _ _ => trivial) (fun b hb => by rw [ext_lt (by omega), ext_lt hb])
          have hsz2 : w.heap.size ≤ w2.heap.size := hi2.size
          clear hb2 HA htw q1 q2 tw hi2
          obtain ⟨it, ht1, ht2, ht3, ht4⟩ := info_twin
          have HT : Hid (Try.prog.info? 48 = some it ∧ it.bytes = 16 ∧ it.size = 2 ∧ it.zero = some (.agg #[.pointer none, .pointer none])) := ⟨ht1, ht2, ht3, ht4⟩
          clear ht1 ht2 ht3 ht4
          go_wp2_with (at_builtin; go_must (refine wpList_append_own_at _ rfl _ _ 38 rfl w.heap.size 48 it (.agg #[.pointer none, .pointer none]) 2 16 Try.underlying38 HT.out.1 HT.out.2.2.2 HT.out.2.2.1 HT.out.2.1 rfl (by decide) (.slice va ts.length vc) ts.length (flat ts) rfl (HI2.out).row ⟨w2.heap.size + 1, 0, none⟩ 1 1 [.pointer (some ⟨bx, 0, none⟩), .pointer (some ⟨bY, 0, none⟩)] rfl rfl (cell_two_at _ _ _ _ _ (by simp)) (fun x hx => by simp at hx; rcases hx with rfl | rfl <;> rfl) (by unfold maxLen; omega) (by omega) (by simp; omega) ?_))
          intro v3 w3 hown3 hg3 _ hb3
          have HJ : Hid (HInv w w3 (ext (ext (ext own2 w2.heap.size 0) (w2.heap.size + 1) 0) (w2.heap.size + 1 + 1) 0) (ts ++ [((some ⟨bx, 0, none⟩), (some ⟨bY, 0, none⟩))]) v3 w.heap.size) := by
            have hj := (HI2.out).append (some ⟨bx, 0, none⟩) (some ⟨bY, 0, none⟩) HT2.out hown3 hg3 (by simpa using hb3)
            show HInv _ _ _ _ _ _
            simpa using hj
          clear hown3 hg3 hb3
          go_wp2_with fail
          refine (still_empty w.heap.size _ (HJ.out).book).mono ?_
          rintro e w9 ⟨rfl, rfl⟩
          go_wp2
          go_roundw
          case rel => exact ⟨k + 1, _, (ts ++ [(some ⟨bx, 0, none⟩, some ⟨bY, 0, none⟩)]), by omega, by go_num, by simp; omega, HJ.out⟩
          case measure => simp [intOf]; omega
      · clear hk1 hk2
        have HI2 : Hid (HInv w ((wr.alloc (.cells #[.int .i64 x.kind, .int .i64 x.g, .int .i64 x.client, .int .i64 x.lane, .int .i64 x.place, .bool x.o, .string x.s, .int .i64 x.c0, .int .i64 x.c1, .int .i64 x.c2, .int .i64 x.c3, .int .i64 x.c4, .slice x.acc x.n x.c] 45)).alloc (.cells #[.pointer none, .pointer none] 48)) (ext (ext own wr.heap.size 0) (wr.heap.size + 1) 0) ts (.slice va ts.length vc) w.heap.size) := by
          have hj := (HI.out.alloc (.cells #[.int .i64 x.kind, .int .i64 x.g, .int .i64 x.client, .int .i64 x.lane, .int .i64 x.place, .bool x.o, .string x.s, .int .i64 x.c0, .int .i64 x.c1, .int .i64 x.c2, .int .i64 x.c3, .int .i64 x.c4, .slice x.acc x.n x.c] 45)).alloc (.cells #[.pointer none, .pointer none] 48)
          show HInv _ _ _ _ _ _
          simpa using hj
        rw [hkd] at HI2
        obtain ⟨it, ht1, ht2, ht3, ht4⟩ := info_twin
        have HT : Hid (Try.prog.info? 48 = some it ∧ it.bytes = 16 ∧ it.size = 2 ∧ it.zero = some (.agg #[.pointer none, .pointer none])) := ⟨ht1, ht2, ht3, ht4⟩
        clear ht1 ht2 ht3 ht4
        go_wp2_with (at_builtin; go_must (refine wpList_append_own_at _ rfl _ _ 38 rfl w.heap.size 48 it (.agg #[.pointer none, .pointer none]) 2 16 Try.underlying38 HT.out.1 HT.out.2.2.2 HT.out.2.2.1 HT.out.2.1 rfl (by decide) (.slice va ts.length vc) ts.length (flat ts) rfl (HI2.out).row ⟨wr.heap.size + 1, 0, none⟩ 1 1 [.pointer none, .pointer none] rfl rfl (cell_two_at _ _ _ _ _ (by simp)) (fun x hx => by simp at hx; rcases hx with rfl | rfl <;> rfl) (by unfold maxLen; omega) (by omega) (by simp; omega) ?_))
        intro v3 w3 hown3 hg3 _ hb3
        have HJ : Hid (HInv w w3 (ext (ext (ext own wr.heap.size 0) (wr.heap.size + 1) 0) (wr.heap.size + 1 + 1) 0) (ts ++ [(none, none)]) v3 w.heap.size) := by
          have hj := (HI2.out).append none none (.inl ⟨rfl, rfl⟩) hown3 hg3 (by simpa using hb3)
          show HInv _ _ _ _ _ _
          simpa using hj
        clear hown3 hg3 hb3
        go_wp2_with fail
        refine (still_empty w.heap.size _ (HJ.out).book).mono ?_
        rintro e w9 ⟨rfl, rfl⟩
        go_wp2
        go_roundw
        case rel => exact ⟨k + 1, _, (ts ++ [(none, none)]), by omega, by go_num, by simp; omega, HJ.out⟩
        case measure => simp [intOf]; omega
      · clear hk1 hk2
        by_cases hts : ts.length = 0
        · have hts' : ¬ (0 : Int) < (ts.length : Int) := by omega
          clear hts
          go_wp2_with fail
          refine (still_empty w.heap.size _ (HI.out.alloc _).book).mono ?_
          rintro e w9 ⟨rfl, rfl⟩
          go_wp2
          go_roundw
          case rel => exact ⟨k + 1, _, ts, by omega, by go_num, by omega, HI.out.alloc _⟩
          case measure => simp [intOf]; omega
        · have hts' : (0 : Int) < (ts.length : Int) := by omega
          have hpos : 0 < ts.length := by omega
          have hlt2 := pickN_lt x.g ts.length hpos
          have hlt3 : (pickN x.g ts.length : Int) < (ts.length : Int) := by omega
          obtain ⟨gv, cv, p, hv, hgv, hp, f1, f2⟩ := HI.out.pair (pickN x.g ts.length) hlt2
          simp only [Value.slice.injEq, true_and] at hv
          obtain ⟨rfl, rfl⟩ := hv
          have hq := fun w => pick_any x.g ts.length w hpos (by omega) HOK.out.g1 HOK.out.g2
          have HID : Hid (HInv w (wr.alloc (.cells #[.int .i64 x.kind, .int .i64 x.g, .int .i64 x.client, .int .i64 x.lane, .int .i64 x.place, .bool x.o, .string x.s, .int .i64 x.c0, .int .i64 x.c1, .int .i64 x.c2, .int .i64 x.c3, .int .i64 x.c4, .slice x.acc x.n x.c] 45)).drew (ext own wr.heap.size 0) ts (.slice (some ⟨gv, 0, none⟩) ts.length vc) w.heap.size) := by
            rw [World.drew_is_drewN]; exact (HI.out.alloc _).drewN 1
          have HTW : Hid (TwinAt (ext own wr.heap.size 0) (pickN x.g ts.length + 1) (wr.alloc (.cells #[.int .i64 x.kind, .int .i64 x.g, .int .i64 x.client, .int .i64 x.lane, .int .i64 x.place, .bool x.o, .string x.s, .int .i64 x.c0, .int .i64 x.c1, .int .i64 x.c2, .int .i64 x.c3, .int .i64 x.c4, .slice x.acc x.n x.c] 45)).drew (.pointer p.1) (.pointer p.2)) := HID.out.twin _ p hp
          have HP : Hid (ts[pickN x.g ts.length]? = some p) := hp
          rw [hkd] at HID HTW
          clear hp
          go_wp2_with fail
          go_region_with (first | (go_at_call 12; refine (hq _).mono ?_; rintro e w' ⟨rfl, rfl⟩) | (go_at_call 13; refine (does_claim (ext own wr.heap.size 0) (pickN x.g ts.length + 1) (by omega) _ p.1 p.2 _ x.g x.client x.lane x.place x.o x.s x.c0 x.c1 x.c2 x.c3 x.c4 x.acc x.n x.c HTW.out).mono ?_; rintro e w4 ⟨rfl, hpub⟩))
          all_goals
            obtain ⟨own4, hi4⟩ := HID.out.step (pickN x.g ts.length) p.1 p.2 HP.out hpub
            have HI4 : Hid (HInv w w4 own4 ts (.slice (some ⟨gv, 0, none⟩) ts.length vc) w.heap.size) := hi4
            clear hi4 hpub f1 f2 HID HTW hq
            go_wp2_with fail
            refine (still_empty w.heap.size _ (HI4.out).book).mono ?_
            rintro e w9 ⟨rfl, rfl⟩
            go_wp2
            go_roundw
            case rel => exact ⟨k + 1, _, ts, by omega, by go_num, by omega, HI4.out⟩
            case measure => simp [intOf]; omega
      · clear hk1 hk2
        by_cases hts : ts.length = 0
        · have hts' : ¬ (0 : Int) < (ts.length : Int) := by omega
          clear hts
          go_wp2_with fail
          refine (still_empty w.heap.size _ (HI.out.alloc _).book).mono ?_
          rintro e w9 ⟨rfl, rfl⟩
          go_wp2
          go_roundw
          case rel => exact ⟨k + 1, _, ts, by omega, by go_num, by omega, HI.out.alloc _⟩
          case measure => simp [intOf]; omega
        · have hts' : (0 : Int) < (ts.length : Int) := by omega
          have hpos : 0 < ts.length := by omega
          have hlt2 := pickN_lt x.g ts.length hpos
          have hlt3 : (pickN x.g ts.length : Int) < (ts.length : Int) := by omega
          obtain ⟨gv, cv, p, hv, hgv, hp, f1, f2⟩ := HI.out.pair (pickN x.g ts.length) hlt2
          simp only [Value.slice.injEq, true_and] at hv
          obtain ⟨rfl, rfl⟩ := hv
          have hq := fun w => pick_any x.g ts.length w hpos (by omega) HOK.out.g1 HOK.out.g2
          have HID : Hid (HInv w (wr.alloc (.cells #[.int .i64 x.kind, .int .i64 x.g, .int .i64 x.client, .int .i64 x.lane, .int .i64 x.place, .bool x.o, .string x.s, .int .i64 x.c0, .int .i64 x.c1, .int .i64 x.c2, .int .i64 x.c3, .int .i64 x.c4, .slice x.acc x.n x.c] 45)).drew (ext own wr.heap.size 0) ts (.slice (some ⟨gv, 0, none⟩) ts.length vc) w.heap.size) := by
            rw [World.drew_is_drewN]; exact (HI.out.alloc _).drewN 1
          have HTW : Hid (TwinAt (ext own wr.heap.size 0) (pickN x.g ts.length + 1) (wr.alloc (.cells #[.int .i64 x.kind, .int .i64 x.g, .int .i64 x.client, .int .i64 x.lane, .int .i64 x.place, .bool x.o, .string x.s, .int .i64 x.c0, .int .i64 x.c1, .int .i64 x.c2, .int .i64 x.c3, .int .i64 x.c4, .slice x.acc x.n x.c] 45)).drew (.pointer p.1) (.pointer p.2)) := HID.out.twin _ p hp
          have HP : Hid (ts[pickN x.g ts.length]? = some p) := hp
          rw [hkd] at HID HTW
          clear hp
          go_wp2_with fail
          go_region_with (first | (go_at_call 12; refine (hq _).mono ?_; rintro e w' ⟨rfl, rfl⟩) | (go_at_call 13; refine (does_publish (ext own wr.heap.size 0) (pickN x.g ts.length + 1) (by omega) _ p.1 p.2 _ x.g x.client x.lane x.place x.o x.s x.c0 x.c1 x.c2 x.c3 x.c4 x.acc x.n x.c HTW.out HOK.out.p1 HOK.out.p2).mono ?_; rintro e w4 ⟨rfl, hpub⟩))
          all_goals
            obtain ⟨own4, hi4⟩ := HID.out.step (pickN x.g ts.length) p.1 p.2 HP.out hpub
            have HI4 : Hid (HInv w w4 own4 ts (.slice (some ⟨gv, 0, none⟩) ts.length vc) w.heap.size) := hi4
            clear hi4 hpub f1 f2 HID HTW hq
            go_wp2_with fail
            refine (still_empty w.heap.size _ (HI4.out).book).mono ?_
            rintro e w9 ⟨rfl, rfl⟩
            go_wp2
            go_roundw
            case rel => exact ⟨k + 1, _, ts, by omega, by go_num, by omega, HI4.out⟩
            case measure => simp [intOf]; omega
    · have hge : ¬ (k : Int) < (len : Int) := by omega
      have hbl := hinv.below
      clear hinv
      go_wp2
      go_ret
      exact ⟨rfl, HI.out.below⟩

end Go.Proofs.Ytncljickkoihhaa
