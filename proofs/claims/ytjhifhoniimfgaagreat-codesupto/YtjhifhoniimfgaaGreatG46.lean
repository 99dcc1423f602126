import Derived.Test.YtjhifhoniimfgaaGreatG44
import Derived.Test.YtjhifhoniimfgaaGreatG45
import Derived.BigRegion
import Derived.Deep.RegionWith
import Derived.Test.YtjhifhoniimfgaaGreatRows
/-
  Frames are taken one behind the other, on both sides.
-/
namespace Go.Proofs.YtjhifhoniimfgaaGreat
open Go.RowKit

/-- The pair, in its box, and the book; nothing that was there before has turned. -/
structure CInv (w0 w : World) (own : Nat → Nat) (px pw : Option Addr) (tb bb N : Nat) : Prop where
  book : BookAt own w bb N
  twin : TwinAt own 0 w px pw N
  box : w.heap[tb]? = some (.cells #[.pointer px, .pointer pw] 35 (0, 0))
  obox : own tb = 0
  below : Below w0.heap.size w0 w
  old : ∀ b, b < w0.heap.size → own b = 0

def CAt (w0 w : World) (px pw : Option Addr) (tb bb N : Nat) : Prop := ∃ own, CInv w0 w own px pw tb bb N

section
variable {w0 w w' : World} {px pw : Option Addr} {tb bb N : Nat}

theorem CAt.keep (h : CAt w0 w px pw tb bb N) (hk : Keep (fun _ => True) w w') : CAt w0 w' px pw tb bb N := by
  obtain ⟨own, h⟩ := h
  exact ⟨own, h.book.keep hk (fun _ _ _ => trivial) (fun _ _ _ => rfl), h.twin.keep hk (fun _ _ _ _ => trivial) (Same.refl _ _), hk.get h.box trivial, h.obox, h.below.trans ((hk.mono (T := fun b => b < w0.heap.size) (fun _ _ _ => trivial)).below h.below.size), h.old⟩

theorem CAt.more (h : CAt w0 w px pw tb bb N) {M : Nat} (hM : N ≤ M) : CAt w0 w px pw tb bb M := by
  obtain ⟨own, h⟩ := h
  exact ⟨own, h.book.more hM, h.twin.more hM, h.box, h.obox, h.below, h.old⟩

theorem CAt.does (h : CAt w0 w px pw tb bb N) (hN : N < 1000000000) (kind g client lane place : Int) (o : Bool) (s : ByteArray) (c0 c1 c2 c3 c4 : Int) (a : Option Addr) (n c : Nat)
    (hp1 : -9223372036854775808 ≤ place) (hp2 : place ≤ 9223372036854775807) (hk1 : 3 ≤ kind) (hk2 : kind ≤ 9) :
    Calls Tryz.prog 12 #[.agg #[.pointer px, .pointer pw], .pointer (some ⟨bb, 0, none⟩), .agg #[.int .i64 kind, .int .i64 g, .int .i64 client, .int .i64 lane, .int .i64 place, .bool o, .string s, .int .i64 c0, .int .i64 c1, .int .i64 c2, .int .i64 c3, .int .i64 c4, .slice a n c]] w
      fun e w' => e = .returned (.bool true) ∧ CAt w0 w' px pw tb bb (N + 1) := by
  obtain ⟨own, h⟩ := h
  refine (does_any own 0 w px pw bb N N kind g client lane place o s c0 c1 c2 c3 c4 a n c h.twin h.book (by omega) (by omega) hp1 hp2 hk1 hk2).mono ?_
  rintro e w' ⟨rfl, own', q1, q2, q3, hk⟩
  have z : ∀ b, own b = 0 → OutT own 0 b ∧ own b ≠ 2 ∧ own b ≠ 3 := fun b e => ⟨outT_small (by omega), by omega, by omega⟩
  have zo : ∀ b, b < w.heap.size → own b = 0 → own' b = 0 := fun b hb e => by rw [q1 b hb (z b e).1 (z b e).2.2]; exact e
  have l := h.below.size
  exact ⟨rfl, own', q3, q2, hk.get h.box (z tb h.obox), zo tb (block_lt h.box) h.obox, h.below.trans ((hk.mono (T := fun b => b < w0.heap.size) (fun b _ hb => z b (h.old b hb))).below l), fun b hb => zo b (Nat.lt_of_lt_of_le hb l) (h.old b hb)⟩

theorem CAt.still (h : CAt w0 w px pw tb bb N) (hN : N < 1000000000) :
    Calls Tryz.prog 13 #[.pointer (some ⟨bb, 0, none⟩)] w fun e w' => e = .returned (.bool true) ∧ CAt w0 w' px pw tb bb N := by
  have h' := h
  obtain ⟨own, h⟩ := h
  refine (bStill h.book (by omega)).mono ?_
  rintro e w' ⟨rfl, q, rfl⟩
  exact ⟨rfl, h'.keep ((Keep.refl _ _).drewN q)⟩

theorem CAt.c0 (h : CAt w0 w px pw tb bb N) : w.cell? ⟨tb, 0, none⟩ = some (.pointer px) := by
  obtain ⟨own, h⟩ := h
  exact cellAt (i := 0) h.box rfl
theorem CAt.c1 (h : CAt w0 w px pw tb bb N) : w.cell? ⟨tb, 1, none⟩ = some (.pointer pw) := by
  obtain ⟨own, h⟩ := h
  exact cellAt (i := 1) h.box rfl
theorem CAt.below (h : CAt w0 w px pw tb bb N) : Below w0.heap.size w0 w := by
  obtain ⟨own, h⟩ := h
  exact h.below
end

/-- A gate was made; the box; the book. -/
theorem cat_start (w0 w : World) (hb : Below w0.heap.size w0 w) {own : Nat → Nat} {px pw : Option Addr} (ht : TwinAt own 0 w px pw 0) (ho : ∀ b, b < w0.heap.size → own b = 0) :
    CAt w0 ((w.alloc (.cells #[.pointer px, .pointer pw] 35)).alloc (.cells #[.slice none 0 0, .slice none 0 0, .int .i64 0] 41)) px pw w.heap.size (w.heap.size + 1) 0 := by
  have l := hb.size
  have hk : Keep (fun _ => True) w ((w.alloc (.cells #[.pointer px, .pointer pw] 35)).alloc (.cells #[.slice none 0 0, .slice none 0 0, .int .i64 0] 41)) := ((Keep.refl _ _).alloc _).alloc _
  have hs : ((w.alloc (.cells #[.pointer px, .pointer pw] 35))).heap.size = w.heap.size + 1 := by simp
  have h1 : ((w.alloc (.cells #[.pointer px, .pointer pw] 35)).alloc (.cells #[.slice none 0 0, .slice none 0 0, .int .i64 0] 41)).heap[w.heap.size + 1]? = some (.cells #[.slice none 0 0, .slice none 0 0, .int .i64 0] 41 (0, 0)) := by
    rw [← hs]; exact heap_alloc_new _ _
  refine ⟨fun b => if b < w.heap.size then own b else if b = w.heap.size + 1 then 2 else 0, ⟨0, .slice none 0 0, .slice none 0 0, [], [], fun _ => 0, ⟨h1, World.ownsRow_nil _ _ _ _, World.ownsRow_nil _ _ _ _, rfl, fun i v o hv => by simp at hv, ?_, fun b hb => by simp [Value.ownBlock] at hb, fun b hb => by simp [Value.ownBlock] at hb⟩, fun i u hu => by simp at hu, Nat.le_refl _, fun o h => by simp at h, by simp⟩, ht.keep hk (fun _ _ _ _ => trivial) (fun b hb => if_pos hb), ?_, ?_, ?_, fun b hb => ?_⟩
  · show (if w.heap.size + 1 < w.heap.size then own (w.heap.size + 1) else if w.heap.size + 1 = w.heap.size + 1 then 2 else 0) = 2
    rw [if_neg (by omega), if_pos rfl]
  · rw [Below.heap_alloc _ _ _ (by simp)]; exact heap_alloc_new _ _
  · show (if w.heap.size < w.heap.size then own w.heap.size else if w.heap.size = w.heap.size + 1 then 2 else 0) = 0
    rw [if_neg (by omega), if_neg (by omega)]
  · exact hb.trans ((hk.mono (T := fun b => b < w0.heap.size) (fun _ _ _ => trivial)).below l)
  · show (if b < w.heap.size then own b else if b = w.heap.size + 1 then 2 else 0) = 0
    rw [if_pos (by omega)]; exact ho b hb

/-- A list of strings. -/
def StrsAt (w : World) (a : Option Addr) (len : Nat) (fs : Nat → ByteArray) : Prop :=
  len = 0 ∨ ∃ b off, a = some ⟨b, off, none⟩ ∧ b < w.heap.size ∧ ∀ k, k < len → w.cell? ⟨b, off + k, none⟩ = some (.string (fs k))

/-- A list of numbers. -/
def IntsAt (w : World) (a : Option Addr) (len : Nat) (ls : Nat → Int) : Prop :=
  len = 0 ∨ ∃ b off, a = some ⟨b, off, none⟩ ∧ b < w.heap.size ∧ ∀ k, k < len → w.cell? ⟨b, off + k, none⟩ = some (.int .i64 (ls k)) ∧ -9223372036854775808 ≤ ls k ∧ ls k ≤ 9223372036854775807

theorem StrsAt.below {w w' : World} {a : Option Addr} {len : Nat} {fs : Nat → ByteArray} (h : StrsAt w a len fs) (hb : Below w.heap.size w w') : StrsAt w' a len fs := by
  rcases h with h | ⟨b, off, rfl, hlt, h⟩
  · exact .inl h
  · exact .inr ⟨b, off, rfl, Nat.lt_of_lt_of_le hlt hb.size, fun k hk => by rw [hb.cell (p := ⟨b, _, none⟩) hlt]; exact h k hk⟩

theorem IntsAt.below {w w' : World} {a : Option Addr} {len : Nat} {ls : Nat → Int} (h : IntsAt w a len ls) (hb : Below w.heap.size w w') : IntsAt w' a len ls := by
  rcases h with h | ⟨b, off, rfl, hlt, h⟩
  · exact .inl h
  · exact .inr ⟨b, off, rfl, Nat.lt_of_lt_of_le hlt hb.size, fun k hk => ⟨by rw [hb.cell (p := ⟨b, _, none⟩) hlt]; exact (h k hk).1, (h k hk).2⟩⟩

end Go.Proofs.YtjhifhoniimfgaaGreat

/-
  Codes: whatever the settings, the frames and the lanes: all answers are alike.
-/
namespace Go.Proofs.YtjhifhoniimfgaaGreat
open Go.RowKit

set_option maxRecDepth 100000 in
set_option maxHeartbeats 4000000 in
theorem codes_walk (cl co ur an ch : Int) (ca : Option Addr) (n cc : Nat) (lim : Nat → Nat → Int) (fa : Option Addr) (flen fcap : Nat) (fs : Nat → ByteArray) (la : Option Addr) (llen lcap : Nat) (ls : Nat → Int) (w : World)
    (ha : AccAt w ca n lim) (hn : n ≤ 2932031007317) (hf : StrsAt w fa flen fs) (hl : IntsAt w la llen ls) (hfl : flen ≤ 1048576) :
    Calls Tryz.prog 5 #[.agg #[.int .i64 cl, .int .i64 co, .int .i64 ur, .int .i64 an, .int .i64 ch, .slice ca n cc], .slice fa flen fcap, .slice la llen lcap] w fun e w' => e = .returned (.bool true) ∧ Below w.heap.size w w' := by
  have hB0 : Below w.heap.size w (w.alloc (.cells #[.int .i64 cl, .int .i64 co, .int .i64 ur, .int .i64 an, .int .i64 ch, .slice ca n cc] 30)) := (Below.refl _ _).alloc (Nat.le_refl _) _
  have HA := hideE ha
  have HFS := hideE hf
  have HLS := hideE hl
  have HB := hideE hB0
  clear ha hf hl hB0
  go_enter Tryz.func5, Tryz.ntmps5
  go_wp2_with fail
  refine (answers_any _).mono ?_
  rintro e w1 ⟨rfl, b1⟩
  have hb1 : Below w.heap.size w w1 := HB.out.trans (b1.mono HB.out.size)
  have g0 : w1.heap[w.heap.size]? = some (.cells #[.int .i64 cl, .int .i64 co, .int .i64 ur, .int .i64 an, .int .i64 ch, .slice ca n cc] 30 (0, 0)) := by rw [b1.block _ (by simp)]; exact heap_alloc_new w _
  have x0 : w1.cell? ⟨w.heap.size, 0, none⟩ = some (.int .i64 cl) := cellAt (i := 0) g0 rfl
  have x1 : w1.cell? ⟨w.heap.size, 1, none⟩ = some (.int .i64 co) := cellAt (i := 1) g0 rfl
  have x2 : w1.cell? ⟨w.heap.size, 2, none⟩ = some (.int .i64 ur) := cellAt (i := 2) g0 rfl
  have x3 : w1.cell? ⟨w.heap.size, 3, none⟩ = some (.int .i64 an) := cellAt (i := 3) g0 rfl
  have x4 : w1.cell? ⟨w.heap.size, 4, none⟩ = some (.int .i64 ch) := cellAt (i := 4) g0 rfl
  have x5 : w1.cell? ⟨w.heap.size, 5, none⟩ = some (.slice ca n cc) := cellAt (i := 5) g0 rfl
  have HA1 := hideE (HA.out.below hb1)
  have HB1 := hideE hb1
  clear b1 hb1 g0 HA HB
  cases hm : mayB cl co ur an ch n lim
  · go_wp2_with fail
    refine (made_no cl co ur an ch ca n cc lim _ HA1.out hn hm).mono ?_
    rintro e w2 ⟨rfl, b2⟩
    have HB2 := hideE ((HB1.out.trans (b2.mono HB1.out.size)).alloc (w := w2) (Nat.le_trans HB1.out.size b2.size) (.cells #[.pointer none, .pointer none] 35))
    clear b2 HB1 HA1
    go_wp2
    go_ret
    exact ⟨by simp, HB2.out⟩
  · go_wp2_with fail
    refine (made_yes (fun _ => 0) 0 cl co ur an ch ca n cc lim _ HA1.out hn hm).mono ?_
    rintro e w2 ⟨bx, bY, rfl, b2, own2, q1, tw⟩
    have hb2 := HB1.out.trans (b2.mono HB1.out.size)
    have hc := cat_start w w2 hb2 tw (fun b hb => q1 b (Nat.lt_of_lt_of_le hb HB1.out.size))
    have HC := hideE hc
    clear b2 hb2 tw hc q1 HA1 HB1 x0 x1 x2 x3 x4 x5
    go_wp2
    go_loopw [11] (fun i wr => ∃ k : Nat, k ≤ flen ∧ i = .int .i64 k ∧ CAt w wr (some ⟨bx, 0, none⟩) (some ⟨bY, 0, none⟩) w2.heap.size (w2.heap.size + 1) (5 * k)) (fun i _ => flen - (intOf i).toNat)
    case atStart => exact ⟨0, Nat.zero_le _, rfl, HC.out⟩
    case round =>
      obtain ⟨k, hk, rfl, hc0⟩ := hrel
      by_cases hlt : k < flen
      · rcases HFS.out with h0 | ⟨fb, foff, rfl, hfb, hfs⟩
        · omega
        have hlt' : (k : Int) < (flen : Int) := by omega
        have hfk := hfs k hlt
        rw [← hc0.below.cell (p := ⟨fb, _, none⟩) hfb] at hfk
        have b0 := hc0.c0
        have b1 := hc0.c1
        have HC1 := hideE hc0
        have HFK := hideE (fun (w' : World) (h : Below w.heap.size w w') => show w'.cell? ⟨fb, foff + k, none⟩ = some (.string (fs k)) by rw [h.cell (p := ⟨fb, _, none⟩) hfb]; exact hfs k hlt)
        clear hc0 hfs
        by_cases hll : k < llen
        · rcases HLS.out with h0 | ⟨lb, loff, rfl, hlb, hls⟩
          · omega
          have hll' : (k : Int) < (llen : Int) := by omega
          obtain ⟨hlk, p1, p2⟩ := hls k hll
          rw [← HC1.out.below.cell (p := ⟨lb, _, none⟩) hlb] at hlk
          have hq := fun w => pick_any (ls k) 2 w (by omega) (by omega) p1 p2
          clear hls
          cases htk : ((fs k).toList == [116, 105, 99, 107])
          · go_wp2_with fail
            refine (hq _).mono ?_
            rintro e w0 ⟨rfl, rfl⟩
            clear hq hlk
            go_wp2_with fail
            refine (HC1.out.does (by omega) 3 0 0 (pickN (ls k) 2) 0 false ⟨#[]⟩ 0 0 0 0 0 none 0 0 (by omega) (by omega) (by omega) (by omega)).mono ?_
            rintro e w3 ⟨rfl, hc⟩
            have hf3 := HFK.out w3 hc.below
            have d0 := hc.c0
            have d1 := hc.c1
            have HC3 := hideE (hc.keep ((Keep.refl _ w3).drewN 1))
            clear hc HC1 b0 b1 hfk
            go_wp2_with fail
            go_region_with (go_at_call 12; refine (HC3.out.does (by omega) 4 0 0 (pickN (ls k) 2) 0 true (fs k) 0 0 0 0 0 none 0 0 (by omega) (by omega) (by omega) (by omega)).mono ?_; rintro e w4 ⟨rfl, hc⟩)
            all_goals
              have d2 := hc.c0
              have d3 := hc.c1
              have HC4 := hideE hc
              clear hc HC3 d0 d1 hf3
              go_wp2_with fail
              refine (HC4.out.does (by omega) 5 0 0 0 0 false ⟨#[]⟩ 0 0 0 0 0 none 0 0 (by omega) (by omega) (by omega) (by omega)).mono ?_
              rintro e w5 ⟨rfl, hc⟩
              have d4 := hc.c0
              have d5 := hc.c1
              have HC5 := hideE hc
              clear hc HC4 d2 d3
              go_wp2_with fail
              refine (HC5.out.does (by omega) 6 0 0 0 0 false ⟨#[]⟩ 0 0 0 0 0 none 0 0 (by omega) (by omega) (by omega) (by omega)).mono ?_
              rintro e w6 ⟨rfl, hc⟩
              have d6 := hc.c0
              have d7 := hc.c1
              have HC6 := hideE hc
              clear hc HC5 d4 d5
              go_wp2_with fail
              refine (HC6.out.does (by omega) 7 0 0 0 0 false ⟨#[]⟩ 0 0 0 0 0 none 0 0 (by omega) (by omega) (by omega) (by omega)).mono ?_
              rintro e w7 ⟨rfl, hc⟩
              have HC7 := hideE hc
              clear hc HC6 d6 d7
              go_wp2_with fail
              refine (HC7.out.still (by omega)).mono ?_
              rintro e w8 ⟨rfl, hc⟩
              have HC8 := hideE hc
              clear hc HC7
              go_wp2
              go_roundw
              case rel => exact ⟨k + 1, by omega, by go_num, HC8.out.more (by omega)⟩
              case measure => simp [intOf]; omega
          · go_wp2_with fail
            refine (hq _).mono ?_
            rintro e w0 ⟨rfl, rfl⟩
            clear hq hlk
            go_wp2_with fail
            refine (HC1.out.does (by omega) 8 0 0 0 0 false ⟨#[]⟩ 0 0 0 0 0 none 0 0 (by omega) (by omega) (by omega) (by omega)).mono ?_
            rintro e w3 ⟨rfl, hc⟩
            have HC3 := hideE hc
            clear hc HC1 b0 b1 hfk
            go_wp2
            go_roundw
            case rel => exact ⟨k + 1, by omega, by go_num, HC3.out.more (by omega)⟩
            case measure => simp [intOf]; omega
        · have hll' : ¬ (k : Int) < (llen : Int) := by omega
          cases htk : ((fs k).toList == [116, 105, 99, 107])
          · go_wp2_with fail
            refine (HC1.out.does (by omega) 3 0 0 0 0 false ⟨#[]⟩ 0 0 0 0 0 none 0 0 (by omega) (by omega) (by omega) (by omega)).mono ?_
            rintro e w3 ⟨rfl, hc⟩
            have hf3 := HFK.out w3 hc.below
            have d0 := hc.c0
            have d1 := hc.c1
            have HC3 := hideE (hc.keep ((Keep.refl _ w3).drewN 1))
            clear hc HC1 b0 b1 hfk
            go_wp2_with fail
            go_region_with (go_at_call 12; refine (HC3.out.does (by omega) 4 0 0 0 0 true (fs k) 0 0 0 0 0 none 0 0 (by omega) (by omega) (by omega) (by omega)).mono ?_; rintro e w4 ⟨rfl, hc⟩)
            all_goals
              have d2 := hc.c0
              have d3 := hc.c1
              have HC4 := hideE hc
              clear hc HC3 d0 d1 hf3
              go_wp2_with fail
              refine (HC4.out.does (by omega) 5 0 0 0 0 false ⟨#[]⟩ 0 0 0 0 0 none 0 0 (by omega) (by omega) (by omega) (by omega)).mono ?_
              rintro e w5 ⟨rfl, hc⟩
              have d4 := hc.c0
              have d5 := hc.c1
              have HC5 := hideE hc
              clear hc HC4 d2 d3
              go_wp2_with fail
              refine (HC5.out.does (by omega) 6 0 0 0 0 false ⟨#[]⟩ 0 0 0 0 0 none 0 0 (by omega) (by omega) (by omega) (by omega)).mono ?_
              rintro e w6 ⟨rfl, hc⟩
              have d6 := hc.c0
              have d7 := hc.c1
              have HC6 := hideE hc
              clear hc HC5 d4 d5
              go_wp2_with fail
              refine (HC6.out.does (by omega) 7 0 0 0 0 false ⟨#[]⟩ 0 0 0 0 0 none 0 0 (by omega) (by omega) (by omega) (by omega)).mono ?_
              rintro e w7 ⟨rfl, hc⟩
              have HC7 := hideE hc
              clear hc HC6 d6 d7
              go_wp2_with fail
              refine (HC7.out.still (by omega)).mono ?_
              rintro e w8 ⟨rfl, hc⟩
              have HC8 := hideE hc
              clear hc HC7
              go_wp2
              go_roundw
              case rel => exact ⟨k + 1, by omega, by go_num, HC8.out.more (by omega)⟩
              case measure => simp [intOf]; omega
          · go_wp2_with fail
            refine (HC1.out.does (by omega) 8 0 0 0 0 false ⟨#[]⟩ 0 0 0 0 0 none 0 0 (by omega) (by omega) (by omega) (by omega)).mono ?_
            rintro e w3 ⟨rfl, hc⟩
            have HC3 := hideE hc
            clear hc HC1 b0 b1 hfk
            go_wp2
            go_roundw
            case rel => exact ⟨k + 1, by omega, by go_num, HC3.out.more (by omega)⟩
            case measure => simp [intOf]; omega
      · have hge : ¬ (k : Int) < (flen : Int) := by omega
        have HE := hideE hc0.below
        clear hc0
        go_wp2
        go_ret
        exact ⟨rfl, HE.out⟩

end Go.Proofs.YtjhifhoniimfgaaGreat

/-
  How settings, frames and lanes that came in read.
-/
namespace Go.Proofs.YtjhifhoniimfgaaGreat
open Go.RowKit Go.Deep

section
variable {H : Type} {enc : TypeId × Value → H} {W : World} {held : Bool}

theorem conf_of {fuel : Nat} {cs : List Value} {x : DataW H × List MemPlace} (h : DataW.trod enc Tryz.prog W 0 (fun _ => true) held fuel 30 cs = some x) (hw : ∀ k ∈ x.1.weights Tryz.prog 30, k ≤ reachBytes) :
    ∃ (m0 m1 m2 m3 m4 : Int) (a : Option Addr) (n c : Nat) (lim : Nat → Nat → Int), cs = [.int .i64 m0, .int .i64 m1, .int .i64 m2, .int .i64 m3, .int .i64 m4, .slice a n c] ∧ AccAt W a n lim ∧ n ≤ 2932031007317 := by
  obtain ⟨ys, n', _, hy, hl, hyl, hg⟩ := DataW.trod_struct Tryz.underlying30 h
  rw [Tryz.cellsConf] at hl
  obtain ⟨c7, c8, c9, c10, c11, c12, rfl⟩ := six_of hl
  obtain ⟨y0, y1, y2, y3, y4, y5, rfl⟩ := six_of (show ys.length = 6 from hyl)
  have g0 : DataW.trod enc Tryz.prog W 0 (fun _ => true) held n' 3 [c7] = some y0 := by simpa [Tryz.cellsInt] using hg 0 _ rfl
  have g1 : DataW.trod enc Tryz.prog W 0 (fun _ => true) held n' 3 [c8] = some y1 := by simpa [Tryz.cellsInt] using hg 1 _ rfl
  have g2 : DataW.trod enc Tryz.prog W 0 (fun _ => true) held n' 3 [c9] = some y2 := by simpa [Tryz.cellsInt] using hg 2 _ rfl
  have g3 : DataW.trod enc Tryz.prog W 0 (fun _ => true) held n' 3 [c10] = some y3 := by simpa [Tryz.cellsInt] using hg 3 _ rfl
  have g4 : DataW.trod enc Tryz.prog W 0 (fun _ => true) held n' 3 [c11] = some y4 := by simpa [Tryz.cellsInt] using hg 4 _ rfl
  have g5 : DataW.trod enc Tryz.prog W 0 (fun _ => true) held n' 28 [c12] = some y5 := by simpa [Tryz.cellsSl] using hg 5 _ rfl
  obtain ⟨m0, rfl, _⟩ := int_of (enc := enc) (W := W) (held := held) (x := y0) g0
  obtain ⟨m1, rfl, _⟩ := int_of (enc := enc) (W := W) (held := held) (x := y1) g1
  obtain ⟨m2, rfl, _⟩ := int_of (enc := enc) (W := W) (held := held) (x := y2) g2
  obtain ⟨m3, rfl, _⟩ := int_of (enc := enc) (W := W) (held := held) (x := y3) g3
  obtain ⟨m4, rfl, _⟩ := int_of (enc := enc) (W := W) (held := held) (x := y4) g4
  have hw5 : ∀ k ∈ y5.1.weights Tryz.prog 28, k ≤ reachBytes := by
    intro k hk
    apply hw
    rw [hy]
    simp only [DataW.weights, Tryz.underlying30]
    exact DataW.weights_mem_each (j := 5) (t := 28) (d := y5.1) rfl rfl k hk
  obtain ⟨a, na, ca, lim, rfl, hacc, hn⟩ := accs_of (enc := enc) (W := W) (held := held) (x := y5) g5 hw5
  exact ⟨m0, m1, m2, m3, m4, a, na, ca, lim, rfl, hacc, hn⟩

theorem bulk_pos (d : DataW H) : 1 ≤ Rows.uptoBulk d := by
  cases d with
  | lit l => cases l <;> simp only [Rows.uptoBulk] <;> omega
  | _ => simp only [Rows.uptoBulk] <;> omega

theorem bulk_len : ∀ l : List (DataW H), l.length ≤ Rows.uptoBulkAll l
  | [] => Nat.zero_le _
  | d :: r => by
    have h1 := bulk_pos d
    have h2 := bulk_len r
    simp only [Rows.uptoBulkAll, List.length_cons]
    omega

theorem strs_of {fuel : Nat} {a : Option Addr} {len cap : Nat} {x : DataW H × List MemPlace} (h : DataW.trod enc Tryz.prog W 0 (fun _ => true) held fuel 31 [.slice a len cap] = some x) :
    ∃ fs, StrsAt W a len fs ∧ len ≤ Rows.uptoBulk x.1 := by
  rcases open_slice1 Tryz.underlying31 Tryz.cellsStr h with ⟨hc, _⟩ | ⟨a', len', cap', m, n, V, D, Pl, hc, _, hl, _, hm, hx, hel⟩
  · simp only [List.cons.injEq, and_true, Value.slice.injEq] at hc
    obtain ⟨rfl, rfl, rfl⟩ := hc
    exact ⟨fun _ => ByteArray.empty, .inl rfl, Nat.zero_le _⟩
  · simp only [List.cons.injEq, and_true, Value.slice.injEq] at hc
    obtain ⟨rfl, rfl, rfl⟩ := hc
    simp only [if_true] at hm
    subst hm
    have hlen : len ≤ Rows.uptoBulk x.1 := by
      rw [hx]
      simp only [Rows.uptoBulk]
      have := bulk_len ((List.range len).map D)
      simp only [List.length_map, List.length_range] at this
      omega
    by_cases h0 : len = 0
    · exact ⟨fun _ => ByteArray.empty, .inl h0, hlen⟩
    have h2 : ∀ i, i < len → ∃ s : ByteArray, W.cell? (a'.add i) = some (.string s) := fun i hi => by
      obtain ⟨h3, h4⟩ := hel i (by omega)
      obtain ⟨s, e, _⟩ := DataW.trod_string (x := (D i, Pl i)) Tryz.underlying9 h4
      simp only [List.cons.injEq, and_true] at e
      exact ⟨s, by rw [h3, e]⟩
    have : Inhabited ByteArray := ⟨ByteArray.empty⟩
    obtain ⟨fs, hfs⟩ := choose_lt h2
    obtain ⟨b, off, spot⟩ := a'
    have hs := World.cell?_spot (hfs 0 (by omega))
    simp [Addr.add] at hs
    subst hs
    refine ⟨fs, .inr ⟨b, off, rfl, World.block_lt_of_cell? W _ (hfs 0 (by omega)), fun k hk => ?_⟩, hlen⟩
    have := hfs k hk
    rwa [Addr.add_lit] at this

theorem ints_of {fuel : Nat} {a : Option Addr} {len cap : Nat} {x : DataW H × List MemPlace} (h : DataW.trod enc Tryz.prog W 0 (fun _ => true) held fuel 32 [.slice a len cap] = some x) :
    ∃ ls, IntsAt W a len ls := by
  rcases open_slice1 Tryz.underlying32 Tryz.cellsInt h with ⟨hc, _⟩ | ⟨a', len', cap', m, n, V, D, Pl, hc, _, hl, _, hm, hx, hel⟩
  · simp only [List.cons.injEq, and_true, Value.slice.injEq] at hc
    obtain ⟨rfl, rfl, rfl⟩ := hc
    exact ⟨fun _ => 0, .inl rfl⟩
  · simp only [List.cons.injEq, and_true, Value.slice.injEq] at hc
    obtain ⟨rfl, rfl, rfl⟩ := hc
    simp only [if_true] at hm
    subst hm
    by_cases h0 : len = 0
    · exact ⟨fun _ => 0, .inl h0⟩
    have h2 : ∀ i, i < len → ∃ s : Int, W.cell? (a'.add i) = some (.int .i64 s) ∧ -9223372036854775808 ≤ s ∧ s ≤ 9223372036854775807 := fun i hi => by
      obtain ⟨h3, h4⟩ := hel i (by omega)
      obtain ⟨s, e, b⟩ := int_of (enc := enc) (W := W) (held := held) (x := (D i, Pl i)) h4
      exact ⟨s, by rw [h3, e], b⟩
    obtain ⟨ls, hls⟩ := choose_lt h2
    obtain ⟨b, off, spot⟩ := a'
    have hs := World.cell?_spot (hls 0 (by omega)).1
    simp [Addr.add] at hs
    subst hs
    refine ⟨ls, .inr ⟨b, off, rfl, World.block_lt_of_cell? W _ (hls 0 (by omega)).1, fun k hk => ?_⟩⟩
    have := hls k hk
    rwa [Addr.add_lit] at this
end

end Go.Proofs.YtjhifhoniimfgaaGreat

