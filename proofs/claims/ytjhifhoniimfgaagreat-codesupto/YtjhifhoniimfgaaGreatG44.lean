import Derived.Test.YtjhifhoniimfgaaGreatG42
import Derived.Test.YtjhifhoniimfgaaGreatG43
import Derived.BigRegion
import Derived.Deep.RegionWith
import Derived.Test.YtjhifhoniimfgaaGreatG31
import Derived.Laws.BytesArg
/-
  What holds at each step of a script: the gates on both sides, in pairs; the book; nothing that was there before has turned.
-/
namespace Go.Proofs.YtjhifhoniimfgaaGreat
open Go.RowKit

theorem does_any (own : Nat → Nat) (i : Nat) (w : World) (px pw : Option Addr) (bb N M : Nat) (kind g client lane place : Int) (o : Bool) (s : ByteArray) (c0 c1 c2 c3 c4 : Int) (a : Option Addr) (n c : Nat)
    (h : TwinAt own i w px pw N) (hB : BookAt own w bb M) (hN : N < 1099511627770) (hM : M < 1099511627745) (hp1 : -9223372036854775808 ≤ place) (hp2 : place ≤ 9223372036854775807) (hk1 : 3 ≤ kind) (hk2 : kind ≤ 9) :
    Calls Tryz.prog 12 #[.agg #[.pointer px, .pointer pw], .pointer (some ⟨bb, 0, none⟩), .agg #[.int .i64 kind, .int .i64 g, .int .i64 client, .int .i64 lane, .int .i64 place, .bool o, .string s, .int .i64 c0, .int .i64 c1, .int .i64 c2, .int .i64 c3, .int .i64 c4, .slice a n c]] w
      fun e w' => e = .returned (.bool true) ∧ DoGo own i w px pw N bb M w' := by
  rcases (show kind = 3 ∨ kind = 4 ∨ kind = 5 ∨ kind = 6 ∨ kind = 7 ∨ kind = 8 ∨ kind = 9 by omega) with rfl | rfl | rfl | rfl | rfl | rfl | rfl
  · exact does_claim own i w px pw bb N M g client lane place o s c0 c1 c2 c3 c4 a n c h hB (by omega)
  · exact does_publish own i w px pw bb N M g client lane place o s c0 c1 c2 c3 c4 a n c h hB (by omega) hp1 hp2
  · exact does_core own i w px pw bb N M g client lane place o s c0 c1 c2 c3 c4 a n c h hB (by omega)
  · exact does_poll own i w px pw bb N M g client lane place o s c0 c1 c2 c3 c4 a n c h hB (by omega)
  · exact does_acks own i w px pw bb N M g client lane place o s c0 c1 c2 c3 c4 a n c h hB (by omega) hM
  · exact does_tick own i w px pw bb N M g client lane place o s c0 c1 c2 c3 c4 a n c h hB (by omega)
  · exact does_watch own i w px pw bb N M g client lane place o s c0 c1 c2 c3 c4 a n c h hB (by omega)

abbrev Pair := Option Addr × Option Addr

def flat : List Pair → List Value
  | [] => []
  | p :: r => .pointer p.1 :: .pointer p.2 :: flat r

theorem flat_len : ∀ ts : List Pair, (flat ts).length = ts.length * 2
  | [] => rfl
  | p :: r => by simp [flat, flat_len r]; omega

theorem flat_append : ∀ (ts : List Pair) (p : Pair), flat (ts ++ [p]) = flat ts ++ [.pointer p.1, .pointer p.2]
  | [], p => rfl
  | q :: r, p => by simp [flat, flat_append r p]

theorem flat_get : ∀ (ts : List Pair) (i : Nat) (p : Pair), ts[i]? = some p → (flat ts)[i * 2]? = some (.pointer p.1) ∧ (flat ts)[i * 2 + 1]? = some (.pointer p.2)
  | [], i, p, h => by simp at h
  | q :: r, 0, p, h => by simp at h; subst h; simp [flat]
  | q :: r, i + 1, p, h => by
    have h2 := flat_get r i p (by simpa using h)
    have e1 : (i + 1) * 2 = i * 2 + 1 + 1 := by omega
    have e2 : (i + 1) * 2 + 1 = i * 2 + 1 + 1 + 1 := by omega
    rw [e1]
    simpa [flat] using h2

structure HInv (w0 w : World) (own : Nat → Nat) (ts : List Pair) (v : Value) (bb k : Nat) : Prop where
  book : BookAt own w bb k
  row : w.ownsRow w0.heap.size 35 2 v ts.length (flat ts)
  rown : ∀ b, v.ownBlock = some b → own b = 0
  twin : ∀ (i : Nat) (p : Pair), ts[i]? = some p → TwinAt own i w p.1 p.2 (k - 1)
  below : Below w0.heap.size w0 w
  old : ∀ b, b < w0.heap.size → own b = 0

section
variable {w0 w w' : World} {own own' : Nat → Nat} {ts : List Pair} {v : Value} {bb k : Nat}

theorem HInv.size (h : HInv w0 w own ts v bb k) : w0.heap.size ≤ w.heap.size := h.below.size

theorem HInv.more (h : HInv w0 w own ts v bb k) {K : Nat} (hK : k ≤ K) : HInv w0 w own ts v bb K :=
  ⟨h.book.more hK, h.row, h.rown, fun i p hp => (h.twin i p hp).more (by omega), h.below, h.old⟩

/-- Nothing of what was there has turned; what is new is nobody's. -/
theorem HInv.grow (h : HInv w0 w own ts v bb k) (hb : Below w.heap.size w w') (ho : Same own own' w) : HInv w0 w' own' ts v bb k := by
  have hk : Keep (fun _ => True) w w' := Keep.ofBelow hb
  refine ⟨h.book.keep hk (fun _ _ _ => trivial) (fun b hb _ => ho b hb), ?_, fun b hv => ?_, fun i p hp => ?_, ?_, fun b hlt => ?_⟩
  · exact h.row.kept (row := none) ⟨hb.os, hb.tape, hb.output, hb.size, fun k hk _ => hb.block k hk⟩ (by cases v.ownBlock <;> simp)
  · have := h.row.lt b hv
    rw [ho _ this.2]; exact h.rown b hv
  · exact (h.twin i p hp).keep hk (fun _ _ _ _ => trivial) ho
  · exact h.below.trans (hb.mono h.size)
  · rw [ho _ (Nat.lt_of_lt_of_le hlt h.size)]; exact h.old b hlt

theorem HInv.alloc (h : HInv w0 w own ts v bb k) (O : Obj) : HInv w0 (w.alloc O) (ext own w.heap.size 0) ts v bb k :=
  h.grow ((Below.refl _ _).alloc (Nat.le_refl _) _) (fun _ hb => ext_lt hb)

theorem HInv.drewN (h : HInv w0 w own ts v bb k) (q : Nat) : HInv w0 (w.drewN q) own ts v bb k :=
  h.grow (below_drewN (Below.refl _ _) q) (fun _ _ => rfl)

/-- A step on one pair. -/
theorem HInv.step (h : HInv w0 w own ts v bb k) (hk1 : 1 ≤ k) (i : Nat) (px pw : Option Addr) (hi : ts[i]? = some (px, pw)) (hs : DoGo own i w px pw (k - 1) bb k w') : ∃ own', HInv w0 w' own' ts v bb (k + 1) := by
  obtain ⟨own', q1, q2, q3, hk⟩ := hs
  have z : ∀ b, own b = 0 → OutT own i b ∧ own b ≠ 2 ∧ own b ≠ 3 := fun b e => ⟨outT_small (by omega), by omega, by omega⟩
  have zo : ∀ b, b < w.heap.size → own b = 0 → own' b = 0 := fun b hb e => by rw [q1 b hb (z b e).1 (z b e).2.2]; exact e
  refine ⟨own', q3, ?_, fun b hv => ?_, fun j p hp => ?_, ?_, fun b hlt => ?_⟩
  · rcases h.row with ⟨r1, ⟨r2, r3⟩ | ⟨g, cap, cur, r2, r3, r4, r5⟩⟩
    · exact ⟨r1, .inl ⟨r2, r3⟩⟩
    · have hg := h.rown g (by rw [r2]; rfl)
      exact ⟨r1, .inr ⟨g, cap, cur, r2, r3, hk.get r4 (z g hg), r5⟩⟩
  · exact zo b (h.row.lt b hv).2 (h.rown b hv)
  · by_cases e : j = i
    · subst e
      rw [hi] at hp
      simp only [Option.some.injEq] at hp
      subst hp
      exact q2.more (by omega)
    · have out : ∀ b, 200 * (j + 1) ≤ own b → own b < 200 * (j + 1) + 200 → OutT own i b := fun b h1 h2 => by
        unfold OutT
        rcases Nat.lt_or_ge j i with h3 | h3
        · left; omega
        · right; omega
      exact ((h.twin j p hp).keep2 hk (fun b _ h1 h2 => ⟨out b h1 h2, by omega, by omega⟩) (fun b hb h1 h2 => q1 b hb (out b h1 h2) (by omega))).more (by omega)
  · have k0 : Keep (fun b => b < w0.heap.size) w w' := hk.mono (fun b _ hb => z b (h.old b hb))
    exact h.below.trans (k0.below h.size)
  · exact zo b (Nat.lt_of_lt_of_le hlt h.size) (h.old b hlt)

/-- One pair more. -/
theorem HInv.append {W w3 : World} {v' : Value} (h : HInv w0 W own ts v bb k) (px pw : Option Addr) (ht : TwinAt own ts.length W px pw 0)
    (hown : w3.ownsRow w0.heap.size 35 2 v' (ts.length + 1) (flat ts ++ [.pointer px, .pointer pw])) (hg : W.grownBy w3 v.ownBlock) (hb : v'.ownBlock = v.ownBlock ∨ v'.ownBlock = some W.heap.size) :
    HInv w0 w3 (ext own W.heap.size 0) (ts ++ [(px, pw)]) v' bb (k + 1) := by
  have hk : Keep (fun b => some b ≠ v.ownBlock) W w3 := ⟨hg.os, hg.tape, hg.output, hg.size, fun k hk hs => hg.block k hk hs⟩
  have ne : ∀ b, 1 ≤ own b → some b ≠ v.ownBlock := fun b hb e => by have := h.rown b e.symm; omega
  refine ⟨(h.book.keep hk (fun b _ h => ne b (by omega)) (fun b hb _ => ext_lt hb)).more (Nat.le_succ k), ?_, fun b hv => ?_, fun j p hp => ?_, ?_, fun b hlt => ?_⟩
  · rw [flat_append]; simpa using hown
  · rcases hb with h2 | h2
    · rw [h2] at hv
      have := h.row.lt b hv
      rw [ext_lt this.2]; exact h.rown b hv
    · rw [h2] at hv
      simp only [Option.some.injEq] at hv
      rw [ext_ge (by omega)]
  · have other : ∀ {t x y M}, TwinAt own t W x y M → TwinAt (ext own W.heap.size 0) t w3 x y M := fun {t x y M} hh =>
      hh.keep hk (fun b _ hb2 _ => ne b (by omega)) (fun b hb2 => ext_lt hb2)
    rcases Nat.lt_or_ge j ts.length with hj | hj
    · rw [List.getElem?_append_left hj] at hp
      exact (other (h.twin j p hp)).more (by omega)
    · rw [List.getElem?_append_right hj] at hp
      have hj2 : j - ts.length = 0 := by
        rcases Nat.eq_zero_or_pos (j - ts.length) with h3 | h3
        · exact h3
        · rw [List.getElem?_eq_none (by simp; omega)] at hp; cases hp
      rw [hj2] at hp
      simp only [List.getElem?_cons_zero, Option.some.injEq] at hp
      subst hp
      have : j = ts.length := by omega
      subst this
      exact (other ht).more (by omega)
  · have k0 : Keep (fun b => b < w0.heap.size) W w3 := hk.mono (fun b _ hb2 e => by have := (h.row.lt b e.symm).1; omega)
    exact h.below.trans (k0.below h.size)
  · rw [ext_lt (Nat.lt_of_lt_of_le hlt h.size)]; exact h.old b hlt

theorem HInv.row_slice (h : HInv w0 w own ts v bb k) : ∃ a cap, v = .slice a ts.length cap := by
  rcases h.row.2 with ⟨r2, r3⟩ | ⟨g, cap, cur, r2, _⟩
  · exact ⟨none, 0, by rw [r2, r3]⟩
  · exact ⟨_, _, r2⟩

theorem HInv.pair (h : HInv w0 w own ts v bb k) (i : Nat) (hi : i < ts.length) :
    ∃ g cap p, v = .slice (some ⟨g, 0, none⟩) ts.length cap ∧ g < w.heap.size ∧ ts[i]? = some p ∧ w.cell? ⟨g, i * 2, none⟩ = some (.pointer p.1) ∧ w.cell? ⟨g, i * 2 + 1, none⟩ = some (.pointer p.2) := by
  rcases h.row with ⟨r1, ⟨r2, r3⟩ | ⟨g, cap, cur, r2, r3, r4, r5, r6, r7, r8⟩⟩
  · omega
  · have hp : ts[i]? = some ts[i] := List.getElem?_eq_getElem hi
    obtain ⟨f1, f2⟩ := flat_get ts i _ hp
    rw [← r8] at f1 f2
    rw [List.getElem?_take_of_lt (by omega)] at f1 f2
    exact ⟨g, cap, ts[i], r2, block_lt r4, hp, cellAt r4 (by simpa using f1), cellAt r4 (by simpa using f2)⟩
end

theorem hinv_start (w : World) : HInv w (w.alloc (.cells #[.slice none 0 0, .slice none 0 0, .int .i64 0] 41)) (fun b => if b = w.heap.size then 2 else 0) [] (.slice none 0 0) w.heap.size 0 := by
  refine ⟨⟨0, .slice none 0 0, .slice none 0 0, [], [], fun _ => 0, ⟨heap_alloc_new w _, World.ownsRow_nil _ _ _ _, World.ownsRow_nil _ _ _ _, rfl, fun i v o hv => by simp at hv, if_pos rfl, fun b hb => by simp [Value.ownBlock] at hb, fun b hb => by simp [Value.ownBlock] at hb⟩, fun i u hu => by simp at hu, Nat.le_refl _, fun o h => by simp at h, by simp⟩,
    World.ownsRow_nil _ _ _ _, fun b hb => by simp [Value.ownBlock] at hb, fun i p hp => by simp at hp, (Below.refl _ _).alloc (Nat.le_refl _) _, fun b hb => if_neg (by omega)⟩

theorem info_twin : ∃ i, Tryz.prog.info? 35 = some i ∧ i.bytes = 16 ∧ i.size = 2 ∧ i.zero = some (.agg #[.pointer none, .pointer none]) := by
  have e : (Tryz.prog.info? 35).map (fun i => (i.bytes, i.size, i.zero)) = some (16, 2, some (.agg #[.pointer none, .pointer none])) := by kernel_rfl
  obtain ⟨i, hi, he⟩ := Option.map_eq_some_iff.1 e
  simp only [Prod.mk.injEq] at he
  exact ⟨i, hi, he.1, he.2.1, he.2.2⟩

/-- A step of a script: its numbers; its frame; the settings, with the accounts' limits. -/
structure OpV where
  kind : Int
  g : Int
  client : Int
  lane : Int
  place : Int
  o : Bool
  s : ByteArray
  c0 : Int
  c1 : Int
  c2 : Int
  c3 : Int
  c4 : Int
  acc : Option Addr
  n : Nat
  c : Nat
  lim : Nat → Nat → Int

def OpV.cells (x : OpV) : List Value :=
  [.int .i64 x.kind, .int .i64 x.g, .int .i64 x.client, .int .i64 x.lane, .int .i64 x.place, .bool x.o, .string x.s, .int .i64 x.c0, .int .i64 x.c1, .int .i64 x.c2, .int .i64 x.c3, .int .i64 x.c4, .slice x.acc x.n x.c]

/-- The step reads so in w, and its numbers fit. -/
structure OpOk (w : World) (x : OpV) : Prop where
  acc : AccAt w x.acc x.n x.lim
  n : x.n ≤ 2932031007317
  g1 : -9223372036854775808 ≤ x.g
  g2 : x.g ≤ 9223372036854775807
  p1 : -9223372036854775808 ≤ x.place
  p2 : x.place ≤ 9223372036854775807

/-- The script reads so in w. -/
def ScriptAt (w : World) (a : Option Addr) (len : Nat) (ops : Nat → OpV) : Prop :=
  len = 0 ∨ ∃ b off, a = some ⟨b, off, none⟩ ∧ b < w.heap.size ∧ ∀ k, k < len → OpOk w (ops k) ∧ ∀ (j : Nat) (v : Value), (ops k).cells[j]? = some v → w.cell? ⟨b, off + k * 13 + j, none⟩ = some v

end Go.Proofs.YtjhifhoniimfgaaGreat

/-
  A script is played on both sides, step by step: all answers are alike.
-/
namespace Go.Proofs.YtjhifhoniimfgaaGreat
open Go.RowKit

theorem OpV.at {w : World} {b o : Nat} {x : OpV} (h : ∀ (j : Nat) (v : Value), x.cells[j]? = some v → w.cell? ⟨b, o + j, none⟩ = some v) :
    w.cell? ⟨b, o, none⟩ = some (.int .i64 x.kind) ∧ w.cell? ⟨b, o + 1, none⟩ = some (.int .i64 x.g) ∧ w.cell? ⟨b, o + 2, none⟩ = some (.int .i64 x.client) ∧ w.cell? ⟨b, o + 3, none⟩ = some (.int .i64 x.lane) ∧
    w.cell? ⟨b, o + 4, none⟩ = some (.int .i64 x.place) ∧ w.cell? ⟨b, o + 5, none⟩ = some (.bool x.o) ∧ w.cell? ⟨b, o + 6, none⟩ = some (.string x.s) ∧ w.cell? ⟨b, o + 7, none⟩ = some (.int .i64 x.c0) ∧
    w.cell? ⟨b, o + 8, none⟩ = some (.int .i64 x.c1) ∧ w.cell? ⟨b, o + 9, none⟩ = some (.int .i64 x.c2) ∧ w.cell? ⟨b, o + 10, none⟩ = some (.int .i64 x.c3) ∧ w.cell? ⟨b, o + 11, none⟩ = some (.int .i64 x.c4) ∧
    w.cell? ⟨b, o + 12, none⟩ = some (.slice x.acc x.n x.c) :=
  ⟨h 0 _ rfl, h 1 _ rfl, h 2 _ rfl, h 3 _ rfl, h 4 _ rfl, h 5 _ rfl, h 6 _ rfl, h 7 _ rfl, h 8 _ rfl, h 9 _ rfl, h 10 _ rfl, h 11 _ rfl, h 12 _ rfl⟩

theorem cell_two_at (w : World) (x y : Value) (t : TypeId) (n : Nat) (hn : n = w.heap.size) : ∀ j u, [x, y][j]? = some u → (w.alloc (.cells #[x, y] t)).cell? ((⟨n, 0, none⟩ : Addr).add j) = some u := by
  subst hn
  exact cell_two_new w x y t

set_option maxRecDepth 100000 in
set_option maxHeartbeats 2000000 in
theorem holds_any (last : Int) (hl1 : 2 ≤ last) (hl2 : last ≤ 9) (w : World) (a : Option Addr) (len cap : Nat) (ops : Nat → OpV) (hs : ScriptAt w a len ops) (hl : len ≤ 1099511627744) :
    Calls Tryz.prog 8 #[.slice a len cap, .int .i64 last] w fun e w' => e = .returned (.bool true) ∧ Below w.heap.size w w' := by
  have HS := hide' hs
  have H0 := hide' (hinv_start w)
  clear hs
  go_enter Tryz.func8, Tryz.ntmps8
  go_wp2
  go_loopw [5, 7] (fun av i wr => ∃ (k : Nat) (own : Nat → Nat) (ts : List Pair), k ≤ len ∧ i = .int .i64 k ∧ ts.length ≤ k ∧ HInv w wr own ts av w.heap.size k) (fun _ i _ => len - (intOf i).toNat)
  case atStart => exact ⟨0, _, [], Nat.zero_le _, rfl, Nat.le_refl _, H0.out⟩
  case round =>
    obtain ⟨k, own, ts, hk, rfl, htk, hinv⟩ := hrel
    obtain ⟨va, vc, hav⟩ := hinv.row_slice
    subst hav
    have HI := hide' hinv
    by_cases hlt : k < len
    · rcases HS.out with h0 | ⟨b, off, rfl, hbw, hops⟩
      · omega
      have hlt' : (k : Int) < (len : Int) := by omega
      obtain ⟨hok, hcells⟩ := hops k hlt
      obtain ⟨x, hx⟩ : ∃ x, x = ops k := ⟨_, rfl⟩
      rw [← hx] at hok hcells
      obtain ⟨d0, d1, d2, d3, d4, d5, d6, d7, d8, d9, d10, d11, d12⟩ := OpV.at hcells
      rw [← hinv.below.cell (p := ⟨b, _, none⟩) hbw] at d0 d1 d2 d3 d4 d5 d6 d7 d8 d9 d10 d11 d12
      have HOK := hide' hok
      have hws := hinv.size
      clear hok hcells hx hops hinv
      by_cases hk1 : x.kind < 1
      · go_wp2_with fail
        refine (bStill (HI.out.alloc _).book (by omega)).mono ?_
        rintro e w9 ⟨rfl, q9, rfl⟩
        go_wp2
        go_roundw
        case rel => exact ⟨k + 1, _, ts, by omega, by go_num, by first | omega | (simp; omega), ((HI.out.alloc _).drewN q9).more (Nat.le_succ k)⟩
        case measure => simp [intOf]; omega
      by_cases hk2 : last < x.kind
      · have hk1' : ¬ x.kind < 1 := hk1
        go_wp2_with fail
        refine (bStill (HI.out.alloc _).book (by omega)).mono ?_
        rintro e w9 ⟨rfl, q9, rfl⟩
        go_wp2
        go_roundw
        case rel => exact ⟨k + 1, _, ts, by omega, by go_num, by first | omega | (simp; omega), ((HI.out.alloc _).drewN q9).more (Nat.le_succ k)⟩
        case measure => simp [intOf]; omega
      by_cases hkd : x.kind = 1
      · have hkl : ¬ last < 1 := by omega
        clear hk1 hk2
        have HA := hide' ((HOK.out.acc.below HI.out.below).below ((Below.refl _ wr).alloc (Nat.le_refl _) (.cells #[.int .i64 x.kind, .int .i64 x.g, .int .i64 x.client, .int .i64 x.lane, .int .i64 x.place, .bool x.o, .string x.s, .int .i64 x.c0, .int .i64 x.c1, .int .i64 x.c2, .int .i64 x.c3, .int .i64 x.c4, .slice x.acc x.n x.c] 45)))
        rw [hkd] at HA
        cases hm : mayB x.c0 x.c1 x.c2 x.c3 x.c4 x.n x.lim
        · go_wp2_with fail
          refine (made_no x.c0 x.c1 x.c2 x.c3 x.c4 x.acc x.n x.c x.lim _ HA.out HOK.out.n hm).mono ?_
          rintro e w2 ⟨rfl, hb2⟩
          have HI2 := hide' ((HI.out.alloc _).grow hb2 (fun _ _ => rfl))
          clear hb2 HA
          go_wp2_with fail
          refine (bStill (HI2.out.alloc _).book (by omega)).mono ?_
          rintro e w9 ⟨rfl, q9, rfl⟩
          go_wp2
          go_roundw
          case rel => exact ⟨k + 1, _, ts, by omega, by go_num, by first | omega | (simp; omega), ((HI2.out.alloc _).drewN q9).more (Nat.le_succ k)⟩
          case measure => simp [intOf]; omega
        · go_wp2_with fail
          refine (made_yes (ext own wr.heap.size 0) ts.length x.c0 x.c1 x.c2 x.c3 x.c4 x.acc x.n x.c x.lim _ HA.out HOK.out.n hm).mono ?_
          rintro e w2 ⟨bx, bY, rfl, hb2, own2, q1, tw⟩
          have hi2 : HInv w w2 own2 ts (.slice va ts.length vc) w.heap.size k := (HI.out.alloc _).grow hb2 q1
          have HI2 : Hid (HInv w ((w2.alloc (.cells #[.pointer (some ⟨bx, 0, none⟩), .pointer (some ⟨bY, 0, none⟩)] 35)).alloc (.cells #[.pointer (some ⟨bx, 0, none⟩), .pointer (some ⟨bY, 0, none⟩)] 35)) (ext (ext own2 w2.heap.size 0) (w2.heap.size + 1) 0) ts (.slice va ts.length vc) w.heap.size k) := by
            have hj := (hi2.alloc (.cells #[.pointer (some ⟨bx, 0, none⟩), .pointer (some ⟨bY, 0, none⟩)] 35)).alloc (.cells #[.pointer (some ⟨bx, 0, none⟩), .pointer (some ⟨bY, 0, none⟩)] 35)
            show HInv _ _ _ _ _ _ _
            simpa using hj
          have HT2 : Hid (TwinAt (ext (ext own2 w2.heap.size 0) (w2.heap.size + 1) 0) ts.length ((w2.alloc (.cells #[.pointer (some ⟨bx, 0, none⟩), .pointer (some ⟨bY, 0, none⟩)] 35)).alloc (.cells #[.pointer (some ⟨bx, 0, none⟩), .pointer (some ⟨bY, 0, none⟩)] 35)) (some ⟨bx, 0, none⟩) (some ⟨bY, 0, none⟩) 0) :=
            tw.keep (S := fun _ => True) (((Keep.refl _ _).alloc _).alloc _) (fun _ _ _ _ => trivial) (fun b hb => by rw [ext_lt (by omega), ext_lt hb])
          have hsz2 : w.heap.size ≤ w2.heap.size := hi2.size
          clear hb2 HA q1 tw hi2
          obtain ⟨it, ht1, ht2, ht3, ht4⟩ := info_twin
          have HT := hide' (show Tryz.prog.info? 35 = some it ∧ it.bytes = 16 ∧ it.size = 2 ∧ it.zero = some (.agg #[.pointer none, .pointer none]) from ⟨ht1, ht2, ht3, ht4⟩)
          clear ht1 ht2 ht3 ht4
          go_wp2_with (at_builtin; go_must (refine wpList_append_own_at _ rfl _ _ 55 rfl w.heap.size 35 it (.agg #[.pointer none, .pointer none]) 2 16 Tryz.underlying55 HT.out.1 HT.out.2.2.2 HT.out.2.2.1 HT.out.2.1 rfl (by decide) (.slice va ts.length vc) ts.length (flat ts) rfl (HI2.out).row ⟨w2.heap.size + 1, 0, none⟩ 1 1 [.pointer (some ⟨bx, 0, none⟩), .pointer (some ⟨bY, 0, none⟩)] rfl rfl (cell_two_at _ _ _ _ _ (by simp)) (fun x hx => by simp at hx; rcases hx with rfl | rfl <;> rfl) (by unfold maxLen; omega) (by omega) (by simp; omega) ?_))
          intro v3 w3 hown3 hg3 _ hb3
          have HJ : Hid (HInv w w3 (ext (ext (ext own2 w2.heap.size 0) (w2.heap.size + 1) 0) (w2.heap.size + 1 + 1) 0) (ts ++ [((some ⟨bx, 0, none⟩), (some ⟨bY, 0, none⟩))]) v3 w.heap.size (k + 1)) := by
            have hj := (HI2.out).append (some ⟨bx, 0, none⟩) (some ⟨bY, 0, none⟩) HT2.out hown3 hg3 (by simpa using hb3)
            show HInv _ _ _ _ _ _ _
            simpa using hj
          clear hown3 hg3 hb3
          go_wp2_with fail
          refine (bStill (HJ.out).book (by omega)).mono ?_
          rintro e w9 ⟨rfl, q9, rfl⟩
          go_wp2
          go_roundw
          case rel => exact ⟨k + 1, _, (ts ++ [((some ⟨bx, 0, none⟩), (some ⟨bY, 0, none⟩))]), by omega, by go_num, by first | omega | (simp; omega), (HJ.out).drewN q9⟩
          case measure => simp [intOf]; omega
      by_cases hkd2 : x.kind = 2
      · have hkl : ¬ last < 2 := by omega
        clear hk1 hk2 hkd
        have HI2 : Hid (HInv w ((wr.alloc (.cells #[.int .i64 x.kind, .int .i64 x.g, .int .i64 x.client, .int .i64 x.lane, .int .i64 x.place, .bool x.o, .string x.s, .int .i64 x.c0, .int .i64 x.c1, .int .i64 x.c2, .int .i64 x.c3, .int .i64 x.c4, .slice x.acc x.n x.c] 45)).alloc (.cells #[.pointer none, .pointer none] 35)) (ext (ext own wr.heap.size 0) (wr.heap.size + 1) 0) ts (.slice va ts.length vc) w.heap.size k) := by
          have hj := (HI.out.alloc (.cells #[.int .i64 x.kind, .int .i64 x.g, .int .i64 x.client, .int .i64 x.lane, .int .i64 x.place, .bool x.o, .string x.s, .int .i64 x.c0, .int .i64 x.c1, .int .i64 x.c2, .int .i64 x.c3, .int .i64 x.c4, .slice x.acc x.n x.c] 45)).alloc (.cells #[.pointer none, .pointer none] 35)
          show HInv _ _ _ _ _ _ _
          simpa using hj
        rw [hkd2] at HI2
        obtain ⟨it, ht1, ht2, ht3, ht4⟩ := info_twin
        have HT := hide' (show Tryz.prog.info? 35 = some it ∧ it.bytes = 16 ∧ it.size = 2 ∧ it.zero = some (.agg #[.pointer none, .pointer none]) from ⟨ht1, ht2, ht3, ht4⟩)
        clear ht1 ht2 ht3 ht4
        go_wp2_with (at_builtin; go_must (refine wpList_append_own_at _ rfl _ _ 55 rfl w.heap.size 35 it (.agg #[.pointer none, .pointer none]) 2 16 Tryz.underlying55 HT.out.1 HT.out.2.2.2 HT.out.2.2.1 HT.out.2.1 rfl (by decide) (.slice va ts.length vc) ts.length (flat ts) rfl (HI2.out).row ⟨wr.heap.size + 1, 0, none⟩ 1 1 [.pointer none, .pointer none] rfl rfl (cell_two_at _ _ _ _ _ (by simp)) (fun x hx => by simp at hx; rcases hx with rfl | rfl <;> rfl) (by unfold maxLen; omega) (by omega) (by simp; omega) ?_))
        intro v3 w3 hown3 hg3 _ hb3
        have HJ : Hid (HInv w w3 (ext (ext (ext own wr.heap.size 0) (wr.heap.size + 1) 0) (wr.heap.size + 1 + 1) 0) (ts ++ [(none, none)]) v3 w.heap.size (k + 1)) := by
          have hj := (HI2.out).append none none (.inl ⟨rfl, rfl⟩) hown3 hg3 (by simpa using hb3)
          show HInv _ _ _ _ _ _ _
          simpa using hj
        clear hown3 hg3 hb3
        go_wp2_with fail
        refine (bStill (HJ.out).book (by omega)).mono ?_
        rintro e w9 ⟨rfl, q9, rfl⟩
        go_wp2
        go_roundw
        case rel => exact ⟨k + 1, _, (ts ++ [(none, none)]), by omega, by go_num, by first | omega | (simp; omega), (HJ.out).drewN q9⟩
        case measure => simp [intOf]; omega
      have hkn1 : (x.kind == 1) = false := by simp; omega
      have hkn2 : (x.kind == 2) = false := by simp; omega
      have hk3 := hide' (show 3 ≤ x.kind by omega)
      have hk9 := hide' (show x.kind ≤ 9 by omega)
      clear hkd hkd2
      by_cases hts : ts.length = 0
      · have hts' : ¬ (0 : Int) < (ts.length : Int) := by omega
        clear hts
        go_wp2_with fail
        refine (bStill (HI.out.alloc _).book (by omega)).mono ?_
        rintro e w9 ⟨rfl, q9, rfl⟩
        go_wp2
        go_roundw
        case rel => exact ⟨k + 1, _, ts, by omega, by go_num, by first | omega | (simp; omega), ((HI.out.alloc _).drewN q9).more (Nat.le_succ k)⟩
        case measure => simp [intOf]; omega
      · have hts' : (0 : Int) < (ts.length : Int) := by omega
        have hpos : 0 < ts.length := by omega
        have hlt2 := pickN_lt x.g ts.length hpos
        have hlt3 : (pickN x.g ts.length : Int) < (ts.length : Int) := by omega
        obtain ⟨gv, cv, p, hv, hgv, hp, f1, f2⟩ := HI.out.pair (pickN x.g ts.length) hlt2
        simp only [Value.slice.injEq, true_and] at hv
        obtain ⟨rfl, rfl⟩ := hv
        have hq := fun w => pick_any x.g ts.length w hpos (by omega) HOK.out.g1 HOK.out.g2
        have HID : Hid (HInv w (wr.alloc (.cells #[.int .i64 x.kind, .int .i64 x.g, .int .i64 x.client, .int .i64 x.lane, .int .i64 x.place, .bool x.o, .string x.s, .int .i64 x.c0, .int .i64 x.c1, .int .i64 x.c2, .int .i64 x.c3, .int .i64 x.c4, .slice x.acc x.n x.c] 45)).drew (ext own wr.heap.size 0) ts (.slice (some ⟨gv, 0, none⟩) ts.length vc) w.heap.size k) := by
          rw [World.drew_is_drewN]; exact (HI.out.alloc _).drewN 1
        have HTW := hide' (HID.out.twin _ p hp)
        have HP := hide' hp
        have hk1' : ¬ x.kind < 1 := hk1
        clear hp
        go_wp2_with fail
        go_region_with (first | (go_at_call 11; refine (hq _).mono ?_; rintro e w' ⟨rfl, rfl⟩) | (go_at_call 12; refine (does_any (ext own wr.heap.size 0) (pickN x.g ts.length) _ p.1 p.2 w.heap.size (k - 1) k x.kind x.g x.client x.lane x.place x.o x.s x.c0 x.c1 x.c2 x.c3 x.c4 x.acc x.n x.c HTW.out HID.out.book (by omega) (by omega) HOK.out.p1 HOK.out.p2 hk3.out hk9.out).mono ?_; rintro e w4 ⟨rfl, hpub⟩))
        all_goals
          obtain ⟨own4, hi4⟩ := HID.out.step (by omega) (pickN x.g ts.length) p.1 p.2 HP.out hpub
          have HI4 := hide' hi4
          clear hi4 hpub f1 f2 HID HTW hq
          go_wp2_with fail
          refine (bStill (HI4.out).book (by omega)).mono ?_
          rintro e w9 ⟨rfl, q9, rfl⟩
          go_wp2
          go_roundw
          case rel => exact ⟨k + 1, _, ts, by omega, by go_num, by first | omega | (simp; omega), (HI4.out).drewN q9⟩
          case measure => simp [intOf]; omega
    · have hge : ¬ (k : Int) < (len : Int) := by omega
      have HB := hide' HI.out.below
      go_wp2
      go_ret
      exact ⟨rfl, HB.out⟩

end Go.Proofs.YtjhifhoniimfgaaGreat

/-
  The document's example, as far as places go.
-/
namespace Go.Proofs.YtjhifhoniimfgaaGreat
open Go.RowKit

theorem hideE {p : Prop} (h : p) : Hid p := h

def exLim (_ j : Nat) : Int := if j = 0 then 10 else if j = 1 then 12 else if j = 3 then 1000 else if j = 4 then 2 else if j = 5 then 5 else 0

set_option maxHeartbeats 400000 in
theorem example_any (w : World) :
    Calls Tryz.prog 15 #[] w fun e w' => ∃ b, e = .returned (.agg #[.int .i64 1, .int .i64 2, .int .i64 2, .int .i64 2, .int .i64 2, .slice (some ⟨b, 0, none⟩) 1 1]) ∧ Below w.heap.size w w' ∧ AccAt w' (some ⟨b, 0, none⟩) 1 exLim := by
  go_enter Tryz.func15, Tryz.ntmps15
  go_wp2
  refine bodyPost_ret (v := .agg #[.int .i64 1, .int .i64 2, .int .i64 2, .int .i64 2, .int .i64 2, .slice (some ⟨w.heap.size + 1, 0, none⟩) 1 1]) (by simp [results, Tryz.results15, go_sem]) rfl ?_
  refine ⟨w.heap.size + 1, rfl, ((Below.refl _ _).alloc (Nat.le_refl _) _).alloc (by simp) _, .inr ⟨w.heap.size + 1, 0, rfl, fun k j hk hj => ?_⟩⟩
  obtain rfl : k = 0 := by omega
  have hb := heap_alloc_new (w.alloc (.cells #[.int .i64 1, .int .i64 2, .int .i64 2, .int .i64 2, .int .i64 2, .slice (some ⟨w.heap.size + 1, 0, none⟩) 1 1] 30)) (.cells #[.int .i64 10, .int .i64 12, .int .i64 0, .int .i64 1000, .int .i64 2, .int .i64 5] 62)
  rw [World.size_alloc] at hb
  refine cellAt hb ?_
  rcases (show j = 0 ∨ j = 1 ∨ j = 2 ∨ j = 3 ∨ j = 4 ∨ j = 5 by omega) with rfl | rfl | rfl | rfl | rfl | rfl <;> rfl

theorem make_bytes (n : Nat) (h : n ≤ 8) (w : World) :
    (Instr.makeSlice 149 (.int .i64 n) (.int .i64 n)).run Tryz.prog w = .ok (.slice (some ⟨w.heap.size, 0, none⟩) n n) (w.alloc (.cells (madeCells #[.int .u8 0] n) 5)) := by
  have e : (Tryz.prog.info? 5).map (fun i => (i.bytes, i.size, i.zero)) = some (1, 1, some (.int .u8 0)) := by kernel_rfl
  obtain ⟨i, hi, he⟩ := Option.map_eq_some_iff.1 e
  simp only [Prod.mk.injEq] at he
  obtain ⟨hb, hs, hz⟩ := he
  have := run_make (P := Tryz.prog) w 149 5 i _ Tryz.underlying149 hi hz .i64 .i64 (n : Int) (n : Int) (by omega) (by omega) (by rw [hb]; omega) (by omega)
  rw [this]
  simp [hs, Value.cells]

/-- Block L holds these bytes. -/
def BytesAt (w : World) (L : Nat) (xs : List Int) : Prop := w.heap[L]? = some (.cells (xs.map (Value.int .u8)).toArray 5 (0, 0))

theorem BytesAt.cell {w : World} {L : Nat} {xs : List Int} (h : BytesAt w L xs) (i : Nat) (hi : i < xs.length) : w.cell? ⟨L, i, none⟩ = some (.int .u8 (xs.getD i 0)) := by
  refine cellAt h ?_
  simp [List.getD, List.getElem?_eq_getElem hi]

theorem BytesAt.set {w : World} {L : Nat} {xs : List Int} (h : BytesAt w L xs) (i : Nat) (y : Int) : BytesAt (w.setCell ⟨L, i, none⟩ (.int .u8 y)) L (xs.set i y) := by
  show _ = _
  rw [heap_setCell_at _ h]
  simp

theorem bytes_made (n : Nat) : madeCells #[.int .u8 0] n = ((List.replicate n (0 : Int)).map (Value.int .u8)).toArray := by
  refine Array.ext (by simp [madeCells]) fun i h1 h2 => ?_
  simp [madeCells, Nat.mod_one]

/-- The bytes of a number, from the last to the first. -/
def finB : Int → List Int → Nat → List Int
  | _, xs, 0 => xs
  | y, xs, j + 1 => finB (y / 256) (xs.set j (y % 256)) j

theorem finB_len : ∀ (j : Nat) (y : Int) (xs : List Int), (finB y xs j).length = xs.length
  | 0, _, _ => rfl
  | j + 1, y, xs => by rw [finB, finB_len j]; simp

set_option maxHeartbeats 1000000 in
theorem bytes_any (n : Int) (many : Nat) (h : many ≤ 8) (w : World) :
    Calls Tryz.prog 42 #[.int .i64 n, .int .i64 many] w fun e w' => e = .returned (.string (strOfNums (finB n (List.replicate many 0) many))) ∧ Below w.heap.size w w' := by
  have hmk := make_bytes many h
  rw [bytes_made] at hmk
  have B0 : Hid (BytesAt (w.alloc (.cells ((List.replicate many (0 : Int)).map (Value.int .u8)).toArray 5)) w.heap.size (List.replicate many 0)) := heap_alloc_new w _
  generalize hxs : List.replicate many (0 : Int) = xs0 at *
  have hlen : xs0.length = many := by rw [← hxs]; simp
  have HLEN : Hid (xs0.length = many) := hlen
  obtain ⟨F, hF⟩ : ∃ F, F = finB n xs0 many := ⟨_, rfl⟩
  have HF := hideE hF
  rw [← hF]
  clear hF
  generalize hcs : (xs0.map (Value.int .u8)).toArray = cs0 at *
  clear hxs hlen hcs
  go_enter Tryz.func42, Tryz.ntmps42
  go_wp2
  clear hmk
  go_loopw [0, 6] (fun nv i wr => ∃ (y : Int) (xs : List Int), nv = .int .i64 y ∧ xs.length = many ∧ BytesAt wr w.heap.size xs ∧ Below w.heap.size w wr ∧ ((i = .int .i64 (-1) ∧ finB y xs 0 = F) ∨ ∃ j : Nat, j < many ∧ i = .int .i64 j ∧ finB y xs (j + 1) = F)) (fun _ i _ => (intOf i + 1).toNat)
  case atStart =>
    refine ⟨n, xs0, rfl, HLEN.out, B0.out, (Below.refl _ _).alloc (Nat.le_refl _) _, ?_⟩
    by_cases hm : many = 0
    · left; rw [hm]; exact ⟨rfl, by rw [HF.out, hm]⟩
    · right; exact ⟨many - 1, by omega, by congr 1; omega, by rw [HF.out, show many - 1 + 1 = many by omega]⟩
  case round =>
    obtain ⟨y, xs, rfl, hxl, hby, hbl, hi⟩ := hrel
    have HX : Hid (xs.length = many) := hxl
    have HBY : Hid (BytesAt wr w.heap.size xs) := hby
    clear hxl hby
    rcases hi with ⟨rfl, hfin⟩ | ⟨j, hj, rfl, hfin⟩
    · have hcv := run_convert_bytes_arg (P := Tryz.prog) wr 149 5 Tryz.underlying149 Tryz.underlying5 w.heap.size 0 many many xs HX.out (fun i hi => by rw [Nat.zero_add]; exact HBY.out.cell i (by rw [HX.out]; exact hi)) 9 Tryz.underlying9
      have HFIN := hideE hfin
      clear hfin
      go_wp2
      go_ret
      exact ⟨by rw [← HFIN.out]; rfl, hbl⟩
    · have hc := HBY.out.cell j (by rw [HX.out]; exact hj)
      have hz : wr.frozen? ⟨w.heap.size, j, none⟩ = false := frozenAt HBY.out
      have hj' : (j : Int) < (many : Int) := by omega
      have HFIN := hideE hfin
      clear hfin
      go_wp2
      go_roundw
      case rel =>
        refine ⟨_, xs.set j (y % 256), rfl, by rw [List.length_set]; exact HX.out, HBY.out.set j _, hbl.setCell (p := ⟨w.heap.size, j, none⟩) (Nat.le_refl _) _, ?_⟩
        by_cases e : j = 0
        · left; subst e; exact ⟨rfl, HFIN.out⟩
        · right
          refine ⟨j - 1, by omega, by congr 1; omega, ?_⟩
          rw [show j - 1 + 1 = j by omega]
          exact HFIN.out
      case measure => simp [intOf]

/-- The document's order. -/
def exOrder : ByteArray := ⟨#[1, 0, 0, 0, 0, 0, 0, 7, 0, 0, 0, 0, 0, 0, 0, 5, 0, 0, 0, 0, 0, 0, 0, 10, 0, 0, 0, 0, 0, 0, 0, 3]⟩

/-- An order's frame. -/
def orderB (a b c d e : Int) : ByteArray :=
  ((((((⟨#[1, 0]⟩ : ByteArray) ++ strOfNums (finB a (List.replicate 1 0) 1)) ++ (⟨#[0]⟩ : ByteArray)) ++ strOfNums (finB b (List.replicate 4 0) 4)) ++ strOfNums (finB c (List.replicate 8 0) 8)) ++ strOfNums (finB d (List.replicate 8 0) 8)) ++ strOfNums (finB e (List.replicate 8 0) 8)

set_option maxHeartbeats 1000000 in
theorem order_any (a b c d e : Int) (w : World) :
    Calls Tryz.prog 18 #[.int .i64 a, .int .i64 b, .int .i64 c, .int .i64 d, .int .i64 e] w fun r w' => r = .returned (.string (orderB a b c d e)) ∧ Below w.heap.size w w' := by
  have h1 := fun w => bytes_any a 1 (by omega) w
  have h2 := fun w => bytes_any b 4 (by omega) w
  have h3 := fun w => bytes_any c 8 (by omega) w
  have h4 := fun w => bytes_any d 8 (by omega) w
  have h5 := fun w => bytes_any e 8 (by omega) w
  have z1 : (strOfNums (finB a (List.replicate 1 0) 1)).size = 1 := by rw [strOfNums_size, finB_len]; simp
  have z2 : (strOfNums (finB b (List.replicate 4 0) 4)).size = 4 := by rw [strOfNums_size, finB_len]; simp
  have z3 : (strOfNums (finB c (List.replicate 8 0) 8)).size = 8 := by rw [strOfNums_size, finB_len]; simp
  have z4 : (strOfNums (finB d (List.replicate 8 0) 8)).size = 8 := by rw [strOfNums_size, finB_len]; simp
  have z5 : (strOfNums (finB e (List.replicate 8 0) 8)).size = 8 := by rw [strOfNums_size, finB_len]; simp
  unfold orderB
  generalize strOfNums (finB a (List.replicate 1 0) 1) = s1 at *
  generalize strOfNums (finB b (List.replicate 4 0) 4) = s2 at *
  generalize strOfNums (finB c (List.replicate 8 0) 8) = s3 at *
  generalize strOfNums (finB d (List.replicate 8 0) 8) = s4 at *
  generalize strOfNums (finB e (List.replicate 8 0) 8) = s5 at *
  go_enter Tryz.func18, Tryz.ntmps18
  go_wp2_with fail
  refine (h1 _).mono ?_
  rintro r w1 ⟨rfl, b1⟩
  go_wp2_with fail
  refine (h2 _).mono ?_
  rintro r w2 ⟨rfl, b2⟩
  go_wp2_with fail
  refine (h3 _).mono ?_
  rintro r w3 ⟨rfl, b3⟩
  go_wp2_with fail
  refine (h4 _).mono ?_
  rintro r w4 ⟨rfl, b4⟩
  go_wp2_with fail
  refine (h5 _).mono ?_
  rintro r w5 ⟨rfl, b5⟩
  go_wp2_with fail
  go_ret
  have l1 := b1.size
  have l2 := b2.size
  have l3 := b3.size
  have l4 := b4.size
  exact ⟨rfl, (((b1.trans (b2.mono (by omega))).trans (b3.mono (by omega))).trans (b4.mono (by omega))).trans (b5.mono (by omega))⟩

theorem ex_order : orderB 0 7 5 10 3 = exOrder := by decide +kernel

theorem ex_may : mayB 1 2 2 2 2 1 exLim = true := by decide

end Go.Proofs.YtjhifhoniimfgaaGreat

