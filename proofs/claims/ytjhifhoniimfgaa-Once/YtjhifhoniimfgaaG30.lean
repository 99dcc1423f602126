import Derived.Test.YtjhifhoniimfgaaG29
import Derived.BigRegion
/-
  A game in memory, with its gate.
-/
namespace Go.Proofs.Ytjhifhoniimfgaa
open Go.RowKit

/-- What the game's own block says. -/
def vOf (s : St) (st0 st1 : Bool) : XV := ⟨s.n, s.an, s.ch, s.t, s.time, st0, st1, s.shut, false⟩

/-- Claims and takes weigh sixteen, every other call one. -/
def Wt (s : St) (N : Nat) : Prop := ∀ i, i < 2 → 16 * (s.m i + s.t i) ≤ N + 32

theorem Wt.more {s : St} {N M : Nat} (h : Wt s N) (hM : N ≤ M) : Wt s M := fun i hi => Nat.le_trans (h i hi) (Nat.add_le_add_right hM 32)

theorem Wt.same {s s' : St} {N M : Nat} (h : Wt s N) (hm : s'.m = s.m) (ht : s'.t = s.t) (hM : N ≤ M) : Wt s' M := fun i hi => by
  rw [hm, ht]; exact h.more hM i hi

/-- A game in memory (tags: the gate's T .., the game's T + 100, T + 101). -/
structure GM (own : Nat → Nat) (T : Nat) (w : World) (B : GB) (X : XB) (st0 st1 : Bool) (x : Gm) (N : Nat) : Prop where
  pg : PG own T w B x.s N
  ok : Ok x.s N
  at_ : XAt own (T + 100) w X x.s.lim (vOf x.s st0 st1) x.L
  gb : X.gb = B.gb
  inv : GInv x
  sz : Wt x.s N

def GAt (own : Nat → Nat) (T : Nat) (w : World) (xb : Nat) (x : Gm) (N : Nat) : Prop := ∃ B X st0 st1, GM own T w B X st0 st1 x N ∧ X.xb = xb

/-- The blocks that are not of this game. -/
def OutG (own : Nat → Nat) (T : Nat) : Nat → Prop := fun b => own b < T ∨ T + 102 ≤ own b

/-- What a call leaves. -/
def GGo (own : Nat → Nat) (T : Nat) (w : World) (xb : Nat) (x' : Gm) (N : Nat) (w' : World) : Prop := ∃ own', GAt own' T w' xb x' N ∧ (∀ b, b < w.heap.size → OutG own T b → OutG own' T b) ∧ Keep (OutG own T) w w'

theorem GAt.inv {own : Nat → Nat} {T : Nat} {w : World} {xb : Nat} {x : Gm} {N : Nat} (h : GAt own T w xb x N) : GInv x := by
  obtain ⟨B, X, st0, st1, hm, _⟩ := h; exact hm.inv
theorem GAt.ok {own : Nat → Nat} {T : Nat} {w : World} {xb : Nat} {x : Gm} {N : Nat} (h : GAt own T w xb x N) : Ok x.s N := by
  obtain ⟨B, X, st0, st1, hm, _⟩ := h; exact hm.ok

theorem Wt.size {x : Gm} {N : Nat} (h : Wt x.s N) (ho : Ok x.s N) (hi : GInv x) (hN : N < 281000000000000) : Sz x.s := by
  have h0 := h 0 (by omega)
  have h1 := h 1 (by omega)
  have t0 := (ho.mt 0 (by omega)).1
  have t1 := (ho.mt 1 (by omega)).1
  refine ⟨fun a _ => ?_, fun c hc => ?_⟩
  · have := hi.bk a
    omega
  · rw [hi.cl] at hc
    have := hi.ak c hc
    omega

theorem GAt.wt {own : Nat → Nat} {T : Nat} {w : World} {xb : Nat} {x : Gm} {N : Nat} (h : GAt own T w xb x N) : Wt x.s N := by
  obtain ⟨B, X, st0, st1, hm, _⟩ := h; exact hm.sz

theorem GM.keep {own own' : Nat → Nat} {T : Nat} {S : Nat → Prop} {w w' : World} {B : GB} {X : XB} {st0 st1 : Bool} {x : Gm} {N : Nat} (h : GM own T w B X st0 st1 x N) (hk : Keep S w w') (hs : ∀ b, b < w.heap.size → T ≤ own b → own b < T + 102 → S b) (ho : Same own own' w) : GM own' T w' B X st0 st1 x N :=
  ⟨h.pg.keep h.ok.cl.2 h.ok.na.2 hk (fun b h1 h2 h3 => hs b h1 h2 (by omega)) ho, h.ok, h.at_.keep hk (fun b h1 h2 => hs b h1 (by omega) (by omega)) (fun b hb _ => ho b hb), h.gb, h.inv, h.sz⟩

theorem GAt.keep {own own' : Nat → Nat} {T : Nat} {S : Nat → Prop} {w w' : World} {xb : Nat} {x : Gm} {N : Nat} (h : GAt own T w xb x N) (hk : Keep S w w') (hs : ∀ b, b < w.heap.size → T ≤ own b → own b < T + 102 → S b) (ho : Same own own' w) : GAt own' T w' xb x N := by
  obtain ⟨B, X, st0, st1, hm, e⟩ := h
  exact ⟨B, X, st0, st1, hm.keep hk hs ho, e⟩

theorem GAt.more {own : Nat → Nat} {T : Nat} {w : World} {xb : Nat} {x : Gm} {N M : Nat} (h : GAt own T w xb x N) (hM : N ≤ M) : GAt own T w xb x M := by
  obtain ⟨B, X, st0, st1, hm, e⟩ := h
  exact ⟨B, X, st0, st1, ⟨hm.pg.more hM, hm.ok.more hM, hm.at_, hm.gb, hm.inv, hm.sz.more hM⟩, e⟩

theorem GGo.more {own : Nat → Nat} {T : Nat} {w w' : World} {xb : Nat} {x : Gm} {N M : Nat} (h : GGo own T w xb x N w') (hM : N ≤ M) : GGo own T w xb x M w' := by
  obtain ⟨own', h1, h2, h3⟩ := h
  exact ⟨own', h1.more hM, h2, h3⟩

theorem GGo.refl {own : Nat → Nat} {T : Nat} {w w' : World} {xb : Nat} {x : Gm} {N : Nat} (h : GAt own T w xb x N) (hk : Keep (fun _ => True) w w') : GGo own T w xb x N w' :=
  ⟨own, h.keep hk (fun _ _ _ _ => trivial) (Same.refl _ _), fun _ _ h => h, hk.mono (fun _ _ _ => trivial)⟩

theorem GGo.trans {own own1 : Nat → Nat} {T : Nat} {w w1 w2 : World} {xb : Nat} {x2 : Gm} {N : Nat} (ho : ∀ b, b < w.heap.size → OutG own T b → OutG own1 T b) (hk : Keep (OutG own T) w w1) (h : GGo own1 T w1 xb x2 N w2) : GGo own T w xb x2 N w2 := by
  obtain ⟨own', h1, h2, h3⟩ := h
  exact ⟨own', h1, fun b hb hO => h2 b (Nat.lt_of_lt_of_le hb hk.size) (ho b hb hO), hk.trans' h3 ho⟩

theorem Same.outG {own own' : Nat → Nat} {w : World} (h : Same own own' w) (T : Nat) : ∀ b, b < w.heap.size → OutG own T b → OutG own' T b := fun b hb hO => by
  unfold OutG at hO ⊢
  rw [h b hb]
  exact hO

/-- The gate's own call: the game's blocks stay. -/
theorem GM.call {own own' : Nat → Nat} {T : Nat} {w w' : World} {B B' : GB} {X : XB} {st0 st1 : Bool} {x : Gm} {N M : Nat} {s' : St} (h : GM own T w B X st0 st1 x N) (hp : PG own' T w' B' s' M) (hb : B.Like B') (ho : Same own own' w) (hk : Keep (Out own T) w w') :
    PG own' T w' B' s' M ∧ XAt own' (T + 100) w' X x.s.lim (vOf x.s st0 st1) x.L ∧ X.gb = B'.gb ∧ Keep (OutG own T) w w' :=
  ⟨hp, h.at_.keep hk (fun b h1 h2 => .inr (by omega)) (fun b hb _ => ho b hb), by rw [hb.gb]; exact h.gb, hk.mono (fun b _ hb => by unfold OutG at hb; unfold Out; omega)⟩

/-- Only blocks of the game itself have turned. -/
theorem keep_own {own : Nat → Nat} {T : Nat} {w w' : World} (h : Keep (fun b => own b ≠ T + 100) w w') : Keep (OutG own T) w w' :=
  h.mono (fun b _ hb => by unfold OutG at hb; omega)

/-- A cell of a row. -/
theorem XAt.rowcell {own : Nat → Nat} {T : Nat} {w : World} {X : XB} {lim : Nat → Nat → Int} {v : XV} {L : Nat → List Snt} (h : XAt own T w X lim v L) (i : Nat) (hi : i < 2) (hn : 0 < (L i).length) :
    ∃ r cap, X.lv i = .slice (some ⟨r, 0, none⟩) (L i).length cap ∧ (∀ k, k < (L i).length → w.cell? ⟨r, k, none⟩ = some (.pointer (some ⟨X.pb i k, 0, none⟩))) ∧ r < w.heap.size ∧ own r = T := by
  obtain ⟨r, cap, cs, h1, h2, h3⟩ := ownsRow_cells (h.row i hi) hn
  exact ⟨r, cap, h1, fun k hk => cellAt h2 (h3 k _ (rowP_get _ _ k hk)), block_lt h2, h.orow i r hi (by rw [h1]; rfl)⟩

theorem XAt.laneV {own : Nat → Nat} {T : Nat} {w : World} {X : XB} {lim : Nat → Nat → Int} {v : XV} {L : Nat → List Snt} (h : XAt own T w X lim v L) (i : Nat) (hi : i < 2) : ∃ a cap, X.lv i = .slice a (L i).length cap := by
  rcases (h.row i hi).2 with ⟨q, e⟩ | ⟨g', cap', cur, q, _⟩
  · exact ⟨none, 0, by rw [q, e]⟩
  · exact ⟨_, _, q⟩

theorem XAt.c0 {own : Nat → Nat} {T : Nat} {w : World} {X : XB} {lim : Nat → Nat → Int} {v : XV} {L : Nat → List Snt} (h : XAt own T w X lim v L) : w.cell? ⟨X.xb, 0, none⟩ = some (.pointer (some ⟨X.gb, 0, none⟩)) := cellAt (i := 0) h.game rfl
theorem XAt.c2 {own : Nat → Nat} {T : Nat} {w : World} {X : XB} {lim : Nat → Nat → Int} {v : XV} {L : Nat → List Snt} (h : XAt own T w X lim v L) : w.cell? ⟨X.xb, 2, none⟩ = some (.int .i64 (v.n 0)) := cellAt (i := 2) h.game rfl
theorem XAt.c3 {own : Nat → Nat} {T : Nat} {w : World} {X : XB} {lim : Nat → Nat → Int} {v : XV} {L : Nat → List Snt} (h : XAt own T w X lim v L) : w.cell? ⟨X.xb, 3, none⟩ = some (.int .i64 (v.n 1)) := cellAt (i := 3) h.game rfl
theorem XAt.c4 {own : Nat → Nat} {T : Nat} {w : World} {X : XB} {lim : Nat → Nat → Int} {v : XV} {L : Nat → List Snt} (h : XAt own T w X lim v L) : w.cell? ⟨X.xb, 4, none⟩ = some (.int .i64 v.an) := cellAt (i := 4) h.game rfl
theorem XAt.c5 {own : Nat → Nat} {T : Nat} {w : World} {X : XB} {lim : Nat → Nat → Int} {v : XV} {L : Nat → List Snt} (h : XAt own T w X lim v L) : w.cell? ⟨X.xb, 5, none⟩ = some (.int .i64 v.ch) := cellAt (i := 5) h.game rfl
theorem XAt.c6 {own : Nat → Nat} {T : Nat} {w : World} {X : XB} {lim : Nat → Nat → Int} {v : XV} {L : Nat → List Snt} (h : XAt own T w X lim v L) : w.cell? ⟨X.xb, 6, none⟩ = some (.slice (some ⟨X.ab, 0, none⟩) 2 2) := cellAt (i := 6) h.game rfl
theorem XAt.c7 {own : Nat → Nat} {T : Nat} {w : World} {X : XB} {lim : Nat → Nat → Int} {v : XV} {L : Nat → List Snt} (h : XAt own T w X lim v L) : w.cell? ⟨X.xb, 7, none⟩ = some (X.lv 0) := cellAt (i := 7) h.game rfl
theorem XAt.c8 {own : Nat → Nat} {T : Nat} {w : World} {X : XB} {lim : Nat → Nat → Int} {v : XV} {L : Nat → List Snt} (h : XAt own T w X lim v L) : w.cell? ⟨X.xb, 8, none⟩ = some (X.lv 1) := cellAt (i := 8) h.game rfl
theorem XAt.c9 {own : Nat → Nat} {T : Nat} {w : World} {X : XB} {lim : Nat → Nat → Int} {v : XV} {L : Nat → List Snt} (h : XAt own T w X lim v L) : w.cell? ⟨X.xb, 9, none⟩ = some (.int .i64 (v.t 0)) := cellAt (i := 9) h.game rfl
theorem XAt.c10 {own : Nat → Nat} {T : Nat} {w : World} {X : XB} {lim : Nat → Nat → Int} {v : XV} {L : Nat → List Snt} (h : XAt own T w X lim v L) : w.cell? ⟨X.xb, 10, none⟩ = some (.int .i64 (v.t 1)) := cellAt (i := 10) h.game rfl
theorem XAt.c11 {own : Nat → Nat} {T : Nat} {w : World} {X : XB} {lim : Nat → Nat → Int} {v : XV} {L : Nat → List Snt} (h : XAt own T w X lim v L) : w.cell? ⟨X.xb, 11, none⟩ = some (.int .i64 v.now) := cellAt (i := 11) h.game rfl
theorem XAt.c12 {own : Nat → Nat} {T : Nat} {w : World} {X : XB} {lim : Nat → Nat → Int} {v : XV} {L : Nat → List Snt} (h : XAt own T w X lim v L) : w.cell? ⟨X.xb, 12, none⟩ = some (.bool v.st0) := cellAt (i := 12) h.game rfl
theorem XAt.c13 {own : Nat → Nat} {T : Nat} {w : World} {X : XB} {lim : Nat → Nat → Int} {v : XV} {L : Nat → List Snt} (h : XAt own T w X lim v L) : w.cell? ⟨X.xb, 13, none⟩ = some (.bool v.st1) := cellAt (i := 13) h.game rfl
theorem XAt.c14 {own : Nat → Nat} {T : Nat} {w : World} {X : XB} {lim : Nat → Nat → Int} {v : XV} {L : Nat → List Snt} (h : XAt own T w X lim v L) : w.cell? ⟨X.xb, 14, none⟩ = some (.bool v.shut) := cellAt (i := 14) h.game rfl
theorem XAt.c15 {own : Nat → Nat} {T : Nat} {w : World} {X : XB} {lim : Nat → Nat → Int} {v : XV} {L : Nat → List Snt} (h : XAt own T w X lim v L) : w.cell? ⟨X.xb, 15, none⟩ = some (.bool v.bad) := cellAt (i := 15) h.game rfl
theorem XAt.fz {own : Nat → Nat} {T : Nat} {w : World} {X : XB} {lim : Nat → Nat → Int} {v : XV} {L : Nat → List Snt} (h : XAt own T w X lim v L) (j : Nat) : w.frozen? ⟨X.xb, j, none⟩ = false := frozenAt h.game
theorem sc0 {w : World} {b : Nat} {g : Snt} (h : w.heap[b]? = some (.cells (sCells g) 43 (0, 0))) : w.cell? ⟨b, 0, none⟩ = some (.int .i64 g.client) := cellAt (i := 0) h rfl
theorem sc1 {w : World} {b : Nat} {g : Snt} (h : w.heap[b]? = some (.cells (sCells g) 43 (0, 0))) : w.cell? ⟨b, 1, none⟩ = some (.int .i64 g.lane) := cellAt (i := 1) h rfl
theorem sc2 {w : World} {b : Nat} {g : Snt} (h : w.heap[b]? = some (.cells (sCells g) 43 (0, 0))) : w.cell? ⟨b, 2, none⟩ = some (.int .i64 g.kind) := cellAt (i := 2) h rfl
theorem sc3 {w : World} {b : Nat} {g : Snt} (h : w.heap[b]? = some (.cells (sCells g) 43 (0, 0))) : w.cell? ⟨b, 3, none⟩ = some (.int .i64 g.account) := cellAt (i := 3) h rfl
theorem sc4 {w : World} {b : Nat} {g : Snt} (h : w.heap[b]? = some (.cells (sCells g) 43 (0, 0))) : w.cell? ⟨b, 4, none⟩ = some (.int .i64 g.side) := cellAt (i := 4) h rfl
theorem sc5 {w : World} {b : Nat} {g : Snt} (h : w.heap[b]? = some (.cells (sCells g) 43 (0, 0))) : w.cell? ⟨b, 5, none⟩ = some (.int .i64 g.number) := cellAt (i := 5) h rfl
theorem sc6 {w : World} {b : Nat} {g : Snt} (h : w.heap[b]? = some (.cells (sCells g) 43 (0, 0))) : w.cell? ⟨b, 6, none⟩ = some (.int .i64 g.price) := cellAt (i := 6) h rfl
theorem sc7 {w : World} {b : Nat} {g : Snt} (h : w.heap[b]? = some (.cells (sCells g) 43 (0, 0))) : w.cell? ⟨b, 7, none⟩ = some (.int .i64 g.qty) := cellAt (i := 7) h rfl
theorem sc8 {w : World} {b : Nat} {g : Snt} (h : w.heap[b]? = some (.cells (sCells g) 43 (0, 0))) : w.cell? ⟨b, 8, none⟩ = some (.int .i64 g.life) := cellAt (i := 8) h rfl
theorem sc9 {w : World} {b : Nat} {g : Snt} (h : w.heap[b]? = some (.cells (sCells g) 43 (0, 0))) : w.cell? ⟨b, 9, none⟩ = some (.int .i64 g.frm) := cellAt (i := 9) h rfl
theorem sc10 {w : World} {b : Nat} {g : Snt} (h : w.heap[b]? = some (.cells (sCells g) 43 (0, 0))) : w.cell? ⟨b, 10, none⟩ = some (.bool g.filled) := cellAt (i := 10) h rfl
theorem sc11 {w : World} {b : Nat} {g : Snt} (h : w.heap[b]? = some (.cells (sCells g) 43 (0, 0))) : w.cell? ⟨b, 11, none⟩ = some (.bool g.taken) := cellAt (i := 11) h rfl
theorem sc12 {w : World} {b : Nat} {g : Snt} (h : w.heap[b]? = some (.cells (sCells g) 43 (0, 0))) : w.cell? ⟨b, 12, none⟩ = some (.bool g.told) := cellAt (i := 12) h rfl
theorem sc13 {w : World} {b : Nat} {g : Snt} (h : w.heap[b]? = some (.cells (sCells g) 43 (0, 0))) : w.cell? ⟨b, 13, none⟩ = some (.bool g.gone) := cellAt (i := 13) h rfl
theorem sc14 {w : World} {b : Nat} {g : Snt} (h : w.heap[b]? = some (.cells (sCells g) 43 (0, 0))) : w.cell? ⟨b, 14, none⟩ = some (.int .i64 g.code) := cellAt (i := 14) h rfl

theorem XAt.cL {own : Nat → Nat} {T : Nat} {w : World} {X : XB} {lim : Nat → Nat → Int} {v : XV} {L : Nat → List Snt} (h : XAt own T w X lim v L) (i : Nat) (hi : i < 2) : w.cell? ⟨X.xb, 7 + i, none⟩ = some (X.lv i) := by
  rcases (show i = 0 ∨ i = 1 by omega) with rfl | rfl
  · exact h.c7
  · exact h.c8
theorem XAt.cT {own : Nat → Nat} {T : Nat} {w : World} {X : XB} {lim : Nat → Nat → Int} {v : XV} {L : Nat → List Snt} (h : XAt own T w X lim v L) (i : Nat) (hi : i < 2) : w.cell? ⟨X.xb, 9 + i, none⟩ = some (.int .i64 (v.t i)) := by
  rcases (show i = 0 ∨ i = 1 by omega) with rfl | rfl
  · exact h.c9
  · exact h.c10

end Go.Proofs.Ytjhifhoniimfgaa

/-
  A game: time goes on; the watch looks.
-/
namespace Go.Proofs.Ytjhifhoniimfgaa
open Go.RowKit

/-- The end of a call: the gate is in its next state, and the game's block tells it. -/
theorem GM.goes {own own' : Nat → Nat} {T : Nat} {w w1 w2 : World} {B' : GB} {X : XB} {x' : Gm} {M : Nat} {st0 st1 : Bool} (hp : PG own' T w2 B' x'.s M) (hok : Ok x'.s M) (hat : XAt own' (T + 100) w2 X x'.s.lim (vOf x'.s st0 st1) x'.L) (hgb : X.gb = B'.gb) (hi : GInv x') (hw : Wt x'.s M)
    (ho : Same own own' w) (hk : Keep (OutG own T) w w1) (hk2 : Keep (fun b => own' b ≠ T + 100) w1 w2) : GGo own T w X.xb x' M w2 :=
  ⟨own', ⟨B', X, st0, st1, ⟨hp, hok, hat, hgb, hi, hw⟩, rfl⟩, ho.outG T, hk.trans' hk2 (fun b hb hO => by
    unfold OutG at hO
    rw [ho b hb]
    omega)⟩

/-- A cell of the game's own block turns: the gate's blocks do not. -/
theorem PG.xset {own : Nat → Nat} {T : Nat} {w : World} {B : GB} {s : St} {N b : Nat} (hp : PG own T w B s N) (hok : Ok s N) (hb : own b = T + 100) (j : Nat) (u : Value) : PG own T (w.setCell ⟨b, j, none⟩ u) B s N :=
  hp.keep hok.cl.2 hok.na.2 (S := fun k => own k ≠ T + 100) ((Keep.refl _ w).setCell ⟨b, j, none⟩ (fun _ h => h hb) u) (fun k _ _ _ => by omega) (Same.refl _ _)

theorem GAt.badF {own : Nat → Nat} {T : Nat} {w : World} {xb : Nat} {x : Gm} {N : Nat} (h : GAt own T w xb x N) : GAt own T (w.setCell ⟨xb, 15, none⟩ (.bool false)) xb x N ∧ Keep (OutG own T) w (w.setCell ⟨xb, 15, none⟩ (.bool false)) := by
  obtain ⟨B, X, st0, st1, hm, rfl⟩ := h
  have og := hm.at_.og
  exact ⟨⟨B, X, st0, st1, ⟨hm.pg.xset hm.ok og 15 _, hm.ok, hm.at_.vset 15 (.bool false) _ rfl, hm.gb, hm.inv, hm.sz⟩, rfl⟩, keep_own ((Keep.refl _ w).setCell _ (fun _ h => h og) _)⟩

/-- Nothing bad was found: so the game's block says. -/
theorem GGo.badF {own : Nat → Nat} {T : Nat} {w w1 : World} {xb : Nat} {x : Gm} {N : Nat} (h : GGo own T w xb x N w1) : GGo own T w xb x N (w1.setCell ⟨xb, 15, none⟩ (.bool false)) := by
  obtain ⟨own', h1, h2, h3⟩ := h
  obtain ⟨k1, k2⟩ := h1.badF
  exact ⟨own', k1, h2, h3.trans' k2 h2⟩

theorem GGo.keepT {own : Nat → Nat} {T : Nat} {w w1 w2 : World} {xb : Nat} {x : Gm} {N : Nat} (h : GGo own T w xb x N w1) (hk : Keep (fun _ => True) w1 w2) : GGo own T w xb x N w2 := by
  obtain ⟨own', h1, h2, h3⟩ := h
  exact ⟨own', h1.keep hk (fun _ _ _ _ => trivial) (Same.refl _ _), h2, h3.trans' hk (fun _ _ _ => trivial)⟩

set_option maxHeartbeats 400000 in
theorem g_tick {own : Nat → Nat} {T : Nat} {w : World} {xb : Nat} {x : Gm} {N : Nat} (h : GAt own T w xb x N) (hN : N < 281000000000000) :
    Calls Try.prog 22 #[.pointer (some ⟨xb, 0, none⟩)] w fun e w' => e = .returned (.tuple #[]) ∧ GGo own T w xb (tickG x) (N + 1) w' := by
  obtain ⟨B, X, st0, st1, hm, rfl⟩ := h
  have c := gTickS hm.pg hm.ok (by omega) (hm.sz.size hm.ok hm.inv hN)
  have c0 := hm.at_.c0
  have ht : x.s.time ≤ N := hm.ok.time
  rw [hm.gb] at c0
  have HM := hideE hm
  clear hm
  go_enter Try.func22, Try.ntmps22
  go_wp2_with fail
  refine c.mono ?_
  rintro e w1 ⟨rfl, own', B', g1, g2, g3, g4⟩
  obtain ⟨q1, q2, q3, q4⟩ := HM.out.call g1 g2 g3 g4
  have d4 := q2.c11
  have d7 := q2.c15
  have z4 := q2.fz 11
  have z7 := q2.fz 15
  simp only [vOf] at d4 d7
  have F1 := hideE g3
  have F2 := hideE q1
  have F3 := hideE q2
  have F4 := hideE q3
  have F5 := hideE q4
  clear c g1 g2 g3 g4 q1 q2 q3 q4 c0
  go_wp2_with fail
  go_end0
  have og : own' X.xb = T + 100 := F3.out.og
  have hA := (F3.out.vset 11 (.int .i64 (x.s.time + 1)) (vOf (tickS x.s) st0 st1) rfl).vset 15 (.bool false) (vOf (tickS x.s) st0 st1) rfl
  have ok := tick_ok HM.out.ok
  have hP := (F2.out.xset ok og 11 (.int .i64 (x.s.time + 1))).xset ok og 15 (.bool false)
  exact ⟨rfl, GM.goes (x' := tickG x) hP ok hA F4.out (tick_inv HM.out.inv) (HM.out.sz.same rfl rfl (Nat.le_succ N)) F1.out F5.out (((Keep.refl _ w1).setCell _ (fun _ h => h og) _).setCell _ (fun _ h => h og) _)⟩

set_option maxHeartbeats 400000 in
theorem g_watch {own : Nat → Nat} {T : Nat} {w : World} {xb : Nat} {x : Gm} {N : Nat} (h : GAt own T w xb x N) (hN : N < 281000000000000) :
    Calls Try.prog 23 #[.pointer (some ⟨xb, 0, none⟩)] w fun e w' => e = .returned (.tuple #[]) ∧ GGo own T w xb (watchG x) (N + 1) w' := by
  obtain ⟨B, X, st0, st1, hm, rfl⟩ := h
  have c := gWatch hm.pg hm.ok (by omega)
  have c0 := hm.at_.c0
  rw [hm.gb] at c0
  have hsh : (watchS x.s).1 = (watchS x.s).2.shut := by unfold watchS; split <;> rfl
  have hst : x.s.shut = true → (watchS x.s).1 = true := fun e => by unfold watchS; split <;> simp [e]
  obtain ⟨y, hy⟩ : ∃ y, y = (watchS x.s).1 := ⟨_, rfl⟩
  rw [← hy] at c hsh hst
  have HM := hideE hm
  have HS := hideE hsh
  clear hm hsh hy
  go_enter Try.func23, Try.ntmps23
  go_wp2_with fail
  refine c.mono ?_
  rintro e w1 ⟨rfl, own', B', g1, g2, g3, g4⟩
  obtain ⟨q1, q2, q3, q4⟩ := HM.out.call g1 g2 g3 g4
  have d6 := q2.c14
  have d7 := q2.c15
  have z6 := q2.fz 14
  have z7 := q2.fz 15
  simp only [vOf] at d6 d7
  have F1 := hideE g3
  have F2 := hideE q1
  have F3 := hideE q2
  have F4 := hideE q3
  have F5 := hideE q4
  clear c g1 g2 g3 g4 q1 q2 q3 q4 c0
  have key : GGo own T w X.xb (watchG x) (N + 1) ((w1.setCell ⟨X.xb, 15, none⟩ (.bool false)).setCell ⟨X.xb, 14, none⟩ (.bool y)) := by
    have og : own' X.xb = T + 100 := F3.out.og
    obtain ⟨a1, a2, a3, a4, hw⟩ := watch_frame x.s
    have hA := (F3.out.vset 15 (.bool false) (vOf x.s st0 st1) rfl).vset 14 (.bool y) (vOf (watchS x.s).2 st0 st1) (by
      have := HS.out
      rw [hw] at this ⊢
      rw [this]
      rfl)
    have ok := watch_ok HM.out.ok
    have hP := (F2.out.xset ok og 15 (.bool false)).xset ok og 14 (.bool y)
    have hl : (watchS x.s).2.lim = x.s.lim := by rw [hw]
    exact GM.goes (x' := watchG x) hP ok (by show XAt _ _ _ _ (watchS x.s).2.lim _ _; rw [hl]; exact hA) F4.out (watch_inv HM.out.inv) (HM.out.sz.same (by show (watchS x.s).2.m = _; rw [hw]) (by show (watchS x.s).2.t = _; rw [hw]) (Nat.le_succ N)) F1.out F5.out (((Keep.refl _ w1).setCell _ (fun _ h => h og) _).setCell _ (fun _ h => h og) _)
  have KEY := hideE key
  clear key
  cases hs : x.s.shut with
  | true =>
    rw [hs] at d6
    have hy := hst hs
    subst hy
    clear hst hs
    go_wp2_with fail
    go_end0
    exact ⟨rfl, KEY.out⟩
  | false =>
    rw [hs] at d6
    clear hst hs
    go_wp2_with fail
    go_end0
    exact ⟨rfl, KEY.out⟩

end Go.Proofs.Ytjhifhoniimfgaa

/-
  A game: an answer, or an ack, is told.
-/
namespace Go.Proofs.Ytjhifhoniimfgaa
open Go.RowKit

set_option maxRecDepth 100000 in
set_option maxHeartbeats 1000000 in
theorem told_walk {own : Nat → Nat} {T : Nat} {w : World} {X : XB} {lim : Nat → Nat → Int} {v : XV} {L : Nat → List Snt} (h : XAt own T w X lim v L) (hbad : v.bad = false) (i : Nat) (hi : i = 0 ∨ i = 1) (c : Int) (p q : Int) (r : List Ans)
    (hu : unt c 0 (L i) = (p, q) :: r) (ht : ∀ k g, (L i)[k]? = some g → g.taken = decide (k < v.t i)) (htb : v.t i ≤ 1000000000000000) (hs : ∀ (k : Nat) (g : Snt), (L i)[k]? = some g → g.taken = true → (g.kind = 0 ↔ g.given = 1)) :
    Calls Try.prog 42 #[.pointer (some ⟨X.xb, 0, none⟩), .int .i64 c, .int .i64 i, .agg #[.int .i64 p, .int .i64 q]] w fun e w' => e = .returned (.tuple #[]) ∧ XAt own T w' X lim v (upN L i (told1 c (L i))) ∧ Keep (fun b => own b ≠ T) w w' := by
  have hi2 : i < 2 := by omega
  obtain ⟨j, g, hg, ha, g1, g2, g3, g4, g5⟩ := told1_at c (L i) 0 _ r hu
  simp only [Prod.mk.injEq, Nat.zero_add] at ha
  obtain ⟨rfl, rfl⟩ := ha
  have hjl := (List.getElem?_eq_some_iff.1 hg).1
  have hjt : j < v.t i := by have := ht j g hg; rw [g1] at this; exact of_decide_eq_true this.symm
  have hsz := hs j g hg g1
  have hA : XAt own T (w.alloc (.cells #[.int .i64 j, .int .i64 g.given] 66)) X lim v L := h.keep (S := fun _ => True) ((Keep.refl _ w).alloc _) (fun _ _ _ => trivial) (fun _ _ _ => rfl)
  obtain ⟨W, hW⟩ : ∃ W, W = w.alloc (.cells #[.int .i64 j, .int .i64 g.given] 66) := ⟨_, rfl⟩
  have kW : Keep (fun b => own b ≠ T) w W := by rw [hW]; exact (Keep.refl _ w).alloc _
  have a0 : W.cell? ⟨w.heap.size, 0, none⟩ = some (.int .i64 j) := by rw [hW]; exact cellAt (i := 0) (heap_alloc_new w _) rfl
  have a1 : W.cell? ⟨w.heap.size, 1, none⟩ = some (.int .i64 g.given) := by rw [hW]; exact cellAt (i := 1) (heap_alloc_new w _) rfl
  rw [← hW] at hA
  have nx : w.heap.size ≠ X.xb := by have := block_lt h.game; omega
  have np : w.heap.size ≠ X.pb i j := by have := block_lt (h.sent i j g hi2 hg); omega
  have nxp := hA.neX i j hi2 hjl
  have HA := hideE hA
  have KW := hideE kW
  have HG := hideE (show (L i)[j]? = some g ∧ told1 c (L i) = (L i).set j { g with told := true, code := g.given } from ⟨hg, g4⟩)
  have H5 := hideE g5
  have HT := hideE ht
  have cL := hA.cL i hi2
  have cT := hA.cT i hi2
  have cB := hA.c15
  have zB := hA.fz 15
  rw [hbad] at cB
  have HBAD := hideE hbad
  obtain ⟨rb, cap, e1, eR, e3, e4⟩ := hA.rowcell i hi2 (by omega)
  rw [e1] at cL
  have HE : Hid (∀ k, k < (L i).length → W.cell? ⟨rb, k, none⟩ = some (.pointer (some ⟨X.pb i k, 0, none⟩))) := eR
  have WE := hideE hW
  obtain ⟨tt, htt⟩ : ∃ tt, tt = v.t i := ⟨_, rfl⟩
  obtain ⟨ln, hln⟩ : ∃ ln, ln = (L i).length := ⟨_, rfl⟩
  rw [← htt] at cT hjt htb
  rw [← hln] at cL hjl
  have HL := hideE hln
  have HTT := hideE htt
  clear hA kW hg g4 g5 ht eR e1 e3 e4 hs hu hbad htt hln h hW
  rcases hi with rfl | rfl
  · simp only [Nat.add_zero] at cL cT
    go_enter Try.func42, Try.ntmps42
    go_wp2
    rw [← WE.out]
    go_loopw [8] (fun iv wr => ∃ k : Nat, iv = .int .i64 k ∧ k ≤ j ∧ W = wr) (fun iv _ => j + 1 - (intOf iv).toNat)
    case atStart => exact ⟨0, rfl, Nat.zero_le _, rfl⟩
    case round =>
      obtain ⟨k, rfl, hk, rfl⟩ := hrel
      by_cases hkj : k < j
      · have hkl : k < (L 0).length := by rw [← HL.out]; omega
        obtain ⟨y, hy1, hy2⟩ := HA.out.get 0 k hi2 hkl
        have eK := HE.out k hkl
        have s0 := sc0 hy2
        have s12 := sc12 hy2
        have hnot := H5.out k y hkj hy1
        have htk := HT.out k y hy1
        have htk2 : y.taken = true := by rw [htk]; exact decide_eq_true (by rw [← HTT.out]; omega)
        have l1 : (k : Int) < (tt : Int) := by omega
        have l2 : (k : Int) < (ln : Int) := by omega
        by_cases hc : y.client = c
        · have hd : y.told = true := by
            cases e : y.told with
            | true => rfl
            | false => exact absurd ⟨htk2, e, hc⟩ hnot
          rw [hd] at s12
          have hc' : (y.client != c) = false := by simp [hc]
          clear hy1 hy2 hnot htk htk2 hc hd
          go_wp2
          go_roundw
          case rel => exact ⟨k + 1, rfl, hkj, trivial⟩
          case measure => simp [intOf]; omega
        · have hc' : (y.client != c) = true := by simp [hc]
          clear hy1 hy2 hnot htk htk2 hc
          go_wp2
          go_roundw
          case rel => exact ⟨k + 1, rfl, hkj, trivial⟩
          case measure => simp [intOf]; omega
      · have ek : k = j := by omega
        subst ek
        have hkl : k < (L 0).length := by rw [← HL.out]; omega
        have hy2 := HA.out.sent 0 k g hi2 HG.out.1
        have eK := HE.out k hkl
        have s0 := sc0 hy2
        have s2 := sc2 hy2
        have s12 := sc12 hy2
        have s14 := sc14 hy2
        have f12 : W.frozen? ⟨X.pb 0 k, 12, none⟩ = false := frozenAt hy2
        have f14 : W.frozen? ⟨X.pb 0 k, 14, none⟩ = false := frozenAt hy2
        have l1 : (k : Int) < (tt : Int) := by omega
        have l2 : (k : Int) < (ln : Int) := by omega
        have hc' : (g.client != c) = false := by simp [g3]
        rw [g2] at s12
        have Hy2 := hideE hy2
        clear hy2 hk hkj
        go_wp2
        generalize hV : (W.setCell ⟨X.pb 0 k, 12, none⟩ (.bool true)).setCell ⟨X.pb 0 k, 14, none⟩ (.int .i64 g.given) = V
        have kV : Keep (fun b => b ≠ X.pb 0 k) W V := by rw [← hV]; exact ((Keep.refl _ W).setCell _ (fun _ h => h rfl) _).setCell _ (fun _ h => h rfl) _
        have h2 : V.heap[X.pb 0 k]? = some (.cells (sCells { g with told := true, code := g.given }) 43 (0, 0)) := by rw [← hV, heap_setCell_at _ (heap_setCell_at _ Hy2.out)]; rfl
        have v2 : V.cell? ⟨X.pb 0 k, 2, none⟩ = some (.int .i64 g.kind) := by
          have h3 := sc2 h2
          exact h3
        have bx : V.heap[X.xb]? = W.heap[X.xb]? := kV.block _ (block_lt HA.out.game) nxp
        have vB : V.cell? ⟨X.xb, 15, none⟩ = some (.bool false) := by rw [World.cell?_of_block (w := W) bx]; exact cB
        have vZ : V.frozen? ⟨X.xb, 15, none⟩ = false := by rw [World.frozen?_of_block (w := W) bx]; exact zB
        have ba : V.heap[w.heap.size]? = W.heap[w.heap.size]? := kV.block _ (World.block_lt_of_cell? W _ a0) np
        have v0 : V.cell? ⟨w.heap.size, 0, none⟩ = some (.int .i64 k) := by rw [World.cell?_of_block (w := W) ba]; exact a0
        have v1 : V.cell? ⟨w.heap.size, 1, none⟩ = some (.int .i64 g.given) := by rw [World.cell?_of_block (w := W) ba]; exact a1
        have KEY : Hid (XAt own T (V.setCell ⟨X.xb, 15, none⟩ (.bool false)).drew X lim v (upN L 0 (told1 c (L 0))) ∧ Keep (fun b => own b ≠ T) w (V.setCell ⟨X.xb, 15, none⟩ (.bool false)).drew) := by
          have x1 := HA.out.sput 0 k hi2 g _ HG.out.1 kV h2
          rw [← HG.out.2] at x1
          have x2 := x1.vset 15 (.bool false) v (by have := HBAD.out; unfold xCells; rw [this]; rfl)
          refine ⟨x2.keep (S := fun _ => True) (Keep.refl _ _).drew (fun _ _ _ => trivial) (fun _ _ _ => rfl), ?_⟩
          refine (KW.out.trans' (T := fun b => own b ≠ T) ?_ (fun _ _ h => h))
          refine Keep.drew (((kV.mono (T := fun b => own b ≠ T) (fun b _ hb e => hb (e ▸ HA.out.os 0 k hi2 hkl)))).setCell _ (fun _ hb => hb HA.out.og) _)
        clear hV kV bx ba h2
        by_cases hkd : g.kind = 0
        · have e1 : (g.kind == 0) = true := by simp [hkd]
          have e2 : (g.given == 1) = true := by simp [hsz.1 hkd]
          go_region
          go_wp2
          refine bodyPost_ret (results_none rfl _ _ _) rfl ?_
          exact ⟨rfl, KEY.out⟩
        · have e1 : (g.kind == 0) = false := by simp [hkd]
          have e2 : (g.given == 1) = false := beq_eq_false_iff_ne.2 (fun e => hkd (hsz.2 e))
          go_region
          go_wp2
          refine bodyPost_ret (results_none rfl _ _ _) rfl ?_
          exact ⟨rfl, KEY.out⟩
  · simp only [Nat.reduceAdd] at cL cT
    go_enter Try.func42, Try.ntmps42
    go_wp2
    rw [← WE.out]
    go_loopw [8] (fun iv wr => ∃ k : Nat, iv = .int .i64 k ∧ k ≤ j ∧ W = wr) (fun iv _ => j + 1 - (intOf iv).toNat)
    case atStart => exact ⟨0, rfl, Nat.zero_le _, rfl⟩
    case round =>
      obtain ⟨k, rfl, hk, rfl⟩ := hrel
      by_cases hkj : k < j
      · have hkl : k < (L 1).length := by rw [← HL.out]; omega
        obtain ⟨y, hy1, hy2⟩ := HA.out.get 1 k hi2 hkl
        have eK := HE.out k hkl
        have s0 := sc0 hy2
        have s12 := sc12 hy2
        have hnot := H5.out k y hkj hy1
        have htk := HT.out k y hy1
        have htk2 : y.taken = true := by rw [htk]; exact decide_eq_true (by rw [← HTT.out]; omega)
        have l1 : (k : Int) < (tt : Int) := by omega
        have l2 : (k : Int) < (ln : Int) := by omega
        by_cases hc : y.client = c
        · have hd : y.told = true := by
            cases e : y.told with
            | true => rfl
            | false => exact absurd ⟨htk2, e, hc⟩ hnot
          rw [hd] at s12
          have hc' : (y.client != c) = false := by simp [hc]
          clear hy1 hy2 hnot htk htk2 hc hd
          go_wp2
          go_roundw
          case rel => exact ⟨k + 1, rfl, hkj, trivial⟩
          case measure => simp [intOf]; omega
        · have hc' : (y.client != c) = true := by simp [hc]
          clear hy1 hy2 hnot htk htk2 hc
          go_wp2
          go_roundw
          case rel => exact ⟨k + 1, rfl, hkj, trivial⟩
          case measure => simp [intOf]; omega
      · have ek : k = j := by omega
        subst ek
        have hkl : k < (L 1).length := by rw [← HL.out]; omega
        have hy2 := HA.out.sent 1 k g hi2 HG.out.1
        have eK := HE.out k hkl
        have s0 := sc0 hy2
        have s2 := sc2 hy2
        have s12 := sc12 hy2
        have s14 := sc14 hy2
        have f12 : W.frozen? ⟨X.pb 1 k, 12, none⟩ = false := frozenAt hy2
        have f14 : W.frozen? ⟨X.pb 1 k, 14, none⟩ = false := frozenAt hy2
        have l1 : (k : Int) < (tt : Int) := by omega
        have l2 : (k : Int) < (ln : Int) := by omega
        have hc' : (g.client != c) = false := by simp [g3]
        rw [g2] at s12
        have Hy2 := hideE hy2
        clear hy2 hk hkj
        go_wp2
        generalize hV : (W.setCell ⟨X.pb 1 k, 12, none⟩ (.bool true)).setCell ⟨X.pb 1 k, 14, none⟩ (.int .i64 g.given) = V
        have kV : Keep (fun b => b ≠ X.pb 1 k) W V := by rw [← hV]; exact ((Keep.refl _ W).setCell _ (fun _ h => h rfl) _).setCell _ (fun _ h => h rfl) _
        have h2 : V.heap[X.pb 1 k]? = some (.cells (sCells { g with told := true, code := g.given }) 43 (0, 0)) := by rw [← hV, heap_setCell_at _ (heap_setCell_at _ Hy2.out)]; rfl
        have v2 : V.cell? ⟨X.pb 1 k, 2, none⟩ = some (.int .i64 g.kind) := by
          have h3 := sc2 h2
          exact h3
        have bx : V.heap[X.xb]? = W.heap[X.xb]? := kV.block _ (block_lt HA.out.game) nxp
        have vB : V.cell? ⟨X.xb, 15, none⟩ = some (.bool false) := by rw [World.cell?_of_block (w := W) bx]; exact cB
        have vZ : V.frozen? ⟨X.xb, 15, none⟩ = false := by rw [World.frozen?_of_block (w := W) bx]; exact zB
        have ba : V.heap[w.heap.size]? = W.heap[w.heap.size]? := kV.block _ (World.block_lt_of_cell? W _ a0) np
        have v0 : V.cell? ⟨w.heap.size, 0, none⟩ = some (.int .i64 k) := by rw [World.cell?_of_block (w := W) ba]; exact a0
        have v1 : V.cell? ⟨w.heap.size, 1, none⟩ = some (.int .i64 g.given) := by rw [World.cell?_of_block (w := W) ba]; exact a1
        have KEY : Hid (XAt own T (V.setCell ⟨X.xb, 15, none⟩ (.bool false)).drew X lim v (upN L 1 (told1 c (L 1))) ∧ Keep (fun b => own b ≠ T) w (V.setCell ⟨X.xb, 15, none⟩ (.bool false)).drew) := by
          have x1 := HA.out.sput 1 k hi2 g _ HG.out.1 kV h2
          rw [← HG.out.2] at x1
          have x2 := x1.vset 15 (.bool false) v (by have := HBAD.out; unfold xCells; rw [this]; rfl)
          refine ⟨x2.keep (S := fun _ => True) (Keep.refl _ _).drew (fun _ _ _ => trivial) (fun _ _ _ => rfl), ?_⟩
          refine (KW.out.trans' (T := fun b => own b ≠ T) ?_ (fun _ _ h => h))
          refine Keep.drew (((kV.mono (T := fun b => own b ≠ T) (fun b _ hb e => hb (e ▸ HA.out.os 1 k hi2 hkl)))).setCell _ (fun _ hb => hb HA.out.og) _)
        clear hV kV bx ba h2
        by_cases hkd : g.kind = 0
        · have e1 : (g.kind == 0) = true := by simp [hkd]
          have e2 : (g.given == 1) = true := by simp [hsz.1 hkd]
          go_region
          go_wp2
          refine bodyPost_ret (results_none rfl _ _ _) rfl ?_
          exact ⟨rfl, KEY.out⟩
        · have e1 : (g.kind == 0) = false := by simp [hkd]
          have e2 : (g.given == 1) = false := beq_eq_false_iff_ne.2 (fun e => hkd (hsz.2 e))
          go_region
          go_wp2
          refine bodyPost_ret (results_none rfl _ _ _) rfl ?_
          exact ⟨rfl, KEY.out⟩

end Go.Proofs.Ytjhifhoniimfgaa

