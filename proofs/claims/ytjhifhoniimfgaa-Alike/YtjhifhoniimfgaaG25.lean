import Derived.Test.YtjhifhoniimfgaaG24
import Derived.Test.YtjhifhoniimfgaaG19
import Derived.Test.YtjhifhoniimfgaaG22
/-
  A game in memory: its own block, the rows of its places, each place.
-/
namespace Go.Proofs.Ytjhifhoniimfgaa
open Go.RowKit

/-- A frame that was published, or a place that was claimed ('given': the code that the gate gave, told or not). -/
structure Snt where
  client : Int
  lane : Int
  kind : Int
  account : Int
  side : Int
  number : Int
  price : Int
  qty : Int
  life : Int
  frm : Int
  filled : Bool
  taken : Bool
  told : Bool
  gone : Bool
  code : Int
  given : Int

def Snt.new (client lane : Int) : Snt := ⟨client, lane, 0, 0, 0, 0, 0, 0, 0, 0, false, false, false, false, 0, 0⟩

/-- The cells of a place. -/
def sCells (g : Snt) : Array Value := #[.int .i64 g.client, .int .i64 g.lane, .int .i64 g.kind, .int .i64 g.account, .int .i64 g.side, .int .i64 g.number, .int .i64 g.price, .int .i64 g.qty, .int .i64 g.life, .int .i64 g.frm, .bool g.filled, .bool g.taken, .bool g.told, .bool g.gone, .int .i64 g.code]

/-- What a game's own block says. -/
structure XV where
  n : Nat → Nat
  an : Nat
  ch : Nat
  t : Nat → Nat
  now : Nat
  st0 : Bool
  st1 : Bool
  shut : Bool
  bad : Bool

/-- A game's blocks. -/
structure XB where
  xb : Nat
  gb : Nat
  ab : Nat
  lv : Nat → Value
  pb : Nat → Nat → Nat

def xCells (X : XB) (v : XV) : Array Value := #[.pointer (some ⟨X.gb, 0, none⟩), .int .i64 3, .int .i64 (v.n 0), .int .i64 (v.n 1), .int .i64 v.an, .int .i64 v.ch, .slice (some ⟨X.ab, 0, none⟩) 2 2, X.lv 0, X.lv 1, .int .i64 (v.t 0), .int .i64 (v.t 1), .int .i64 v.now, .bool v.st0, .bool v.st1, .bool v.shut, .bool v.bad]

structure XAt (own : Nat → Nat) (T : Nat) (w : World) (X : XB) (lim : Nat → Nat → Int) (v : XV) (L : Nat → List Snt) : Prop where
  game : w.heap[X.xb]? = some (.cells (xCells X v) 37 (0, 0))
  row : ∀ i, i < 2 → w.ownsRow 0 41 1 (X.lv i) (L i).length (rowP (X.pb i) (L i).length)
  sent : ∀ i k g, i < 2 → (L i)[k]? = some g → w.heap[X.pb i k]? = some (.cells (sCells g) 43 (0, 0))
  inj : ∀ i k j l, i < 2 → j < 2 → k < (L i).length → l < (L j).length → X.pb i k = X.pb j l → i = j ∧ k = l
  rne : ∀ b, (X.lv 0).ownBlock = some b → (X.lv 1).ownBlock ≠ some b
  acc : AccAt w (some ⟨X.ab, 0, none⟩) 2 lim
  og : own X.xb = T
  orow : ∀ i b, i < 2 → (X.lv i).ownBlock = some b → own b = T
  os : ∀ i k, i < 2 → k < (L i).length → own (X.pb i k) = T
  oa : own X.ab = T + 1

section
variable {own own' : Nat → Nat} {T : Nat} {w w' : World} {X : XB} {lim : Nat → Nat → Int} {v : XV} {L : Nat → List Snt}

theorem XAt.rowlt (h : XAt own T w X lim v L) (i b : Nat) (hi : i < 2) (hb : (X.lv i).ownBlock = some b) : ∃ cs, w.heap[b]? = some (.cells cs 41 (0, 0)) := by
  rcases (h.row i hi).2 with ⟨q, _⟩ | ⟨g', cap', cur, q, _, q1, _⟩
  · rw [q] at hb; cases hb
  · rw [q] at hb; simp [Value.ownBlock] at hb; subst hb; exact ⟨_, q1⟩

theorem XAt.get (h : XAt own T w X lim v L) (i k : Nat) (hi : i < 2) (hk : k < (L i).length) : ∃ g, (L i)[k]? = some g ∧ w.heap[X.pb i k]? = some (.cells (sCells g) 43 (0, 0)) :=
  ⟨(L i)[k], List.getElem?_eq_getElem hk, h.sent i k _ hi (List.getElem?_eq_getElem hk)⟩

theorem XAt.ablt (h : XAt own T w X lim v L) : X.ab < w.heap.size := by
  rcases h.acc with h0 | ⟨b, off, e, h1⟩
  · omega
  · simp only [Option.some.injEq, Addr.mk.injEq, and_true] at e
    obtain ⟨rfl, rfl⟩ := e
    exact World.block_lt_of_cell? w _ (h1 0 0 (by omega) (by omega))

theorem XAt.keep {S : Nat → Prop} (h : XAt own T w X lim v L) (hk : Keep S w w') (hs : ∀ b, b < w.heap.size → (own b = T ∨ own b = T + 1) → S b) (ho : ∀ b, b < w.heap.size → (own b = T ∨ own b = T + 1) → own' b = own b) : XAt own' T w' X lim v L := by
  have lg := block_lt h.game
  have la := h.ablt
  refine ⟨hk.get h.game (hs _ lg (.inl h.og)), fun i hi => ownsRow_keep (h.row i hi) hk (fun b hb => hs _ (ownsRow_lt (h.row i hi) b hb) (.inl (h.orow i b hi hb))), fun i k g hi hg => ?_, h.inj, h.rne, h.acc.keep hk (fun x e => ?_), ?_, fun i b hi hb => ?_, fun i k hi hk' => ?_, ?_⟩
  · have h1 := h.sent i k g hi hg
    exact hk.get h1 (hs _ (block_lt h1) (.inl (h.os i k hi (List.getElem?_eq_some_iff.1 hg).1)))
  · simp only [Option.some.injEq] at e
    subst e
    exact hs _ la (.inr h.oa)
  · rw [ho _ lg (.inl h.og)]; exact h.og
  · rw [ho _ (ownsRow_lt (h.row i hi) b hb) (.inl (h.orow i b hi hb))]; exact h.orow i b hi hb
  · obtain ⟨g, h1, h2⟩ := h.get i k hi hk'
    rw [ho _ (block_lt h2) (.inl (h.os i k hi hk'))]; exact h.os i k hi hk'
  · rw [ho _ la (.inr h.oa)]; exact h.oa

theorem XAt.neX (h : XAt own T w X lim v L) (i k : Nat) (hi : i < 2) (hk : k < (L i).length) : X.xb ≠ X.pb i k := by
  obtain ⟨g, _, h2⟩ := h.get i k hi hk
  exact block_ne h.game h2 (by decide)

theorem XAt.neR (h : XAt own T w X lim v L) (i k : Nat) (hi : i < 2) (hk : k < (L i).length) (j b : Nat) (hj : j < 2) (hb : (X.lv j).ownBlock = some b) : b ≠ X.pb i k := by
  obtain ⟨g, _, h2⟩ := h.get i k hi hk
  obtain ⟨cs, h3⟩ := h.rowlt j b hj hb
  exact block_ne h3 h2 (by decide)

theorem XAt.neG (h : XAt own T w X lim v L) (j b : Nat) (hj : j < 2) (hb : (X.lv j).ownBlock = some b) : b ≠ X.xb := by
  obtain ⟨cs, h3⟩ := h.rowlt j b hj hb
  exact block_ne h3 h.game (by decide)

/-- A cell of the game's own block has turned. -/
theorem XAt.vset (h : XAt own T w X lim v L) (j : Nat) (u : Value) (v' : XV) (hv : (xCells X v).setIfInBounds j u = xCells X v') : XAt own T (w.setCell ⟨X.xb, j, none⟩ u) X lim v' L := by
  have hk : Keep (fun b => b ≠ X.xb) w (w.setCell ⟨X.xb, j, none⟩ u) := (Keep.refl _ w).setCell _ (fun _ h => h rfl) _
  refine ⟨by rw [heap_setCell_at _ h.game, hv], fun i hi => ownsRow_keep (h.row i hi) hk (fun b hb => h.neG i b hi hb), fun i k g hi hg => hk.get (h.sent i k g hi hg) (Ne.symm (h.neX i k hi (List.getElem?_eq_some_iff.1 hg).1)), h.inj, h.rne, h.acc.keep hk (fun x e => ?_), h.og, h.orow, h.os, h.oa⟩
  simp only [Option.some.injEq] at e
  subst e
  intro e
  have h1 := h.oa
  have h2 := h.og
  simp only at e
  rw [e] at h1
  omega

/-- A place has turned. -/
theorem XAt.sput (h : XAt own T w X lim v L) (i k : Nat) (hi : i < 2) (g g' : Snt) (hg : (L i)[k]? = some g) (hk : Keep (fun b => b ≠ X.pb i k) w w') (hv : w'.heap[X.pb i k]? = some (.cells (sCells g') 43 (0, 0))) : XAt own T w' X lim v (upN L i ((L i).set k g')) := by
  have hlt := (List.getElem?_eq_some_iff.1 hg).1
  have hlen : ∀ m, (upN L i ((L i).set k g') m).length = (L m).length := fun m => by
    by_cases e : m = i
    · subst e; rw [upN_same]; simp
    · rw [upN_ne _ _ _ _ e]
  refine ⟨hk.get h.game (h.neX i k hi hlt), fun m hm => by rw [hlen]; exact ownsRow_keep (h.row m hm) hk (fun b hb => h.neR i k hi hlt m b hm hb), fun m l g2 hm hg2 => ?_, fun m l m2 l2 h1 h2 h3 h4 => by rw [hlen] at h3 h4; exact h.inj m l m2 l2 h1 h2 h3 h4, h.rne, h.acc.keep hk (fun x e => ?_), h.og, h.orow, fun m l hm hl => by rw [hlen] at hl; exact h.os m l hm hl, h.oa⟩
  · have hl : l < (L m).length := by rw [← hlen m]; exact (List.getElem?_eq_some_iff.1 hg2).1
    by_cases e : X.pb m l = X.pb i k
    · obtain ⟨rfl, rfl⟩ := h.inj m l i k hm hi hl hlt e
      rw [upN_same, List.getElem?_set_self hlt] at hg2
      simp only [Option.some.injEq] at hg2
      subst hg2
      exact hv
    · refine hk.get (h.sent m l g2 hm ?_) e
      by_cases e2 : m = i
      · subst e2
        rw [upN_same] at hg2
        rw [List.getElem?_set_ne (fun e3 => e (by rw [e3]))] at hg2
        exact hg2
      · rw [upN_ne _ _ _ _ e2] at hg2; exact hg2
  · simp only [Option.some.injEq] at e
    subst e
    intro e
    have h1 := h.oa
    have h2 := h.os i k hi hlt
    simp only at e
    rw [e] at h1
    omega

end

/-- A place is claimed: it is made, and laid at the end of its row. -/
theorem XAt.push {own : Nat → Nat} {T : Nat} {w w3 : World} {X : XB} {lim : Nat → Nat → Int} {v : XV} {L : Nat → List Snt} (h : XAt own T w X lim v L) (i : Nat) (hi : i < 2) (g : Snt) {r cap : Nat}
    (ha : AppP (w.alloc (.cells (sCells g) 43)) w3 41 (X.lv i) (X.pb i) (L i).length w.heap.size r cap) :
    XAt (ext own w.heap.size T) T (w3.setCell ⟨X.xb, 7 + i, none⟩ (.slice (some ⟨r, 0, none⟩) ((L i).length + 1) cap)) { X with lv := upN X.lv i (.slice (some ⟨r, 0, none⟩) ((L i).length + 1) cap), pb := upN X.pb i (upN (X.pb i) (L i).length w.heap.size) } lim v (upN L i (L i ++ [g])) ∧
      Keep (fun b => own b ≠ T) w (w3.setCell ⟨X.xb, 7 + i, none⟩ (.slice (some ⟨r, 0, none⟩) ((L i).length + 1) cap)) := by
  obtain ⟨a1, a2, a3⟩ := ha
  have kA : Keep (fun _ => True) w (w.alloc (.cells (sCells g) 43)) := (Keep.refl _ w).alloc _
  have hA := h.keep (own' := ext own w.heap.size T) kA (fun _ _ _ => trivial) (fun b hb _ => Same.ext own w T b hb)
  have hnew : (w.alloc (.cells (sCells g) 43)).heap[w.heap.size]? = some (.cells (sCells g) 43 (0, 0)) := heap_alloc_new w _
  have rv : ∀ b, (X.lv i).ownBlock = some b → ∃ cs, (w.alloc (.cells (sCells g) 43)).heap[b]? = some (.cells cs 41 (0, 0)) := fun b hb => hA.rowlt i b hi hb
  have szA : (w.alloc (.cells (sCells g) 43)).heap.size = w.heap.size + 1 := by simp
  have rge : (X.lv i).ownBlock = some r ∨ w.heap.size + 1 ≤ r := by rw [← szA]; exact a3
  have w3size : w.heap.size + 1 ≤ w3.heap.size := by rw [← szA]; exact a2.size
  have rW : ∃ cs, w3.heap[r]? = some (.cells cs 41 (0, 0)) := by
    rcases a1.2 with ⟨q, _⟩ | ⟨g', cap', cur, q, _, q1, _⟩
    · cases q
    · simp only [Value.slice.injEq, Option.some.injEq, Addr.mk.injEq, and_true] at q
      obtain ⟨rfl, _, _⟩ := q
      exact ⟨_, q1⟩
  have hx3 := a2.get hA.game (fun e => hA.neG i X.xb hi e rfl)
  have kS : Keep (fun b => b ≠ X.xb) w3 (w3.setCell ⟨X.xb, 7 + i, none⟩ (.slice (some ⟨r, 0, none⟩) ((L i).length + 1) cap)) := (Keep.refl _ w3).setCell _ (fun _ h => h rfl) _
  have kB : Keep (fun b => (X.lv i).ownBlock ≠ some b ∧ b ≠ X.xb) (w.alloc (.cells (sCells g) 43)) (w3.setCell ⟨X.xb, 7 + i, none⟩ (.slice (some ⟨r, 0, none⟩) ((L i).length + 1) cap)) :=
    (a2.mono (T := fun b => (X.lv i).ownBlock ≠ some b ∧ b ≠ X.xb) (fun b _ hb => hb.1)).trans' kS (fun b _ hb => hb.2)
  have hlen : ∀ m, m ≠ i → upN L i (L i ++ [g]) m = L m := fun m hm => upN_ne _ _ _ _ hm
  have old : ∀ m l, m < 2 → l < (L m).length → X.pb m l < w.heap.size := fun m l hm hl => by
    obtain ⟨g2, _, h2⟩ := h.get m l hm hl
    exact block_lt h2
  have pbOld : ∀ m l, m < 2 → l < (L m).length → upN X.pb i (upN (X.pb i) (L i).length w.heap.size) m l = X.pb m l := fun m l hm hl => by
    by_cases e : m = i
    · subst e; rw [upN_same, upN_ne _ _ _ _ (by omega)]
    · rw [upN_ne _ _ _ _ e]
  have neX : ∀ m l, m < 2 → l < (L m).length → (X.lv i).ownBlock ≠ some (X.pb m l) ∧ X.pb m l ≠ X.xb := fun m l hm hl =>
    ⟨fun e => hA.neR m l hm hl i _ hi e rfl, Ne.symm (hA.neX m l hm hl)⟩
  have lenI : (upN L i (L i ++ [g]) i).length = (L i).length + 1 := by rw [upN_same]; simp
  have cases_ : ∀ m l, m < 2 → l < (upN L i (L i ++ [g]) m).length → (l < (L m).length) ∨ (m = i ∧ l = (L i).length) := fun m l hm hl => by
    by_cases e : m = i
    · subst e; rw [lenI] at hl; omega
    · rw [hlen m e] at hl; exact .inl hl
  have pbNew : upN X.pb i (upN (X.pb i) (L i).length w.heap.size) i (L i).length = w.heap.size := by rw [upN_same, upN_same]
  have xlt := block_lt h.game
  refine ⟨⟨?_, fun m hm => ?_, fun m l g2 hm hg2 => ?_, fun m l m2 l2 h1 h2 h3 h4 e => ?_, ?_, ?_, ?_, fun m b hm hb => ?_, fun m l hm hl => ?_, ?_⟩, ?_⟩
  · rw [heap_setCell_at _ hx3]
    rcases (show i = 0 ∨ i = 1 by omega) with rfl | rfl <;> rfl
  · show World.ownsRow _ _ _ _ (upN X.lv i _ m) _ (rowP (upN X.pb i _ m) _)
    by_cases e : m = i
    · subst e
      rw [lenI, upN_same, upN_same]
      refine ownsRow_keep a1 kS (fun b hb => ?_)
      simp [Value.ownBlock] at hb
      subst hb
      obtain ⟨cs, h3⟩ := rW
      exact block_ne h3 hx3 (by decide)
    · rw [hlen m e, upN_ne X.lv _ _ _ e, upN_ne X.pb _ _ _ e]
      refine ownsRow_keep (hA.row m hm) kB (fun b hb => ⟨fun e2 => ?_, hA.neG m b hm hb⟩)
      rcases (show (m = 0 ∧ i = 1) ∨ (m = 1 ∧ i = 0) by omega) with ⟨rfl, rfl⟩ | ⟨rfl, rfl⟩
      · exact h.rne b hb e2
      · exact h.rne b e2 hb
  · have hl := (List.getElem?_eq_some_iff.1 hg2).1
    show (w3.setCell _ _).heap[upN X.pb i (upN (X.pb i) (L i).length w.heap.size) m l]? = _
    rcases cases_ m l hm hl with h1 | ⟨rfl, rfl⟩
    · rw [pbOld m l hm h1]
      refine kB.get (hA.sent m l g2 hm ?_) (neX m l hm h1)
      by_cases e : m = i
      · subst e; rw [upN_same, List.getElem?_append_left h1] at hg2; exact hg2
      · rw [hlen m e] at hg2; exact hg2
    · rw [pbNew]
      rw [upN_same, List.getElem?_append_right (Nat.le_refl _)] at hg2
      simp at hg2
      subst hg2
      refine kB.get hnew ⟨fun e => ?_, fun e => ?_⟩
      · obtain ⟨cs, h3⟩ := rv _ e
        exact block_ne h3 hnew (by decide) rfl
      · exact block_ne hnew hA.game (by decide) e
  · have e : upN X.pb i (upN (X.pb i) (L i).length w.heap.size) m l = upN X.pb i (upN (X.pb i) (L i).length w.heap.size) m2 l2 := e
    rcases cases_ m l h1 h3 with q1 | ⟨rfl, rfl⟩
    · rcases cases_ m2 l2 h2 h4 with q2 | ⟨rfl, rfl⟩
      · rw [pbOld m l h1 q1, pbOld m2 l2 h2 q2] at e
        exact h.inj m l m2 l2 h1 h2 q1 q2 e
      · rw [pbOld m l h1 q1, pbNew] at e
        have := old m l h1 q1
        omega
    · rcases cases_ m2 l2 h2 h4 with q2 | ⟨e1, e2⟩
      · rw [pbOld m2 l2 h2 q2, pbNew] at e
        have := old m2 l2 h2 q2
        omega
      · exact ⟨e1.symm, e2.symm⟩
  · show ∀ b, (upN X.lv i _ 0).ownBlock = some b → (upN X.lv i _ 1).ownBlock ≠ some b
    intro b hb hb2
    rcases (show i = 0 ∨ i = 1 by omega) with rfl | rfl
    · rw [upN_same] at hb
      rw [upN_ne _ _ _ _ (by omega)] at hb2
      simp [Value.ownBlock] at hb
      subst hb
      rcases rge with q | q
      · exact h.rne r q hb2
      · have := ownsRow_lt (h.row 1 (by omega)) r hb2
        omega
    · rw [upN_same] at hb2
      rw [upN_ne _ _ _ _ (by omega)] at hb
      simp [Value.ownBlock] at hb2
      subst hb2
      rcases rge with q | q
      · exact h.rne r hb q
      · have := ownsRow_lt (h.row 0 (by omega)) r hb
        omega
  · refine hA.acc.keep kB (fun x e => ?_)
    simp only [Option.some.injEq] at e
    subst e
    have q := h.oa
    refine ⟨fun e2 => ?_, fun e2 => ?_⟩
    · have := h.orow i _ hi e2
      simp only at this
      omega
    · have := h.og
      simp only at e2
      rw [e2] at q
      omega
  · show ext own w.heap.size T X.xb = T
    rw [ext_lt xlt]; exact h.og
  · have hb : (upN X.lv i (.slice (some ⟨r, 0, none⟩) ((L i).length + 1) cap) m).ownBlock = some b := hb
    by_cases e : m = i
    · subst e
      rw [upN_same] at hb
      simp [Value.ownBlock] at hb
      subst hb
      rcases rge with q | q
      · have := h.orow m r hm q
        rw [ext_lt (ownsRow_lt (h.row m hm) r q)]; exact this
      · exact ext_ge (by omega)
    · rw [upN_ne _ _ _ _ e] at hb
      rw [ext_lt (ownsRow_lt (h.row m hm) b hb)]; exact h.orow m b hm hb
  · show ext own w.heap.size T (upN X.pb i (upN (X.pb i) (L i).length w.heap.size) m l) = T
    rcases cases_ m l hm hl with q1 | ⟨rfl, rfl⟩
    · rw [pbOld m l hm q1, ext_lt (old m l hm q1)]; exact h.os m l hm q1
    · rw [pbNew]; exact ext_ge (Nat.le_refl _)
  · show ext own w.heap.size T X.ab = T + 1
    rw [ext_lt h.ablt]; exact h.oa
  · refine (kA.mono (T := fun b => own b ≠ T) (fun _ _ _ => trivial)).trans' kB (fun b hb hT => ⟨fun e => hT (h.orow i b hi e), fun e => hT (e ▸ h.og)⟩)

end Go.Proofs.Ytjhifhoniimfgaa

