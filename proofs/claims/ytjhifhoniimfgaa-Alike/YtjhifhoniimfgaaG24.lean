import Derived.Test.YtjhifhoniimfgaaG22
import Derived.Test.YtjhifhoniimfgaaG19
import Derived.Test.YtjhifhoniimfgaaG23
/-
  A gate that is being made, in memory.
-/
namespace Go.Proofs.Ytjhifhoniimfgaa
open Go.RowKit

/-- A row of pointers. -/
def rowP (f : Nat → Nat) (j : Nat) : List Value := (List.range j).map (fun i => .pointer (some ⟨f i, 0, none⟩))

theorem rowP_len (f : Nat → Nat) (j : Nat) : (rowP f j).length = j := by simp [rowP]

theorem rowP_congr {f g : Nat → Nat} {j : Nat} (h : ∀ i, i < j → f i = g i) : rowP f j = rowP g j := by
  unfold rowP
  exact List.map_congr_left (fun i hi => by rw [h i (List.mem_range.1 hi)])

theorem rowP_succ (f : Nat → Nat) (j x : Nat) : rowP (upN f j x) (j + 1) = rowP f j ++ [.pointer (some ⟨x, 0, none⟩)] := by
  have e : rowP (upN f j x) j = rowP f j := rowP_congr (fun i hi => upN_ne _ _ _ _ (by omega))
  unfold rowP at e ⊢
  rw [List.range_succ, List.map_append, e]
  simp [upN_same]

theorem rowP_get (f : Nat → Nat) (j i : Nat) (h : i < j) : (rowP f j)[i]? = some (.pointer (some ⟨f i, 0, none⟩)) := by
  unfold rowP
  simp [h]

theorem cell_one_at (w : World) (x : Value) (t : TypeId) : ∀ j u, [x][j]? = some u → (w.alloc (.cells #[x] t)).cell? ((⟨w.heap.size, 0, none⟩ : Addr).add j) = some u := by
  intro j u hj
  match j, hj with
  | 0, hj => simp at hj; subst hj; simp [Addr.add]

/-- A row of pointers of its own, that grows by one. -/
def AppP (w w' : World) (e : TypeId) (v : Value) (f : Nat → Nat) (n x g cap : Nat) : Prop :=
  w'.ownsRow 0 e 1 (.slice (some ⟨g, 0, none⟩) (n + 1) cap) (n + 1) (rowP (upN f n x) (n + 1)) ∧ Keep (fun b => v.ownBlock ≠ some b) w w' ∧ (v.ownBlock = some g ∨ w.heap.size ≤ g)

theorem ptr_append (t e : TypeId) (i : TypeInfo) (ht : Try.prog.underlying t = some (.slice e)) (hi : Try.prog.info? e = some i) (hb : i.bytes = 8) (hs : i.size = 1) (hz : i.zero = some (.pointer none))
    {w : World} {v : Value} {f : Nat → Nat} {n : Nat} (h : w.ownsRow 0 e 1 v n (rowP f n)) (hn : n < 17592186044416) (x : Nat) :
    ∃ g cap w', (∀ ty, (Builtin.append_ #[t, t] ty #[v, .slice (some ⟨w.heap.size, 0, none⟩) 1 1]).run Try.prog (w.alloc (.cells #[.pointer (some ⟨x, 0, none⟩)] e)) = .ok (.slice (some ⟨g, 0, none⟩) (n + 1) cap) w') ∧ AppP w w' e v f n x g cap := by
  have h2 : (w.alloc (.cells #[.pointer (some ⟨x, 0, none⟩)] e)).ownsRow 0 e 1 v n (rowP f n) := World.ownsRow.alloc h _
  have key := fun ty => run_append_own_at (P := Try.prog) (w.alloc (.cells #[.pointer (some ⟨x, 0, none⟩)] e)) 0 t ty e i (.pointer none) 1 8 ht hi hz hs hb rfl (by decide) v n (rowP f n) h2
    ⟨w.heap.size, 0, none⟩ 1 1 [.pointer (some ⟨x, 0, none⟩)] rfl (cell_one_at w _ _) (fun u hu => by simp at hu; subst hu; rfl) (by unfold maxLen; omega) (by omega) (Nat.zero_le _)
  obtain ⟨v', w', hrun, hown, hg, _, hbb⟩ := key 0
  have hrun2 : ∀ ty, (Builtin.append_ #[t, t] ty #[v, .slice (some ⟨w.heap.size, 0, none⟩) 1 1]).run Try.prog (w.alloc (.cells #[.pointer (some ⟨x, 0, none⟩)] e)) = .ok v' w' := fun ty => hrun
  have hv : ∃ g cap, v' = .slice (some ⟨g, 0, none⟩) (n + 1) cap := by
    rcases hown.2 with ⟨_, hx⟩ | ⟨g, cap, cur, hx, _⟩
    · omega
    · exact ⟨g, cap, hx⟩
  obtain ⟨g, cap, rfl⟩ := hv
  refine ⟨g, cap, w', hrun2, ?_, ⟨hg.os, hg.tape, hg.output, Nat.le_trans (by simp) hg.size, fun b hb1 hb2 => ?_⟩, ?_⟩
  · rw [rowP_succ]; exact hown
  · rw [hg.block b (by simp; omega) (fun e => hb2 e.symm)]
    exact Below.heap_alloc _ _ _ hb1
  · rcases hbb with e | e
    · exact .inl e.symm
    · right
      simp [Value.ownBlock] at e
      omega

theorem ownsRow_keep {S : Nat → Prop} {w w' : World} {e : TypeId} {k : Nat} {v : Value} {n : Nat} {xs : List Value} (h : w.ownsRow 0 e k v n xs) (hk : Keep S w w') (hs : ∀ b, v.ownBlock = some b → S b) : w'.ownsRow 0 e k v n xs := by
  refine ⟨h.1, ?_⟩
  rcases h.2 with h0 | ⟨g, cap, cur, rfl, h0, h1, h2⟩
  · exact .inl h0
  · exact .inr ⟨g, cap, cur, rfl, h0, hk.get h1 (hs g rfl), h2⟩

theorem ownsRow_lt {w : World} {e : TypeId} {k : Nat} {v : Value} {n : Nat} {xs : List Value} (h : w.ownsRow 0 e k v n xs) (b : Nat) (hb : v.ownBlock = some b) : b < w.heap.size := by
  rcases h.2 with ⟨rfl, _⟩ | ⟨g, cap, cur, rfl, _, h1, _⟩
  · simp [Value.ownBlock] at hb
  · simp [Value.ownBlock] at hb; subst hb; exact block_lt h1

theorem ownsRow_cells {w : World} {e : TypeId} {k : Nat} {v : Value} {n : Nat} {xs : List Value} (h : w.ownsRow 0 e k v n xs) (hn : 0 < n) : ∃ g cap cs, v = .slice (some ⟨g, 0, none⟩) n cap ∧ w.heap[g]? = some (.cells cs e (0, 0)) ∧ ∀ (i : Nat) (x : Value), xs[i]? = some x → cs[i]? = some x := by
  obtain ⟨hl, h⟩ := h
  rcases h with ⟨_, h0⟩ | ⟨g, cap, cur, rfl, _, h1, _, _, _, h2⟩
  · omega
  · refine ⟨g, cap, cur, rfl, h1, fun i x hx => ?_⟩
    rw [← h2] at hx
    have hlt := (List.getElem?_eq_some_iff.1 hx).1
    rw [List.getElem?_take_of_lt (by simp at hlt; omega)] at hx
    simpa using hx

/-- A gate that is being made: j inboxes, k accounts are there. -/
structure NewMid (own : Nat → Nat) (T : Nat) (W : World) (gb wb chb : Nat) (vi va l0 l1 : Value) (an ch : Nat) (lim : Nat → Nat → Int) (ib ab : Nat → Nat) (j k : Nat) : Prop where
  gate : W.heap[gb]? = some (.cells #[vi, va, l0, l1, .pointer none, .int .i64 0, .pointer (some ⟨wb, 0, none⟩)] 80 (0, 0))
  watch : WatchAt W wb chb ch 0 false false false
  og : own gb = T
  ow : own wb = T
  oc : own chb = T
  irow : W.ownsRow 0 91 1 vi j (rowP ib j)
  arow : W.ownsRow 0 97 1 va k (rowP ab k)
  oi : ∀ b, vi.ownBlock = some b → own b = T
  oa : ∀ b, va.ownBlock = some b → own b = T
  box : ∀ c, c < j → InboxR own (T + 10 + c) W (ib c) an 0 [] []
  acc : ∀ a, a < k → AccR own (T + 20 + a) W (ab a) (lim a) false [] 0 0

theorem NewMid.keep {own own' : Nat → Nat} {T : Nat} {S : Nat → Prop} {W W' : World} {gb wb chb : Nat} {vi va l0 l1 : Value} {an ch : Nat} {lim : Nat → Nat → Int} {ib ab : Nat → Nat} {j k : Nat} (h : NewMid own T W gb wb chb vi va l0 l1 an ch lim ib ab j k)
    (hk : Keep S W W') (hs : ∀ b, b < W.heap.size → T ≤ own b → S b) (ho : Same own own' W) : NewMid own' T W' gb wb chb vi va l0 l1 an ch lim ib ab j k := by
  have lg := block_lt h.gate
  have lw := block_lt h.watch.watch
  have lc := block_lt h.watch.chan
  refine ⟨hk.get h.gate (hs _ lg (by rw [h.og]; omega)), h.watch.keep hk (hs _ lw (by rw [h.ow]; omega)) (hs _ lc (by rw [h.oc]; omega)), ?_, ?_, ?_, ownsRow_keep h.irow hk (fun b hb => hs _ (ownsRow_lt h.irow b hb) (by rw [h.oi b hb]; omega)), ownsRow_keep h.arow hk (fun b hb => hs _ (ownsRow_lt h.arow b hb) (by rw [h.oa b hb]; omega)),
    fun b hb => ?_, fun b hb => ?_, fun c hc => (h.box c hc).keep hk (fun b hb e => hs b hb (by omega)) ho, fun a ha => (h.acc a ha).keep hk (fun b hb e => hs b hb (by omega)) ho⟩
  · rw [ho _ lg]; exact h.og
  · rw [ho _ lw]; exact h.ow
  · rw [ho _ lc]; exact h.oc
  · rw [ho _ (ownsRow_lt h.irow b hb)]; exact h.oi b hb
  · rw [ho _ (ownsRow_lt h.arow b hb)]; exact h.oa b hb

def inboxO (lb : Nat) : Obj := .cells #[.pointer (some ⟨lb, 0, none⟩), .slice none 0 0] 96

theorem NewMid.boxed {own : Nat → Nat} {T : Nat} {W W1 : World} {gb wb chb : Nat} {vi va l0 l1 : Value} {an ch : Nat} {lim : Nat → Nat → Int} {ib ab : Nat → Nat} {j k : Nat} (h : NewMid own T W gb wb chb vi va l0 l1 an ch lim ib ab j k)
    {lb sb : Nat} (k1 : Keep (fun _ => True) W W1) (p : PAns W1 lb sb an 0 []) (q1 : W.heap.size ≤ lb) (q2 : W.heap.size ≤ sb) :
    NewMid (ext own W.heap.size (T + 10 + j)) T (W1.alloc (inboxO lb)) gb wb chb vi va l0 l1 an ch lim ib ab j k ∧ InboxR (ext own W.heap.size (T + 10 + j)) (T + 10 + j) (W1.alloc (inboxO lb)) W1.heap.size an 0 [] [] := by
  have k2 : Keep (fun _ => True) W1 (W1.alloc (inboxO lb)) := (Keep.refl _ W1).alloc _
  refine ⟨h.keep (k1.trans k2) (fun _ _ _ => trivial) (Same.ext own W _), lb, sb, 0, .slice none 0 0, ⟨heap_alloc_new W1 _, p.keep k2 trivial trivial, AckAt.nil _, ext_ge k1.size, ext_ge q1, ext_ge q2, fun b hb => (by cases hb), by simp⟩⟩

theorem NewMid.pushI {own : Nat → Nat} {T : Nat} {W w3 : World} {gb wb chb : Nat} {vi va l0 l1 : Value} {an ch : Nat} {lim : Nat → Nat → Int} {ib ab : Nat → Nat} {j k : Nat} (h : NewMid own T W gb wb chb vi va l0 l1 an ch lim ib ab j k)
    {x g cap : Nat} (hb : InboxR own (T + 10 + j) W x an 0 [] []) (ha : AppP W w3 91 vi ib j x g cap) :
    NewMid (ext own W.heap.size T) T (w3.setCell ⟨gb, 0, none⟩ (.slice (some ⟨g, 0, none⟩) (j + 1) cap)) gb wb chb (.slice (some ⟨g, 0, none⟩) (j + 1) cap) va l0 l1 an ch lim (upN ib j x) ab (j + 1) k ∧
      Keep (fun b => own b ≠ T) W (w3.setCell ⟨gb, 0, none⟩ (.slice (some ⟨g, 0, none⟩) (j + 1) cap)) := by
  obtain ⟨a1, a2, a3⟩ := ha
  have lg := block_lt h.gate
  have gv : vi.ownBlock ≠ some gb := fun e => by
    rcases h.irow.2 with ⟨q, _⟩ | ⟨g', cap', cur, q, _, q1, _⟩
    · rw [q] at e; cases e
    · rw [q] at e; simp [Value.ownBlock] at e; subst e; exact block_ne q1 h.gate (by decide) rfl
  have g3 := a2.get h.gate gv
  have kS : Keep (fun b => b ≠ gb) w3 (w3.setCell ⟨gb, 0, none⟩ (.slice (some ⟨g, 0, none⟩) (j + 1) cap)) := (Keep.refl _ w3).setCell _ (fun _ h => h rfl) _
  have kk : Keep (fun b => vi.ownBlock ≠ some b ∧ b ≠ gb) W (w3.setCell ⟨gb, 0, none⟩ (.slice (some ⟨g, 0, none⟩) (j + 1) cap)) := (a2.mono (T := fun b => vi.ownBlock ≠ some b ∧ b ≠ gb) (fun b _ hb => hb.1)).trans' kS (fun b _ hb => hb.2)
  have kT : Keep (fun b => own b ≠ T) W (w3.setCell ⟨gb, 0, none⟩ (.slice (some ⟨g, 0, none⟩) (j + 1) cap)) := kk.mono (fun b _ hb => ⟨fun e => hb (h.oi b e), fun e => hb (e ▸ h.og)⟩)
  have ho := Same.ext own W T
  have hg' : g ≠ gb := by
    rcases a3 with e | e
    · intro e2; exact gv (e2 ▸ e)
    · omega
  have n1 : gb ≠ wb := block_ne h.gate h.watch.watch (by decide)
  have rowne : ∀ b cs U f, W.heap[b]? = some (.cells cs U f) → U ≠ 91 → vi.ownBlock ≠ some b := fun b cs U f hb' hU e => by
    rcases h.irow.2 with ⟨q, _⟩ | ⟨g', cap', cur, q, _, q1, _⟩
    · rw [q] at e; cases e
    · rw [q] at e; simp [Value.ownBlock] at e; subst e; exact block_ne q1 hb' (Ne.symm hU) rfl
  have nc : vi.ownBlock ≠ some chb ∧ chb ≠ gb := by
    refine ⟨fun e => ?_, fun e => ?_⟩
    · rcases h.irow.2 with ⟨q, _⟩ | ⟨g', cap', cur, q, _, q1, _⟩
      · rw [q] at e; cases e
      · rw [q] at e; simp [Value.ownBlock] at e; subst e; rw [h.watch.chan] at q1; cases q1
    · have := h.watch.chan; rw [e, h.gate] at this; cases this
  have ra : ∀ b, va.ownBlock = some b → vi.ownBlock ≠ some b ∧ b ≠ gb := fun b hb' => by
    rcases h.arow.2 with ⟨q, _⟩ | ⟨g', cap', cur, q, _, q1, _⟩
    · rw [q] at hb'; cases hb'
    · rw [q] at hb'; simp [Value.ownBlock] at hb'; subst hb'; exact ⟨rowne _ _ _ _ q1 (by decide), block_ne q1 h.gate (by decide)⟩
  refine ⟨⟨?_, h.watch.keep kk ⟨rowne _ _ _ _ h.watch.watch (by decide), Ne.symm n1⟩ nc, by rw [ext_lt lg]; exact h.og, by rw [ext_lt (block_lt h.watch.watch)]; exact h.ow, by rw [ext_lt (block_lt h.watch.chan)]; exact h.oc,
    ownsRow_keep a1 kS (fun b hb' => by simp [Value.ownBlock] at hb'; subst hb'; exact hg'), ownsRow_keep h.arow kk ra, fun b hb' => ?_, fun b hb' => by rw [ext_lt (ownsRow_lt h.arow b hb')]; exact h.oa b hb', fun c hc => ?_, fun a ha => (h.acc a ha).keep kT (fun b hb e => by omega) ho⟩, kT⟩
  · rw [heap_setCell_at _ g3]; simp
  · simp [Value.ownBlock] at hb'
    subst hb'
    rcases a3 with e | e
    · rw [ext_lt (ownsRow_lt h.irow _ e)]; exact h.oi _ e
    · exact ext_ge e
  · by_cases e : c = j
    · subst e; rw [upN_same]; exact hb.keep kT (fun b hb e => by omega) ho
    · rw [upN_ne _ _ _ _ e]; exact (h.box c (by omega)).keep kT (fun b hb e => by omega) ho

theorem NewMid.pushA {own : Nat → Nat} {T : Nat} {W w3 : World} {gb wb chb : Nat} {vi va l0 l1 : Value} {an ch : Nat} {lim : Nat → Nat → Int} {ib ab : Nat → Nat} {j k : Nat} (h : NewMid own T W gb wb chb vi va l0 l1 an ch lim ib ab j k)
    {x g cap : Nat} (hb : AccR own (T + 20 + k) W x (lim k) false [] 0 0) (ha : AppP W w3 97 va ab k x g cap) :
    NewMid (ext own W.heap.size T) T (w3.setCell ⟨gb, 1, none⟩ (.slice (some ⟨g, 0, none⟩) (k + 1) cap)) gb wb chb vi (.slice (some ⟨g, 0, none⟩) (k + 1) cap) l0 l1 an ch lim ib (upN ab k x) j (k + 1) ∧
      Keep (fun b => own b ≠ T) W (w3.setCell ⟨gb, 1, none⟩ (.slice (some ⟨g, 0, none⟩) (k + 1) cap)) := by
  obtain ⟨a1, a2, a3⟩ := ha
  have lg := block_lt h.gate
  have gv : va.ownBlock ≠ some gb := fun e => by
    rcases h.arow.2 with ⟨q, _⟩ | ⟨g', cap', cur, q, _, q1, _⟩
    · rw [q] at e; cases e
    · rw [q] at e; simp [Value.ownBlock] at e; subst e; exact block_ne q1 h.gate (by decide) rfl
  have g3 := a2.get h.gate gv
  have kS : Keep (fun b => b ≠ gb) w3 (w3.setCell ⟨gb, 1, none⟩ (.slice (some ⟨g, 0, none⟩) (k + 1) cap)) := (Keep.refl _ w3).setCell _ (fun _ h => h rfl) _
  have kk : Keep (fun b => va.ownBlock ≠ some b ∧ b ≠ gb) W (w3.setCell ⟨gb, 1, none⟩ (.slice (some ⟨g, 0, none⟩) (k + 1) cap)) := (a2.mono (T := fun b => va.ownBlock ≠ some b ∧ b ≠ gb) (fun b _ hb => hb.1)).trans' kS (fun b _ hb => hb.2)
  have kT : Keep (fun b => own b ≠ T) W (w3.setCell ⟨gb, 1, none⟩ (.slice (some ⟨g, 0, none⟩) (k + 1) cap)) := kk.mono (fun b _ hb => ⟨fun e => hb (h.oa b e), fun e => hb (e ▸ h.og)⟩)
  have ho := Same.ext own W T
  have hg' : g ≠ gb := by
    rcases a3 with e | e
    · intro e2; exact gv (e2 ▸ e)
    · omega
  have n1 : gb ≠ wb := block_ne h.gate h.watch.watch (by decide)
  have rowne : ∀ b cs U f, W.heap[b]? = some (.cells cs U f) → U ≠ 97 → va.ownBlock ≠ some b := fun b cs U f hb' hU e => by
    rcases h.arow.2 with ⟨q, _⟩ | ⟨g', cap', cur, q, _, q1, _⟩
    · rw [q] at e; cases e
    · rw [q] at e; simp [Value.ownBlock] at e; subst e; exact block_ne q1 hb' (Ne.symm hU) rfl
  have nc : va.ownBlock ≠ some chb ∧ chb ≠ gb := by
    refine ⟨fun e => ?_, fun e => ?_⟩
    · rcases h.arow.2 with ⟨q, _⟩ | ⟨g', cap', cur, q, _, q1, _⟩
      · rw [q] at e; cases e
      · rw [q] at e; simp [Value.ownBlock] at e; subst e; rw [h.watch.chan] at q1; cases q1
    · have := h.watch.chan; rw [e, h.gate] at this; cases this
  have ra : ∀ b, vi.ownBlock = some b → va.ownBlock ≠ some b ∧ b ≠ gb := fun b hb' => by
    rcases h.irow.2 with ⟨q, _⟩ | ⟨g', cap', cur, q, _, q1, _⟩
    · rw [q] at hb'; cases hb'
    · rw [q] at hb'; simp [Value.ownBlock] at hb'; subst hb'; exact ⟨rowne _ _ _ _ q1 (by decide), block_ne q1 h.gate (by decide)⟩
  refine ⟨⟨?_, h.watch.keep kk ⟨rowne _ _ _ _ h.watch.watch (by decide), Ne.symm n1⟩ nc, by rw [ext_lt lg]; exact h.og, by rw [ext_lt (block_lt h.watch.watch)]; exact h.ow, by rw [ext_lt (block_lt h.watch.chan)]; exact h.oc,
    ownsRow_keep h.irow kk ra, ownsRow_keep a1 kS (fun b hb' => by simp [Value.ownBlock] at hb'; subst hb'; exact hg'), fun b hb' => by rw [ext_lt (ownsRow_lt h.irow b hb')]; exact h.oi b hb', fun b hb' => ?_, fun c hc => (h.box c hc).keep kT (fun b hb e => by omega) ho, fun a ha => ?_⟩, kT⟩
  · rw [heap_setCell_at _ g3]; simp
  · simp [Value.ownBlock] at hb'
    subst hb'
    rcases a3 with e | e
    · rw [ext_lt (ownsRow_lt h.arow _ e)]; exact h.oa _ e
    · exact ext_ge e
  · by_cases e : a = k
    · subst e; rw [upN_same]; exact hb.keep kT (fun b hb e => by omega) ho
    · rw [upN_ne _ _ _ _ e]; exact (h.acc a (by omega)).keep kT (fun b hb e => by omega) ho

/-- A lane is laid into the gate. -/
theorem NewMid.relane {own : Nat → Nat} {T : Nat} {W W1 : World} {gb wb chb : Nat} {vi va l0 l1 : Value} {an ch : Nat} {lim : Nat → Nat → Int} {ib ab : Nat → Nat} {j k : Nat} (h : NewMid own T W gb wb chb vi va l0 l1 an ch lim ib ab j k)
    (i : Nat) (hi : i < 2) {n lb sb : Nat} (k1 : Keep (fun _ => True) W W1) (p : PLane W1 lb sb n 0 0 (fun _ => zeroPl)) (q1 : W.heap.size ≤ lb) (q2 : W.heap.size ≤ sb) :
    NewMid (ext own W.heap.size (T + 1 + i)) T (W1.setCell ⟨gb, 2 + i, none⟩ (.pointer (some ⟨lb, 0, none⟩))) gb wb chb vi va (if i = 0 then .pointer (some ⟨lb, 0, none⟩) else l0) (if i = 0 then l1 else .pointer (some ⟨lb, 0, none⟩)) an ch lim ib ab j k ∧
      LaneR (ext own W.heap.size (T + 1 + i)) (T + 1 + i) (W1.setCell ⟨gb, 2 + i, none⟩ (.pointer (some ⟨lb, 0, none⟩))) lb n 0 0 (fun _ => zeroPl) ∧ Keep (fun b => own b ≠ T) W (W1.setCell ⟨gb, 2 + i, none⟩ (.pointer (some ⟨lb, 0, none⟩))) := by
  have lg := block_lt h.gate
  have ho := Same.ext own W (T + 1 + i)
  have h1 : NewMid (ext own W.heap.size (T + 1 + i)) T W1 gb wb chb vi va l0 l1 an ch lim ib ab j k := h.keep k1 (fun _ _ _ => trivial) ho
  generalize hO : ext own W.heap.size (T + 1 + i) = own1 at *
  have kS : Keep (fun b => b ≠ gb) W1 (W1.setCell ⟨gb, 2 + i, none⟩ (.pointer (some ⟨lb, 0, none⟩))) := (Keep.refl _ W1).setCell _ (fun _ h => h rfl) _
  have kT : Keep (fun b => own1 b ≠ T) W1 (W1.setCell ⟨gb, 2 + i, none⟩ (.pointer (some ⟨lb, 0, none⟩))) := kS.mono (fun b _ hb e => hb (e ▸ h1.og))
  have n1 : gb ≠ wb := block_ne h.gate h.watch.watch (by decide)
  have nc : chb ≠ gb := fun e => by have := h.watch.chan; rw [e, h.gate] at this; cases this
  have ri : ∀ b, vi.ownBlock = some b → b ≠ gb := fun b hb' => by
    rcases h.irow.2 with ⟨q, _⟩ | ⟨g', cap', cur, q, _, q1, _⟩
    · rw [q] at hb'; cases hb'
    · rw [q] at hb'; simp [Value.ownBlock] at hb'; subst hb'; exact block_ne q1 h.gate (by decide)
  have ra : ∀ b, va.ownBlock = some b → b ≠ gb := fun b hb' => by
    rcases h.arow.2 with ⟨q, _⟩ | ⟨g', cap', cur, q, _, q1, _⟩
    · rw [q] at hb'; cases hb'
    · rw [q] at hb'; simp [Value.ownBlock] at hb'; subst hb'; exact block_ne q1 h.gate (by decide)
  refine ⟨⟨?_, h1.watch.keep kS (Ne.symm n1) nc, h1.og, h1.ow, h1.oc, ownsRow_keep h1.irow kS ri, ownsRow_keep h1.arow kS ra, h1.oi, h1.oa, fun c hc => (h1.box c hc).keep kT (fun b hb e => by omega) (Same.refl _ _), fun a ha => (h1.acc a ha).keep kT (fun b hb e => by omega) (Same.refl _ _)⟩,
    ⟨sb, p.keep kS (by show lb ≠ gb; omega) (by show sb ≠ gb; omega), by rw [← hO]; exact ext_ge q1, by rw [← hO]; exact ext_ge q2⟩, (k1.mono (T := fun b => own b ≠ T) (fun _ _ _ => trivial)).trans' kS (fun b _ hb e => hb (e ▸ h.og))⟩
  rw [heap_setCell_at _ h1.gate]
  rcases (show i = 0 ∨ i = 1 by omega) with rfl | rfl
  · simp
  · simp

/-- A gate that is made. -/
theorem NewMid.done {own : Nat → Nat} {T : Nat} {W : World} {gb wb chb : Nat} {vi va : Value} {an ch : Nat} {lim : Nat → Nat → Int} {ib ab : Nat → Nat} {cl na : Nat} {lb : Nat → Nat} {n : Nat → Nat} (h : NewMid own T W gb wb chb vi va (.pointer (some ⟨lb 0, 0, none⟩)) (.pointer (some ⟨lb 1, 0, none⟩)) an ch lim ib ab cl na)
    (hcl : 0 < cl) (hna : 0 < na) (hl : ∀ i, i < 2 → LaneR own (T + 1 + i) W (lb i) (n i) 0 0 (fun _ => zeroPl)) : ∃ B, B.gb = gb ∧ PG own T W B (newS cl an ch na lim n) 0 := by
  obtain ⟨ir, ic, cs, hv, i1, i2⟩ := ownsRow_cells h.irow hcl
  obtain ⟨ar, ac, ds, hw, a1, a2⟩ := ownsRow_cells h.arow hna
  have hg := h.gate
  rw [hv, hw] at hg
  refine ⟨⟨gb, ir, ic, ar, ac, ib, ab, lb, 0, wb, chb⟩, rfl, ⟨hg, ⟨cs, i1, fun i hi => i2 i _ (rowP_get ib cl i hi)⟩, ⟨ds, a1, fun i hi => a2 i _ (rowP_get ab na i hi)⟩, fun c a e => (by cases e), ⟨_, _, _, h.watch, fun _ => ⟨rfl, rfl, rfl⟩⟩, h.og, h.oi _ (by rw [hv]; rfl), h.oa _ (by rw [hw]; rfl), h.ow, h.oc, hl, h.box, h.acc⟩⟩

end Go.Proofs.Ytjhifhoniimfgaa

