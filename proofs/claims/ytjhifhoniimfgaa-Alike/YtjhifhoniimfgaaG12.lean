import Derived.Test.YtjhifhoniimfgaaG11
import Derived.BigRegion
import Derived.Deep.RegionWith
import Derived.Test.YtjhifhoniimfgaaG02
import Derived.Test.YtjhifhoniimfgaaG10
/-
  The rings of answers: answers are laid and polled.
-/
namespace Go.Proofs.Ytjhifhoniimfgaa
open Go.RowKit

/-- An answer: its place, its code. -/
abbrev Ans := Int × Int

set_option maxHeartbeats 400000 in
theorem aslotOf_any (lb sb n p : Nat) (x y : Value) (w : World) (hl : w.heap[lb]? = some (.cells #[.slice (some ⟨sb, 0, none⟩) n n, x, y] 126 (0, 0)))
    (hn : powB n = true) (hp : p < 4611686018427387904) :
    Calls Try.prog 65 #[.pointer (some ⟨lb, 0, none⟩), .int .i64 p] w fun e w' => e = .returned (.pointer (some ⟨sb, p % n * 2, none⟩)) ∧ ∃ nq, w' = w.drewN nq := by
  have c0 := cellAt (i := 0) hl rfl
  have hn' := pow_nat hn
  have hlen : n ≤ 16 := by omega
  have hpn : p % n < n := Nat.mod_lt _ (by omega)
  have hand := and_mod n p hn' hp
  generalize p % n = r at hpn hand
  have hpi : (r : Int) < (n : Int) := by omega
  clear hl hn hn'
  go_enter Try.func65, Try.ntmps65
  go_wp2
  go_quiet (fail)
  go_wp2
  go_ret
  exact ⟨rfl, _, rfl⟩

def zeroAns (n : Nat) : Array Value := madeCells #[.int .i64 0, .int .i64 0] (n * 2)

theorem make_ans (n : Nat) (h : n ≤ 16) (w : World) :
    (Instr.makeSlice 94 (.int .i64 n) (.int .i64 n)).run Try.prog w = .ok (.slice (some ⟨w.heap.size, 0, none⟩) n n) (w.alloc (.cells (zeroAns n) 66)) := by
  have e : (Try.prog.info? 66).map (fun i => (i.bytes, i.size, i.zero)) = some (16, 2, some (.agg #[.int .i64 0, .int .i64 0])) := by kernel_rfl
  obtain ⟨i, hi, he⟩ := Option.map_eq_some_iff.1 e
  simp only [Prod.mk.injEq] at he
  obtain ⟨hb, hs, hz⟩ := he
  have := run_make (P := Try.prog) w 94 66 i _ Try.underlying94 hi hz .i64 .i64 (n : Int) (n : Int) (by omega) (by omega) (by rw [hb]; omega) (by omega)
  rw [this]
  simp [zeroAns, hs, Value.cells]

set_option maxHeartbeats 400000 in
theorem newAnswers_any (n : Nat) (h : n ≤ 16) (w : World) :
    Calls Try.prog 45 #[.int .i64 n] w fun e w' => e = .returned (.pointer (some ⟨w.heap.size + 1, 0, none⟩)) ∧
      (w.alloc (.cells (zeroAns n) 66)).alloc (.cells #[.slice (some ⟨w.heap.size, 0, none⟩) n n, .int .i64 0, .int .i64 0] 126) = w' := by
  have hmk := make_ans n h
  go_enter Try.func45, Try.ntmps45
  go_wp2
  go_ret
  exact ⟨rfl, rfl⟩

/-- The slots from number t on hold these answers. -/
def AnsAt (cs : Array Value) (n t : Nat) (l : List Ans) : Prop :=
  cs.size = n * 2 ∧ ∀ j a, l[j]? = some a → cs[(t + j) % n * 2]? = some (.int .i64 a.1) ∧ cs[(t + j) % n * 2 + 1]? = some (.int .i64 a.2)

/-- A ring of answers: its size n; t were polled; l lies there. -/
structure PAns (w : World) (lb sb n t : Nat) (l : List Ans) : Prop where
  ring : w.heap[lb]? = some (.cells #[.slice (some ⟨sb, 0, none⟩) n n, .int .i64 ((t : Int) + (l.length : Int)), .int .i64 t] 126 (0, 0))
  ne : lb ≠ sb
  slots : ∃ cs, w.heap[sb]? = some (.cells cs 66 (0, 0)) ∧ AnsAt cs n t l
  pow : powB n = true
  full : l.length ≤ n

theorem PAns.keep {S : Nat → Prop} {w w' : World} {lb sb n t : Nat} {l : List Ans} (h : PAns w lb sb n t l) (hk : Keep S w w') (h1 : S lb) (h2 : S sb) : PAns w' lb sb n t l := by
  obtain ⟨cs, c, d⟩ := h.slots
  exact { h with ring := hk.get h.ring h1, slots := ⟨cs, hk.get c h2, d⟩ }

theorem newAnswers_abs (n : Nat) (h : powB n = true) (w : World) :
    Calls Try.prog 45 #[.int .i64 n] w fun e w' => ∃ lb sb, e = .returned (.pointer (some ⟨lb, 0, none⟩)) ∧ Below w.heap.size w w' ∧ PAns w' lb sb n 0 [] ∧ w.heap.size ≤ lb ∧ w.heap.size ≤ sb ∧ lb < w'.heap.size ∧ sb < w'.heap.size := by
  have h16 : n ≤ 16 := by have := pow_nat h; omega
  refine (newAnswers_any n h16 w).mono ?_
  rintro e w' ⟨rfl, rfl⟩
  refine ⟨w.heap.size + 1, w.heap.size, rfl, ((Below.refl _ _).alloc (Nat.le_refl _) _).alloc (by simp) _, ⟨?_, by omega, ⟨zeroAns n, ?_, by simp [zeroAns, size_madeCells], fun j a h => by simp at h⟩, h, Nat.zero_le _⟩, by omega, by omega, by simp, by simp; omega⟩
  · simpa using heap_alloc_new (w.alloc (.cells (zeroAns n) 66)) _
  · rw [Below.heap_alloc _ _ _ (by simp)]; exact heap_alloc_new w _

theorem AnsAt.lay {cs : Array Value} {n t : Nat} {l : List Ans} (h : AnsAt cs n t l) (hl : l.length < n) (a : Ans) :
    AnsAt ((cs.setIfInBounds ((t + l.length) % n * 2) (.int .i64 a.1)).setIfInBounds ((t + l.length) % n * 2 + 1) (.int .i64 a.2)) n t (l ++ [a]) := by
  refine ⟨by simpa using h.1, fun j b hb => ?_⟩
  have hs := h.1
  have hm : (t + l.length) % n < n := Nat.mod_lt _ (by omega)
  simp only [Array.getElem?_setIfInBounds, Array.size_setIfInBounds]
  rcases Nat.lt_trichotomy j l.length with e | e | e
  · rw [List.getElem?_append_left e] at hb
    obtain ⟨h0, h1⟩ := h.2 j b hb
    have hne : (t + j) % n ≠ (t + l.length) % n := fun h => by
      have := mod_inj (t := t) (n := n) (j := t + j) (k := t + l.length) (by omega) (by omega) (by omega) (by omega) h
      omega
    rw [if_neg (by omega), if_neg (by omega), if_neg (by omega), if_neg (by omega)]
    exact ⟨h0, h1⟩
  · subst e
    simp at hb
    subst hb
    rw [if_neg (by omega), if_pos rfl, if_pos (by omega), if_pos rfl, if_pos (by omega)]
    exact ⟨rfl, rfl⟩
  · rw [List.getElem?_eq_none (by simp; omega)] at hb; cases hb

theorem ans_laid {w : World} {lb sb n t : Nat} {l : List Ans} {a : Ans} (q : Nat) (h : PAns w lb sb n t l) (hl : l.length < n) :
    PAns ((((w.drewN q).setCell ⟨sb, (t + l.length) % n * 2, none⟩ (.int .i64 a.1)).setCell ⟨sb, (t + l.length) % n * 2 + 1, none⟩ (.int .i64 a.2)).setCell ⟨lb, 1, none⟩ (.int .i64 ((t : Int) + (l.length : Int) + 1))) lb sb n t (l ++ [a]) ∧
    Keep (fun b => b ≠ lb ∧ b ≠ sb) w ((((w.drewN q).setCell ⟨sb, (t + l.length) % n * 2, none⟩ (.int .i64 a.1)).setCell ⟨sb, (t + l.length) % n * 2 + 1, none⟩ (.int .i64 a.2)).setCell ⟨lb, 1, none⟩ (.int .i64 ((t : Int) + (l.length : Int) + 1))) := by
  have k1 : Keep (fun b => b ≠ lb ∧ b ≠ sb) w ((((w.drewN q).setCell ⟨sb, (t + l.length) % n * 2, none⟩ (.int .i64 a.1)).setCell ⟨sb, (t + l.length) % n * 2 + 1, none⟩ (.int .i64 a.2)).setCell ⟨lb, 1, none⟩ (.int .i64 ((t : Int) + (l.length : Int) + 1))) :=
    ((((Keep.refl _ w).drewN q).setCell _ (fun _ h => h.2 rfl) _).setCell _ (fun _ h => h.2 rfl) _).setCell _ (fun _ h => h.1 rfl) _
  obtain ⟨cs, hs, hat⟩ := h.slots
  refine ⟨⟨?_, h.ne, ⟨_, ?_, hat.lay hl a⟩, h.pow, by simp; omega⟩, k1⟩
  · rw [heap_setCell_at (cs := #[.slice (some ⟨sb, 0, none⟩) n n, .int .i64 ((t : Int) + (l.length : Int)), .int .i64 t]) (T := 126) (f := (0, 0))]
    · simp [Int.add_assoc]
    · rw [Below.heap_setCell _ _ _ _ h.ne, Below.heap_setCell _ _ _ _ h.ne]; simpa using h.ring
  · rw [Below.heap_setCell _ _ _ _ (Ne.symm h.ne)]
    exact heap_setCell_at _ (heap_setCell_at _ (by simpa using hs))

set_option maxHeartbeats 1000000 in
theorem lay_full {w : World} {lb sb n t : Nat} {l : List Ans} (a : Ans) (h : PAns w lb sb n t l) (hl : l.length = n) (_hb : t < 4611686018427387904) :
    Calls Try.prog 64 #[.pointer (some ⟨lb, 0, none⟩), .agg #[.int .i64 a.1, .int .i64 a.2]] w fun e w' => e = .returned (.bool false) ∧ Below w.heap.size w w' := by
  have hn' : n ≤ 16 := by have := pow_nat h.pow; omega
  have c0 := cellAt (i := 0) h.ring rfl
  have c1 := cellAt (i := 1) h.ring rfl
  have c2 := cellAt (i := 2) h.ring rfl
  have l1 := block_lt h.ring
  rw [hl] at c1
  clear h hl
  go_enter Try.func64, Try.ntmps64
  go_wp2
  go_quiet (fail)
  go_wp2
  go_ret
  exact ⟨rfl, below_drewN ((Below.refl _ _).alloc (Nat.le_refl _) _) _⟩

set_option maxHeartbeats 1000000 in
theorem lay_room {w : World} {lb sb n t : Nat} {l : List Ans} (a : Ans) (h : PAns w lb sb n t l) (hl : l.length < n) (hb : t < 4611686018427387000) :
    Calls Try.prog 64 #[.pointer (some ⟨lb, 0, none⟩), .agg #[.int .i64 a.1, .int .i64 a.2]] w fun e w' => e = .returned (.bool true) ∧ PAns w' lb sb n t (l ++ [a]) ∧ Keep (fun b => b ≠ lb ∧ b ≠ sb) w w' := by
  have hn' := pow_nat h.pow
  have hn16 : n ≤ 16 := by omega
  have c0 := cellAt (i := 0) h.ring rfl
  have c1 := cellAt (i := 1) h.ring rfl
  have c2 := cellAt (i := 2) h.ring rfl
  have z1 := frozenAt (i := 1) h.ring
  have l1 := block_lt h.ring
  obtain ⟨cs, hs, hat⟩ := h.slots
  have l2 := block_lt hs
  have hmod : (t + l.length) % n < n := Nat.mod_lt _ (by omega)
  have hsz := hat.1
  obtain ⟨u0, hu0⟩ : ∃ u, cs[(t + l.length) % n * 2]? = some u := ⟨_, Array.getElem?_eq_getElem (by omega)⟩
  obtain ⟨u1, hu1⟩ : ∃ u, cs[(t + l.length) % n * 2 + 1]? = some u := ⟨_, Array.getElem?_eq_getElem (by omega)⟩
  have s0 := cellAt hs hu0
  have s1 := cellAt hs hu1
  have y0 := frozenAt (i := (t + l.length) % n * 2) hs
  have y1 := frozenAt (i := (t + l.length) % n * 2 + 1) hs
  have hne := h.ne
  have hne2 := Ne.symm h.ne
  have HA := fun o q => (show ((w.alloc o).drewN q).heap[lb]? = w.heap[lb]? from Below.heap_alloc _ _ _ l1).trans h.ring
  have HH : Hid (PAns w lb sb n t l) := h
  have hroom : (l.length : Int) < (n : Int) := by omega
  have hcall := fun W hW => aslotOf_any lb sb n (t + l.length) (.int .i64 ((t : Int) + (l.length : Int))) (.int .i64 t) W hW HH.out.pow (by omega)
  rw [Int.natCast_add] at hcall
  have HFIN : Hid (∀ q, PAns (((((w.alloc (.cells #[.int .i64 a.1, .int .i64 a.2] 66)).drewN q).setCell ⟨sb, (t + l.length) % n * 2, none⟩ (.int .i64 a.1)).setCell ⟨sb, (t + l.length) % n * 2 + 1, none⟩ (.int .i64 a.2)).setCell ⟨lb, 1, none⟩ (.int .i64 ((t : Int) + (l.length : Int) + 1))) lb sb n t (l ++ [a]) ∧
    Keep (fun b => b ≠ lb ∧ b ≠ sb) w (((((w.alloc (.cells #[.int .i64 a.1, .int .i64 a.2] 66)).drewN q).setCell ⟨sb, (t + l.length) % n * 2, none⟩ (.int .i64 a.1)).setCell ⟨sb, (t + l.length) % n * 2 + 1, none⟩ (.int .i64 a.2)).setCell ⟨lb, 1, none⟩ (.int .i64 ((t : Int) + (l.length : Int) + 1)))) := by
    intro q
    have hX : Keep (fun _ => True) w (w.alloc (.cells #[.int .i64 a.1, .int .i64 a.2] 66)) := (Keep.refl _ w).alloc _
    obtain ⟨p1, p2⟩ := ans_laid (a := a) q (h.keep hX trivial trivial) hl
    exact ⟨p1, hX.mono (fun _ _ _ => trivial) |>.trans p2⟩
  clear hs hat h hsz hu0 hu1 hl
  generalize hr : (t + l.length) % n = r at *
  generalize hlen : l.length = len at *
  go_enter Try.func64, Try.ntmps64
  go_wp2
  go_quiet (fail)
  go_wp2_with fail
  go_region_with (go_at_call 65; refine (hcall _ (HA _ _)).mono ?_; rintro e w1 ⟨rfl, nq2, rfl⟩)
  all_goals
    go_wp2
    go_ret
    exact ⟨rfl, HFIN.out _⟩

theorem AnsAt.poll {cs : Array Value} {n t : Nat} {a : Ans} {l : List Ans} (h : AnsAt cs n t (a :: l)) : AnsAt cs n (t + 1) l := by
  refine ⟨h.1, fun j b hb => ?_⟩
  have := h.2 (j + 1) b (by simpa using hb)
  rwa [show t + (j + 1) = t + 1 + j by omega] at this

theorem ans_polled {w : World} {lb sb n t : Nat} {a : Ans} {l : List Ans} (h : PAns w lb sb n t (a :: l)) :
    PAns (w.setCell ⟨lb, 2, none⟩ (.int .i64 ((t : Int) + 1))) lb sb n (t + 1) l ∧ Keep (fun b => b ≠ lb ∧ b ≠ sb) w (w.setCell ⟨lb, 2, none⟩ (.int .i64 ((t : Int) + 1))) := by
  have k1 : Keep (fun b => b ≠ lb ∧ b ≠ sb) w (w.setCell ⟨lb, 2, none⟩ (.int .i64 ((t : Int) + 1))) := (Keep.refl _ w).setCell _ (fun _ h => h.1 rfl) _
  obtain ⟨cs, hs, hat⟩ := h.slots
  have hf := h.full
  refine ⟨⟨?_, h.ne, ⟨cs, ?_, hat.poll⟩, h.pow, by simp at hf; omega⟩, k1⟩
  · rw [heap_setCell_at (cs := #[.slice (some ⟨sb, 0, none⟩) n n, .int .i64 ((t : Int) + ((a :: l).length : Int)), .int .i64 t]) (T := 126) (f := (0, 0)) _ h.ring]
    simp
    omega
  · rw [Below.heap_setCell _ _ _ _ (Ne.symm h.ne)]; exact hs

set_option maxHeartbeats 1000000 in
theorem apoll_empty {w : World} {lb sb n t : Nat} (h : PAns w lb sb n t []) :
    Calls Try.prog 54 #[.pointer (some ⟨lb, 0, none⟩)] w fun e w' => e = .returned (.tuple #[.agg #[.int .i64 0, .int .i64 0], .bool false]) ∧ Below w.heap.size w w' := by
  have c1 := cellAt (i := 1) h.ring rfl
  have c2 := cellAt (i := 2) h.ring rfl
  have l1 := block_lt h.ring
  clear h
  go_enter Try.func54, Try.ntmps54
  go_wp2
  go_quiet (fail)
  go_wp2
  exact bodyPost_ret (v := .tuple #[.agg #[.int .i64 0, .int .i64 0], .bool false]) (by simp [results, Try.results54, go_sem]) rfl ⟨rfl, ((below_drewN ((Below.refl _ _).alloc (Nat.le_refl _) _) _).setCell (Nat.le_refl _) _).setCell (Nat.le_refl _) _⟩

set_option maxHeartbeats 1000000 in
theorem apoll_take {w : World} {lb sb n t : Nat} {a : Ans} {l : List Ans} (h : PAns w lb sb n t (a :: l)) (hb : t < 4611686018427387000) :
    Calls Try.prog 54 #[.pointer (some ⟨lb, 0, none⟩)] w fun e w' => e = .returned (.tuple #[.agg #[.int .i64 a.1, .int .i64 a.2], .bool true]) ∧ PAns w' lb sb n (t + 1) l ∧ Keep (fun b => b ≠ lb ∧ b ≠ sb) w w' := by
  have c1 := cellAt (i := 1) h.ring rfl
  have c2 := cellAt (i := 2) h.ring rfl
  have z2 := frozenAt (i := 2) h.ring
  have l1 := block_lt h.ring
  obtain ⟨cs, hs, hat⟩ := h.slots
  have l2 := block_lt hs
  obtain ⟨s0, s1⟩ := hat.2 0 a rfl
  have s0 := cellAt hs s0
  have s1 := cellAt hs s1
  rw [Nat.add_zero] at s0 s1
  have hne := h.ne
  have hne2 := Ne.symm h.ne
  have HA := fun o q => (show ((w.alloc o).drewN q).heap[lb]? = w.heap[lb]? from Below.heap_alloc _ _ _ l1).trans h.ring
  have HH : Hid (PAns w lb sb n t (a :: l)) := h
  have hcall := fun W hW => aslotOf_any lb sb n t (.int .i64 ((t : Int) + ((a :: l).length : Int))) (.int .i64 t) W hW HH.out.pow (by omega)
  have hlen : ((t : Int) == (t : Int) + ((a :: l).length : Int)) = false := by simp; omega
  clear hs hat h
  generalize hr : (t) % n = r at *
  generalize hlen : (a :: l).length = len at *
  go_enter Try.func54, Try.ntmps54
  go_wp2
  go_quiet (fail)
  go_wp2_with fail
  refine (hcall _ (HA _ _)).mono ?_
  rintro e w1 ⟨rfl, nq2, rfl⟩
  go_wp2_with fail
  refine bodyPost_ret (v := .tuple #[.agg #[.int .i64 a.1, .int .i64 a.2], .bool true]) (by simp [results, Try.results54, go_sem]) rfl ⟨rfl, ?_⟩
  have hX : Keep (fun _ => True) w ((w.alloc (.cells #[.int .i64 0, .int .i64 0] 66)).drewN (nq + nq2)) := ((Keep.refl _ w).alloc _).drewN _
  obtain ⟨p1, k1⟩ := ans_polled (HH.out.keep hX trivial trivial)
  have fin : ∀ X, PAns X lb sb n (t + 1) l → Keep (fun b => b ≠ lb ∧ b ≠ sb) w X → ∀ u0 u1 o, PAns (((X.setCell ⟨w.heap.size, 0, none⟩ u0).setCell ⟨w.heap.size, 1, none⟩ u1).alloc o) lb sb n (t + 1) l ∧
      Keep (fun b => b ≠ lb ∧ b ≠ sb) w (((X.setCell ⟨w.heap.size, 0, none⟩ u0).setCell ⟨w.heap.size, 1, none⟩ u1).alloc o) := fun X p k u0 u1 o =>
    ⟨p.keep ((((Keep.refl (fun b => b < w.heap.size) X).setCell _ (fun _ h => Nat.lt_irrefl _ h) u0).setCell _ (fun _ h => Nat.lt_irrefl _ h) u1).alloc o) l1 l2,
      ((k.setCell _ (fun h => absurd h (Nat.lt_irrefl _)) u0).setCell _ (fun h => absurd h (Nat.lt_irrefl _)) u1).alloc o⟩
  exact fin _ p1 (hX.mono (fun _ _ _ => trivial) |>.trans k1) _ _ _

end Go.Proofs.Ytjhifhoniimfgaa

/-
  A gate's state and its steps: no code.
-/
namespace Go.Proofs.Ytjhifhoniimfgaa
open Go.RowKit

def upN {α : Type} (m : Nat → α) (i : Nat) (x : α) : Nat → α := fun j => if j = i then x else m j

theorem upN_same {α : Type} (m : Nat → α) (i : Nat) (x : α) : upN m i x i = x := if_pos rfl
theorem upN_ne {α : Type} (m : Nat → α) (i : Nat) (x : α) (j : Nat) (h : j ≠ i) : upN m i x j = m j := if_neg h
theorem upN_self {α : Type} (m : Nat → α) (i : Nat) : upN m i (m i) = m := by
  funext j
  unfold upN
  split
  · rename_i h; rw [h]
  · rfl

/-- The errors of a client and a lane, in their order. -/
def refuse (cl client lane : Int) : Int := if client < 0 ∨ cl ≤ client then 3 else if lane = 0 ∨ lane = 1 then 0 else 4

theorem refuse_lane {cl client lane : Int} (h : refuse cl client lane = 0) : 0 ≤ client ∧ client < cl ∧ ((lane = 0 ∧ lane.toNat = 0) ∨ (lane = 1 ∧ lane.toNat = 1)) := by
  unfold refuse at h
  by_cases h1 : client < 0 ∨ cl ≤ client
  · rw [if_pos h1] at h; omega
  · rw [if_neg h1] at h
    by_cases h2 : lane = 0 ∨ lane = 1
    · omega
    · rw [if_neg h2] at h; omega

/-- A gate: its settings (clients, places of the answers' rings, checks, accounts and their limits, sizes of the lanes); of each lane how many places were claimed and taken, and what lies in them; of each client the answers in its ring, and its acks; the answer with which the core waits; of each account all orders that were let through, and whether it is stopped; the time; what the watch knows. -/
structure St where
  cl : Nat
  an : Nat
  ch : Nat
  na : Nat
  lim : Nat → Nat → Int
  n : Nat → Nat
  m : Nat → Nat
  t : Nat → Nat
  f : Nat → Nat → Pl
  ring : Nat → List Ans
  acks : Nat → List Ans
  held : Option (Nat × Ans)
  book : Nat → List Ent
  stop : Nat → Bool
  time : Nat
  ticked : Bool
  stepped : Bool
  misses : Nat
  shut : Bool

/-- A new gate. -/
def newS (cl an ch na : Nat) (lim : Nat → Nat → Int) (n : Nat → Nat) : St :=
  ⟨cl, an, ch, na, lim, n, fun _ => 0, fun _ => 0, fun _ _ => zeroPl, fun _ => [], fun _ => [], none, fun _ => [], fun _ => false, 0, false, false, 0, false⟩

/-- The orders of an account that are open. -/
def St.opens (s : St) (a : Nat) : List Ent := (s.book a).filter (isOpen s.time)

def claimS (s : St) (client lane : Int) : Int × Int × St :=
  if refuse s.cl client lane ≠ 0 then (0, refuse s.cl client lane, s)
  else if s.shut = true then (0, 5, s)
  else if s.t lane.toNat + s.n lane.toNat ≤ s.m lane.toNat then (0, 6, s)
  else (s.m lane.toNat, 0, { s with m := upN s.m lane.toNat (s.m lane.toNat + 1), f := upN s.f lane.toNat (upd (s.f lane.toNat) (s.m lane.toNat) (client, false, ByteArray.empty)) })

/-- May this client fill this place? -/
def fillB (m : Nat) (f : Nat → Pl) (client place : Int) : Bool :=
  decide (0 ≤ place) && decide (place < m) && decide ((f place.toNat).1 = client) && !(f place.toNat).2.1

def pubS (s : St) (client lane place : Int) (b : ByteArray) : Int × St :=
  if refuse s.cl client lane ≠ 0 then (refuse s.cl client lane, s)
  else if fillB (s.m lane.toNat) (s.f lane.toNat) client place then
    (0, { s with f := upN s.f lane.toNat (upd (s.f lane.toNat) place.toNat ((s.f lane.toNat place.toNat).1, true, b)) })
  else (7, s)

/-- The code of a New. -/
def newsV (s : St) (a : Nat) (sd num : Int) (p q : Nat) : Int :=
  if s.shut = true then 9
  else jCode (s.lim a) (s.stop a) ((s.opens a).any (fun x => x.order == num)) sd p q (wSum (s.opens a)) (qSum sd (s.opens a)) (cntGt (s.time - s.lim a 5) (s.book a))

/-- The first open order with this number is gone. -/
def goneL (time num : Int) : List Ent → List Ent
  | [] => []
  | x :: r => if x.order == num && isOpen time x then { x with gone := true } :: r else x :: goneL time num r

def doS (s : St) : Said → Int × St
  | .new a sd num p q l => (newsV s a.toNat sd num p.toNat q.toNat,
      if newsV s a.toNat sd num p.toNat q.toNat = 0 then { s with book := upN s.book a.toNat (s.book a.toNat ++ [⟨num, sd, p, q, s.time, s.time + l, false⟩]) } else s)
  | .cancel a num => if (s.opens a.toNat).any (fun x => x.order == num) then (0, { s with book := upN s.book a.toNat (goneL s.time num (s.book a.toNat)) }) else (18, s)
  | .kill a => (0, { s with stop := upN s.stop a.toNat true })
  | .unkill a => (0, { s with stop := upN s.stop a.toNat false })
  | .wrong c => (c, s)

/-- What a frame of a lane says is done. -/
def doesS (s : St) (i : Nat) (b : ByteArray) : Int × St := doS s (saidOf s.na i b)

/-- Can the core take the next place of a lane? -/
def St.hasNext (s : St) (i : Nat) : Bool := (s.f i (s.t i)).2.1

def St.took (s : St) (i : Nat) : St := { s with t := upN s.t i (s.t i + 1) }

def St.whose (s : St) (i : Nat) : Nat := (s.f i (s.t i)).1.toNat

def St.ack (s : St) (c : Nat) (a : Ans) : St := { s with acks := upN s.acks c (s.acks c ++ [a]) }
def St.lay (s : St) (c : Nat) (a : Ans) : St := { s with ring := upN s.ring c (s.ring c ++ [a]) }

def rushS (s : St) : Int × St :=
  (1, (doesS (s.took 1) 1 (s.f 1 (s.t 1)).2.2).2.ack (s.whose 1) (s.t 1, (doesS (s.took 1) 1 (s.f 1 (s.t 1)).2.2).1))

def freeS (s : St) (c : Nat) (a : Ans) : Int × St :=
  if (s.ring c).length < s.an then (4, { s.lay c a with held := none }) else (3, s)

def serveS (s : St) : Int × St :=
  if ((doesS (s.took 0) 0 (s.f 0 (s.t 0)).2.2).2.ring (s.whose 0)).length < s.an then
    (2, (doesS (s.took 0) 0 (s.f 0 (s.t 0)).2.2).2.lay (s.whose 0) (s.t 0, (doesS (s.took 0) 0 (s.f 0 (s.t 0)).2.2).1))
  else (3, { (doesS (s.took 0) 0 (s.f 0 (s.t 0)).2.2).2 with held := some (s.whose 0, (s.t 0, (doesS (s.took 0) 0 (s.f 0 (s.t 0)).2.2).1)) })

def St.step (s : St) : St := { s with stepped := true }

def coreS' (s : St) : Int × St :=
  if s.hasNext 1 then rushS s
  else match s.held with
    | some (c, a) => freeS s c a
    | none => if s.hasNext 0 then serveS s else (0, s)

def coreS (s : St) : Int × St := coreS' s.step

def pollS (s : St) (client : Int) : Ans × Int × St :=
  if refuse s.cl client 0 ≠ 0 then ((0, 0), refuse s.cl client 0, s)
  else match s.ring client.toNat with
    | [] => ((0, 0), 8, s)
    | a :: r => (a, 0, { s with ring := upN s.ring client.toNat r })

def acksS (s : St) (client : Int) : List Ans × Int × St :=
  if refuse s.cl client 0 ≠ 0 then ([], refuse s.cl client 0, s)
  else (s.acks client.toNat, 0, { s with acks := upN s.acks client.toNat [] })

def tickS (s : St) : St := { s with time := s.time + 1, ticked := true }

def watchS (s : St) : Bool × St :=
  if s.ticked = false then (s.shut, s)
  else (s.shut || decide (s.ch ≤ (if s.stepped then 0 else s.misses + 1)),
    { s with ticked := false, stepped := false, misses := if s.stepped then 0 else s.misses + 1, shut := s.shut || decide (s.ch ≤ (if s.stepped then 0 else s.misses + 1)) })

/-- An order as it may be. -/
structure EntOk (x : Ent) (time : Nat) : Prop where
  side : x.side = 0 ∨ x.side = 1
  price : 1 ≤ x.price
  qty : 1 ≤ x.qty
  worth : x.price * x.qty ≤ 9223372036854775807
  frm : 0 ≤ x.frm ∧ x.frm ≤ time
  till : x.frm + 1 ≤ x.till ∧ x.till ≤ x.frm + 1000000

/-- A list of open orders as it may be: sums that fit, numbers that differ. -/
structure OpenOk (l : List Ent) : Prop where
  w : wSum l ≤ 9223372036854775807
  q : ∀ sd, qSum sd l ≤ 9223372036854775807
  num : (l.map (·.order)).Nodup

/-- A state as it may be behind N calls. -/
structure Ok (s : St) (N : Nat) : Prop where
  cl : 1 ≤ s.cl ∧ s.cl ≤ 8
  an : powB s.an = true
  ch : 1 ≤ s.ch ∧ s.ch ≤ 100
  na : 1 ≤ s.na ∧ s.na ≤ 4
  lim : ∀ a, a < s.na → (∀ j, j < 5 → 0 ≤ s.lim a j ∧ s.lim a j ≤ 4611686018427387904) ∧ 1 ≤ s.lim a 5 ∧ s.lim a 5 ≤ 1000
  n : ∀ i, i < 2 → powB (s.n i) = true
  mt : ∀ i, i < 2 → s.t i ≤ s.m i ∧ s.m i ≤ s.t i + s.n i ∧ s.m i ≤ N
  free : ∀ i k, i < 2 → s.m i ≤ k → s.f i k = zeroPl
  full : ∀ i k, i < 2 → k < s.t i → (s.f i k).2.1 = true
  who : ∀ i k, i < 2 → k < s.m i → 0 ≤ (s.f i k).1 ∧ (s.f i k).1 < s.cl
  ring : ∀ c, (s.ring c).length ≤ s.an
  acks : ∀ c, (s.acks c).length ≤ N
  held : ∀ c a, s.held = some (c, a) → c < s.cl
  time : s.time ≤ N
  miss : s.misses ≤ N
  live : s.shut = false → s.misses < s.ch
  len : ∀ a, (s.book a).length ≤ N
  ents : ∀ a x, x ∈ s.book a → EntOk x s.time
  opens : ∀ a, OpenOk (s.opens a)

end Go.Proofs.Ytjhifhoniimfgaa

/-
  An order is cancelled.
-/
namespace Go.Proofs.Ytjhifhoniimfgaa
open Go.RowKit

/-- The orders' numbers are such as may be: sides, quantities and worths; their sums fit. -/
structure GoodL (dat : Nat → Odr) (l : List Nat) : Prop where
  each : ∀ b, b ∈ l → ((dat b).side = 0 ∨ (dat b).side = 1) ∧ 0 ≤ (dat b).qty ∧ 0 ≤ (dat b).worth
  q0 : tot (qtyF dat 0) l ≤ 9223372036854775807
  q1 : tot (qtyF dat 1) l ≤ 9223372036854775807
  w : tot (worthF dat) l ≤ 9223372036854775807

theorem GoodL.qtyPos {dat : Nat → Odr} {l : List Nat} (h : GoodL dat l) (s : Int) : 0 ≤ tot (qtyF dat s) l :=
  tot_nonneg _ l (fun b hb => by unfold qtyF; split; exact (h.each b hb).2.1; omega)

theorem GoodL.worthPos {dat : Nat → Odr} {l : List Nat} (h : GoodL dat l) : 0 ≤ tot (worthF dat) l :=
  tot_nonneg _ l (fun b hb => (h.each b hb).2.2)

theorem GoodL.rem {dat : Nat → Odr} {l l' : List Nat} {ob : Nat} (h : GoodL dat l) (hp : l.Perm (l' ++ [ob])) : GoodL dat l' := by
  have hm : ∀ b, b ∈ l' → b ∈ l := fun b hb => hp.mem_iff.2 (List.mem_append_left _ hb)
  have hob : ob ∈ l := hp.mem_iff.2 (by simp)
  have e : ∀ f, tot f l = tot f l' + f ob := fun f => tot_snoc f hp
  have pq : ∀ s : Int, 0 ≤ qtyF dat s ob := fun s => by unfold qtyF; split; exact (h.each ob hob).2.1; omega
  refine ⟨fun b hb => h.each b (hm b hb), ?_, ?_, ?_⟩
  · have := e (qtyF dat 0); have := pq 0; have := h.q0; omega
  · have := e (qtyF dat 1); have := pq 1; have := h.q1; omega
  · have h1 := e (worthF dat)
    have h2 : 0 ≤ worthF dat ob := (h.each ob hob).2.2
    have := h.w
    omega

/-- Other orders: all else of the account is as it was. -/
theorem AccP.reord {w w' : World} {ab : Nat} {lim : Nat → Int} {st : Bool} {v v' : Value} {mb : Nat} {l l' : List Nat} {dat : Nat → Odr} {cv : Value} {c : List Cnt} (h : AccP w ab lim st v mb l dat cv c) (ho : OrdsAt w' ab v' mb l' dat)
    (hc : ∀ cs, w.heap[ab]? = some (.cells cs 135 (0, 0)) → ∃ cs', w'.heap[ab]? = some (.cells cs' 135 (0, 0)) ∧ (∀ i, i < 7 ∨ 11 < i → cs'[i]? = cs[i]?)) (hcnt : CntAt w' cv c)
    (h1 : ∀ b, b ∈ l' → cv.ownBlock ≠ some b) (h2 : ∀ b, cv.ownBlock = some b → v'.ownBlock ≠ some b) : AccP w' ab lim st v' mb l' dat cv c := by
  obtain ⟨cs, a, b1, b2, b3, b4⟩ := h.cells
  obtain ⟨cs', a', g⟩ := hc cs a
  obtain ⟨cs2, q1, q2, _⟩ := ho.cells
  rw [a'] at q1
  cases q1
  exact ⟨ho, ⟨cs', a', q2, fun i hi => by rw [g i (by omega)]; exact b2 i hi, by rw [g 6 (by omega)]; exact b3, by rw [g 12 (by omega)]; exact b4⟩, hcnt, h.cvab, h.cvmb, h1, h2⟩

set_option maxHeartbeats 1000000 in
theorem cancel_no (w : World) (ab : Nat) (lim : Nat → Int) (st : Bool) (v : Value) (mb : Nat) (l : List Nat) (dat : Nat → Odr) (cv : Value) (c : List Cnt) (h : AccP w ab lim st v mb l dat cv c) (N : Int) (hn : hasN dat l N = false) :
    Calls Try.prog 76 #[.pointer (some ⟨ab, 0, none⟩), .int .i64 N] w fun e w' => e = .returned (.int .i64 18) ∧ w = w' := by
  have hh := has_any w ab v mb l dat h.ords N
  rw [hn] at hh
  clear h hn
  go_enter Try.func76, Try.ntmps76
  go_wp2_with fail
  refine hh.mono ?_
  rintro e w' ⟨rfl, rfl⟩
  go_wp2_with fail
  go_ret
  exact ⟨rfl, rfl⟩

set_option maxHeartbeats 1000000 in
theorem cancel_yes (w : World) (ab : Nat) (lim : Nat → Int) (st : Bool) (v : Value) (mb : Nat) (l : List Nat) (dat : Nat → Odr) (cv : Value) (c : List Cnt) (h : AccP w ab lim st v mb l dat cv c) (ob : Nat) (hb : ob ∈ l) (hg : GoodL dat l) (hlen : l.length ≤ 8796093022208) :
    Calls Try.prog 76 #[.pointer (some ⟨ab, 0, none⟩), .int .i64 (dat ob).num] w fun e w' => e = .returned (.int .i64 0) ∧
      ∃ v' l', AccP w' ab lim st v' mb l' dat cv c ∧ l.Perm (l' ++ [ob]) ∧ v'.ownBlock = v.ownBlock ∧ Keep (fun b => b ≠ ab ∧ b ≠ mb ∧ v.ownBlock ≠ some b ∧ b ∉ l) w w' := by
  have hh := has_any w ab v mb l dat h.ords (dat ob).num
  have hn : hasN dat l (dat ob).num = true := by
    simp only [hasN, List.any_eq_true, beq_iff_eq]
    exact ⟨ob, hb, rfl⟩
  rw [hn] at hh
  have hsum : ∀ f : Nat → Int, (∀ b, b ∈ l → 0 ≤ f b) → 0 ≤ tot f l - f ob := fun f hf => by
    obtain ⟨j, hj⟩ := List.getElem?_of_mem hb
    have hp := erase_perm l j ob hj
    have e := tot_perm f hp
    have hr := tot_nonneg f (l.eraseIdx j) (fun b hb => hf b ((List.eraseIdx_sublist _ _).subset hb))
    simp only [tot] at e
    omega
  have hqn : ∀ s : Int, ∀ b, b ∈ l → 0 ≤ qtyF dat s b := fun s b hb => by unfold qtyF; split; exact (hg.each b hb).2.1; omega
  have hside := (hg.each ob hb).1
  have hq : 0 ≤ tot (qtyF dat (dat ob).side) l - (dat ob).qty ∧ tot (qtyF dat (dat ob).side) l - (dat ob).qty ≤ 9223372036854775807 := by
    have h1 := hsum (qtyF dat (dat ob).side) (hqn _)
    have h2 : qtyF dat (dat ob).side ob = (dat ob).qty := if_pos rfl
    have h3 : tot (qtyF dat (dat ob).side) l ≤ 9223372036854775807 := by
      rcases hside with e | e
      · rw [e]; exact hg.q0
      · rw [e]; exact hg.q1
    have h4 := (hg.each ob hb).2.1
    omega
  have hw : 0 ≤ tot (worthF dat) l - (dat ob).worth ∧ tot (worthF dat) l - (dat ob).worth ≤ 9223372036854775807 := by
    have h1 : 0 ≤ tot (worthF dat) l - (dat ob).worth := hsum (worthF dat) (fun b hb => (hg.each b hb).2.2)
    have h2 := (hg.each ob hb).2.2
    have h3 := hg.w
    exact ⟨h1, by omega⟩
  have hrm := remove_any w ab ob v mb l dat h.ords hb hside hlen hq hw
  have HH : Hid (AccP w ab lim st v mb l dat cv c) := h
  clear h hn hsum hqn hq hw hside
  generalize (dat ob).num = N at *
  go_enter Try.func76, Try.ntmps76
  go_wp2_with fail
  refine hh.mono ?_
  rintro e w' ⟨rfl, rfl⟩
  go_wp2_with fail
  refine hrm.mono ?_
  rintro e w1 ⟨rfl, v', l', ho', hp', hv', hc', hk'⟩
  go_wp2_with fail
  go_ret
  have hml : ∀ b, b ∈ l' → b ∈ l := fun b hb => hp'.mem_iff.2 (List.mem_append_left _ hb)
  refine ⟨rfl, v', l', HH.out.reord ho' hc' (HH.out.cnt.keep hk' (fun b hb => ⟨fun e => HH.out.cvab (e ▸ hb), fun e => HH.out.cvmb (e ▸ hb), HH.out.cvv b hb, fun e => HH.out.cvl b e hb⟩)) (fun b hb => HH.out.cvl b (hml b hb)) (fun b hb => by rw [hv']; exact HH.out.cvv b hb), hp', hv', hk'⟩

end Go.Proofs.Ytjhifhoniimfgaa

/-
  A New that is not let through.
-/
namespace Go.Proofs.Ytjhifhoniimfgaa
open Go.RowKit

set_option maxHeartbeats 1000000 in
theorem open_no (w : World) (ab : Nat) (A S N L p q now : Int) (code : Int) (Z : World → Prop) (hcode : code ≠ 0)
    (hj : Calls Try.prog 84 #[.pointer (some ⟨ab, 0, none⟩), .agg #[.int .i64 A, .int .i64 S, .int .i64 N, .int .i64 p, .int .i64 q, .int .i64 L], .int .i64 now] (w.alloc (.cells #[.int .i64 A, .int .i64 S, .int .i64 N, .int .i64 p, .int .i64 q, .int .i64 L] 160)) fun e w' => e = .returned (.int .i64 code) ∧ Z w') :
    Calls Try.prog 75 #[.pointer (some ⟨ab, 0, none⟩), .agg #[.int .i64 A, .int .i64 S, .int .i64 N, .int .i64 p, .int .i64 q, .int .i64 L], .int .i64 now] w fun e w' => e = .returned (.int .i64 code) ∧ Z w' := by
  have hne : (code == 0) = false := by simp; exact hcode
  go_enter Try.func75, Try.ntmps75
  go_wp2_with fail
  refine hj.mono ?_
  rintro e w1 ⟨rfl, hz⟩
  go_wp2_with fail
  go_ret
  exact ⟨rfl, hz⟩

end Go.Proofs.Ytjhifhoniimfgaa

