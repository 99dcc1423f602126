import Derived.Test.YtjhifhoniimfgaaProg
import Derived.Test.YtjhifhoniimfgaaG01
import Derived.Shelf.Bits.Mul64
import Derived.BigRegion
import Derived.Deep.RegionHeld3
/-
  Numbers that are multiplied and added, if they may be.
-/
namespace Go.Proofs.Ytjhifhoniimfgaa
open Go.RowKit Go.Shelf

/-- The library's Mul64 as this program has it. -/
def renMul : Ren := ⟨fun _ => 94, fun n => if n = 46 then 122 else 154, fun x => x⟩

theorem laysMul : Lays.n264 Try.prog renMul where
  mixed := by kernel_rfl
  f264 := by kernel_rfl
  t46 := by kernel_rfl
  a46 := fun w => by kernel_rfl
  z46 := fun w => by kernel_rfl
  v46 := fun w => by kernel_rfl
  t53 := by kernel_rfl
  a53 := fun w => by kernel_rfl
  z53 := fun w => by kernel_rfl
  v53 := fun w => by kernel_rfl

theorem mul64_any (x y : Nat) (hx : x < 18446744073709551616) (hy : y < 18446744073709551616) (w : World) :
    Calls Try.prog 94 #[.int .u64 x, .int .u64 y] w fun e w' => e = .returned (.tuple #[.int .u64 ((x * y / 18446744073709551616 : Nat) : Int), .int .u64 ((x * y % 18446744073709551616 : Nat) : Int)]) ∧ w' = w :=
  Any.bits_Mul64 laysMul x y hx hy w

def timesOk (x y : Nat) : Bool := decide (x * y ≤ 9223372036854775807)
def timesV (x y : Nat) : Int := if timesOk x y then ((x * y : Nat) : Int) else 0

set_option maxHeartbeats 1000000 in
theorem times_any (x y : Nat) (hx : x ≤ 9223372036854775807) (hy : y ≤ 9223372036854775807) (w : World) :
    Calls Try.prog 90 #[.int .i64 x, .int .i64 y] w fun e w' => e = .returned (.tuple #[.int .i64 (timesV x y), .bool (timesOk x y)]) ∧ w = w' := by
  have hmul := mul64_any x y (by omega) (by omega)
  have HV : Hid (∀ b, timesOk x y = b → timesV x y = if b then ((x * y : Nat) : Int) else 0) := fun b hb => by unfold timesV; rw [hb]
  by_cases h : x * y ≤ 9223372036854775807
  · have HB : Hid (timesOk x y = true) := decide_eq_true h
    have e1 : x * y / 18446744073709551616 = 0 := by omega
    have e2 : x * y % 18446744073709551616 = x * y := by omega
    rw [e1, e2] at hmul
    generalize timesV x y = V at *
    generalize timesOk x y = B at *
    obtain ⟨P, hP⟩ : ∃ P, P = x * y := ⟨_, rfl⟩
    rw [← hP] at hmul HV h
    clear e1 e2 hP
    go_enter Try.func90, Try.ntmps90
    go_wp2_with (go_at_call 94; refine (hmul _).mono ?_; rintro e w' ⟨rfl, rfl⟩)
    go_ret2
    exact ⟨by rw [HV.out true HB.out, HB.out]; rfl, rfl⟩
  · have HB : Hid (timesOk x y = false) := decide_eq_false h
    generalize timesV x y = V at *
    generalize timesOk x y = B at *
    obtain ⟨P, hP⟩ : ∃ P, P = x * y := ⟨_, rfl⟩
    rw [← hP] at hmul HV h
    by_cases h0 : P / 18446744073709551616 = 0
    · rw [h0] at hmul
      have hlo : 9223372036854775807 < P % 18446744073709551616 := by omega
      generalize P % 18446744073709551616 = L at hmul hlo
      have hlo2 : (9223372036854775807 : Int) < (L : Int) := by omega
      clear hP h0
      go_enter Try.func90, Try.ntmps90
      go_wp2_with (go_at_call 94; refine (hmul _).mono ?_; rintro e w' ⟨rfl, rfl⟩)
      go_ret2
      exact ⟨by rw [HV.out false HB.out, HB.out]; rfl, rfl⟩
    · generalize P / 18446744073709551616 = H at hmul h0
      generalize P % 18446744073709551616 = L at hmul
      have hn : ((H : Int) != 0) = true := by simp; omega
      clear hP
      go_enter Try.func90, Try.ntmps90
      go_wp2_with (go_at_call 94; refine (hmul _).mono ?_; rintro e w' ⟨rfl, rfl⟩)
      go_ret2
      exact ⟨by rw [HV.out false HB.out, HB.out]; rfl, rfl⟩

def plusOk (x y : Int) : Bool := decide (x ≤ 9223372036854775807 - y)
def plusV (x y : Int) : Int := if plusOk x y then x + y else 0

set_option maxHeartbeats 1000000 in
theorem plus_any (x y : Int) (hx : 0 ≤ x) (hx2 : x ≤ 9223372036854775807) (hy : 0 ≤ y) (hy2 : y ≤ 9223372036854775807) (w : World) :
    Calls Try.prog 91 #[.int .i64 x, .int .i64 y] w fun e w' => e = .returned (.tuple #[.int .i64 (plusV x y), .bool (plusOk x y)]) ∧ w = w' := by
  have HV : Hid (∀ b, plusOk x y = b → plusV x y = if b then x + y else 0) := fun b hb => by unfold plusV; rw [hb]
  by_cases h : x ≤ 9223372036854775807 - y
  · have HB : Hid (plusOk x y = true) := decide_eq_true h
    generalize plusV x y = V at *
    generalize plusOk x y = B at *
    have h2 : x + y ≤ 9223372036854775807 := by omega
    have h3 : ¬ (9223372036854775807 - y < x) := by omega
    go_enter Try.func91, Try.ntmps91
    go_wp2
    go_ret2
    exact ⟨by rw [HV.out true HB.out, HB.out]; rfl, rfl⟩
  · have HB : Hid (plusOk x y = false) := decide_eq_false h
    generalize plusV x y = V at *
    generalize plusOk x y = B at *
    have h3 : 9223372036854775807 - y < x := by omega
    go_enter Try.func91, Try.ntmps91
    go_wp2
    go_ret2
    exact ⟨by rw [HV.out false HB.out, HB.out]; rfl, rfl⟩

end Go.Proofs.Ytjhifhoniimfgaa

/-
  Heaps, as numbers in a row: what goes up, what goes down. No code.
-/
namespace Go.Proofs.Ytjhifhoniimfgaa
open Go.RowKit

def sw (e : Nat → Int) (i j : Nat) : Nat → Int := fun k => if k = j then e i else if k = i then e j else e k

def HeapOk (e : Nat → Int) (n : Nat) : Prop := ∀ k, 0 < k → k < n → e ((k - 1) / 2) ≤ e k

/-- A heap, but for what lies at j, which may be less than what lies above it. -/
def UpOk (e : Nat → Int) (n j : Nat) : Prop :=
  (∀ k, 0 < k → k < n → k ≠ j → e ((k - 1) / 2) ≤ e k) ∧ (∀ k, 0 < k → k < n → (k - 1) / 2 = j → 0 < j → e ((j - 1) / 2) ≤ e k)

/-- A heap, but for what lies at i. -/
def RemOk (e : Nat → Int) (n i : Nat) : Prop :=
  (∀ k, 0 < k → k < n → k ≠ i → (k - 1) / 2 ≠ i → e ((k - 1) / 2) ≤ e k) ∧ (∀ k, 0 < k → k < n → (k - 1) / 2 = i → 0 < i → e ((i - 1) / 2) ≤ e k)

theorem up_done0 {e : Nat → Int} {n : Nat} (h : UpOk e n 0) : HeapOk e n := fun k h0 hk => h.1 k h0 hk (by omega)

theorem up_done {e : Nat → Int} {n j : Nat} (h : UpOk e n j) (hj : e ((j - 1) / 2) ≤ e j) : HeapOk e n := fun k h0 hk => by
  by_cases hkj : k = j
  · subst hkj; exact hj
  · exact h.1 k h0 hk hkj

theorem up_step {e : Nat → Int} {n j : Nat} (h : UpOk e n j) (hj0 : 0 < j) (hjn : j < n) (hlt : e j < e ((j - 1) / 2)) : UpOk (sw e ((j - 1) / 2) j) n ((j - 1) / 2) := by
  obtain ⟨h1, h2⟩ := h
  have hij : (j - 1) / 2 < j := by omega
  generalize hi : (j - 1) / 2 = i at *
  refine ⟨fun k k0 kn ki => ?_, fun k k0 kn kp i0 => ?_⟩
  · by_cases hkj : k = j
    · subst hkj
      simp only [sw, hi]
      rw [if_neg (by omega), if_pos trivial, if_pos trivial]
      omega
    · have a1 := h1 k k0 kn hkj
      have a2 := h2 k k0 kn
      simp only [sw]
      rw [if_neg hkj, if_neg ki]
      by_cases p1 : (k - 1) / 2 = j
      · rw [if_pos p1]; exact a2 p1 hj0
      · rw [if_neg p1]
        by_cases p2 : (k - 1) / 2 = i
        · rw [if_pos p2]; rw [p2] at a1; omega
        · rw [if_neg p2]; exact a1
  · have b1 := h1 i i0 (by omega) (by omega)
    simp only [sw]
    rw [if_neg (show ¬ (i - 1) / 2 = j by omega), if_neg (show ¬ (i - 1) / 2 = i by omega)]
    by_cases hkj : k = j
    · rw [if_pos hkj]; exact b1
    · rw [if_neg hkj, if_neg (show ¬ k = i by omega)]
      have a1 := h1 k k0 kn hkj
      rw [kp] at a1
      omega

theorem push_up {e : Nat → Int} {n : Nat} (h : HeapOk e n) : UpOk e (n + 1) n :=
  ⟨fun k h0 hk hn => h k h0 (by omega), fun k h0 hk hp _ => by omega⟩

theorem rem_start {e : Nat → Int} {n i : Nat} (h : HeapOk e (n + 1)) (hi : i < n) : RemOk (sw e i n) n i := by
  refine ⟨fun k k0 kn ki kp => ?_, fun k k0 kn kp i0 => ?_⟩
  · simp only [sw]
    rw [if_neg (show ¬ k = n by omega), if_neg ki, if_neg (show ¬ (k - 1) / 2 = n by omega), if_neg kp]
    exact h k k0 (by omega)
  · have a1 := h i i0 (by omega)
    have a2 := h k k0 (by omega)
    rw [kp] at a2
    simp only [sw]
    rw [if_neg (show ¬ k = n by omega), if_neg (show ¬ k = i by omega), if_neg (show ¬ (i - 1) / 2 = n by omega), if_neg (show ¬ (i - 1) / 2 = i by omega)]
    omega

theorem down_step {e : Nat → Int} {n i j : Nat} (h : RemOk e n i) (hjn : j < n) (hj0 : 0 < j) (hp : (j - 1) / 2 = i) (hmin : ∀ k, 0 < k → k < n → (k - 1) / 2 = i → e j ≤ e k) (hlt : e j < e i) :
    RemOk (sw e i j) n j ∧ sw e i j ((j - 1) / 2) ≤ sw e i j j := by
  obtain ⟨h1, h2⟩ := h
  have hij : i < j := by omega
  refine ⟨⟨fun k k0 kn kj kp => ?_, fun k k0 kn kp _ => ?_⟩, ?_⟩
  · simp only [sw]
    rw [if_neg kj, if_neg kp]
    by_cases hki : k = i
    · rw [if_pos hki, if_neg (show ¬ (k - 1) / 2 = i by omega)]
      subst hki
      exact h2 j hj0 hjn hp k0
    · rw [if_neg hki]
      by_cases p2 : (k - 1) / 2 = i
      · rw [if_pos p2]; exact hmin k k0 kn p2
      · rw [if_neg p2]; exact h1 k k0 kn hki p2
  · have a1 := h1 k k0 kn (by omega) (by omega)
    rw [kp] at a1
    simp only [sw]
    rw [hp, if_neg (show ¬ k = j by omega), if_neg (show ¬ k = i by omega), if_neg (show ¬ i = j by omega), if_pos rfl]
    exact a1
  · simp only [sw]
    rw [hp, if_neg (show ¬ i = j by omega), if_pos rfl]
    first | omega | (rw [if_pos rfl]; omega)

/-- Nothing below i is less: a heap, but for what lies above it. -/
theorem down_up {e : Nat → Int} {n i : Nat} (h : RemOk e n i) (hb : ∀ k, 0 < k → k < n → (k - 1) / 2 = i → e i ≤ e k) : UpOk e n i :=
  ⟨fun k k0 kn ki => by
    by_cases p : (k - 1) / 2 = i
    · rw [p]; exact hb k k0 kn p
    · exact h.1 k k0 kn ki p, h.2⟩

theorem down_heap {e : Nat → Int} {n i : Nat} (h : RemOk e n i) (hb : ∀ k, 0 < k → k < n → (k - 1) / 2 = i → e i ≤ e k) (hu : e ((i - 1) / 2) ≤ e i) : HeapOk e n :=
  up_done (down_up h hb) hu

theorem heap_min {e : Nat → Int} {n : Nat} (h : HeapOk e n) : ∀ k, k < n → e 0 ≤ e k := by
  intro k
  induction k using Nat.strongRecOn with
  | ind k ih =>
    intro hk
    by_cases h0 : k = 0
    · subst h0; exact Int.le_refl _
    · have a := h k (by omega) hk
      have b := ih ((k - 1) / 2) (by omega) (by omega)
      omega

/-- Two of a list change their places. -/
def swapL (l : List Nat) (i j : Nat) : List Nat := (l.set i (l.getD j 0)).set j (l.getD i 0)

theorem swapL_len (l : List Nat) (i j : Nat) : (swapL l i j).length = l.length := by simp [swapL]

theorem swapL_get (l : List Nat) (i j k : Nat) (hi : i < l.length) (hj : j < l.length) : (swapL l i j)[k]? = if k = j then l[i]? else if k = i then l[j]? else l[k]? := by
  unfold swapL
  rw [List.getElem?_set]
  by_cases h1 : k = j
  · subst h1
    rw [if_pos rfl, if_pos rfl, List.length_set, if_pos hj, List.getD, List.getElem?_eq_getElem hi]
    rfl
  · rw [if_neg (Ne.symm h1), if_neg h1, List.getElem?_set]
    by_cases h2 : k = i
    · subst h2
      rw [if_pos rfl, if_pos rfl, if_pos hi, List.getD, List.getElem?_eq_getElem hj]
      rfl
    · rw [if_neg (Ne.symm h2), if_neg h2]

theorem swapL_perm (l : List Nat) (i j : Nat) (hi : i < l.length) (hj : j < l.length) : (swapL l i j).Perm l := by
  have h := Array.swap_perm (xs := l.toArray) (i := i) (j := j) (by simpa using hi) (by simpa using hj)
  have h2 := h.toList
  have h3 : (l.toArray.swap i j (by simpa using hi) (by simpa using hj)).toList = swapL l i j := by
    unfold swapL
    simp [Array.swap_def, List.getD, List.getElem?_eq_getElem hi, List.getElem?_eq_getElem hj]
  rw [h3] at h2
  exact h2

def endAt (E : Nat → Int) (l : List Nat) : Nat → Int := fun k => E (l.getD k 0)

theorem endAt_swap (E : Nat → Int) (l : List Nat) (i j : Nat) (hi : i < l.length) (hj : j < l.length) : endAt E (swapL l i j) = sw (endAt E l) i j := by
  funext k
  simp only [endAt, sw, List.getD, swapL_get l i j k hi hj]
  split
  · rfl
  · split <;> rfl

end Go.Proofs.Ytjhifhoniimfgaa

/-
  The heap's methods, asked for by their names.
-/
namespace Go.Proofs.Ytjhifhoniimfgaa
open Go.RowKit

theorem wrapNil (ts : Array TypeId) (t : TypeId) (p : Addr) (a b : String) (w : World) : (Builtin.ssaWrapNilChk_ ts t #[.pointer (some p), strVal a, strVal b]).run Try.prog w = .ok (.pointer (some p)) w := rfl

theorem meth (name : String) (f : Nat) (hn : (Try.t169.methods.find? (·.name == name)).map (fun m => (m.path, m.func)) = some (#[], some (f, false))) (b o : Nat) (v : Value) (w : World) (hv : w.cell? ⟨b, o, none⟩ = some v) :
    (method 306 169 (.pointer (some ⟨b, o, none⟩)) name).run Try.prog w = .ok (f, v) w := by
  obtain ⟨m, h3, h4⟩ := Option.map_eq_some_iff.1 hn
  simp only [Prod.mk.injEq] at h4
  obtain ⟨h5, h6⟩ := h4
  have hw := fun ts t p a b => wrapNil ts t p a b w
  rw [method]
  simp [go_sem, h3, h5, h6, follow, receiverAt, Place.get, hv, hw]

theorem meth_less (b o : Nat) (v : Value) (w : World) (hv : w.cell? ⟨b, o, none⟩ = some v) : (method 306 169 (.pointer (some ⟨b, o, none⟩)) "Less").run Try.prog w = .ok (115, v) w :=
  meth "Less" _ (by kernel_rfl) b o v w hv
theorem meth_swap (b o : Nat) (v : Value) (w : World) (hv : w.cell? ⟨b, o, none⟩ = some v) : (method 306 169 (.pointer (some ⟨b, o, none⟩)) "Swap").run Try.prog w = .ok (116, v) w :=
  meth "Swap" _ (by kernel_rfl) b o v w hv
theorem meth_len (b o : Nat) (v : Value) (w : World) (hv : w.cell? ⟨b, o, none⟩ = some v) : (method 306 169 (.pointer (some ⟨b, o, none⟩)) "Len").run Try.prog w = .ok (114, v) w :=
  meth "Len" _ (by kernel_rfl) b o v w hv
theorem meth_push (p : Addr) (w : World) : (method 306 169 (.pointer (some p)) "Push").run Try.prog w = .ok (123, .pointer (some p)) w := by kernel_rfl
theorem meth_pop (p : Addr) (w : World) : (method 306 169 (.pointer (some p)) "Pop").run Try.prog w = .ok (122, .pointer (some p)) w := by kernel_rfl

end Go.Proofs.Ytjhifhoniimfgaa

/-
  The heap of open orders: Len, Less, Swap.
-/
namespace Go.Proofs.Ytjhifhoniimfgaa
open Go.RowKit

/-- An open order. -/
structure Odr where
  num : Int
  side : Int
  qty : Int
  worth : Int
  till : Int

def OrdAt (w : World) (b : Nat) (x : Odr) (k : Nat) : Prop :=
  w.heap[b]? = some (.cells #[.int .i64 x.num, .int .i64 x.side, .int .i64 x.qty, .int .i64 x.worth, .int .i64 x.till, .int .i64 k] 149 (0, 0))

/-- The row v holds pointers to the orders at the blocks l; each knows its place. -/
structure HeapAt (w : World) (v : Value) (l : List Nat) (dat : Nat → Odr) : Prop where
  row : (v = .slice none 0 0 ∧ l = []) ∨ ∃ hb cap cur, v = .slice (some ⟨hb, 0, none⟩) l.length cap ∧ w.heap[hb]? = some (.cells cur 150 (0, 0)) ∧ l.length ≤ cap ∧ cap ≤ maxLen ∧ cur.size = cap ∧
    ∀ (i b : Nat), l[i]? = some b → cur[i]? = some (Value.pointer (some ⟨b, 0, none⟩))
  ords : ∀ (i : Nat) b, l[i]? = some b → OrdAt w b (dat b) i
  nodup : l.Nodup
  away : ∀ b, b ∈ l → v.ownBlock ≠ some b

theorem HeapAt.keep {S : Nat → Prop} {w w' : World} {v : Value} {l : List Nat} {dat : Nat → Odr} (h : HeapAt w v l dat) (hk : Keep S w w') (h1 : ∀ b, v.ownBlock = some b → S b) (h2 : ∀ b, b ∈ l → S b) : HeapAt w' v l dat := by
  refine ⟨?_, fun i b hb => hk.get (h.ords i b hb) (h2 b (List.mem_of_getElem? hb)), h.nodup, h.away⟩
  rcases h.row with h0 | ⟨hb, cap, cur, rfl, a, b⟩
  · exact .inl h0
  · exact .inr ⟨hb, cap, cur, rfl, hk.get a (h1 hb rfl), b⟩

set_option maxHeartbeats 400000 in
theorem len_any (a : Option Addr) (n c : Nat) (w : World) : Calls Try.prog 114 #[.slice a n c] w fun e w' => e = .returned (.int .i64 n) ∧ w = w' := by
  go_enter Try.func114, Try.ntmps114
  go_wp2
  go_ret
  exact ⟨rfl, rfl⟩

set_option maxHeartbeats 1000000 in
theorem less_any (w : World) (v : Value) (l : List Nat) (dat : Nat → Odr) (h : HeapAt w v l dat) (i j bi bj : Nat) (hi : l[i]? = some bi) (hj : l[j]? = some bj) :
    Calls Try.prog 115 #[v, .int .i64 i, .int .i64 j] w fun e w' => e = .returned (.bool (decide ((dat bi).till < (dat bj).till))) ∧ ∃ q, w' = w.drewN q := by
  have li := (List.getElem?_eq_some_iff.1 hi).1
  have lj := (List.getElem?_eq_some_iff.1 hj).1
  rcases h.row with ⟨_, rfl⟩ | ⟨hb, cap, cur, rfl, hr, hc1, hc2, hc3, hcur⟩
  · simp at hi
  have c1 := cellAt hr (hcur i bi hi)
  have c2 := cellAt hr (hcur j bj hj)
  have d1 := cellAt (i := 4) (h.ords i bi hi) rfl
  have d2 := cellAt (i := 4) (h.ords j bj hj) rfl
  have i1 : (i : Int) < (l.length : Int) := by omega
  have j1 : (j : Int) < (l.length : Int) := by omega
  clear hr hcur h hi hj
  go_enter Try.func115, Try.ntmps115
  go_wp2
  go_quiet (fail)
  go_wp2
  go_ret
  exact ⟨rfl, _, rfl⟩

theorem getElem?_inj {l : List Nat} (hn : l.Nodup) {i j b : Nat} (hi : l[i]? = some b) (hj : l[j]? = some b) : i = j := by
  obtain ⟨a1, a2⟩ := List.getElem?_eq_some_iff.1 hi
  obtain ⟨b1, b2⟩ := List.getElem?_eq_some_iff.1 hj
  exact (List.getElem_inj hn).1 (a2.trans b2.symm)

theorem heap_swapped {w : World} {l : List Nat} {dat : Nat → Odr} {hb cap : Nat} (h : HeapAt w (.slice (some ⟨hb, 0, none⟩) l.length cap) l dat) {cur : Array Value} (hr : w.heap[hb]? = some (.cells cur 150 (0, 0))) (hsz : cur.size = cap) (hc1 : l.length ≤ cap) (hc2 : cap ≤ maxLen)
    (hcur : ∀ (i b : Nat), l[i]? = some b → cur[i]? = some (Value.pointer (some ⟨b, 0, none⟩))) {i j bi bj : Nat} (hi : l[i]? = some bi) (hj : l[j]? = some bj) (hij : i ≠ j) :
    HeapAt ((((w.setCell ⟨hb, i, none⟩ (.pointer (some ⟨bj, 0, none⟩))).setCell ⟨hb, j, none⟩ (.pointer (some ⟨bi, 0, none⟩))).setCell ⟨bj, 5, none⟩ (.int .i64 i)).setCell ⟨bi, 5, none⟩ (.int .i64 j)) (.slice (some ⟨hb, 0, none⟩) l.length cap) (swapL l i j) dat ∧
    Keep (fun b => (Value.slice (some ⟨hb, 0, none⟩) l.length cap).ownBlock ≠ some b ∧ b ∉ l) w ((((w.setCell ⟨hb, i, none⟩ (.pointer (some ⟨bj, 0, none⟩))).setCell ⟨hb, j, none⟩ (.pointer (some ⟨bi, 0, none⟩))).setCell ⟨bj, 5, none⟩ (.int .i64 i)).setCell ⟨bi, 5, none⟩ (.int .i64 j)) := by
  have mi := List.mem_of_getElem? hi
  have mj := List.mem_of_getElem? hj
  have li := (List.getElem?_eq_some_iff.1 hi).1
  have lj := (List.getElem?_eq_some_iff.1 hj).1
  have hbij : bi ≠ bj := fun e => hij (getElem?_inj h.nodup hi (e ▸ hj))
  have n1 : hb ≠ bi := fun e => h.away bi mi (by rw [e]; rfl)
  have n2 : hb ≠ bj := fun e => h.away bj mj (by rw [e]; rfl)
  have hrow : ((((w.setCell ⟨hb, i, none⟩ (.pointer (some ⟨bj, 0, none⟩))).setCell ⟨hb, j, none⟩ (.pointer (some ⟨bi, 0, none⟩))).setCell ⟨bj, 5, none⟩ (.int .i64 i)).setCell ⟨bi, 5, none⟩ (.int .i64 j)).heap[hb]? = some (.cells ((cur.setIfInBounds i (.pointer (some ⟨bj, 0, none⟩))).setIfInBounds j (.pointer (some ⟨bi, 0, none⟩))) 150 (0, 0)) := by
    rw [Below.heap_setCell _ _ _ _ n1, Below.heap_setCell _ _ _ _ n2]
    exact heap_setCell_at _ (heap_setCell_at _ hr)
  refine ⟨⟨.inr ⟨hb, cap, _, by rw [swapL_len], hrow, by rw [swapL_len]; exact hc1, hc2, by simpa using hsz, fun k b hk => ?_⟩, fun k b hk => ?_, ?_, fun b hb2 => ?_⟩, ?_⟩
  · rw [swapL_get l i j k li lj] at hk
    rw [Array.getElem?_setIfInBounds, Array.getElem?_setIfInBounds, Array.size_setIfInBounds]
    by_cases e1 : k = j
    · subst e1
      rw [if_pos rfl, hi] at hk
      cases hk
      rw [if_pos rfl, if_pos (by omega)]
    · rw [if_neg e1] at hk
      rw [if_neg (Ne.symm e1)]
      by_cases e2 : k = i
      · subst e2
        rw [if_pos rfl, hj] at hk
        cases hk
        rw [if_pos rfl, if_pos (by omega)]
      · rw [if_neg e2] at hk
        rw [if_neg (Ne.symm e2)]
        exact hcur k b hk
  · rw [swapL_get l i j k li lj] at hk
    by_cases e1 : k = j
    · subst e1
      rw [if_pos rfl, hi] at hk
      cases hk
      unfold OrdAt
      rw [heap_setCell_at (cs := #[.int .i64 (dat bi).num, .int .i64 (dat bi).side, .int .i64 (dat bi).qty, .int .i64 (dat bi).worth, .int .i64 (dat bi).till, .int .i64 i]) (T := 149) (f := (0, 0))]
      · simp
      · rw [Below.heap_setCell _ _ _ _ hbij, Below.heap_setCell _ _ _ _ (Ne.symm n1), Below.heap_setCell _ _ _ _ (Ne.symm n1)]
        exact h.ords i bi hi
    · rw [if_neg e1] at hk
      by_cases e2 : k = i
      · subst e2
        rw [if_pos rfl, hj] at hk
        cases hk
        unfold OrdAt
        rw [Below.heap_setCell _ _ _ _ (Ne.symm hbij), heap_setCell_at (cs := #[.int .i64 (dat bj).num, .int .i64 (dat bj).side, .int .i64 (dat bj).qty, .int .i64 (dat bj).worth, .int .i64 (dat bj).till, .int .i64 j]) (T := 149) (f := (0, 0))]
        · simp
        · rw [Below.heap_setCell _ _ _ _ (Ne.symm n2), Below.heap_setCell _ _ _ _ (Ne.symm n2)]
          exact h.ords j bj hj
      · rw [if_neg e2] at hk
        have q1 : b ≠ bi := fun e => e2 (getElem?_inj h.nodup hk (e ▸ hi))
        have q2 : b ≠ bj := fun e => e1 (getElem?_inj h.nodup hk (e ▸ hj))
        have q3 : b ≠ hb := fun e => h.away b (List.mem_of_getElem? hk) (by rw [e]; rfl)
        unfold OrdAt
        rw [Below.heap_setCell _ _ _ _ q1, Below.heap_setCell _ _ _ _ q2, Below.heap_setCell _ _ _ _ q3, Below.heap_setCell _ _ _ _ q3]
        exact h.ords k b hk
  · exact (swapL_perm l i j li lj).nodup_iff.2 h.nodup
  · exact h.away b ((swapL_perm l i j li lj).mem_iff.1 hb2)
  · exact ((((Keep.refl _ w).setCell _ (fun _ q => q.1 rfl) _).setCell _ (fun _ q => q.1 rfl) _).setCell _ (fun _ q => q.2 mj) _).setCell _ (fun _ q => q.2 mi) _

set_option maxHeartbeats 1000000 in
theorem swap_any (w : World) (v : Value) (l : List Nat) (dat : Nat → Odr) (h : HeapAt w v l dat) (i j bi bj : Nat) (hi : l[i]? = some bi) (hj : l[j]? = some bj) (hij : i ≠ j) :
    Calls Try.prog 116 #[v, .int .i64 i, .int .i64 j] w fun e w' => e = .returned (.tuple #[]) ∧ HeapAt w' v (swapL l i j) dat ∧ Keep (fun b => v.ownBlock ≠ some b ∧ b ∉ l) w w' := by
  have li := (List.getElem?_eq_some_iff.1 hi).1
  have lj := (List.getElem?_eq_some_iff.1 hj).1
  rcases h.row with ⟨_, rfl⟩ | ⟨hb, cap, cur, rfl, hr, hc1, hc2, hc3, hcur⟩
  · simp at hi
  have hbij : bi ≠ bj := fun e => hij (getElem?_inj h.nodup hi (e ▸ hj))
  have n1 : hb ≠ bi := fun e => h.away bi (List.mem_of_getElem? hi) (by rw [e]; rfl)
  have n2 : hb ≠ bj := fun e => h.away bj (List.mem_of_getElem? hj) (by rw [e]; rfl)
  have n3 := Ne.symm n1
  have n4 := Ne.symm n2
  have n5 := Ne.symm hbij
  have c1 := cellAt hr (hcur i bi hi)
  have c2 := cellAt hr (hcur j bj hj)
  have z1 := frozenAt (i := i) hr
  have z2 := frozenAt (i := j) hr
  have d1 := cellAt (i := 5) (h.ords i bi hi) rfl
  have d2 := cellAt (i := 5) (h.ords j bj hj) rfl
  have y1 := frozenAt (i := 5) (h.ords i bi hi)
  have y2 := frozenAt (i := 5) (h.ords j bj hj)
  have i1 : (i : Int) < (l.length : Int) := by omega
  have j1 : (j : Int) < (l.length : Int) := by omega
  have hij2 := Ne.symm hij
  have HH : Hid (HeapAt w (.slice (some ⟨hb, 0, none⟩) l.length cap) l dat) := h
  have HR : Hid (w.heap[hb]? = some (.cells cur 150 (0, 0))) := hr
  have HC : Hid (∀ (i b : Nat), l[i]? = some b → cur[i]? = some (Value.pointer (some ⟨b, 0, none⟩))) := hcur
  have HI : Hid (l[i]? = some bi) := hi
  have HJ : Hid (l[j]? = some bj) := hj
  clear hr hcur h hi hj
  go_enter Try.func116, Try.ntmps116
  go_wp2
  go_region
  go_wp2
  go_region
  go_wp2
  go_end0
  obtain ⟨p1, p2⟩ := heap_swapped HH.out HR.out hc3 hc1 hc2 HC.out HI.out HJ.out hij
  exact ⟨rfl, p1.keep (((Keep.refl (fun _ => True) _).drew).drew) (fun _ _ => trivial) (fun _ _ => trivial), p2.drew.drew⟩

end Go.Proofs.Ytjhifhoniimfgaa

/-
  The heap of open orders: up.
-/
namespace Go.Proofs.Ytjhifhoniimfgaa
open Go.RowKit

def tillOf (dat : Nat → Odr) : Nat → Int := fun b => (dat b).till

/-- l' is l but for the order of its first n. -/
structure Shuf (l' l : List Nat) (n : Nat) : Prop where
  perm : l'.Perm l
  rest : ∀ k, n ≤ k → l'[k]? = l[k]?

theorem Shuf.refl (l : List Nat) (n : Nat) : Shuf l l n := ⟨List.Perm.refl _, fun _ _ => rfl⟩

theorem Shuf.swap {l' l : List Nat} {n i j : Nat} (h : Shuf l' l n) (hi : i < n) (hj : j < n) (hn : n ≤ l'.length) : Shuf (swapL l' i j) l n :=
  ⟨(swapL_perm l' i j (by omega) (by omega)).trans h.perm, fun k hk => by
    rw [swapL_get l' i j k (by omega) (by omega), if_neg (by omega), if_neg (by omega)]; exact h.rest k hk⟩

theorem endAt_get {dat : Nat → Odr} {l : List Nat} {k b : Nat} (h : l[k]? = some b) : endAt (tillOf dat) l k = (dat b).till := by
  simp [endAt, tillOf, List.getD, h]

set_option maxRecDepth 20000 in
set_option maxHeartbeats 1000000 in
theorem up_any (w : World) (eb eo n : Nat) (v : Value) (l : List Nat) (dat : Nat → Odr) (h : HeapAt w v l dat) (hv : w.cell? ⟨eb, eo, none⟩ = some v) (he : v.ownBlock ≠ some eb ∧ eb ∉ l) (hn : n ≤ l.length) (hlen : l.length ≤ 8796093022208)
    (j : Nat) (hj : j < n) (hup : UpOk (endAt (tillOf dat) l) n j) :
    Calls Try.prog 89 #[.iface 169 (.pointer (some ⟨eb, eo, none⟩)), .int .i64 j] w fun e w' => e = .returned (.tuple #[]) ∧
      ∃ l', HeapAt w' v l' dat ∧ Shuf l' l n ∧ HeapOk (endAt (tillOf dat) l') n ∧ Keep (fun b => v.ownBlock ≠ some b ∧ b ∉ l) w w' := by
  have heb := World.block_lt_of_cell? w _ hv
  go_enter Try.func89, Try.ntmps89
  go_wp2
  go_loopw [1] (fun k wr => ∃ j : Nat, k = .int .i64 j ∧ j < n ∧ ∃ l', HeapAt wr v l' dat ∧ Shuf l' l n ∧ UpOk (endAt (tillOf dat) l') n j ∧ Keep (fun b => v.ownBlock ≠ some b ∧ b ∉ l) w wr) (fun k _ => (intOf k).toNat)
  case atStart => exact ⟨j, rfl, hj, l, h, Shuf.refl _ _, hup, Keep.refl _ _⟩
  case round =>
    obtain ⟨j, rfl, hj, l', h, hsh, hup, hk⟩ := hrel
    have hl' : l'.length = l.length := hsh.perm.length_eq
    have hvr : wr.cell? ⟨eb, eo, none⟩ = some v := by rw [World.cell?_of_block (w := w) (hk.block eb heb he)]; exact hv
    have HH : Hid (HeapAt wr v l' dat) := h
    have HS : Hid (Shuf l' l n) := hsh
    have HU : Hid (UpOk (endAt (tillOf dat) l') n j) := hup
    have HK : Hid (Keep (fun b => v.ownBlock ≠ some b ∧ b ∉ l) w wr) := hk
    clear h hsh hup hk
    by_cases h0 : j = 0
    · subst h0
      go_wp2
      go_end0
      exact ⟨rfl, l', HH.out, HS.out, up_done0 HU.out, HK.out⟩
    · obtain ⟨jj, rfl⟩ : ∃ jj, j = jj + 1 := ⟨j - 1, by omega⟩
      obtain ⟨i, hi⟩ : ∃ i, i = jj / 2 := ⟨_, rfl⟩
      have e2 : (jj : Int) / 2 = (i : Int) := by omega
      have hij : i < jj + 1 := by omega
      have e3 : ((i : Int) == (jj : Int) + 1) = false := by simp; omega
      obtain ⟨bj, hbj⟩ : ∃ b, l'[jj + 1]? = some b := ⟨_, List.getElem?_eq_getElem (by omega)⟩
      obtain ⟨bi, hbi⟩ : ∃ b, l'[i]? = some b := ⟨_, List.getElem?_eq_getElem (by omega)⟩
      have hless := less_any wr v l' dat HH.out (jj + 1) i bj bi hbj hbi
      have hswap := fun q => swap_any (wr.drewN q) v l' dat (HH.out.keep ((Keep.refl (fun _ => True) wr).drewN q) (fun _ _ => trivial) (fun _ _ => trivial)) i (jj + 1) bi bj hbi hbj (by omega)
      rw [Int.natCast_add] at hless hswap
      have hm1 := fun W => meth_less eb eo v W
      have hm2 := fun W => meth_swap eb eo v W
      have HI : Hid (i = jj / 2) := hi
      have p1 : endAt (tillOf dat) l' (jj + 1) = (dat bj).till := endAt_get hbj
      have p2 : endAt (tillOf dat) l' ((jj + 1 - 1) / 2) = (dat bi).till := by rw [Nat.add_sub_cancel, ← hi]; exact endAt_get hbi
      have P1 : Hid (endAt (tillOf dat) l' (jj + 1) = (dat bj).till) := p1
      have P2 : Hid (endAt (tillOf dat) l' ((jj + 1 - 1) / 2) = (dat bi).till) := p2
      clear hi hbj hbi p1 p2
      by_cases hlt : (dat bj).till < (dat bi).till
      · go_wp2_with (first | (go_at_call 115; refine hless.mono ?_; rintro e w1 ⟨rfl, q, rfl⟩))
        refine (hswap q).mono ?_
        rintro e w2 ⟨rfl, hs1, hs2⟩
        go_wp2_with fail
        go_roundw
        case rel =>
          refine ⟨i, by go_num, by omega, swapL l' i (jj + 1), hs1, HS.out.swap (by omega) (by omega) (by omega), ?_, ?_⟩
          · have := up_step HU.out (by omega) hj (by rw [P1.out, P2.out]; exact hlt)
            rw [Nat.add_sub_cancel, ← HI.out] at this
            rw [endAt_swap _ _ _ _ (by omega) (by omega)]
            exact this
          · exact (HK.out.drewN q).trans (hs2.mono (fun b _ hb => ⟨hb.1, fun hm => hb.2 (HS.out.perm.mem_iff.1 hm)⟩))
        case measure => simp [intOf]; omega
      · have hlt2 : decide ((dat bj).till < (dat bi).till) = false := decide_eq_false hlt
        go_wp2_with (first | (go_at_call 115; refine hless.mono ?_; rintro e w1 ⟨rfl, q, rfl⟩))
        go_end0
        exact ⟨rfl, l', HH.out.keep ((Keep.refl (fun _ => True) wr).drewN q) (fun _ _ => trivial) (fun _ _ => trivial), HS.out, up_done HU.out (by rw [P1.out, P2.out]; omega), HK.out.drewN q⟩

end Go.Proofs.Ytjhifhoniimfgaa

