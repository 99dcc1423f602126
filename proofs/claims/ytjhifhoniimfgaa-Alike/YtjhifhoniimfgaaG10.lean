import Derived.Test.YtjhifhoniimfgaaG09
import Derived.Test.YtjhifhoniimfgaaG01
import Derived.Test.YtjhifhoniimfgaaG05
import Derived.Test.YtjhifhoniimfgaaG07
import Derived.Test.YtjhifhoniimfgaaProg
/-
  What becomes of a New: judge, whole.
-/
namespace Go.Proofs.Ytjhifhoniimfgaa
open Go.RowKit

/-- The code of a New, but for Shut. -/
def jCode (lim : Nat → Int) (st B : Bool) (S : Int) (p q : Nat) (W0 Q0 T : Int) : Int :=
  if st = true then 10 else if B = true then 11 else if timesOk p q = false ∨ plusOk W0 (timesV p q) = false ∨ plusOk Q0 q = false then 12
  else if lim 0 < (q : Int) then 13 else if S = 0 ∧ lim 1 < plusV Q0 q then 14 else if S = 1 ∧ lim 2 < plusV Q0 q then 15
  else if lim 3 < plusV W0 (timesV p q) then 16 else if lim 4 ≤ T then 17 else 0

theorem timesV_bd (p q : Nat) : 0 ≤ timesV p q ∧ timesV p q ≤ 9223372036854775807 := by
  unfold timesV
  by_cases h : timesOk p q = true
  · rw [if_pos h]
    have : p * q ≤ 9223372036854775807 := of_decide_eq_true h
    omega
  · rw [if_neg h]; omega

theorem AccP.keep {S : Nat → Prop} {w w' : World} {ab : Nat} {lim : Nat → Int} {st : Bool} {v : Value} {mb : Nat} {l : List Nat} {dat : Nat → Odr} {cv : Value} {c : List Cnt} (h : AccP w ab lim st v mb l dat cv c) (hk : Keep S w w')
    (h1 : S ab) (h2 : S mb) (h3 : ∀ b, v.ownBlock = some b → S b) (h4 : ∀ b, b ∈ l → S b) (h5 : ∀ b, cv.ownBlock = some b → S b) : AccP w' ab lim st v mb l dat cv c := by
  obtain ⟨cs, a, b⟩ := h.cells
  exact { h with ords := h.ords.keep hk h1 h2 h3 h4, cells := ⟨cs, hk.get a h1, b⟩, cnt := h.cnt.keep hk h5 }

/-- The counts are cut: all else is as it was. -/
theorem AccP.cut {w w' : World} {ab : Nat} {lim : Nat → Int} {st : Bool} {v : Value} {mb : Nat} {l : List Nat} {dat : Nat → Odr} {cv cv' : Value} {c c' : List Cnt} (h : AccP w ab lim st v mb l dat cv c) (hc : CntAt w' cv' c') (ho : cv'.ownBlock = cv.ownBlock)
    (hs : HeadSet w w' ab 12 cv') (hk : Keep (fun b => b ≠ ab ∧ cv.ownBlock ≠ some b) w w') : AccP w' ab lim st v mb l dat cv' c' := by
  obtain ⟨cs, a, b1, b2, b3, b4⟩ := h.cells
  have a' := hs cs _ _ a
  obtain ⟨cs2, q1, q2, q3, q4, q5, q6, q7⟩ := h.ords.cells
  rw [a] at q1
  cases q1
  obtain ⟨ks, m1, m2⟩ := h.ords.map
  have hmb : mb ≠ ab ∧ cv.ownBlock ≠ some mb := ⟨Ne.symm h.ords.abm, h.cvmb⟩
  have g : ∀ i, i ≠ 12 → (cs.setIfInBounds 12 cv')[i]? = cs[i]? := fun i hi => by rw [Array.getElem?_setIfInBounds, if_neg (Ne.symm hi)]
  refine ⟨{ h.ords with cells := ⟨_, a', by simpa using q2, by rw [g 7 (by omega)]; exact q3, by rw [g 8 (by omega)]; exact q4, by rw [g 9 (by omega)]; exact q5, by rw [g 10 (by omega)]; exact q6, by rw [g 11 (by omega)]; exact q7⟩,
                            heap := h.ords.heap.keep hk (fun b hb => ⟨fun e => h.ords.vab (e ▸ hb), fun e => h.cvv b e hb⟩) (fun b hb => ⟨fun e => h.ords.abl (e ▸ hb), h.cvl b hb⟩),
                            map := ⟨ks, m1.keep hk hmb, m2⟩ }, ⟨_, a', by simpa using b1, fun i hi => by rw [g i (by omega)]; exact b2 i hi, by rw [g 6 (by omega)]; exact b3, by rw [Array.getElem?_setIfInBounds, if_pos rfl, if_pos (by omega)]⟩, hc, by rw [ho]; exact h.cvab, by rw [ho]; exact h.cvmb, fun b hb => by rw [ho]; exact h.cvl b hb, fun b hb => h.cvv b (by rw [← ho]; exact hb)⟩

/-- What judge leaves. -/
def Judged (w w' : World) (ab : Nat) (lim : Nat → Int) (st : Bool) (v : Value) (mb : Nat) (l : List Nat) (dat : Nat → Odr) (cv : Value) (c : List Cnt) (t : Int) : Prop :=
  ∃ cv' c', (c' = c ∨ c' = c.filter (keepP t)) ∧ AccP w' ab lim st v mb l dat cv' c' ∧ cv'.ownBlock = cv.ownBlock ∧ Keep (fun b => b ≠ ab ∧ cv.ownBlock ≠ some b) w w'

theorem Judged.below {w w' : World} {ab : Nat} {lim : Nat → Int} {st : Bool} {v : Value} {mb : Nat} {l : List Nat} {dat : Nat → Odr} {cv : Value} {c : List Cnt} {t : Int} (h : AccP w ab lim st v mb l dat cv c) (hb : Below w.heap.size w w') : Judged w w' ab lim st v mb l dat cv c t :=
  ⟨cv, c, .inl rfl, h.keep (S := fun _ => True) (Keep.ofBelow hb) trivial trivial (fun _ _ => trivial) (fun _ _ => trivial) (fun _ _ => trivial), rfl, Keep.ofBelow hb⟩

set_option maxHeartbeats 1000000 in
theorem judge_any (w : World) (ab : Nat) (lim : Nat → Int) (st : Bool) (v : Value) (mb : Nat) (l : List Nat) (dat : Nat → Odr) (cv : Value) (c : List Cnt) (h : AccP w ab lim st v mb l dat cv c) (A S N L : Int) (p q : Nat) (now : Int) (hs : S = 0 ∨ S = 1)
    (hp : p ≤ 9223372036854775807) (hq : q ≤ 9223372036854775807) (hw0 : 0 ≤ tot (worthF dat) l) (hw1 : tot (worthF dat) l ≤ 9223372036854775807) (hq0 : 0 ≤ tot (qtyF dat S) l) (hq1 : tot (qtyF dat S) l ≤ 9223372036854775807)
    (hn : 0 ≤ now) (hn2 : now ≤ 1000000000000000) (hl5 : 0 ≤ lim 5) (hl52 : lim 5 ≤ 1000) (hcl : c.length ≤ 8796093022208) (hcp : ∀ x, x ∈ c → 0 ≤ x.2) (hcs : sumM (c.filter (keepP (now - lim 5))) ≤ 8796093022208) :
    Calls Try.prog 84 #[.pointer (some ⟨ab, 0, none⟩), .agg #[.int .i64 A, .int .i64 S, .int .i64 N, .int .i64 p, .int .i64 q, .int .i64 L], .int .i64 now] w fun e w' =>
      e = .returned (.int .i64 (jCode lim st (hasN dat l N) S p q (tot (worthF dat) l) (tot (qtyF dat S) l) (sumM (c.filter (keepP (now - lim 5)))))) ∧ Judged w w' ab lim st v mb l dat cv c (now - lim 5) := by
  obtain ⟨cs, a, b1, b2, b3, b4⟩ := h.cells
  obtain ⟨cs2, q1, q2, q3, q4, q5, q6, q7⟩ := h.ords.cells
  rw [a] at q1
  cases q1
  have ho := timesV_bd p q
  have hT := fun W => times_any p q hp hq W
  have hP1 := fun W => plus_any (tot (worthF dat) l) (timesV p q) hw0 hw1 ho.1 ho.2 W
  have hP2 := fun W => plus_any (tot (qtyF dat S) l) q hq0 hq1 (by omega) (by omega) W
  have hX : ∀ n, AccP ((w.alloc (.cells #[.int .i64 A, .int .i64 S, .int .i64 N, .int .i64 p, .int .i64 q, .int .i64 L] 160)).drewN n) ab lim st v mb l dat cv c := fun n =>
    h.keep (S := fun _ => True) (((Keep.refl _ w).alloc _).drewN n) trivial trivial (fun _ _ => trivial) (fun _ _ => trivial) (fun _ _ => trivial)
  have kX : ∀ n, Keep (fun b => b ≠ ab ∧ cv.ownBlock ≠ some b) w ((w.alloc (.cells #[.int .i64 A, .int .i64 S, .int .i64 N, .int .i64 p, .int .i64 q, .int .i64 L] 160)).drewN n) := fun n => ((Keep.refl _ w).alloc _).drewN n
  have hH := fun n => has_any _ ab v mb l dat (hX n).ords N
  have hA : ∀ n, Calls Try.prog 92 #[.pointer (some ⟨ab, 12, none⟩), .int .i64 (now - lim 5)] ((w.alloc (.cells #[.int .i64 A, .int .i64 S, .int .i64 N, .int .i64 p, .int .i64 q, .int .i64 L] 160)).drewN n) fun e w' => e = .returned (.int .i64 (sumM (c.filter (keepP (now - lim 5))))) ∧ Judged w w' ab lim st v mb l dat cv c (now - lim 5) := fun n => by
    obtain ⟨cs', a', b1', b2', b3', b4'⟩ := (hX n).cells
    refine (after_any _ ab cv c (now - lim 5) (hX n).cnt (cellAt a' b4') (frozenAt a') h.cvab hcl hcp hcs).mono ?_
    rintro e w' ⟨rfl, cv', c12, hc', ho', hs', hk'⟩
    exact ⟨rfl, cv', _, .inr rfl, (hX n).cut hc' ho' hs' hk', ho', (kX n).trans hk'⟩
  have hZ : ∀ w', Judged w w' ab lim st v mb l dat cv c (now - lim 5) → w'.cell? ⟨ab, 4, none⟩ = some (.int .i64 (lim 4)) ∧ w'.cell? ⟨ab, 5, none⟩ = some (.int .i64 (lim 5)) := fun w' hj => by
    obtain ⟨cv', c', _, hacc, _⟩ := hj
    obtain ⟨cs', a', _, b2', _⟩ := hacc.cells
    exact ⟨cellAt a' (b2' 4 (by omega)), cellAt a' (b2' 5 (by omega))⟩
  have hfin : ∀ (r : Int), jCode lim st (hasN dat l N) S p q (tot (worthF dat) l) (tot (qtyF dat S) l) (sumM (c.filter (keepP (now - lim 5)))) = r → ∀ e w', e = Ending.returned (.int .i64 r) ∧ Below w.heap.size w w' →
      e = .returned (.int .i64 (jCode lim st (hasN dat l N) S p q (tot (worthF dat) l) (tot (qtyF dat S) l) (sumM (c.filter (keepP (now - lim 5)))))) ∧ Judged w w' ab lim st v mb l dat cv c (now - lim 5) := fun r hr e w' hh => by
    rw [hr]; exact ⟨hh.1, Judged.below h hh.2⟩
  have hfin2 : ∀ (r : Int), jCode lim st (hasN dat l N) S p q (tot (worthF dat) l) (tot (qtyF dat S) l) (sumM (c.filter (keepP (now - lim 5)))) = r → ∀ e w', e = Ending.returned (.int .i64 r) ∧ Judged w w' ab lim st v mb l dat cv c (now - lim 5) →
      e = .returned (.int .i64 (jCode lim st (hasN dat l N) S p q (tot (worthF dat) l) (tot (qtyF dat S) l) (sumM (c.filter (keepP (now - lim 5)))))) ∧ Judged w w' ab lim st v mb l dat cv c (now - lim 5) := fun r hr e w' hh => by
    rw [hr]; exact hh
  rcases hs with rfl | rfl
  · by_cases hst : st = true
    · exact (judge_killed0 w ab _ _ _ _ _ _ cs A N L p q now _ _ _ (sumM (c.filter (keepP (now - lim 5)))) st _ _ _ _ _ _ (fun w' => Judged w w' ab lim st v mb l dat cv c (now - lim 5)) a (b2 0 (by omega)) (b2 1 (by omega)) (b2 2 (by omega)) (b2 3 (by omega)) (b2 4 (by omega)) (b2 5 (by omega)) b3 q5 q7 hT hP1 hP2 hH hA hZ hn hn2 hl5 hl52 hst).mono (hfin 10 (by simp [jCode, hst]))
    have hst : st = false := by simpa using hst
    by_cases hB : hasN dat l N = true
    · exact (judge_twice0 w ab _ _ _ _ _ _ cs A N L p q now _ _ _ (sumM (c.filter (keepP (now - lim 5)))) st _ _ _ _ _ _ (fun w' => Judged w w' ab lim st v mb l dat cv c (now - lim 5)) a (b2 0 (by omega)) (b2 1 (by omega)) (b2 2 (by omega)) (b2 3 (by omega)) (b2 4 (by omega)) (b2 5 (by omega)) b3 q5 q7 hT hP1 hP2 hH hA hZ hn hn2 hl5 hl52 hst hB).mono (hfin 11 (by simp [jCode, hst, hB]))
    have hB : hasN dat l N = false := by simpa using hB
    by_cases hob : timesOk p q = true
    rotate_left
    · have hob : timesOk p q = false := by simpa using hob
      exact (judge_overA0 w ab _ _ _ _ _ _ cs A N L p q now _ _ _ (sumM (c.filter (keepP (now - lim 5)))) st _ _ _ _ _ _ (fun w' => Judged w w' ab lim st v mb l dat cv c (now - lim 5)) a (b2 0 (by omega)) (b2 1 (by omega)) (b2 2 (by omega)) (b2 3 (by omega)) (b2 4 (by omega)) (b2 5 (by omega)) b3 q5 q7 hT hP1 hP2 hH hA hZ hn hn2 hl5 hl52 hst hB hob).mono (hfin 12 (by simp [jCode, hst, hB, hob]))
    by_cases hwb : plusOk (tot (worthF dat) l) (timesV p q) = true
    rotate_left
    · have hwb : plusOk (tot (worthF dat) l) (timesV p q) = false := by simpa using hwb
      exact (judge_overB0 w ab _ _ _ _ _ _ cs A N L p q now _ _ _ (sumM (c.filter (keepP (now - lim 5)))) st _ _ _ _ _ _ (fun w' => Judged w w' ab lim st v mb l dat cv c (now - lim 5)) a (b2 0 (by omega)) (b2 1 (by omega)) (b2 2 (by omega)) (b2 3 (by omega)) (b2 4 (by omega)) (b2 5 (by omega)) b3 q5 q7 hT hP1 hP2 hH hA hZ hn hn2 hl5 hl52 hst hB hob hwb).mono (hfin 12 (by simp [jCode, hst, hB, hob, hwb]))
    by_cases hqb : plusOk (tot (qtyF dat 0) l) q = true
    rotate_left
    · have hqb : plusOk (tot (qtyF dat 0) l) q = false := by simpa using hqb
      exact (judge_overC0 w ab _ _ _ _ _ _ cs A N L p q now _ _ _ (sumM (c.filter (keepP (now - lim 5)))) st _ _ _ _ _ _ (fun w' => Judged w w' ab lim st v mb l dat cv c (now - lim 5)) a (b2 0 (by omega)) (b2 1 (by omega)) (b2 2 (by omega)) (b2 3 (by omega)) (b2 4 (by omega)) (b2 5 (by omega)) b3 q5 q7 hT hP1 hP2 hH hA hZ hn hn2 hl5 hl52 hst hB hob hwb hqb).mono (hfin 12 (by simp [jCode, hst, hB, hob, hwb, hqb]))
    by_cases hg : lim 0 < (q : Int)
    · exact (judge_large0 w ab _ _ _ _ _ _ cs A N L p q now _ _ _ (sumM (c.filter (keepP (now - lim 5)))) st _ _ _ _ _ _ (fun w' => Judged w w' ab lim st v mb l dat cv c (now - lim 5)) a (b2 0 (by omega)) (b2 1 (by omega)) (b2 2 (by omega)) (b2 3 (by omega)) (b2 4 (by omega)) (b2 5 (by omega)) b3 q5 q7 hT hP1 hP2 hH hA hZ hn hn2 hl5 hl52 hst hB hob hwb hqb hg).mono (hfin 13 (by simp [jCode, hst, hB, hob, hwb, hqb, hg]))
    by_cases hsd : lim 1 < plusV (tot (qtyF dat 0) l) q
    · exact (judge_side0 w ab _ _ _ _ _ _ cs A N L p q now _ _ _ (sumM (c.filter (keepP (now - lim 5)))) st _ _ _ _ _ _ (fun w' => Judged w w' ab lim st v mb l dat cv c (now - lim 5)) a (b2 0 (by omega)) (b2 1 (by omega)) (b2 2 (by omega)) (b2 3 (by omega)) (b2 4 (by omega)) (b2 5 (by omega)) b3 q5 q7 hT hP1 hP2 hH hA hZ hn hn2 hl5 hl52 hst hB hob hwb hqb hg hsd).mono (hfin 14 (by simp [jCode, hst, hB, hob, hwb, hqb, hg, hsd]))
    by_cases hx : lim 3 < plusV (tot (worthF dat) l) (timesV p q)
    · exact (judge_worth0 w ab _ _ _ _ _ _ cs A N L p q now _ _ _ (sumM (c.filter (keepP (now - lim 5)))) st _ _ _ _ _ _ (fun w' => Judged w w' ab lim st v mb l dat cv c (now - lim 5)) a (b2 0 (by omega)) (b2 1 (by omega)) (b2 2 (by omega)) (b2 3 (by omega)) (b2 4 (by omega)) (b2 5 (by omega)) b3 q5 q7 hT hP1 hP2 hH hA hZ hn hn2 hl5 hl52 hst hB hob hwb hqb hg hsd hx).mono (hfin 16 (by simp [jCode, hst, hB, hob, hwb, hqb, hg, hsd, hx]))
    by_cases hr : lim 4 ≤ sumM (c.filter (keepP (now - lim 5)))
    · exact (judge_rate0 w ab _ _ _ _ _ _ cs A N L p q now _ _ _ (sumM (c.filter (keepP (now - lim 5)))) st _ _ _ _ _ _ (fun w' => Judged w w' ab lim st v mb l dat cv c (now - lim 5)) a (b2 0 (by omega)) (b2 1 (by omega)) (b2 2 (by omega)) (b2 3 (by omega)) (b2 4 (by omega)) (b2 5 (by omega)) b3 q5 q7 hT hP1 hP2 hH hA hZ hn hn2 hl5 hl52 hst hB hob hwb hqb hg hsd hx hr).mono (hfin2 17 (by simp [jCode, hst, hB, hob, hwb, hqb, hg, hsd, hx, hr]))
    · exact (judge_done0 w ab _ _ _ _ _ _ cs A N L p q now _ _ _ (sumM (c.filter (keepP (now - lim 5)))) st _ _ _ _ _ _ (fun w' => Judged w w' ab lim st v mb l dat cv c (now - lim 5)) a (b2 0 (by omega)) (b2 1 (by omega)) (b2 2 (by omega)) (b2 3 (by omega)) (b2 4 (by omega)) (b2 5 (by omega)) b3 q5 q7 hT hP1 hP2 hH hA hZ hn hn2 hl5 hl52 hst hB hob hwb hqb hg hsd hx hr).mono (hfin2 0 (by simp [jCode, hst, hB, hob, hwb, hqb, hg, hsd, hx, hr]))
  · by_cases hst : st = true
    · exact (judge_killed1 w ab _ _ _ _ _ _ cs A N L p q now _ _ _ (sumM (c.filter (keepP (now - lim 5)))) st _ _ _ _ _ _ (fun w' => Judged w w' ab lim st v mb l dat cv c (now - lim 5)) a (b2 0 (by omega)) (b2 1 (by omega)) (b2 2 (by omega)) (b2 3 (by omega)) (b2 4 (by omega)) (b2 5 (by omega)) b3 q6 q7 hT hP1 hP2 hH hA hZ hn hn2 hl5 hl52 hst).mono (hfin 10 (by simp [jCode, hst]))
    have hst : st = false := by simpa using hst
    by_cases hB : hasN dat l N = true
    · exact (judge_twice1 w ab _ _ _ _ _ _ cs A N L p q now _ _ _ (sumM (c.filter (keepP (now - lim 5)))) st _ _ _ _ _ _ (fun w' => Judged w w' ab lim st v mb l dat cv c (now - lim 5)) a (b2 0 (by omega)) (b2 1 (by omega)) (b2 2 (by omega)) (b2 3 (by omega)) (b2 4 (by omega)) (b2 5 (by omega)) b3 q6 q7 hT hP1 hP2 hH hA hZ hn hn2 hl5 hl52 hst hB).mono (hfin 11 (by simp [jCode, hst, hB]))
    have hB : hasN dat l N = false := by simpa using hB
    by_cases hob : timesOk p q = true
    rotate_left
    · have hob : timesOk p q = false := by simpa using hob
      exact (judge_overA1 w ab _ _ _ _ _ _ cs A N L p q now _ _ _ (sumM (c.filter (keepP (now - lim 5)))) st _ _ _ _ _ _ (fun w' => Judged w w' ab lim st v mb l dat cv c (now - lim 5)) a (b2 0 (by omega)) (b2 1 (by omega)) (b2 2 (by omega)) (b2 3 (by omega)) (b2 4 (by omega)) (b2 5 (by omega)) b3 q6 q7 hT hP1 hP2 hH hA hZ hn hn2 hl5 hl52 hst hB hob).mono (hfin 12 (by simp [jCode, hst, hB, hob]))
    by_cases hwb : plusOk (tot (worthF dat) l) (timesV p q) = true
    rotate_left
    · have hwb : plusOk (tot (worthF dat) l) (timesV p q) = false := by simpa using hwb
      exact (judge_overB1 w ab _ _ _ _ _ _ cs A N L p q now _ _ _ (sumM (c.filter (keepP (now - lim 5)))) st _ _ _ _ _ _ (fun w' => Judged w w' ab lim st v mb l dat cv c (now - lim 5)) a (b2 0 (by omega)) (b2 1 (by omega)) (b2 2 (by omega)) (b2 3 (by omega)) (b2 4 (by omega)) (b2 5 (by omega)) b3 q6 q7 hT hP1 hP2 hH hA hZ hn hn2 hl5 hl52 hst hB hob hwb).mono (hfin 12 (by simp [jCode, hst, hB, hob, hwb]))
    by_cases hqb : plusOk (tot (qtyF dat 1) l) q = true
    rotate_left
    · have hqb : plusOk (tot (qtyF dat 1) l) q = false := by simpa using hqb
      exact (judge_overC1 w ab _ _ _ _ _ _ cs A N L p q now _ _ _ (sumM (c.filter (keepP (now - lim 5)))) st _ _ _ _ _ _ (fun w' => Judged w w' ab lim st v mb l dat cv c (now - lim 5)) a (b2 0 (by omega)) (b2 1 (by omega)) (b2 2 (by omega)) (b2 3 (by omega)) (b2 4 (by omega)) (b2 5 (by omega)) b3 q6 q7 hT hP1 hP2 hH hA hZ hn hn2 hl5 hl52 hst hB hob hwb hqb).mono (hfin 12 (by simp [jCode, hst, hB, hob, hwb, hqb]))
    by_cases hg : lim 0 < (q : Int)
    · exact (judge_large1 w ab _ _ _ _ _ _ cs A N L p q now _ _ _ (sumM (c.filter (keepP (now - lim 5)))) st _ _ _ _ _ _ (fun w' => Judged w w' ab lim st v mb l dat cv c (now - lim 5)) a (b2 0 (by omega)) (b2 1 (by omega)) (b2 2 (by omega)) (b2 3 (by omega)) (b2 4 (by omega)) (b2 5 (by omega)) b3 q6 q7 hT hP1 hP2 hH hA hZ hn hn2 hl5 hl52 hst hB hob hwb hqb hg).mono (hfin 13 (by simp [jCode, hst, hB, hob, hwb, hqb, hg]))
    by_cases hsd : lim 2 < plusV (tot (qtyF dat 1) l) q
    · exact (judge_side1 w ab _ _ _ _ _ _ cs A N L p q now _ _ _ (sumM (c.filter (keepP (now - lim 5)))) st _ _ _ _ _ _ (fun w' => Judged w w' ab lim st v mb l dat cv c (now - lim 5)) a (b2 0 (by omega)) (b2 1 (by omega)) (b2 2 (by omega)) (b2 3 (by omega)) (b2 4 (by omega)) (b2 5 (by omega)) b3 q6 q7 hT hP1 hP2 hH hA hZ hn hn2 hl5 hl52 hst hB hob hwb hqb hg hsd).mono (hfin 15 (by simp [jCode, hst, hB, hob, hwb, hqb, hg, hsd]))
    by_cases hx : lim 3 < plusV (tot (worthF dat) l) (timesV p q)
    · exact (judge_worth1 w ab _ _ _ _ _ _ cs A N L p q now _ _ _ (sumM (c.filter (keepP (now - lim 5)))) st _ _ _ _ _ _ (fun w' => Judged w w' ab lim st v mb l dat cv c (now - lim 5)) a (b2 0 (by omega)) (b2 1 (by omega)) (b2 2 (by omega)) (b2 3 (by omega)) (b2 4 (by omega)) (b2 5 (by omega)) b3 q6 q7 hT hP1 hP2 hH hA hZ hn hn2 hl5 hl52 hst hB hob hwb hqb hg hsd hx).mono (hfin 16 (by simp [jCode, hst, hB, hob, hwb, hqb, hg, hsd, hx]))
    by_cases hr : lim 4 ≤ sumM (c.filter (keepP (now - lim 5)))
    · exact (judge_rate1 w ab _ _ _ _ _ _ cs A N L p q now _ _ _ (sumM (c.filter (keepP (now - lim 5)))) st _ _ _ _ _ _ (fun w' => Judged w w' ab lim st v mb l dat cv c (now - lim 5)) a (b2 0 (by omega)) (b2 1 (by omega)) (b2 2 (by omega)) (b2 3 (by omega)) (b2 4 (by omega)) (b2 5 (by omega)) b3 q6 q7 hT hP1 hP2 hH hA hZ hn hn2 hl5 hl52 hst hB hob hwb hqb hg hsd hx hr).mono (hfin2 17 (by simp [jCode, hst, hB, hob, hwb, hqb, hg, hsd, hx, hr]))
    · exact (judge_done1 w ab _ _ _ _ _ _ cs A N L p q now _ _ _ (sumM (c.filter (keepP (now - lim 5)))) st _ _ _ _ _ _ (fun w' => Judged w w' ab lim st v mb l dat cv c (now - lim 5)) a (b2 0 (by omega)) (b2 1 (by omega)) (b2 2 (by omega)) (b2 3 (by omega)) (b2 4 (by omega)) (b2 5 (by omega)) b3 q6 q7 hT hP1 hP2 hH hA hZ hn hn2 hl5 hl52 hst hB hob hwb hqb hg hsd hx hr).mono (hfin2 0 (by simp [jCode, hst, hB, hob, hwb, hqb, hg, hsd, hx, hr]))

end Go.Proofs.Ytjhifhoniimfgaa

/-
  Orders that were let through, and their sums: no code.
-/
namespace Go.Proofs.Ytjhifhoniimfgaa
open Go.RowKit

/-- An order that was let through: its number, side, price, quantity; from when, to when; is it gone? -/
structure Ent where
  order : Int
  side : Int
  price : Int
  qty : Int
  frm : Int
  till : Int
  gone : Bool

/-- Is it open at this time? -/
def isOpen (time : Int) (x : Ent) : Bool := !x.gone && decide (time < x.till)

def wSum : List Ent → Int
  | [] => 0
  | x :: r => x.price * x.qty + wSum r

def qSum (s : Int) : List Ent → Int
  | [] => 0
  | x :: r => (if x.side = s then x.qty else 0) + qSum s r

/-- What the document's loop over the open orders knows. -/
structure NS where
  twice : Bool
  worth : Int
  over : Bool
  side : Int

def nStep (o : Ent) (s : NS) (x : Ent) : NS where
  twice := s.twice || x.order == o.order
  worth := tooV s.worth (x.price * x.qty)
  over := (s.over || tooB s.worth (x.price * x.qty)) || (x.side == o.side && tooB s.side x.qty)
  side := if x.side == o.side then tooV s.side x.qty else s.side

theorem fold_over (o : Ent) : ∀ (es : List Ent) (s : NS), s.over = true → (es.foldl (nStep o) s).over = true
  | [], _, h => h
  | x :: r, s, h => fold_over o r (nStep o s x) (by simp [nStep, h])

theorem fold_twice (o : Ent) : ∀ (es : List Ent) (s : NS), (es.foldl (nStep o) s).twice = (s.twice || es.any (fun x => x.order == o.order))
  | [], s => by simp
  | x :: r, s => by
    rw [List.foldl_cons, fold_twice o r, List.any_cons]
    simp [nStep, Bool.or_assoc]

theorem sums_nonneg (s : Int) : ∀ (es : List Ent), (∀ x, x ∈ es → 0 ≤ x.price * x.qty ∧ 0 ≤ x.qty) → 0 ≤ wSum es ∧ 0 ≤ qSum s es
  | [], _ => by simp [wSum, qSum]
  | x :: r, h => by
    have h1 := h x (.head _)
    have h2 := sums_nonneg s r (fun y hy => h y (.tail _ hy))
    simp only [wSum, qSum]
    split <;> omega

theorem fold_sums (o : Ent) : ∀ (es : List Ent) (s : NS), s.over = false → (∀ x, x ∈ es → 0 ≤ x.price * x.qty ∧ 0 ≤ x.qty) →
    (s.worth + wSum es ≤ 9223372036854775807 ∧ s.side + qSum o.side es ≤ 9223372036854775807 → (es.foldl (nStep o) s).over = false ∧ (es.foldl (nStep o) s).worth = s.worth + wSum es ∧ (es.foldl (nStep o) s).side = s.side + qSum o.side es) ∧
    (¬ (s.worth + wSum es ≤ 9223372036854775807 ∧ s.side + qSum o.side es ≤ 9223372036854775807) → s.worth ≤ 9223372036854775807 → s.side ≤ 9223372036854775807 → (es.foldl (nStep o) s).over = true)
  | [], s, h, _ => by
    simp only [List.foldl_nil, wSum, qSum, Int.add_zero]
    exact ⟨fun _ => ⟨h, trivial, trivial⟩, fun hn h1 h2 => absurd ⟨h1, h2⟩ hn⟩
  | x :: r, s, h, hp => by
    have hx := hp x (.head _)
    have hr := fun y hy => hp y (List.Mem.tail _ hy)
    have hsn := sums_nonneg o.side r hr
    rw [List.foldl_cons]
    by_cases h1 : 9223372036854775807 - s.worth < x.price * x.qty
    · have ho : (nStep o s x).over = true := by simp [nStep, tooB, h1]
      refine ⟨fun hf => ?_, fun _ _ _ => fold_over o r _ ho⟩
      simp only [wSum] at hf
      omega
    by_cases hs : x.side = o.side
    · by_cases h2 : 9223372036854775807 - s.side < x.qty
      · have ho : (nStep o s x).over = true := by simp [nStep, tooB, h2, hs]
        refine ⟨fun hf => ?_, fun _ _ _ => fold_over o r _ ho⟩
        simp only [qSum, if_pos hs] at hf
        omega
      · have ho : (nStep o s x).over = false := by simp [nStep, tooB, h, h1, h2]
        have hw : (nStep o s x).worth = s.worth + x.price * x.qty := by simp [nStep, tooV, h1]
        have hq : (nStep o s x).side = s.side + x.qty := by simp [nStep, tooV, hs, h2]
        have ih := fold_sums o r (nStep o s x) ho hr
        rw [hw, hq] at ih
        simp only [wSum, qSum, if_pos hs]
        refine ⟨fun hf => ?_, fun hn _ _ => ih.2 (by omega) (by omega) (by omega)⟩
        obtain ⟨a, b, c⟩ := ih.1 (by omega)
        exact ⟨a, by rw [b]; omega, by rw [c]; omega⟩
    · have hs2 : (x.side == o.side) = false := by simpa using hs
      have ho : (nStep o s x).over = false := by simp [nStep, tooB, h, h1, hs2]
      have hw : (nStep o s x).worth = s.worth + x.price * x.qty := by simp [nStep, tooV, h1]
      have hq : (nStep o s x).side = s.side := by simp [nStep, hs2]
      have ih := fold_sums o r (nStep o s x) ho hr
      rw [hw, hq] at ih
      simp only [wSum, qSum, if_neg hs]
      refine ⟨fun hf => ?_, fun hn _ h3 => ih.2 (by omega) (by omega) h3⟩
      obtain ⟨a, b, c⟩ := ih.1 (by omega)
      exact ⟨a, by rw [b]; omega, by rw [c]; omega⟩

end Go.Proofs.Ytjhifhoniimfgaa

/-
  The program's open orders and the document's: the same, in another order. No code.
-/
namespace Go.Proofs.Ytjhifhoniimfgaa
open Go.RowKit

def ordOf (x : Ent) : Odr := ⟨x.order, x.side, x.qty, x.price * x.qty, x.till⟩

/-- The orders at the blocks l are these entries, in some order. -/
def OpenRel (dat : Nat → Odr) (l : List Nat) (es : List Ent) : Prop := (l.map dat).Perm (es.map ordOf)

def totO (f : Odr → Int) : List Odr → Int
  | [] => 0
  | x :: r => f x + totO f r

theorem totO_perm (f : Odr → Int) {l r : List Odr} (h : l.Perm r) : totO f l = totO f r := by
  induction h with
  | nil => rfl
  | cons x _ ih => simp [totO, ih]
  | swap x y l => simp only [totO]; omega
  | trans _ _ ih1 ih2 => rw [ih1, ih2]

theorem totO_map (f : Odr → Int) (dat : Nat → Odr) : ∀ l, totO f (l.map dat) = tot (fun b => f (dat b)) l
  | [] => rfl
  | b :: l => by simp only [List.map_cons, totO, tot, totO_map f dat l]

theorem totO_worth : ∀ es : List Ent, totO (·.worth) (es.map ordOf) = wSum es
  | [] => rfl
  | x :: r => by simp only [List.map_cons, totO, wSum, totO_worth r, ordOf]

theorem totO_qty (s : Int) : ∀ es : List Ent, totO (fun o => if o.side = s then o.qty else 0) (es.map ordOf) = qSum s es
  | [] => rfl
  | x :: r => by simp only [List.map_cons, totO, qSum, totO_qty s r, ordOf]

theorem OpenRel.worth {dat : Nat → Odr} {l : List Nat} {es : List Ent} (h : OpenRel dat l es) : tot (worthF dat) l = wSum es := by
  rw [← totO_worth, ← totO_perm _ h, totO_map]; rfl

theorem OpenRel.qty {dat : Nat → Odr} {l : List Nat} {es : List Ent} (h : OpenRel dat l es) (s : Int) : tot (qtyF dat s) l = qSum s es := by
  rw [← totO_qty, ← totO_perm _ h, totO_map]; rfl

theorem OpenRel.has {dat : Nat → Odr} {l : List Nat} {es : List Ent} (h : OpenRel dat l es) (k : Int) : hasN dat l k = es.any (fun x => x.order == k) := by
  have h1 : hasN dat l k = (l.map dat).any (fun o => o.num == k) := by simp [hasN, List.any_map, Function.comp_def]
  have h2 : es.any (fun x => x.order == k) = (es.map ordOf).any (fun o => o.num == k) := by simp [List.any_map, Function.comp_def, ordOf]
  rw [h1, h2, Bool.eq_iff_iff, List.any_eq_true, List.any_eq_true]
  constructor
  · rintro ⟨x, hx, e⟩; exact ⟨x, h.mem_iff.1 hx, e⟩
  · rintro ⟨x, hx, e⟩; exact ⟨x, h.mem_iff.2 hx, e⟩

theorem OpenRel.add {dat dat' : Nat → Odr} {l l' : List Nat} {ob : Nat} {es : List Ent} {x : Ent} (h : OpenRel dat l es) (hp : l'.Perm (l ++ [ob])) (hx : dat' ob = ordOf x) (hd : ∀ b, b ∈ l → dat' b = dat b) : OpenRel dat' l' (es ++ [x]) := by
  have h1 : (l'.map dat').Perm ((l ++ [ob]).map dat') := hp.map _
  rw [List.map_append, List.map_congr_left hd] at h1
  refine h1.trans ?_
  rw [List.map_append]
  simp only [List.map_cons, List.map_nil, hx]
  exact List.Perm.append_right _ h

theorem OpenRel.rem {dat : Nat → Odr} {l l' : List Nat} {ob : Nat} {es es' : List Ent} {x : Ent} (h : OpenRel dat l es) (hp : l.Perm (l' ++ [ob])) (he : es.Perm (es' ++ [x])) (hx : dat ob = ordOf x) : OpenRel dat l' es' := by
  have h1 : ((l' ++ [ob]).map dat).Perm ((es' ++ [x]).map ordOf) := ((hp.map dat).symm.trans h).trans (he.map ordOf)
  rw [List.map_append, List.map_append] at h1
  simp only [List.map_cons, List.map_nil, hx] at h1
  exact (List.perm_append_right_iff _).1 h1

end Go.Proofs.Ytjhifhoniimfgaa

/-
  The program's counts and the document's entries: as many were taken since. No code.
-/
namespace Go.Proofs.Ytjhifhoniimfgaa
open Go.RowKit

/-- How many of them were taken at times above T. -/
def cntGt (T : Int) : List Ent → Int
  | [] => 0
  | x :: r => (if T < x.frm then 1 else 0) + cntGt T r

theorem cntGt_append (T : Int) : ∀ l r, cntGt T (l ++ r) = cntGt T l + cntGt T r
  | [], r => by simp [cntGt]
  | x :: l, r => by simp [cntGt, cntGt_append T l r, Int.add_assoc]

theorem cntGt_le (T : Int) : ∀ l, 0 ≤ cntGt T l ∧ cntGt T l ≤ l.length
  | [] => by simp [cntGt]
  | x :: l => by
    have := cntGt_le T l
    simp only [cntGt, List.length_cons]
    split <;> omega

/-- From lo on the counts tell how many were taken later. -/
def CntRel (c : List Cnt) (es : List Ent) (lo : Int) : Prop := ∀ T, lo ≤ T → sumM (c.filter (keepP T)) = cntGt T es

theorem CntRel.later {c : List Cnt} {es : List Ent} {lo lo' : Int} (h : CntRel c es lo) (hl : lo ≤ lo') : CntRel c es lo' := fun T hT => h T (by omega)

theorem filter_filter_keep (c : List Cnt) (t T : Int) (h : t ≤ T) : (c.filter (keepP t)).filter (keepP T) = c.filter (keepP T) := by
  rw [List.filter_filter]
  congr 1
  funext x
  simp only [keepP]
  by_cases h1 : T < x.1
  · simp [h1, show t < x.1 by omega]
  · simp [h1]

theorem CntRel.cut {c : List Cnt} {es : List Ent} {lo : Int} (h : CntRel c es lo) (t : Int) (ht : t ≤ lo) : CntRel (c.filter (keepP t)) es lo := fun T hT => by
  rw [filter_filter_keep c t T (by omega)]; exact h T hT

theorem sumM_addC (c : List Cnt) (now T : Int) : sumM ((addC c now).filter (keepP T)) = sumM (c.filter (keepP T)) + (if T < now then 1 else 0) := by
  by_cases hs : ∃ d m, c = d ++ [(now, m)]
  · obtain ⟨d, m, rfl⟩ := hs
    rw [addC_same, List.filter_append, List.filter_append, sumM_append, sumM_append]
    by_cases h : T < now
    · simp [keepP, h, sumM]; omega
    · simp [keepP, h, sumM]
  · have hl : ∀ x, c.getLast? = some x → x.1 ≠ now := fun x hx e => hs (by
      obtain ⟨d, hd⟩ := List.getLast?_eq_some_iff.1 hx
      obtain ⟨x1, x2⟩ := x
      simp at e
      exact ⟨d, x2, by rw [hd, e]⟩)
    rw [addC_new c now hl, List.filter_append, sumM_append]
    by_cases h : T < now
    · simp [keepP, h, sumM]
    · simp [keepP, h, sumM]

theorem CntRel.add {c : List Cnt} {es : List Ent} {lo : Int} (h : CntRel c es lo) (now : Int) (x : Ent) (hx : x.frm = now) : CntRel (addC c now) (es ++ [x]) lo := fun T hT => by
  rw [sumM_addC, h T hT, cntGt_append]
  simp [cntGt, hx]

end Go.Proofs.Ytjhifhoniimfgaa

/-
  The leaf functions of sluice's settings: what each call does to the world.
-/
namespace Go.Proofs.Ytjhifhoniimfgaa
open Go.RowKit

set_option maxHeartbeats 400000 in
theorem within_any (n lo hi : Int) (w : World) :
    Calls Try.prog 60 #[.int .i64 n, .int .i64 lo, .int .i64 hi] w fun e w' => e = .returned (.bool (decide (lo ≤ n ∧ n ≤ hi))) ∧ w = w' := by
  by_cases h1 : lo ≤ n <;> by_cases h2 : n ≤ hi
  all_goals
    go_enter Try.func60, Try.ntmps60
    go_wp2
    go_ret
    exact ⟨by simp [h1, h2], rfl⟩

/-- A power of two from 2 to 16. -/
def powB (n : Int) : Bool := n == 2 || n == 4 || n == 8 || n == 16

theorem powB_cases {n : Int} (h : powB n = true) : n = 2 ∨ n = 4 ∨ n = 8 ∨ n = 16 := by
  simp [powB] at h; omega

theorem powB_no {n : Int} (h : powB n = false) : n ≠ 2 ∧ n ≠ 4 ∧ n ≠ 8 ∧ n ≠ 16 := by
  simp [powB] at h; omega

set_option maxHeartbeats 400000 in
theorem isRing_any (n : Int) (w : World) :
    Calls Try.prog 61 #[.int .i64 n] w fun e w' => e = .returned (.bool (powB n)) ∧ w = w' := by
  by_cases h : 2 ≤ n ∧ n ≤ 16
  · have hd : n = 2 ∨ n = 3 ∨ n = 4 ∨ n = 5 ∨ n = 6 ∨ n = 7 ∨ n = 8 ∨ n = 9 ∨ n = 10 ∨ n = 11 ∨ n = 12 ∨ n = 13 ∨ n = 14 ∨ n = 15 ∨ n = 16 := by omega
    clear h
    rcases hd with rfl | rfl | rfl | rfl | rfl | rfl | rfl | rfl | rfl | rfl | rfl | rfl | rfl | rfl | rfl
    all_goals
      go_enter Try.func61, Try.ntmps61
      go_wp2
      go_ret
      exact ⟨by first | rfl | simp [powB] | (congr 1), rfl⟩
  · have hp : powB n = false := by simp [powB]; omega
    have hd : decide (2 ≤ n ∧ n ≤ 16) = false := by simpa using h
    go_enter Try.func61, Try.ntmps61
    go_wp2_with (go_at_call 60; refine (within_any _ _ _ _).mono ?_; rintro e w' ⟨rfl, rfl⟩; rw [hd])
    go_ret
    exact ⟨by simp [hp], rfl⟩

end Go.Proofs.Ytjhifhoniimfgaa

