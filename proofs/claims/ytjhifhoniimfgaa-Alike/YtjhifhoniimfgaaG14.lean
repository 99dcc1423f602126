import Derived.Test.YtjhifhoniimfgaaG12
import Derived.Test.YtjhifhoniimfgaaG13
import Derived.Test.YtjhifhoniimfgaaG08
/-
  States stay as they may be, whatever is called: no code.
-/
namespace Go.Proofs.Ytjhifhoniimfgaa
open Go.RowKit

/-- What Said says, as far as it was read of a frame. -/
def SaidOk (na : Nat) : Said → Prop
  | .new a sd _ p q l => 0 ≤ a ∧ a < na ∧ (sd = 0 ∨ sd = 1) ∧ 1 ≤ p ∧ p ≤ 9223372036854775807 ∧ 1 ≤ q ∧ q ≤ 9223372036854775807 ∧ 1 ≤ l ∧ l ≤ 1000000
  | .cancel a _ => 0 ≤ a ∧ a < na
  | .kill a => 0 ≤ a ∧ a < na
  | .unkill a => 0 ≤ a ∧ a < na
  | .wrong _ => True

theorem said_ok (na : Nat) (lane : Int) (s : ByteArray) : SaidOk na (saidOf na lane s) := by
  unfold saidOf
  by_cases hv : wrongV na lane s = 0
  rotate_left
  · rw [if_pos hv]; trivial
  rw [if_neg (by simpa using hv)]
  unfold wrongV at hv
  by_cases h1 : s.size ≠ 32
  · rw [if_pos h1] at hv; omega
  rw [if_neg h1] at hv
  by_cases h2 : byteAt s 0 < 1 ∨ 4 < byteAt s 0 ∨ (if byteAt s 0 ≤ 2 then (0 : Int) else 1) ≠ lane
  · rw [if_pos h2] at hv; omega
  rw [if_neg h2] at hv
  by_cases h3 : na ≤ byteAt s 1
  · rw [if_pos h3] at hv; omega
  rw [if_neg h3] at hv
  by_cases h4 : byteAt s 0 = 1 ∧ 1 < byteAt s 2
  · rw [if_pos h4] at hv; omega
  rw [if_neg h4] at hv
  by_cases k1 : byteAt s 0 = 1
  · rw [if_pos k1]
    by_cases h5 : byteAt s 3 ≠ 0
    · rw [if_pos h5] at hv; omega
    rw [if_neg h5, if_neg (fun h => h.1 k1), if_neg (by omega), if_neg (by omega)] at hv
    unfold newV at hv
    by_cases n1 : numOk (s.extract 8 16) = false ∨ numV (s.extract 8 16) < 1
    · rw [if_pos n1] at hv; omega
    rw [if_neg n1] at hv
    by_cases n2 : numOk (s.extract 16 24) = false ∨ numV (s.extract 16 24) < 1
    · rw [if_pos n2] at hv; omega
    rw [if_neg n2] at hv
    by_cases n3 : numOk (s.extract 24 32) = false ∨ numV (s.extract 24 32) < 1 ∨ 1000000 < numV (s.extract 24 32)
    · rw [if_pos n3] at hv; omega
    have b1 := numV_bd (s.extract 8 16)
    have b2 := numV_bd (s.extract 16 24)
    have q1 : ¬ numV (s.extract 8 16) < 1 := fun h => n1 (.inr h)
    have q2 : ¬ numV (s.extract 16 24) < 1 := fun h => n2 (.inr h)
    have q3 : ¬ numV (s.extract 24 32) < 1 := fun h => n3 (.inr (.inl h))
    have q4 : ¬ 1000000 < numV (s.extract 24 32) := fun h => n3 (.inr (.inr h))
    refine ⟨?_, ?_, ?_, ?_, ?_, ?_, ?_, ?_, ?_⟩ <;> omega
  rw [if_neg k1]
  have hb : (0 : Int) ≤ (byteAt s 1 : Int) ∧ (byteAt s 1 : Int) < (na : Int) := by omega
  split
  · exact hb
  split
  · exact hb
  · exact hb

theorem goneL_len (time num : Int) : ∀ l, (goneL time num l).length = l.length
  | [] => rfl
  | x :: r => by
    unfold goneL
    split
    · rfl
    · simp [goneL_len time num r]

theorem goneL_mem (time num : Int) : ∀ l x, x ∈ goneL time num l → ∃ y, y ∈ l ∧ (x = y ∨ x = { y with gone := true })
  | [], x, h => by simp [goneL] at h
  | y :: r, x, h => by
    unfold goneL at h
    split at h
    · rcases List.mem_cons.1 h with rfl | h
      · exact ⟨y, .head _, .inr rfl⟩
      · exact ⟨x, .tail _ h, .inl rfl⟩
    · rcases List.mem_cons.1 h with rfl | h
      · exact ⟨x, .head _, .inl rfl⟩
      · obtain ⟨z, hz, h2⟩ := goneL_mem time num r x h
        exact ⟨z, .tail _ hz, h2⟩

theorem goneL_cnt (time num T : Int) : ∀ l, cntGt T (goneL time num l) = cntGt T l
  | [] => rfl
  | x :: r => by
    unfold goneL
    split
    · simp [cntGt]
    · simp [cntGt, goneL_cnt time num T r]

theorem goneL_open (time num : Int) : ∀ l, (l.filter (isOpen time)).any (fun x => x.order == num) = true →
    ∃ pre x post, l.filter (isOpen time) = pre ++ x :: post ∧ x.order = num ∧ (goneL time num l).filter (isOpen time) = pre ++ post
  | [], h => by simp at h
  | y :: r, h => by
    by_cases ho : isOpen time y = true
    · rw [List.filter_cons_of_pos ho, List.any_cons] at h
      by_cases hn : (y.order == num) = true
      · refine ⟨[], y, r.filter (isOpen time), by rw [List.filter_cons_of_pos ho]; rfl, by simpa using hn, ?_⟩
        unfold goneL
        rw [if_pos (by rw [hn, ho]; rfl), List.filter_cons_of_neg (by simp [isOpen])]
        rfl
      · simp only [hn, Bool.false_or] at h
        obtain ⟨pre, x, post, h1, h2, h3⟩ := goneL_open time num r h
        refine ⟨y :: pre, x, post, by rw [List.filter_cons_of_pos ho, h1]; rfl, h2, ?_⟩
        unfold goneL
        rw [if_neg (by simp [hn]), List.filter_cons_of_pos ho, h3]
        rfl
    · rw [List.filter_cons_of_neg ho] at h
      obtain ⟨pre, x, post, h1, h2, h3⟩ := goneL_open time num r h
      refine ⟨pre, x, post, by rw [List.filter_cons_of_neg ho, h1], h2, ?_⟩
      unfold goneL
      rw [if_neg (by simp [ho]), List.filter_cons_of_neg ho, h3]

theorem wSum_append : ∀ l r : List Ent, wSum (l ++ r) = wSum l + wSum r
  | [], r => by simp [wSum]
  | x :: l, r => by simp [wSum, wSum_append l r, Int.add_assoc]

theorem qSum_append (s : Int) : ∀ l r : List Ent, qSum s (l ++ r) = qSum s l + qSum s r
  | [], r => by simp [qSum]
  | x :: l, r => by simp [qSum, qSum_append s l r, Int.add_assoc]

def PosL (l : List Ent) : Prop := ∀ x, x ∈ l → 0 ≤ x.price * x.qty ∧ 0 ≤ x.qty

theorem wSum_sub {l r : List Ent} (h : l.Sublist r) (hp : PosL r) : wSum l ≤ wSum r := by
  induction h with
  | slnil => exact Int.le_refl _
  | cons x _ ih =>
    have := ih (fun y hy => hp y (.tail _ hy))
    have := (hp x (.head _)).1
    simp only [wSum]; omega
  | cons_cons x _ ih =>
    have := ih (fun y hy => hp y (.tail _ hy))
    simp only [wSum]; omega

theorem qSum_sub (s : Int) {l r : List Ent} (h : l.Sublist r) (hp : PosL r) : qSum s l ≤ qSum s r := by
  induction h with
  | slnil => exact Int.le_refl _
  | cons x _ ih =>
    have := ih (fun y hy => hp y (.tail _ hy))
    have := (hp x (.head _)).2
    simp only [qSum]
    split <;> omega
  | cons_cons x _ ih =>
    have := ih (fun y hy => hp y (.tail _ hy))
    simp only [qSum]; omega

theorem OpenOk.sub {l r : List Ent} (h : OpenOk r) (hs : l.Sublist r) (hp : PosL r) : OpenOk l :=
  ⟨Int.le_trans (wSum_sub hs hp) h.w, fun sd => Int.le_trans (qSum_sub sd hs hp) (h.q sd), h.num.sublist (hs.map _)⟩

theorem EntOk.pos {x : Ent} {time : Nat} (h : EntOk x time) : 0 ≤ x.price * x.qty ∧ 0 ≤ x.qty :=
  ⟨Int.mul_nonneg (by have := h.price; omega) (by have := h.qty; omega), by have := h.qty; omega⟩

theorem Ok.pos {s : St} {N : Nat} (h : Ok s N) (a : Nat) : PosL (s.opens a) := fun x hx => (h.ents a x (List.mem_filter.1 hx).1).pos

theorem Ok.more {s : St} {N M : Nat} (h : Ok s N) (hM : N ≤ M) : Ok s M :=
  { h with mt := fun i hi => ⟨(h.mt i hi).1, (h.mt i hi).2.1, Nat.le_trans (h.mt i hi).2.2 hM⟩, acks := fun c => Nat.le_trans (h.acks c) hM, time := Nat.le_trans h.time hM, miss := Nat.le_trans h.miss hM, len := fun a => Nat.le_trans (h.len a) hM }

theorem new_ok (cl an ch na : Nat) (lim : Nat → Nat → Int) (n : Nat → Nat) (h1 : 1 ≤ cl ∧ cl ≤ 8) (h2 : powB an = true) (h3 : 1 ≤ ch ∧ ch ≤ 100) (h4 : 1 ≤ na ∧ na ≤ 4)
    (h5 : ∀ a, a < na → (∀ j, j < 5 → 0 ≤ lim a j ∧ lim a j ≤ 4611686018427387904) ∧ 1 ≤ lim a 5 ∧ lim a 5 ≤ 1000) (h6 : ∀ i, i < 2 → powB (n i) = true) : Ok (newS cl an ch na lim n) 0 where
  cl := h1
  an := h2
  ch := h3
  na := h4
  lim := h5
  n := h6
  mt := fun i hi => ⟨Nat.le_refl _, Nat.zero_le _, Nat.le_refl _⟩
  free := fun i k hi hk => rfl
  full := fun i k hi hk => absurd hk (Nat.not_lt_zero _)
  who := fun i k hi hk => absurd hk (Nat.not_lt_zero _)
  ring := fun c => Nat.zero_le _
  acks := fun c => Nat.le_refl _
  held := fun c a h => by cases h
  time := Nat.le_refl _
  miss := Nat.le_refl _
  live := fun _ => h3.1
  len := fun a => Nat.le_refl _
  ents := fun a x h => by cases h
  opens := fun a => ⟨by simp [St.opens, newS, wSum], fun sd => by simp [St.opens, newS, qSum], by simp [St.opens, newS]⟩

theorem pow_pos' {n : Nat} (h : powB n = true) : 2 ≤ n ∧ n ≤ 16 := by have := pow_nat h; omega

theorem claim_ok {s : St} {N : Nat} (h : Ok s N) (client lane : Int) : Ok (claimS s client lane).2.2 (N + 1) := by
  unfold claimS
  by_cases h1 : refuse s.cl client lane ≠ 0
  · rw [if_pos h1]; exact h.more (Nat.le_succ _)
  rw [if_neg h1]
  by_cases h2 : s.shut = true
  · rw [if_pos h2]; exact h.more (Nat.le_succ _)
  rw [if_neg h2]
  by_cases h3 : s.t lane.toNat + s.n lane.toNat ≤ s.m lane.toNat
  · rw [if_pos h3]; exact h.more (Nat.le_succ _)
  rw [if_neg h3]
  obtain ⟨c1, c2, hl⟩ := refuse_lane (Classical.not_not.1 h1)
  have hi : lane.toNat < 2 := by omega
  generalize lane.toNat = i at *
  have hm := h.mt i hi
  have hh := h.more (Nat.le_succ N)
  exact { hh with
    mt := fun j hj => by
      show s.t j ≤ upN s.m i (s.m i + 1) j ∧ upN s.m i (s.m i + 1) j ≤ s.t j + s.n j ∧ upN s.m i (s.m i + 1) j ≤ N + 1
      by_cases e : j = i
      · subst e; rw [upN_same]; omega
      · rw [upN_ne _ _ _ _ e]; exact hh.mt j hj
    free := fun j k hj hk => by
      show upN s.f i (upd (s.f i) (s.m i) (client, false, ByteArray.empty)) j k = zeroPl
      have hk : upN s.m i (s.m i + 1) j ≤ k := hk
      by_cases e : j = i
      · subst e; rw [upN_same] at hk ⊢; rw [upd, if_neg (by omega)]; exact h.free j k hj (by omega)
      · rw [upN_ne _ _ _ _ e] at hk ⊢; exact h.free j k hj hk
    full := fun j k hj hk => by
      show (upN s.f i (upd (s.f i) (s.m i) (client, false, ByteArray.empty)) j k).2.1 = true
      have hk : k < s.t j := hk
      by_cases e : j = i
      · subst e; rw [upN_same, upd, if_neg (by omega)]; exact h.full j k hj hk
      · rw [upN_ne _ _ _ _ e]; exact h.full j k hj hk
    who := fun j k hj hk => by
      show 0 ≤ (upN s.f i (upd (s.f i) (s.m i) (client, false, ByteArray.empty)) j k).1 ∧ (upN s.f i (upd (s.f i) (s.m i) (client, false, ByteArray.empty)) j k).1 < s.cl
      have hk : k < upN s.m i (s.m i + 1) j := hk
      by_cases e : j = i
      · subst e
        rw [upN_same] at hk
        rw [upN_same, upd]
        by_cases e2 : k = s.m j
        · rw [if_pos e2]; exact ⟨c1, c2⟩
        · rw [if_neg e2]; exact h.who j k hj (by omega)
      · rw [upN_ne _ _ _ _ e] at hk
        rw [upN_ne _ _ _ _ e]; exact h.who j k hj hk }

theorem pub_ok {s : St} {N : Nat} (h : Ok s N) (client lane place : Int) (b : ByteArray) : Ok (pubS s client lane place b).2 (N + 1) := by
  unfold pubS
  by_cases h1 : refuse s.cl client lane ≠ 0
  · rw [if_pos h1]; exact h.more (Nat.le_succ _)
  rw [if_neg h1]
  by_cases h2 : fillB (s.m lane.toNat) (s.f lane.toNat) client place = true
  rotate_left
  · rw [if_neg h2]; exact h.more (Nat.le_succ _)
  rw [if_pos h2]
  simp only [fillB, Bool.and_eq_true, decide_eq_true_eq, Bool.not_eq_true'] at h2
  obtain ⟨⟨⟨p1, p2⟩, p3⟩, p4⟩ := h2
  obtain ⟨c1, c2, hl⟩ := refuse_lane (Classical.not_not.1 h1)
  have hi : lane.toNat < 2 := by omega
  have hp : place.toNat < s.m lane.toNat := by omega
  generalize lane.toNat = i at *
  generalize place.toNat = p at *
  have hh := h.more (Nat.le_succ N)
  have hmt := h.mt i hi
  exact { hh with
    free := fun j k hj hk => by
      show upN s.f i (upd (s.f i) p ((s.f i p).1, true, b)) j k = zeroPl
      have hk : s.m j ≤ k := hk
      by_cases e : j = i
      · subst e; rw [upN_same, upd, if_neg (by omega)]; exact h.free j k hj hk
      · rw [upN_ne _ _ _ _ e]; exact h.free j k hj hk
    full := fun j k hj hk => by
      show (upN s.f i (upd (s.f i) p ((s.f i p).1, true, b)) j k).2.1 = true
      have hk : k < s.t j := hk
      by_cases e : j = i
      · subst e
        rw [upN_same, upd]
        split
        · rfl
        · exact h.full j k hj hk
      · rw [upN_ne _ _ _ _ e]; exact h.full j k hj hk
    who := fun j k hj hk => by
      show 0 ≤ (upN s.f i (upd (s.f i) p ((s.f i p).1, true, b)) j k).1 ∧ (upN s.f i (upd (s.f i) p ((s.f i p).1, true, b)) j k).1 < s.cl
      have hk : k < s.m j := hk
      by_cases e : j = i
      · subst e
        rw [upN_same, upd]
        split
        · exact h.who j p hj hp
        · exact h.who j k hj hk
      · rw [upN_ne _ _ _ _ e]; exact h.who j k hj hk }

theorem opens_up (s : St) (a : Nat) (l : List Ent) (j : Nat) : St.opens { s with book := upN s.book a l } j = if j = a then l.filter (isOpen s.time) else s.opens j := by
  by_cases e : j = a
  · simp [St.opens, upN, e]
  · simp [St.opens, upN, e]

theorem newsV_zero {s : St} {a : Nat} {sd num : Int} {p q : Nat} (h : newsV s a sd num p q = 0) : s.shut = false ∧
    jCode (s.lim a) (s.stop a) ((s.opens a).any (fun x => x.order == num)) sd p q (wSum (s.opens a)) (qSum sd (s.opens a)) (cntGt (s.time - s.lim a 5) (s.book a)) = 0 := by
  unfold newsV at h
  by_cases hs : s.shut = true
  · rw [if_pos hs] at h; omega
  · rw [if_neg hs] at h; exact ⟨by simpa using hs, h⟩

/-- What a New leaves. -/
theorem news_open {s : St} {N : Nat} (h : Ok s N) {a : Nat} {sd num : Int} {p q : Nat} {l : Int} (hsd : sd = 0 ∨ sd = 1) (hp : 1 ≤ p) (hq : 1 ≤ q) (hl : 1 ≤ l ∧ l ≤ 1000000) (hz : newsV s a sd num p q = 0) :
    EntOk ⟨num, sd, p, q, s.time, s.time + l, false⟩ s.time ∧ OpenOk (s.opens a ++ [⟨num, sd, p, q, s.time, s.time + l, false⟩]) ∧ isOpen s.time ⟨num, sd, p, q, s.time, s.time + l, false⟩ = true := by
  obtain ⟨jB, jt, jw, jq⟩ := jCode_zero (newsV_zero hz).2
  have hpq : p * q ≤ 9223372036854775807 := of_decide_eq_true jt
  have htv : timesV p q = ((p * q : Nat) : Int) := by unfold timesV; rw [if_pos jt]
  have hw : wSum (s.opens a) ≤ 9223372036854775807 - ((p * q : Nat) : Int) := by have := of_decide_eq_true jw; rwa [htv] at this
  have hq2 : qSum sd (s.opens a) ≤ 9223372036854775807 - (q : Int) := of_decide_eq_true jq
  rw [Int.natCast_mul] at hw
  have ho := h.opens a
  refine ⟨⟨hsd, by show (1 : Int) ≤ p; omega, by show (1 : Int) ≤ q; omega, ?_, ⟨by show (0 : Int) ≤ s.time; omega, Int.le_refl _⟩, by show (s.time : Int) + 1 ≤ s.time + l; omega, by show (s.time : Int) + l ≤ s.time + 1000000; omega⟩, ⟨?_, fun sd' => ?_, ?_⟩, ?_⟩
  · show (p : Int) * (q : Int) ≤ _
    rw [← Int.natCast_mul]; omega
  · rw [wSum_append]; simp only [wSum]; omega
  · rw [qSum_append]
    simp only [qSum]
    by_cases e : sd = sd'
    · subst e; rw [if_pos rfl]; omega
    · rw [if_neg e]; have := ho.q sd'; omega
  · rw [List.map_append, List.nodup_append]
    refine ⟨ho.num, by simp, fun x hx y hy e => ?_⟩
    simp at hy
    obtain ⟨z, hz, rfl⟩ := List.mem_map.1 hx
    have := List.any_eq_false.1 jB z hz
    simp at this
    omega
  · simp [isOpen]; omega

theorem doS_new (s : St) (a sd num p q l : Int) : doS s (.new a sd num p q l) = (newsV s a.toNat sd num p.toNat q.toNat,
      if newsV s a.toNat sd num p.toNat q.toNat = 0 then { s with book := upN s.book a.toNat (s.book a.toNat ++ [⟨num, sd, p, q, s.time, s.time + l, false⟩]) } else s) := rfl

theorem doS_cancel (s : St) (a num : Int) : doS s (.cancel a num) = if (s.opens a.toNat).any (fun x => x.order == num) then (0, { s with book := upN s.book a.toNat (goneL s.time num (s.book a.toNat)) }) else (18, s) := rfl

theorem do_ok {s : St} {N : Nat} (h : Ok s N) (x : Said) (hx : SaidOk s.na x) : Ok (doS s x).2 (N + 1) := by
  cases x with
  | wrong c => exact h.more (Nat.le_succ _)
  | kill a => exact { h.more (Nat.le_succ N) with }
  | unkill a => exact { h.more (Nat.le_succ N) with }
  | cancel a num =>
    rw [doS_cancel]
    by_cases hany : (s.opens a.toNat).any (fun x => x.order == num) = true
    rotate_left
    · rw [if_neg hany]; exact h.more (Nat.le_succ _)
    rw [if_pos hany]
    obtain ⟨pre, y, post, h1, h2, h3⟩ := goneL_open s.time num (s.book a.toNat) hany
    refine { h.more (Nat.le_succ N) with len := fun j => ?_, ents := fun j x hx => ?_, opens := fun j => ?_ }
    · show (upN s.book a.toNat (goneL s.time num (s.book a.toNat)) j).length ≤ N + 1
      unfold upN
      split
      · rw [goneL_len]; exact Nat.le_succ_of_le (h.len _)
      · exact Nat.le_succ_of_le (h.len _)
    · have hx : x ∈ upN s.book a.toNat (goneL s.time num (s.book a.toNat)) j := hx
      show EntOk x s.time
      unfold upN at hx
      split at hx
      · obtain ⟨z, hz, e⟩ := goneL_mem _ _ _ _ hx
        have := h.ents _ z hz
        rcases e with rfl | rfl
        · exact this
        · exact ⟨this.side, this.price, this.qty, this.worth, this.frm, this.till⟩
      · exact h.ents _ _ hx
    · rw [opens_up]
      split
      · rw [h3]
        refine (h.opens a.toNat).sub ?_ (h.pos _)
        show (pre ++ post).Sublist ((s.book a.toNat).filter (isOpen s.time))
        rw [h1]
        exact List.Sublist.append_left (List.sublist_cons_self _ _) _
      · exact h.opens _
  | new a sd num p q l =>
    obtain ⟨a1, a2, hsd, p1, p2, q1, q2, l1, l2⟩ := hx
    rw [doS_new]
    by_cases hz : newsV s a.toNat sd num p.toNat q.toNat = 0
    rotate_left
    · simp only [if_neg hz]; exact h.more (Nat.le_succ _)
    simp only [if_pos hz]
    obtain ⟨e1, e2, e3⟩ := news_open (l := l) h hsd (by omega) (by omega) ⟨l1, l2⟩ hz
    rw [show ((p.toNat : Nat) : Int) = p by omega, show ((q.toNat : Nat) : Int) = q by omega] at e1 e2 e3
    refine { h.more (Nat.le_succ N) with len := fun j => ?_, ents := fun j x hx => ?_, opens := fun j => ?_ }
    · show (upN s.book a.toNat _ j).length ≤ N + 1
      unfold upN
      split
      · simp; exact h.len _
      · exact Nat.le_succ_of_le (h.len _)
    · have hx : x ∈ upN s.book a.toNat (s.book a.toNat ++ [⟨num, sd, p, q, s.time, s.time + l, false⟩]) j := hx
      show EntOk x s.time
      unfold upN at hx
      split at hx
      · rcases List.mem_append.1 hx with hx | hx
        · exact h.ents _ _ hx
        · simp at hx; subst hx; exact e1
      · exact h.ents _ _ hx
    · rw [opens_up]
      split
      · rw [List.filter_append, List.filter_cons_of_pos e3]; exact e2
      · exact h.opens _

/-- What a frame does leaves all else as it was. -/
theorem do_same (s : St) (x : Said) : (doS s x).2 = { s with book := (doS s x).2.book, stop := (doS s x).2.stop } := by
  cases x with
  | wrong c => rfl
  | kill a => rfl
  | unkill a => rfl
  | cancel a num => rw [doS_cancel]; split <;> rfl
  | new a sd num p q l => rw [doS_new]; by_cases hz : newsV s a.toNat sd num p.toNat q.toNat = 0 <;> simp [hz]

theorem took_ok {s : St} {N : Nat} (h : Ok s N) (i : Nat) (hi : i < 2) (hn : s.hasNext i = true) : Ok (s.took i) N := by
  have htm : s.t i < s.m i := by
    rcases Nat.lt_or_ge (s.t i) (s.m i) with h1 | h1
    · exact h1
    · unfold St.hasNext at hn; rw [h.free i _ hi h1] at hn; cases hn
  have hmt := h.mt i hi
  exact { h with
    mt := fun j hj => by
      show upN s.t i (s.t i + 1) j ≤ s.m j ∧ s.m j ≤ upN s.t i (s.t i + 1) j + s.n j ∧ s.m j ≤ N
      by_cases e : j = i
      · subst e; rw [upN_same]; omega
      · rw [upN_ne _ _ _ _ e]; exact h.mt j hj
    full := fun j k hj hk => by
      show (s.f j k).2.1 = true
      have hk : k < upN s.t i (s.t i + 1) j := hk
      by_cases e : j = i
      · subst e
        rw [upN_same] at hk
        by_cases e2 : k = s.t j
        · rw [e2]; exact hn
        · exact h.full j k hj (by omega)
      · rw [upN_ne _ _ _ _ e] at hk; exact h.full j k hj hk }

theorem next_lt {s : St} {N : Nat} (h : Ok s N) {i : Nat} (hi : i < 2) (hn : s.hasNext i = true) : s.t i < s.m i := by
  rcases Nat.lt_or_ge (s.t i) (s.m i) with h1 | h1
  · exact h1
  · unfold St.hasNext at hn; rw [h.free i _ hi h1] at hn; cases hn

theorem whose_lt {s : St} {N : Nat} (h : Ok s N) {i : Nat} (hi : i < 2) (hn : s.hasNext i = true) : s.whose i < s.cl ∧ ((s.f i (s.t i)).1 = (s.whose i : Int)) := by
  have := h.who i _ hi (next_lt h hi hn)
  unfold St.whose
  omega

theorem step_ok {s : St} {N : Nat} (h : Ok s N) : Ok s.step N := { h with }

theorem ack_ok {s : St} {N : Nat} (h : Ok s N) (c : Nat) (a : Ans) (hl : (s.acks c).length < N) : Ok (s.ack c a) N := by
  refine { h with acks := fun j => ?_ }
  show (upN s.acks c (s.acks c ++ [a]) j).length ≤ N
  unfold upN
  split
  · simp; omega
  · exact h.acks j

theorem lay_ok {s : St} {N : Nat} (h : Ok s N) (c : Nat) (a : Ans) (hl : (s.ring c).length < s.an) : Ok (s.lay c a) N := by
  refine { h with ring := fun j => ?_ }
  show (upN s.ring c (s.ring c ++ [a]) j).length ≤ s.an
  unfold upN
  split
  · simp; omega
  · exact h.ring j

theorem core_ok {s : St} {N : Nat} (h : Ok s N) : Ok (coreS s).2 (N + 1) := by
  unfold coreS
  have h := step_ok h
  generalize s.step = s at *
  unfold coreS'
  by_cases h1 : s.hasNext 1 = true
  · rw [if_pos h1]
    have hd := do_ok (took_ok h 1 (by omega) h1) (saidOf s.na ((1 : Nat) : Int) (s.f 1 (s.t 1)).2.2) (said_ok _ _ _)
    refine ack_ok hd _ _ ?_
    show ((doS (s.took 1) (saidOf s.na ((1 : Nat) : Int) (s.f 1 (s.t 1)).2.2)).2.acks _).length < N + 1
    rw [do_same]
    exact Nat.lt_succ_of_le (h.acks _)
  rw [if_neg h1]
  cases hh : s.held with
  | some x =>
    obtain ⟨c, a⟩ := x
    show Ok (freeS s c a).2 (N + 1)
    unfold freeS
    split
    · rename_i hl
      exact { lay_ok (h.more (Nat.le_succ N)) c a hl with held := fun c a e => by cases e }
    · exact h.more (Nat.le_succ _)
  | none =>
    show Ok (if s.hasNext 0 = true then serveS s else (0, s)).2 (N + 1)
    by_cases h2 : s.hasNext 0 = true
    rotate_left
    · rw [if_neg h2]; exact h.more (Nat.le_succ _)
    rw [if_pos h2]
    have hd := do_ok (took_ok h 0 (by omega) h2) (saidOf s.na ((0 : Nat) : Int) (s.f 0 (s.t 0)).2.2) (said_ok _ _ _)
    unfold serveS
    by_cases hl : ((doesS (s.took 0) 0 (s.f 0 (s.t 0)).2.2).2.ring (s.whose 0)).length < s.an
    · rw [if_pos hl]
      refine lay_ok hd _ _ ?_
      have : (doS (s.took 0) (saidOf s.na ((0 : Nat) : Int) (s.f 0 (s.t 0)).2.2)).2.an = s.an := by rw [do_same]; rfl
      rw [this]
      exact hl
    · rw [if_neg hl]
      have hc : (doS (s.took 0) (saidOf s.na ((0 : Nat) : Int) (s.f 0 (s.t 0)).2.2)).2.cl = s.cl := by rw [do_same]; rfl
      refine { hd with held := fun c a e => ?_ }
      simp only [Option.some.injEq, Prod.mk.injEq] at e
      have := (whose_lt h (by omega) h2).1
      show c < (doS (s.took 0) (saidOf s.na ((0 : Nat) : Int) (s.f 0 (s.t 0)).2.2)).2.cl
      rw [hc, ← e.1]
      exact this

theorem poll_ok {s : St} {N : Nat} (h : Ok s N) (client : Int) : Ok (pollS s client).2.2 (N + 1) := by
  unfold pollS
  by_cases h1 : refuse s.cl client 0 ≠ 0
  · rw [if_pos h1]; exact h.more (Nat.le_succ _)
  rw [if_neg h1]
  split
  · exact h.more (Nat.le_succ _)
  · rename_i a r hr
    refine { h.more (Nat.le_succ N) with ring := fun j => ?_ }
    show (upN s.ring client.toNat r j).length ≤ s.an
    unfold upN
    split
    · have := h.ring client.toNat
      rw [hr] at this
      simp at this
      omega
    · exact h.ring j

theorem acks_ok {s : St} {N : Nat} (h : Ok s N) (client : Int) : Ok (acksS s client).2.2 (N + 1) := by
  unfold acksS
  by_cases h1 : refuse s.cl client 0 ≠ 0
  · rw [if_pos h1]; exact h.more (Nat.le_succ _)
  rw [if_neg h1]
  refine { h.more (Nat.le_succ N) with acks := fun j => ?_ }
  show (upN s.acks client.toNat [] j).length ≤ N + 1
  unfold upN
  split
  · simp
  · exact Nat.le_succ_of_le (h.acks j)

theorem opens_later (s : St) (a : Nat) : ((tickS s).opens a).Sublist (s.opens a) := by
  unfold St.opens tickS
  have : (s.book a).filter (isOpen ((s.time + 1 : Nat) : Int)) = ((s.book a).filter (isOpen s.time)).filter (isOpen ((s.time + 1 : Nat) : Int)) := by
    rw [List.filter_filter]
    congr 1
    funext x
    by_cases h : isOpen ((s.time + 1 : Nat) : Int) x = true
    · rw [h]
      have : isOpen s.time x = true := by
        simp only [isOpen, Bool.and_eq_true, decide_eq_true_eq] at h ⊢
        exact ⟨h.1, by omega⟩
      rw [this]; rfl
    · rw [Bool.not_eq_true] at h; rw [h]; rfl
  rw [this]
  exact List.filter_sublist

theorem tick_ok {s : St} {N : Nat} (h : Ok s N) : Ok (tickS s) (N + 1) :=
  { h.more (Nat.le_succ N) with
    time := Nat.succ_le_succ h.time
    ents := fun a x hx => by
      have := h.ents a x hx
      exact ⟨this.side, this.price, this.qty, this.worth, ⟨this.frm.1, by have := this.frm.2; show x.frm ≤ ((s.time + 1 : Nat) : Int); omega⟩, this.till⟩
    opens := fun a => (h.opens a).sub (opens_later s a) (h.pos a) }

theorem watch_ok {s : St} {N : Nat} (h : Ok s N) : Ok (watchS s).2 (N + 1) := by
  unfold watchS
  by_cases h1 : s.ticked = false
  · rw [if_pos h1]; exact h.more (Nat.le_succ _)
  rw [if_neg h1]
  have hm := h.miss
  have hc := h.ch
  refine { h.more (Nat.le_succ N) with miss := ?_, live := fun hs => ?_ }
  · show (if s.stepped then 0 else s.misses + 1) ≤ N + 1
    split <;> omega
  · have hs : (s.shut || decide (s.ch ≤ (if s.stepped then 0 else s.misses + 1))) = false := hs
    rw [Bool.or_eq_false_iff] at hs
    have := of_decide_eq_false hs.2
    show (if s.stepped then 0 else s.misses + 1) < s.ch
    omega

end Go.Proofs.Ytjhifhoniimfgaa

/-
  An account: made, stopped, let go on.
-/
namespace Go.Proofs.Ytjhifhoniimfgaa
open Go.RowKit

set_option maxHeartbeats 400000 in
theorem stop_any (w : World) (ab : Nat) (b : Bool) (h : w.cell? ⟨ab, 6, none⟩ = some (.bool b)) (hz : w.frozen? ⟨ab, 6, none⟩ = false) :
    Calls Try.prog 77 #[.pointer (some ⟨ab, 0, none⟩)] w fun e w' => e = .returned (.tuple #[]) ∧ w.setCell ⟨ab, 6, none⟩ (.bool true) = w' := by
  go_enter Try.func77, Try.ntmps77
  go_wp2
  go_end0
  exact ⟨rfl, rfl⟩

set_option maxHeartbeats 400000 in
theorem goOn_any (w : World) (ab : Nat) (b : Bool) (h : w.cell? ⟨ab, 6, none⟩ = some (.bool b)) (hz : w.frozen? ⟨ab, 6, none⟩ = false) :
    Calls Try.prog 78 #[.pointer (some ⟨ab, 0, none⟩)] w fun e w' => e = .returned (.tuple #[]) ∧ w.setCell ⟨ab, 6, none⟩ (.bool false) = w' := by
  go_enter Try.func78, Try.ntmps78
  go_wp2
  go_end0
  exact ⟨rfl, rfl⟩

/-- A new account in memory. -/
theorem acc_made (w : World) (lim : Nat → Int) (dat : Nat → Odr) (O : Obj) :
    AccP (((w.alloc O).alloc (.map #[] 0)).alloc (.cells #[.int .i64 (lim 0), .int .i64 (lim 1), .int .i64 (lim 2), .int .i64 (lim 3), .int .i64 (lim 4), .int .i64 (lim 5), .bool false, .slice none 0 0, .map (some (w.heap.size + 1)), .int .i64 0, .int .i64 0, .int .i64 0, .slice none 0 0] 135))
      (w.heap.size + 1 + 1) lim false (.slice none 0 0) (w.heap.size + 1) [] dat (.slice none 0 0) [] := by
  have ha := heap_alloc_new ((w.alloc O).alloc (.map #[] 0)) (.cells #[.int .i64 (lim 0), .int .i64 (lim 1), .int .i64 (lim 2), .int .i64 (lim 3), .int .i64 (lim 4), .int .i64 (lim 5), .bool false, .slice none 0 0, .map (some (w.heap.size + 1)), .int .i64 0, .int .i64 0, .int .i64 0, .slice none 0 0] 135)
  rw [World.size_alloc, World.size_alloc] at ha
  have hm := heap_alloc_new (w.alloc O) (.map #[] 0)
  rw [World.size_alloc] at hm
  refine ⟨⟨⟨_, ha, rfl, rfl, rfl, rfl, rfl, rfl⟩, ⟨.inl ⟨rfl, rfl⟩, fun i b h => by simp at h, List.nodup_nil, fun b h => by simp at h⟩, fun k _ h => by simp at h, ⟨[], ⟨#[], 0, ?_, rfl⟩, by simp, by simp, fun p h => by simp at h⟩, by simp [Value.ownBlock], by simp [Value.ownBlock], by simp, by simp, by omega⟩,
    ⟨_, ha, rfl, fun i hi => ?_, rfl, rfl⟩, .inl ⟨rfl, rfl⟩, by simp [Value.ownBlock], by simp [Value.ownBlock], fun b h => by simp at h, fun b h => by simp [Value.ownBlock] at h⟩
  · rw [Below.heap_alloc _ _ _ (by rw [World.size_alloc, World.size_alloc]; omega)]; exact hm
  · rcases (show i = 0 ∨ i = 1 ∨ i = 2 ∨ i = 3 ∨ i = 4 ∨ i = 5 by omega) with rfl | rfl | rfl | rfl | rfl | rfl <;> rfl

set_option maxHeartbeats 1000000 in
theorem accNew_any (w : World) (lim : Nat → Int) (dat : Nat → Odr) :
    Calls Try.prog 46 #[.agg #[.int .i64 (lim 0), .int .i64 (lim 1), .int .i64 (lim 2), .int .i64 (lim 3), .int .i64 (lim 4), .int .i64 (lim 5)]] w fun r w' => ∃ ab mb, r = .returned (.pointer (some ⟨ab, 0, none⟩)) ∧
      AccP w' ab lim false (.slice none 0 0) mb [] dat (.slice none 0 0) [] ∧ Below w.heap.size w w' ∧ w.heap.size ≤ ab ∧ w.heap.size ≤ mb ∧ ab < w'.heap.size ∧ mb < w'.heap.size := by
  have hmm := @run_makeMap Try.prog
  have HF : Hid (∀ O, AccP (((w.alloc O).alloc (.map #[] 0)).alloc (.cells #[.int .i64 (lim 0), .int .i64 (lim 1), .int .i64 (lim 2), .int .i64 (lim 3), .int .i64 (lim 4), .int .i64 (lim 5), .bool false, .slice none 0 0, .map (some (w.heap.size + 1)), .int .i64 0, .int .i64 0, .int .i64 0, .slice none 0 0] 135))
      (w.heap.size + 1 + 1) lim false (.slice none 0 0) (w.heap.size + 1) [] dat (.slice none 0 0) []) := acc_made w lim dat
  go_enter Try.func46, Try.ntmps46
  go_wp2
  go_ret
  refine ⟨_, _, rfl, HF.out _, ?_, by omega, by omega, by simp, by simp⟩
  exact (((Below.refl _ w).alloc (Nat.le_refl _) _).alloc (by simp) _).alloc (by simp; omega) _

end Go.Proofs.Ytjhifhoniimfgaa

