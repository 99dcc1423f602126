import Derived.Test.YtjhifhoniimfgaaG28
/-
  What is known of a game stays true, whatever is done: no code.
-/
namespace Go.Proofs.Ytjhifhoniimfgaa
open Go.RowKit

theorem PlOk.congr {s s' : St} {i k : Nat} {g : Snt} (h : PlOk s i k g) (hf : s'.f i k = s.f i k) (ht : decide (k < s'.t i) = decide (k < s.t i)) (hm : s.time ≤ s'.time) : PlOk s' i k g :=
  { lane := h.lane, cl := h.cl, who := by rw [hf]; exact h.who, fil := by rw [hf]; exact h.fil, says := by rw [hf]; exact h.says, nums := h.nums, taken := by rw [ht]; exact h.taken, told := h.told, code := h.code, gone := h.gone,
    frm := ⟨h.frm.1, by have := h.frm.2; omega⟩, size := h.size, zero := h.zero }

theorem GInv.lt {x : Gm} (h : GInv x) {i k : Nat} {g : Snt} (hi : i < 2) (hg : (x.L i)[k]? = some g) : k < x.s.m i := by
  rw [← h.len i hi]; exact (List.getElem?_eq_some_iff.1 hg).1

theorem unt_push (c : Int) (l : List Snt) (g : Snt) (h : g.taken = false) : unt c 0 (l ++ [g]) = unt c 0 l := by
  rw [unt_append, unt_not c [g] _ (fun y hy => by simp at hy; subst hy; exact h), List.append_nil]

theorem claim_inv {x : Gm} (h : GInv x) {N : Nat} (ho : Ok x.s N) (c i : Nat) (hc : c < 3) (hi : i < 2) : GInv (claimG x c i) := by
  have hm := (ho.mt i hi).1
  have untE : ∀ (d : Int) j, unt d 0 (upN x.L i (x.L i ++ [Snt.new c i]) j) = unt d 0 (x.L j) := fun d j => by
    by_cases e : j = i
    · subst e; rw [upN_same]; exact unt_push _ _ _ rfl
    · rw [upN_ne _ _ _ _ e]
  refine ⟨h.cl, h.na, fun j hj => ?_, fun j k g hj hg => ?_, fun d hd => ?_, fun d hd => ?_, h.bk⟩
  · show (upN x.L i (x.L i ++ [Snt.new c i]) j).length = upN x.s.m i (x.s.m i + 1) j
    by_cases e : j = i
    · subst e; rw [upN_same, upN_same]; simp [h.len j hj]
    · rw [upN_ne _ _ _ _ e, upN_ne _ _ _ _ e]; exact h.len j hj
  · have hg : (upN x.L i (x.L i ++ [Snt.new c i]) j)[k]? = some g := hg
    by_cases e : j = i
    · subst e
      rw [upN_same] at hg
      by_cases hk : k < (x.L j).length
      · rw [List.getElem?_append_left hk] at hg
        refine (h.pl j k g hj hg).congr ?_ rfl (Nat.le_refl _)
        show upN x.s.f j _ j k = _
        rw [upN_same, upd, if_neg (by rw [h.len j hj] at hk; omega)]
      · have hk2 := (List.getElem?_eq_some_iff.1 hg).1
        rw [List.length_append] at hk2
        simp only [List.length_singleton] at hk2
        have ek : k = (x.L j).length := by omega
        subst ek
        rw [List.getElem?_append_right (Nat.le_refl _)] at hg
        simp at hg
        subst hg
        have hf : (claimG x c j).s.f j (x.L j).length = ((c : Int), false, ByteArray.empty) := by
          show upN x.s.f j _ j _ = _
          rw [upN_same, upd, if_pos (h.len j hj)]
        exact { lane := rfl, cl := ⟨by simp [Snt.new], by simp [Snt.new]; omega⟩, who := by rw [hf]; rfl, fil := by rw [hf]; rfl, says := fun e => (by cases e),
                nums := ⟨by simp [Snt.new], by simp [Snt.new], .inl rfl, by simp [Snt.new], by simp [Snt.new], by simp [Snt.new], fun e => by simp [Snt.new] at e, by rcases (show j = 0 ∨ j = 1 by omega) with rfl | rfl; exact .inl ⟨rfl, .inl rfl⟩; exact .inr ⟨rfl, .inl rfl⟩, fun _ e => (by cases e), fun _ => rfl⟩,
                taken := by
                  symm
                  refine decide_eq_false ?_
                  show ¬ (x.L j).length < x.s.t j
                  rw [h.len j hj]; omega,
                told := fun e => (by cases e), code := fun _ => rfl, gone := rfl, frm := ⟨Int.le_refl _, by simp [Snt.new]⟩, size := fun e => (by cases e), zero := fun e => by cases e }
    · rw [upN_ne _ _ _ _ e] at hg
      refine (h.pl j k g hj hg).congr ?_ rfl (Nat.le_refl _)
      show upN x.s.f i _ j k = _
      rw [upN_ne _ _ _ _ e]
  · show x.s.ring d ++ heldOf x.s d = unt d 0 (upN x.L i _ 0)
    rw [untE]; exact h.ring d hd
  · show x.s.acks d = unt d 0 (upN x.L i _ 1)
    rw [untE]; exact h.acks d hd

theorem saidK_flags (g : Snt) (n : Nat) : (saidK g n).1.client = g.client ∧ (saidK g n).1.lane = g.lane ∧ (saidK g n).1.filled = true ∧ (saidK g n).1.taken = g.taken ∧ (saidK g n).1.told = g.told ∧ (saidK g n).1.gone = g.gone ∧ (saidK g n).1.code = g.code ∧ (saidK g n).1.given = g.given ∧ (saidK g n).1.frm = g.frm := by
  unfold saidK
  split
  · exact ⟨rfl, rfl, rfl, rfl, rfl, rfl, rfl, rfl, rfl⟩
  · split
    · exact ⟨rfl, rfl, rfl, rfl, rfl, rfl, rfl, rfl, rfl⟩
    · split <;> exact ⟨rfl, rfl, rfl, rfl, rfl, rfl, rfl, rfl, rfl⟩

theorem saidK_says (g : Snt) (n i : Nat) (hi : i < 2) (hl : g.lane = i) (hz : g.kind = 0) : saidOf 2 i (saidK g n).2 = saidG (saidK g n).1 ∧ NumOk i (saidK g n).1 := by
  have a1 : n % 2 < 2 := Nat.mod_lt _ (by omega)
  have a2 : n / 2 % 6 < 6 := Nat.mod_lt _ (by omega)
  have a3 : n / 16 % 2 < 2 := Nat.mod_lt _ (by omega)
  have a4 : n / 32 % 9 < 9 := Nat.mod_lt _ (by omega)
  have a5 : n / 512 % 11 < 11 := Nat.mod_lt _ (by omega)
  have a6 : n / 8192 % 12 < 12 := Nat.mod_lt _ (by omega)
  have z1 : (n : Int) % 2 = ((n % 2 : Nat) : Int) := by omega
  have z2 : (n : Int) / 2 % 6 = ((n / 2 % 6 : Nat) : Int) := by omega
  have z3 : (n : Int) / 16 % 2 = ((n / 16 % 2 : Nat) : Int) := by omega
  have z4 : (n : Int) / 32 % 9 = ((n / 32 % 9 : Nat) : Int) := by omega
  have z5 : (n : Int) / 512 % 11 = ((n / 512 % 11 : Nat) : Int) := by omega
  have z6 : (n : Int) / 8192 % 12 = ((n / 8192 % 12 : Nat) : Int) := by omega
  unfold saidK saidQ
  rw [hl, z1, z2, z3, z4, z5, z6]
  clear z1 z2 z3 z4 z5 z6
  generalize n % 2 = b1 at *
  generalize n / 2 % 6 = b2 at *
  generalize n / 16 % 2 = b3 at *
  generalize n / 32 % 9 = b4 at *
  generalize n / 512 % 11 = b5 at *
  generalize n / 8192 % 12 = b6 at *
  rcases (show i = 0 ∨ i = 1 by omega) with rfl | rfl
  · rw [if_neg (by omega)]
    split
    · refine ⟨said_cancel b1 b2 a1 (by omega), ?_⟩
      constructor <;> simp <;> omega
    · split
      · refine ⟨?_, ?_⟩
        · rw [show ((0 : Nat) : Int) = 0 from rfl, said_size]
          simp [saidG, hz]
        · constructor <;> simp [hz] <;> omega
      · refine ⟨?_, ?_⟩
        · have := said_order b1 b3 b2 (1 + b4) (1 + b5) (1 + b6) a1 a3 (by omega) (by omega) (by omega) (by omega)
          rw [Int.natCast_add, Int.natCast_add, Int.natCast_add] at this
          exact this
        · constructor <;> simp <;> omega
  · rw [if_pos (show ((1 : Nat) : Int) = 1 from rfl)]
    rcases (show b3 = 0 ∨ b3 = 1 by omega) with rfl | rfl
    · refine ⟨said_kill b1 a1, ?_⟩
      constructor <;> simp <;> omega
    · refine ⟨said_unkill b1 a1, ?_⟩
      constructor <;> simp <;> omega

theorem fill_inv {x : Gm} (h : GInv x) (i k n : Nat) (g : Snt) (hi : i < 2) (hg : (x.L i)[k]? = some g) (hf : g.filled = false) (ht : x.s.t i ≤ k) : GInv (fillG x i k n g) := by
  have hp := h.pl i k g hi hg
  have hlt := (List.getElem?_eq_some_iff.1 hg).1
  have htk : g.taken = false := by rw [hp.taken]; exact decide_eq_false (by omega)
  obtain ⟨q1, q2, q3, q4, q5, q6, q7, q8, q9⟩ := saidK_flags g n
  have untE : ∀ (d : Int) j, unt d 0 (upN x.L i ((x.L i).set k (saidK g n).1) j) = unt d 0 (x.L j) := fun d j => by
    by_cases e : j = i
    · subst e; rw [upN_same]; exact unt_set d hg htk (by rw [q4]; exact htk)
    · rw [upN_ne _ _ _ _ e]
  refine ⟨h.cl, h.na, fun j hj => ?_, fun j l y hj hy => ?_, fun d hd => ?_, fun d hd => ?_, h.bk⟩
  · show (upN x.L i ((x.L i).set k (saidK g n).1) j).length = x.s.m j
    by_cases e : j = i
    · subst e; rw [upN_same, List.length_set]; exact h.len j hj
    · rw [upN_ne _ _ _ _ e]; exact h.len j hj
  · have hy : (upN x.L i ((x.L i).set k (saidK g n).1) j)[l]? = some y := hy
    by_cases e : j = i
    · subst e
      rw [upN_same] at hy
      by_cases e2 : l = k
      · subst e2
        rw [List.getElem?_set_self hlt] at hy
        simp at hy
        subst hy
        have hfk : (fillG x j l n g).s.f j l = ((x.s.f j l).1, true, (saidK g n).2) := by
          show upN x.s.f j _ j l = _
          rw [upN_same, upd, if_pos rfl]
        obtain ⟨z1, z2⟩ := saidK_says g n j hj hp.lane (hp.nums.empty hf)
        exact { lane := by rw [q2]; exact hp.lane, cl := by rw [q1]; exact hp.cl, who := by rw [hfk, q1]; exact hp.who, fil := by rw [hfk, q3], says := fun _ => by rw [hfk]; exact z1, nums := z2, taken := by rw [q4]; exact hp.taken,
                told := fun e => (by rw [q5] at e; have := (hp.told e).1; rw [htk] at this; cases this), code := fun e => by rw [q7]; rw [q5] at e; exact hp.code e, gone := by rw [q6]; exact hp.gone, frm := by rw [q9]; exact hp.frm,
                size := fun e => (by rw [q4, htk] at e; cases e), zero := fun e => by rw [q4, htk] at e; cases e }
      · rw [List.getElem?_set_ne (fun e3 => e2 e3.symm)] at hy
        refine (h.pl j l y hj hy).congr ?_ rfl (Nat.le_refl _)
        show upN x.s.f j _ j l = _
        rw [upN_same, upd, if_neg e2]
    · rw [upN_ne _ _ _ _ e] at hy
      refine (h.pl j l y hj hy).congr ?_ rfl (Nat.le_refl _)
      show upN x.s.f i _ j l = _
      rw [upN_ne _ _ _ _ e]
  · show x.s.ring d ++ heldOf x.s d = unt d 0 (upN x.L i _ 0)
    rw [untE]; exact h.ring d hd
  · show x.s.acks d = unt d 0 (upN x.L i _ 1)
    rw [untE]; exact h.acks d hd

theorem doS_frame (s : St) (i : Nat) (y : Said) : (doS (s.step.took i) y).1 = (doS s y).1 ∧ (doS (s.step.took i) y).2 = { s.step.took i with book := (doS s y).2.book, stop := (doS s y).2.stop } := by
  cases y with
  | new a sd num p q l =>
    refine ⟨rfl, ?_⟩
    rw [doS_new, doS_new]
    show (if newsV s a.toNat sd num p.toNat q.toNat = 0 then _ else _) = _
    by_cases h : newsV s a.toNat sd num p.toNat q.toNat = 0
    · simp only [if_pos h]; rfl
    · simp only [if_neg h]; rfl
  | cancel a num =>
    rw [doS_cancel, doS_cancel]
    by_cases h : (s.opens a.toNat).any (fun x => x.order == num) = true
    · rw [if_pos h, if_pos (show ((s.step.took i).opens a.toNat).any (fun x => x.order == num) = true from h)]; exact ⟨rfl, rfl⟩
    · rw [if_neg h, if_neg (show ¬ ((s.step.took i).opens a.toNat).any (fun x => x.order == num) = true from h)]; exact ⟨rfl, rfl⟩
  | kill a => exact ⟨rfl, rfl⟩
  | unkill a => exact ⟨rfl, rfl⟩
  | wrong c => exact ⟨rfl, rfl⟩

theorem newsV_ne (s : St) (a : Nat) (sd num : Int) (p q : Nat) : newsV s a sd num p q ≠ 1 := by
  unfold newsV jCode
  split
  · omega
  split
  · omega
  split
  · omega
  split
  · omega
  split
  · omega
  split
  · omega
  split
  · omega
  split
  · omega
  split <;> omega

/-- The frame that the core takes next. -/
theorem GInv.next {x : Gm} (h : GInv x) {N : Nat} (ho : Ok x.s N) (i : Nat) (hi : i < 2) (hn : x.s.hasNext i = true) :
    ∃ g, (x.L i)[x.s.t i]? = some g ∧ PlOk x.s i (x.s.t i) g ∧ g.filled = true ∧ g.taken = false ∧ g.told = false ∧ codeS x.s i = (doS x.s (saidG g)).1 ∧
      (doesS (x.s.step.took i) i (x.s.f i (x.s.t i)).2.2).2 = { x.s.step.took i with book := (doS x.s (saidG g)).2.book, stop := (doS x.s (saidG g)).2.stop } ∧ x.s.whose i = g.client.toNat ∧ x.s.t i < x.s.m i := by
  have hlt : x.s.t i < x.s.m i := by
    by_cases q : x.s.t i < x.s.m i
    · exact q
    · have := ho.free i (x.s.t i) hi (by omega)
      unfold St.hasNext at hn
      rw [this] at hn
      cases hn
  have hl : x.s.t i < (x.L i).length := by rw [h.len i hi]; exact hlt
  have hg := List.getElem?_eq_getElem hl
  generalize (x.L i)[x.s.t i] = g at hg
  have hp := h.pl i _ g hi hg
  have hfil : g.filled = true := by rw [← hp.fil]; exact hn
  have htk : g.taken = false := by rw [hp.taken]; exact decide_eq_false (by omega)
  have htd : g.told = false := by
    by_cases q : g.told = true
    · have := (hp.told q).1; rw [htk] at this; cases this
    · simpa using q
  have hs := hp.says hfil
  obtain ⟨e1, e2⟩ := doS_frame x.s i (saidG g)
  have hd : doesS (x.s.step.took i) i (x.s.f i (x.s.t i)).2.2 = doS (x.s.step.took i) (saidG g) := by
    unfold doesS
    rw [show (x.s.step.took i).na = 2 from h.na, hs]
  refine ⟨g, hg, hp, hfil, htk, htd, ?_, ?_, ?_, hlt⟩
  · unfold codeS; rw [hd, e1]
  · rw [hd, e2]
  · unfold St.whose; rw [hp.who]

theorem code_size {s : St} {i : Nat} {g : Snt} (hn : NumOk i g) (hf : g.filled = true) : (g.kind = 0 ↔ (doS s (saidG g)).1 = 1) ∧ (i = 1 → (doS s (saidG g)).1 = 0) := by
  unfold saidG
  rcases hn.kind with ⟨rfl, e | e | e⟩ | ⟨rfl, e | e | e⟩
  · rw [e]; simp [doS]
  · rw [e]
    rw [if_pos rfl, doS_new]
    have := newsV_ne s g.account.toNat g.side g.number g.price.toNat g.qty.toNat
    exact ⟨⟨fun h => by omega, fun h => absurd h this⟩, fun h => by omega⟩
  · rw [e]
    rw [if_neg (by omega), if_pos rfl, doS_cancel]
    split <;> simp
  · exact absurd e (hn.kind1 rfl hf)
  · rw [e]; simp [doS]
  · rw [e]; simp [doS]

/-- A place is taken: what is known of places stays true. -/
theorem take_pl {x : Gm} (h : GInv x) (i : Nat) (hi : i < 2) (g : Snt) (hg : (x.L i)[x.s.t i]? = some g) (hf : g.filled = true) (htd : g.told = false) (s' : St) (code : Int) (hc : code = (doS x.s (saidG g)).1)
    (h1 : s'.f = x.s.f) (h2 : s'.t = upN x.s.t i (x.s.t i + 1)) (h3 : s'.time = x.s.time) :
    ∀ j k y, j < 2 → (upN x.L i ((x.L i).set (x.s.t i) (tookG g x.s.time code)) j)[k]? = some y → PlOk s' j k y := by
  intro j k y hj hy
  have hlt := (List.getElem?_eq_some_iff.1 hg).1
  have hp := h.pl i _ g hi hg
  by_cases e : j = i
  · subst e
    rw [upN_same] at hy
    by_cases e2 : k = x.s.t j
    · subst e2
      rw [List.getElem?_set_self hlt] at hy
      simp at hy
      subst hy
      obtain ⟨z1, z2⟩ := code_size (s := x.s) hp.nums hf
      exact { lane := hp.lane, cl := hp.cl, who := by rw [h1]; exact hp.who, fil := by rw [h1]; exact hp.fil, says := by rw [h1]; exact hp.says, nums := { hp.nums with }, taken := by rw [h2, upN_same]; symm; exact decide_eq_true (by omega),
              told := fun e => (by rw [show (tookG g x.s.time code).told = g.told from rfl, htd] at e; cases e), code := hp.code, gone := hp.gone, frm := ⟨by simp [tookG], by rw [h3]; exact Int.le_refl _⟩, size := fun _ => by rw [show (tookG g x.s.time code).given = code from rfl, hc]; exact z1, zero := fun _ e => (by rw [show (tookG g x.s.time code).given = code from rfl, hc]; exact z2 e) }
    · rw [List.getElem?_set_ne (fun e3 => e2 e3.symm)] at hy
      refine (h.pl j k y hj hy).congr (by rw [h1]) ?_ (by omega)
      rw [h2, upN_same]
      exact decide_eq_decide.2 (by omega)
  · rw [upN_ne _ _ _ _ e] at hy
    refine (h.pl j k y hj hy).congr (by rw [h1]) ?_ (by omega)
    rw [h2, upN_ne _ _ _ _ e]

theorem take_unt {x : Gm} (h : GInv x) (i : Nat) (hi : i < 2) (g : Snt) (hg : (x.L i)[x.s.t i]? = some g) (htk : g.taken = false) (htd : g.told = false) (time code c : Int) :
    unt c 0 ((x.L i).set (x.s.t i) (tookG g time code)) = unt c 0 (x.L i) ++ (if g.client = c then [((x.s.t i : Int), code)] else []) :=
  unt_take c hg htk rfl htd (fun j y hj hy => by rw [(h.pl i j y hi hy).taken]; exact decide_eq_false (by omega))

theorem takeG_eq {x : Gm} (i : Nat) (g : Snt) (hg : (x.L i)[x.s.t i]? = some g) : takeG x i = upN x.L i ((x.L i).set (x.s.t i) (tookG g x.s.time (codeS x.s i))) := by
  unfold takeG; rw [hg]

/-- What a step of the core does, case by case. -/
inductive CoreCase (x : Gm) : Prop
  | rush (g : Snt) (hn : x.s.hasNext 1 = true) (hg : (x.L 1)[x.s.t 1]? = some g) (hp : PlOk x.s 1 (x.s.t 1) g) (hf : g.filled = true)
      (hr : coreS x.s = (1, { x.s with stepped := true, book := (doS x.s (saidG g)).2.book, stop := (doS x.s (saidG g)).2.stop, t := upN x.s.t 1 (x.s.t 1 + 1), acks := upN x.s.acks g.client.toNat (x.s.acks g.client.toNat ++ [((x.s.t 1 : Int), (doS x.s (saidG g)).1)]) }))
      (hL : (coreG x).L = upN x.L 1 ((x.L 1).set (x.s.t 1) (tookG g x.s.time (doS x.s (saidG g)).1))) : CoreCase x
  | free (c : Nat) (a : Ans) (hn : x.s.hasNext 1 = false) (hh : x.s.held = some (c, a)) (hl : (x.s.ring c).length < x.s.an)
      (hr : coreS x.s = (4, { x.s with stepped := true, ring := upN x.s.ring c (x.s.ring c ++ [a]), held := none })) (hL : (coreG x).L = x.L) : CoreCase x
  | wait (c : Nat) (a : Ans) (hn : x.s.hasNext 1 = false) (hh : x.s.held = some (c, a)) (hl : ¬ (x.s.ring c).length < x.s.an)
      (hr : coreS x.s = (3, { x.s with stepped := true })) (hL : (coreG x).L = x.L) : CoreCase x
  | serve (g : Snt) (hn1 : x.s.hasNext 1 = false) (hh : x.s.held = none) (hn : x.s.hasNext 0 = true) (hg : (x.L 0)[x.s.t 0]? = some g) (hp : PlOk x.s 0 (x.s.t 0) g) (hf : g.filled = true) (hl : (x.s.ring g.client.toNat).length < x.s.an)
      (hr : coreS x.s = (2, { x.s with stepped := true, book := (doS x.s (saidG g)).2.book, stop := (doS x.s (saidG g)).2.stop, t := upN x.s.t 0 (x.s.t 0 + 1), ring := upN x.s.ring g.client.toNat (x.s.ring g.client.toNat ++ [((x.s.t 0 : Int), (doS x.s (saidG g)).1)]) }))
      (hL : (coreG x).L = upN x.L 0 ((x.L 0).set (x.s.t 0) (tookG g x.s.time (doS x.s (saidG g)).1))) : CoreCase x
  | hold (g : Snt) (hn1 : x.s.hasNext 1 = false) (hh : x.s.held = none) (hn : x.s.hasNext 0 = true) (hg : (x.L 0)[x.s.t 0]? = some g) (hp : PlOk x.s 0 (x.s.t 0) g) (hf : g.filled = true) (hl : ¬ (x.s.ring g.client.toNat).length < x.s.an)
      (hr : coreS x.s = (3, { x.s with stepped := true, book := (doS x.s (saidG g)).2.book, stop := (doS x.s (saidG g)).2.stop, t := upN x.s.t 0 (x.s.t 0 + 1), held := some (g.client.toNat, ((x.s.t 0 : Int), (doS x.s (saidG g)).1)) }))
      (hL : (coreG x).L = upN x.L 0 ((x.L 0).set (x.s.t 0) (tookG g x.s.time (doS x.s (saidG g)).1))) : CoreCase x
  | idle (hn1 : x.s.hasNext 1 = false) (hh : x.s.held = none) (hn : x.s.hasNext 0 = false) (hr : coreS x.s = (0, { x.s with stepped := true })) (hL : (coreG x).L = x.L) : CoreCase x

theorem core_case {x : Gm} (h : GInv x) {N : Nat} (ho : Ok x.s N) : CoreCase x := by
  by_cases h1 : x.s.hasNext 1 = true
  · obtain ⟨g, hg, hp, hf, htk, htd, e1, e2, e3, _⟩ := h.next ho 1 (by omega) h1
    refine .rush g h1 hg hp hf ?_ ?_
    · unfold coreS coreS'
      rw [if_pos (show x.s.step.hasNext 1 = true from h1)]
      unfold rushS
      show (1, ((doesS (x.s.step.took 1) 1 (x.s.f 1 (x.s.t 1)).2.2).2.ack (x.s.whose 1) (x.s.t 1, codeS x.s 1))) = _
      rw [e2, e3, e1]
      rfl
    · unfold coreG
      simp only [if_pos h1]
      rw [takeG_eq 1 g hg, e1]
  have h1' : x.s.hasNext 1 = false := by simpa using h1
  cases hh : x.s.held with
  | some ca =>
    obtain ⟨c, a⟩ := ca
    have hL : (coreG x).L = x.L := by
      unfold coreG
      simp only [if_neg h1, hh, Option.isSome_some, if_true]
    by_cases hl : (x.s.ring c).length < x.s.an
    · refine .free c a h1' hh hl ?_ hL
      unfold coreS coreS'
      rw [if_neg (show ¬ x.s.step.hasNext 1 = true from h1), show x.s.step.held = some (c, a) from hh]
      show freeS x.s.step c a = _
      unfold freeS
      rw [if_pos (show (x.s.step.ring c).length < x.s.step.an from hl)]
      rfl
    · refine .wait c a h1' hh hl ?_ hL
      unfold coreS coreS'
      rw [if_neg (show ¬ x.s.step.hasNext 1 = true from h1), show x.s.step.held = some (c, a) from hh]
      show freeS x.s.step c a = _
      unfold freeS
      rw [if_neg (show ¬ (x.s.step.ring c).length < x.s.step.an from hl)]
      rfl
  | none =>
    by_cases h0 : x.s.hasNext 0 = true
    · obtain ⟨g, hg, hp, hf, htk, htd, e1, e2, e3, _⟩ := h.next ho 0 (by omega) h0
      have hL : (coreG x).L = upN x.L 0 ((x.L 0).set (x.s.t 0) (tookG g x.s.time (doS x.s (saidG g)).1)) := by
        unfold coreG
        simp only [if_neg h1, hh, Option.isSome_none, Bool.false_eq_true, if_false, if_pos h0]
        rw [takeG_eq 0 g hg, e1]
      have hc : coreS x.s = serveS x.s.step := by
        unfold coreS coreS'
        rw [if_neg (show ¬ x.s.step.hasNext 1 = true from h1), show x.s.step.held = none from hh]
        show (if x.s.step.hasNext 0 = true then _ else _) = _
        rw [if_pos (show x.s.step.hasNext 0 = true from h0)]
      have hs : serveS x.s.step = if ((doesS (x.s.step.took 0) 0 (x.s.f 0 (x.s.t 0)).2.2).2.ring (x.s.whose 0)).length < x.s.an then
          (2, (doesS (x.s.step.took 0) 0 (x.s.f 0 (x.s.t 0)).2.2).2.lay (x.s.whose 0) (x.s.t 0, codeS x.s 0))
        else (3, { (doesS (x.s.step.took 0) 0 (x.s.f 0 (x.s.t 0)).2.2).2 with held := some (x.s.whose 0, (x.s.t 0, codeS x.s 0)) }) := rfl
      rw [e2, e3, e1] at hs
      have hs : serveS x.s.step = if (x.s.ring g.client.toNat).length < x.s.an then _ else _ := hs
      by_cases hl : (x.s.ring g.client.toNat).length < x.s.an
      · refine .serve g h1' hh h0 hg hp hf hl ?_ hL
        rw [hc, hs, if_pos hl]
        rfl
      · refine .hold g h1' hh h0 hg hp hf hl ?_ hL
        rw [hc, hs, if_neg hl]
        rfl
    · have h0' : x.s.hasNext 0 = false := by simpa using h0
      refine .idle h1' hh h0' ?_ ?_
      · unfold coreS coreS'
        rw [if_neg (show ¬ x.s.step.hasNext 1 = true from h1), show x.s.step.held = none from hh]
        show (if x.s.step.hasNext 0 = true then _ else _) = _
        rw [if_neg (show ¬ x.s.step.hasNext 0 = true from h0)]
        rfl
      · unfold coreG
        simp only [if_neg h1, hh, Option.isSome_none, Bool.false_eq_true, if_false, if_neg h0]

end Go.Proofs.Ytjhifhoniimfgaa

/-
  What is known of a game stays true: the core's steps, polls, acks, time: no code.
-/
namespace Go.Proofs.Ytjhifhoniimfgaa
open Go.RowKit

theorem GInv.stepped {x : Gm} (h : GInv x) : GInv ⟨{ x.s with stepped := true }, x.L⟩ :=
  ⟨h.cl, h.na, h.len, fun i k g hi hg => (h.pl i k g hi hg).congr rfl rfl (Nat.le_refl _), h.ring, h.acks, h.bk⟩

theorem coreG_s (x : Gm) : (coreG x).s = (coreS x.s).2 := rfl

theorem set_len (x : Gm) (i j k : Nat) (g : Snt) : (upN x.L i ((x.L i).set k g) j).length = (x.L j).length := by
  by_cases e : j = i
  · subst e; rw [upN_same, List.length_set]
  · rw [upN_ne _ _ _ _ e]

theorem cl_nat {g : Snt} (h : 0 ≤ g.client ∧ g.client < 3) (c : Nat) : (g.client = (c : Int)) ↔ c = g.client.toNat := by omega

theorem doS_book (s : St) (y : Said) (a : Nat) : ((doS s y).2.book a).length ≤ (s.book a).length + 1 := by
  cases y with
  | wrong c => exact Nat.le_succ _
  | kill b => exact Nat.le_succ _
  | unkill b => exact Nat.le_succ _
  | cancel b num =>
    rw [doS_cancel]
    split
    · show (upN s.book b.toNat _ a).length ≤ _
      by_cases e : a = b.toNat
      · subst e; rw [upN_same, goneL_len]; exact Nat.le_succ _
      · rw [upN_ne _ _ _ _ e]; exact Nat.le_succ _
    · exact Nat.le_succ _
  | new b sd num p q l =>
    rw [doS_new]
    show ((ite _ _ _ : St).book a).length ≤ _
    split
    · show (upN s.book b.toNat _ a).length ≤ _
      by_cases e : a = b.toNat
      · subst e; rw [upN_same]; simp
      · rw [upN_ne _ _ _ _ e]; exact Nat.le_succ _
    · exact Nat.le_succ _

theorem bk0 {x : Gm} (h : GInv x) (y : Said) : ∀ a, ((doS x.s y).2.book a).length ≤ upN x.s.t 0 (x.s.t 0 + 1) 0 := fun a => by
  rw [upN_same]
  have := doS_book x.s y a
  have := h.bk a
  omega

theorem bk1 {x : Gm} (h : GInv x) (g : Snt) (hp : PlOk x.s 1 (x.s.t 1) g) : ∀ a, ((doS x.s (saidG g)).2.book a).length ≤ upN x.s.t 1 (x.s.t 1 + 1) 0 := fun a => by
  rw [upN_ne _ _ _ _ (by omega)]
  have hk : g.kind = 0 ∨ g.kind = 3 ∨ g.kind = 4 := by
    rcases hp.nums.kind with ⟨e, _⟩ | ⟨_, e⟩
    · omega
    · exact e
  have hb : (doS x.s (saidG g)).2.book = x.s.book := by
    unfold saidG
    rcases hk with e | e | e <;> rw [e] <;> rfl
  rw [hb]
  exact h.bk a

theorem unt_len (c : Int) : ∀ (l : List Snt) (k : Nat), (unt c k l).length ≤ l.length
  | [], _ => Nat.le_refl _
  | g :: l, k => by
    rw [unt]
    have := unt_len c l (k + 1)
    split <;> simp <;> omega

/-- No more acks than urgent places were taken. -/
theorem GInv.ak {x : Gm} (h : GInv x) (c : Nat) (hc : c < 3) : (x.s.acks c).length ≤ x.s.t 1 := by
  rw [h.acks c hc]
  have e : x.L 1 = (x.L 1).take (x.s.t 1) ++ (x.L 1).drop (x.s.t 1) := (List.take_append_drop _ _).symm
  rw [e, unt_append, unt_not c ((x.L 1).drop (x.s.t 1)) _ (fun y hy => by
    obtain ⟨m, hm⟩ := List.mem_iff_getElem?.1 hy
    rw [List.getElem?_drop] at hm
    rw [(h.pl 1 _ y (by omega) hm).taken]
    exact decide_eq_false (by omega)), List.append_nil]
  have h1 := unt_len c ((x.L 1).take (x.s.t 1)) 0
  rw [List.length_take] at h1
  omega

theorem core_inv {x : Gm} (h : GInv x) {N : Nat} (ho : Ok x.s N) : GInv (coreG x) := by
  have eta : ∀ s' L', (coreG x).s = s' → (coreG x).L = L' → GInv ⟨s', L'⟩ → GInv (coreG x) := fun s' L' e1 e2 hh => by
    have : coreG x = ⟨s', L'⟩ := by rw [← e1, ← e2]
    rw [this]; exact hh
  cases core_case h ho with
  | rush g hn hg hp hf hr hL =>
    have htk : g.taken = false := by rw [hp.taken]; exact decide_eq_false (by omega)
    have htd : g.told = false := by
      by_cases q : g.told = true
      · have := (hp.told q).1; rw [htk] at this; cases this
      · simpa using q
    refine eta _ _ (congrArg Prod.snd hr) hL ⟨h.cl, h.na, fun j hj => (set_len x 1 j (x.s.t 1) _).trans (h.len j hj), take_pl h 1 (by omega) g hg hf htd _ _ rfl rfl rfl rfl, fun c hc => ?_, fun c hc => ?_, bk1 h g hp⟩
    · show x.s.ring c ++ heldOf x.s c = unt c 0 (upN x.L 1 ((x.L 1).set (x.s.t 1) (tookG g x.s.time (doS x.s (saidG g)).1)) 0)
      rw [upN_ne _ _ _ _ (by omega)]; exact h.ring c hc
    · show upN x.s.acks g.client.toNat _ c = unt c 0 (upN x.L 1 ((x.L 1).set (x.s.t 1) (tookG g x.s.time (doS x.s (saidG g)).1)) 1)
      rw [upN_same, take_unt h 1 (by omega) g hg htk htd, ← h.acks c hc]
      by_cases e : c = g.client.toNat
      · rw [if_pos ((cl_nat hp.cl c).2 e), e, upN_same]
      · rw [if_neg (fun e2 => e ((cl_nat hp.cl c).1 e2)), upN_ne _ _ _ _ e, List.append_nil]
  | free c a hn hh hl hr hL =>
    refine eta _ _ (congrArg Prod.snd hr) hL ⟨h.cl, h.na, h.len, fun i k g hi hg => (h.pl i k g hi hg).congr rfl rfl (Nat.le_refl _), fun d hd => ?_, h.acks, h.bk⟩
    show upN x.s.ring c (x.s.ring c ++ [a]) d ++ [] = unt d 0 (x.L 0)
    rw [← h.ring d hd]
    unfold heldOf
    rw [hh]
    by_cases e : d = c
    · subst e; rw [upN_same]; simp
    · rw [upN_ne _ _ _ _ e]
      simp only
      rw [if_neg (fun e2 => e e2.symm)]
  | wait c a hn hh hl hr hL => exact eta _ _ (congrArg Prod.snd hr) hL h.stepped
  | serve g hn1 hh hn hg hp hf hl hr hL =>
    have htk : g.taken = false := by rw [hp.taken]; exact decide_eq_false (by omega)
    have htd : g.told = false := by
      by_cases q : g.told = true
      · have := (hp.told q).1; rw [htk] at this; cases this
      · simpa using q
    refine eta _ _ (congrArg Prod.snd hr) hL ⟨h.cl, h.na, fun j hj => (set_len x 0 j (x.s.t 0) _).trans (h.len j hj), take_pl h 0 (by omega) g hg hf htd _ _ rfl rfl rfl rfl, fun c hc => ?_, fun c hc => ?_, bk0 h _⟩
    · show upN x.s.ring g.client.toNat _ c ++ heldOf x.s c = unt c 0 (upN x.L 0 ((x.L 0).set (x.s.t 0) (tookG g x.s.time (doS x.s (saidG g)).1)) 0)
      rw [upN_same, take_unt h 0 (by omega) g hg htk htd, ← h.ring c hc]
      have hz : heldOf x.s c = [] := by unfold heldOf; rw [hh]
      rw [hz]
      by_cases e : c = g.client.toNat
      · rw [if_pos ((cl_nat hp.cl c).2 e), e, upN_same]; simp
      · rw [if_neg (fun e2 => e ((cl_nat hp.cl c).1 e2)), upN_ne _ _ _ _ e, List.append_nil, List.append_nil]
    · show x.s.acks c = unt c 0 (upN x.L 0 ((x.L 0).set (x.s.t 0) (tookG g x.s.time (doS x.s (saidG g)).1)) 1)
      rw [upN_ne _ _ _ _ (by omega)]; exact h.acks c hc
  | hold g hn1 hh hn hg hp hf hl hr hL =>
    have htk : g.taken = false := by rw [hp.taken]; exact decide_eq_false (by omega)
    have htd : g.told = false := by
      by_cases q : g.told = true
      · have := (hp.told q).1; rw [htk] at this; cases this
      · simpa using q
    refine eta _ _ (congrArg Prod.snd hr) hL ⟨h.cl, h.na, fun j hj => (set_len x 0 j (x.s.t 0) _).trans (h.len j hj), take_pl h 0 (by omega) g hg hf htd _ _ rfl rfl rfl rfl, fun c hc => ?_, fun c hc => ?_, bk0 h _⟩
    · show x.s.ring c ++ (if g.client.toNat = c then [((x.s.t 0 : Int), (doS x.s (saidG g)).1)] else []) = unt c 0 (upN x.L 0 ((x.L 0).set (x.s.t 0) (tookG g x.s.time (doS x.s (saidG g)).1)) 0)
      rw [upN_same, take_unt h 0 (by omega) g hg htk htd, ← h.ring c hc]
      have hz : heldOf x.s c = [] := by unfold heldOf; rw [hh]
      rw [hz, List.append_nil]
      by_cases e : c = g.client.toNat
      · rw [if_pos ((cl_nat hp.cl c).2 e), if_pos e.symm]
      · rw [if_neg (fun e2 => e ((cl_nat hp.cl c).1 e2)), if_neg (fun e2 => e e2.symm)]
    · show x.s.acks c = unt c 0 (upN x.L 0 ((x.L 0).set (x.s.t 0) (tookG g x.s.time (doS x.s (saidG g)).1)) 1)
      rw [upN_ne _ _ _ _ (by omega)]; exact h.acks c hc
  | idle hn1 hh hn hr hL => exact eta _ _ (congrArg Prod.snd hr) hL h.stepped

/-- A client's first is told: what is known of places stays true. -/
theorem told_pl {x : Gm} (h : GInv x) (i : Nat) (c : Int) (hi : i < 2) (s' : St) (h1 : s'.f = x.s.f) (h2 : s'.t = x.s.t) (h3 : s'.time = x.s.time) :
    ∀ j k y, j < 2 → (upN x.L i (told1 c (x.L i)) j)[k]? = some y → PlOk s' j k y := by
  intro j k y hj hy
  have cg : ∀ j k g, PlOk x.s j k g → PlOk s' j k g := fun j k g hp => hp.congr (by rw [h1]) (by rw [h2]) (by omega)
  by_cases e : j = i
  · subst e
    rw [upN_same] at hy
    obtain ⟨g0, h0, e | ⟨q1, q2, q3, rfl⟩⟩ := told1_get c _ k y hy
    · subst e; exact cg _ _ _ (h.pl j k _ hj h0)
    · exact cg _ _ _ ((h.pl j k g0 hj h0).tell q1)
  · rw [upN_ne _ _ _ _ e] at hy
    exact cg _ _ _ (h.pl j k y hj hy)

theorem told_len (x : Gm) (i j : Nat) (c : Int) : (upN x.L i (told1 c (x.L i)) j).length = (x.L j).length := by
  by_cases e : j = i
  · subst e; rw [upN_same, told1_len]
  · rw [upN_ne _ _ _ _ e]

theorem poll_inv {x : Gm} (h : GInv x) (c : Nat) (hc : c < 3) : GInv (pollG x c) := by
  unfold pollG
  cases hr : x.s.ring c with
  | nil => exact h
  | cons a r =>
    refine ⟨h.cl, h.na, fun j hj => (told_len x 0 j c).trans (h.len j hj), told_pl h 0 c (by omega) _ rfl rfl rfl, fun d hd => ?_, fun d hd => ?_, h.bk⟩
    · show upN x.s.ring c r d ++ heldOf x.s d = unt d 0 (upN x.L 0 (told1 c (x.L 0)) 0)
      rw [upN_same, told1_unt, ← h.ring d hd]
      by_cases e : d = c
      · subst e; rw [upN_same, hr, if_pos rfl]; rfl
      · rw [upN_ne _ _ _ _ e, if_neg (by omega)]
    · show x.s.acks d = unt d 0 (upN x.L 0 (told1 c (x.L 0)) 1)
      rw [upN_ne _ _ _ _ (by omega)]; exact h.acks d hd

theorem toldN_len (c : Int) : ∀ (j : Nat) (l : List Snt), (toldN c j l).length = l.length
  | 0, _ => rfl
  | j + 1, l => by rw [toldN, toldN_len c j, told1_len]

theorem toldN_unt (c d : Int) : ∀ (j : Nat) (l : List Snt), unt d 0 (toldN c j l) = if d = c then (unt d 0 l).drop j else unt d 0 l
  | 0, l => by simp [toldN]
  | j + 1, l => by
    rw [toldN, toldN_unt c d j, told1_unt]
    by_cases e : d = c
    · simp only [if_pos e]; rw [← List.drop_one, List.drop_drop, Nat.add_comm]
    · simp only [if_neg e]

theorem toldN_get (c : Int) : ∀ (j : Nat) (l : List Snt) (k : Nat) (g : Snt), (toldN c j l)[k]? = some g → ∃ g0, l[k]? = some g0 ∧ (g = g0 ∨ (g0.taken = true ∧ g0.told = false ∧ g0.client = c ∧ g = { g0 with told := true, code := g0.given }))
  | 0, l, k, g, h => ⟨g, h, .inl rfl⟩
  | j + 1, l, k, g, h => by
    obtain ⟨g1, h1, h2⟩ := toldN_get c j _ k g h
    obtain ⟨g0, h3, h4⟩ := told1_get c l k g1 h1
    refine ⟨g0, h3, ?_⟩
    rcases h4 with rfl | ⟨q1, q2, q3, rfl⟩
    · exact h2
    · rcases h2 with rfl | ⟨p1, p2, p3, rfl⟩
      · exact .inr ⟨q1, q2, q3, rfl⟩
      · cases p2

theorem acks_inv {x : Gm} (h : GInv x) (c : Nat) (hc : c < 3) : GInv (acksG x c) := by
  unfold acksG
  refine ⟨h.cl, h.na, fun j hj => ?_, fun j k y hj hy => ?_, fun d hd => ?_, fun d hd => ?_, h.bk⟩
  · show (upN x.L 1 (toldN c (x.s.acks c).length (x.L 1)) j).length = _
    by_cases e : j = 1
    · subst e; rw [upN_same, toldN_len]; exact h.len 1 (by omega)
    · rw [upN_ne _ _ _ _ e]; exact h.len j hj
  · have hy : (upN x.L 1 (toldN c (x.s.acks c).length (x.L 1)) j)[k]? = some y := hy
    have cg : ∀ j k g, PlOk x.s j k g → PlOk { x.s with acks := upN x.s.acks c [] } j k g := fun j k g hp => hp.congr rfl rfl (Nat.le_refl _)
    by_cases e : j = 1
    · subst e
      rw [upN_same] at hy
      obtain ⟨g0, h0, e | ⟨q1, q2, q3, rfl⟩⟩ := toldN_get c _ _ k y hy
      · subst e; exact cg _ _ _ (h.pl 1 k _ hj h0)
      · exact cg _ _ _ ((h.pl 1 k g0 hj h0).tell q1)
    · rw [upN_ne _ _ _ _ e] at hy
      exact cg _ _ _ (h.pl j k y hj hy)
  · show x.s.ring d ++ heldOf x.s d = unt d 0 (upN x.L 1 (toldN c (x.s.acks c).length (x.L 1)) 0)
    rw [upN_ne _ _ _ _ (by omega)]; exact h.ring d hd
  · show upN x.s.acks c [] d = unt d 0 (upN x.L 1 (toldN c (x.s.acks c).length (x.L 1)) 1)
    rw [upN_same, toldN_unt, ← h.acks d hd]
    by_cases e : d = c
    · subst e; rw [upN_same, if_pos rfl, List.drop_length]
    · rw [upN_ne _ _ _ _ e, if_neg (by omega)]

theorem tick_inv {x : Gm} (h : GInv x) : GInv (tickG x) :=
  ⟨h.cl, h.na, h.len, fun i k g hi hg => (h.pl i k g hi hg).congr rfl rfl (Nat.le_succ _), h.ring, h.acks, h.bk⟩

theorem watch_frame (s : St) : ∃ a b c d, (watchS s).2 = { s with ticked := a, stepped := b, misses := c, shut := d } := by
  unfold watchS
  split
  · exact ⟨s.ticked, s.stepped, s.misses, s.shut, rfl⟩
  · exact ⟨_, _, _, _, rfl⟩

theorem watch_inv {x : Gm} (h : GInv x) : GInv (watchG x) := by
  obtain ⟨a, b, c, d, e⟩ := watch_frame x.s
  unfold watchG
  rw [e]
  exact ⟨h.cl, h.na, h.len, fun i k g hi hg => (h.pl i k g hi hg).congr rfl rfl (Nat.le_refl _), h.ring, h.acks, h.bk⟩

end Go.Proofs.Ytjhifhoniimfgaa

