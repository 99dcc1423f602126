import Derived.Test.YtjhifhoniimfgaaG43
import Derived.Test.YtjhifhoniimfgaaG40
/-
  What the gate let through, place by place: no code.
-/
namespace Go.Proofs.Ytjhifhoniimfgaa
open Go.RowKit

/-- The order of a place. -/
def entOf (g : Snt) : Ent := ⟨g.number, g.side, g.price, g.qty, g.frm, g.frm + g.life, false⟩

/-- What a place does to the book of an account. -/
def stepB (a : Int) (b : List Ent) (g : Snt) : List Ent :=
  if g.taken = true ∧ g.account = a then (if g.kind = 1 ∧ g.given = 0 then b ++ [entOf g] else if g.kind = 2 ∧ g.given = 0 then goneL g.frm g.number b else b) else b

def bookF (a : Int) (l : List Snt) : List Ent := l.foldl (stepB a) []

/-- Two places that are alike, as far as the gate's book goes. -/
structure Like (g h : Snt) : Prop where
  taken : h.taken = g.taken
  rest : g.taken = true → h.account = g.account ∧ h.kind = g.kind ∧ h.given = g.given ∧ h.number = g.number ∧ h.side = g.side ∧ h.price = g.price ∧ h.qty = g.qty ∧ h.life = g.life ∧ h.frm = g.frm

theorem Like.refl (g : Snt) : Like g g := ⟨rfl, fun _ => ⟨rfl, rfl, rfl, rfl, rfl, rfl, rfl, rfl, rfl⟩⟩

theorem Like.step {g h : Snt} (k : Like g h) (a : Int) (b : List Ent) : stepB a b h = stepB a b g := by
  unfold stepB
  cases ht : g.taken with
  | false => rw [if_neg (by rw [k.taken, ht]; simp), if_neg (by simp)]
  | true =>
    obtain ⟨e1, e2, e3, e4, e5, e6, e7, e8, e9⟩ := k.rest ht
    have e0 := k.taken
    unfold entOf
    rw [e0, e1, e2, e3, e4, e5, e6, e7, e8, e9, ht]

/-- Lists of places that are alike. -/
def LikeL (l m : List Snt) : Prop := l.length = m.length ∧ ∀ (k : Nat) (g h : Snt), l[k]? = some g → m[k]? = some h → Like g h

theorem likeL_book (a : Int) : ∀ (l m : List Snt) (b : List Ent), LikeL l m → m.foldl (stepB a) b = l.foldl (stepB a) b
  | [], [], b, _ => rfl
  | [], _ :: _, b, h => by have := h.1; simp at this
  | _ :: _, [], b, h => by have := h.1; simp at this
  | g :: l, y :: m, b, h => by
    rw [List.foldl_cons, List.foldl_cons, (h.2 0 g y rfl rfl).step]
    exact likeL_book a l m _ ⟨by have := h.1; simpa using this, fun k g' h' e1 e2 => h.2 (k + 1) g' h' (by simpa using e1) (by simpa using e2)⟩

theorem LikeL.take {l m : List Snt} (h : LikeL l m) (n : Nat) : LikeL (l.take n) (m.take n) := by
  refine ⟨by rw [List.length_take, List.length_take, h.1], fun k g y e1 e2 => ?_⟩
  by_cases hk : k < n
  · rw [List.getElem?_take_of_lt hk] at e1 e2
    exact h.2 k g y e1 e2
  · rw [List.getElem?_take_eq_none (by omega)] at e1
    cases e1

theorem LikeL.refl (l : List Snt) : LikeL l l := ⟨rfl, fun k g h e1 e2 => by rw [e1] at e2; simp only [Option.some.injEq] at e2; subst e2; exact Like.refl g⟩

theorem likeL_set {l : List Snt} {k : Nat} {g g' : Snt} (hg : l[k]? = some g) (h : Like g g') : LikeL l (l.set k g') := by
  refine ⟨by rw [List.length_set], fun j y z e1 e2 => ?_⟩
  rcases set_get hg e2 with ⟨rfl, rfl⟩ | ⟨_, e2⟩
  · rw [hg] at e1; simp only [Option.some.injEq] at e1; subst e1; exact h
  · rw [e1] at e2; simp only [Option.some.injEq] at e2; subst e2; exact Like.refl y

theorem book_untaken (a : Int) : ∀ (l : List Snt) (b : List Ent), (∀ g, g ∈ l → g.taken = false) → l.foldl (stepB a) b = b
  | [], _, _ => rfl
  | g :: l, b, h => by
    rw [List.foldl_cons, show stepB a b g = b from if_neg (by rw [h g (.head _)]; simp)]
    exact book_untaken a l b (fun y hy => h y (.tail _ hy))

/-- What is known of a place that was taken, by the places ahead of it. -/
structure Hs (lim : Nat → Nat → Int) (l : List Snt) (g : Snt) : Prop where
  new : g.kind = 1 → g.given = 0 → jCode (lim g.account.toNat) false (((bookF g.account l).filter (isOpen g.frm)).any (fun x => x.order == g.number)) g.side g.price.toNat g.qty.toNat (wSum ((bookF g.account l).filter (isOpen g.frm))) (qSum g.side ((bookF g.account l).filter (isOpen g.frm))) (cntGt (g.frm - lim g.account.toNat 5) (bookF g.account l)) = 0
  cancel : g.kind = 2 → (g.given = 0 ∧ ((bookF g.account l).filter (isOpen g.frm)).any (fun x => x.order == g.number) = true) ∨ (g.given = 18 ∧ ((bookF g.account l).filter (isOpen g.frm)).any (fun x => x.order == g.number) = false)
  nodup : (((bookF g.account l).filter (isOpen g.frm)).map (·.order)).Nodup

structure Wi (lim : Nat → Nat → Int) (x : Gm) : Prop where
  limE : x.s.lim = lim
  book : ∀ a : Nat, a < 2 → x.s.book a = bookF a (x.L 0)
  hist : ∀ (k : Nat) (g : Snt), (x.L 0)[k]? = some g → g.taken = true → Hs lim ((x.L 0).take k) g
  mono : ∀ (i k : Nat) (g h : Snt), i ≤ k → (x.L 0)[i]? = some g → (x.L 0)[k]? = some h → h.taken = true → g.frm ≤ h.frm

/-- Places that turn, but are alike: all stays true. -/
theorem Wi.like {lim : Nat → Nat → Int} {x x' : Gm} (h : Wi lim x) (hl : LikeL (x.L 0) (x'.L 0)) (h1 : x'.s.lim = x.s.lim) (h2 : x'.s.book = x.s.book) (hg : ∀ (k : Nat) (g g' : Snt), (x.L 0)[k]? = some g → (x'.L 0)[k]? = some g' → g'.frm = g.frm) : Wi lim x' := by
  have back : ∀ (k : Nat) (g' : Snt), (x'.L 0)[k]? = some g' → ∃ g, (x.L 0)[k]? = some g := fun k g' e => by
    have hk : k < (x.L 0).length := by rw [hl.1]; exact (List.getElem?_eq_some_iff.1 e).1
    exact ⟨_, List.getElem?_eq_getElem hk⟩
  refine ⟨by rw [h1]; exact h.limE, fun a ha => ?_, fun k g' e ht => ?_, fun i k g' h' hik e1 e2 ht => ?_⟩
  · rw [h2, h.book a ha]
    exact (likeL_book a _ _ _ hl).symm
  · obtain ⟨g, eg⟩ := back k g' e
    have lk := hl.2 k g g' eg e
    have htg : g.taken = true := by rw [← lk.taken]; exact ht
    have hh := h.hist k g eg htg
    obtain ⟨e1, e2, e3, e4, e5, e6, e7, e8, e9⟩ := lk.rest htg
    have hb : ∀ a, bookF a ((x'.L 0).take k) = bookF a ((x.L 0).take k) := fun a => likeL_book a _ _ _ (hl.take k)
    refine ⟨?_, ?_, ?_⟩
    · rw [e2, e3, e1, e4, e5, e6, e7, e9, hb]; exact hh.new
    · rw [e2, e3, e1, e4, e9, hb]; exact hh.cancel
    · rw [e1, e9, hb]; exact hh.nodup
  · obtain ⟨g, eg⟩ := back i g' e1
    obtain ⟨y, ey⟩ := back k h' e2
    have lk := hl.2 k y h' ey e2
    rw [hg i g g' eg e1, hg k y h' ey e2]
    exact h.mono i k g y hik eg ey (by rw [← lk.taken]; exact ht)

theorem like_tell (g : Snt) : Like g { g with told := true, code := g.given } := ⟨rfl, fun _ => ⟨rfl, rfl, rfl, rfl, rfl, rfl, rfl, rfl, rfl⟩⟩

theorem wi_poll {lim : Nat → Nat → Int} {x : Gm} (h : Wi lim x) (c : Nat) : Wi lim (pollG x c) := by
  obtain ⟨_, _, _, _, q5, _⟩ := poll_fields x c
  have hlim : (pollG x c).s.lim = x.s.lim := by unfold pollG; cases x.s.ring c <;> rfl
  have hlen : (x.L 0).length = ((pollG x c).L 0).length := by
    unfold pollG
    cases x.s.ring c with
    | nil => rfl
    | cons a r =>
      show _ = (upN x.L 0 (told1 c (x.L 0)) 0).length
      rw [upN_same, told1_len]
  refine h.like ⟨hlen, fun k g g' e1 e2 => ?_⟩ hlim q5 (fun k g g' e1 e2 => ?_)
  · obtain ⟨g0, e0, rfl | rfl⟩ := poll_L0 x c k g' e2
    · rw [e1] at e0; simp only [Option.some.injEq] at e0; subst e0; exact Like.refl _
    · rw [e1] at e0; simp only [Option.some.injEq] at e0; subst e0; exact like_tell _
  · obtain ⟨g0, e0, rfl | rfl⟩ := poll_L0 x c k g' e2
    · rw [e1] at e0; simp only [Option.some.injEq] at e0; rw [e0]
    · rw [e1] at e0; simp only [Option.some.injEq] at e0; rw [e0]

theorem wi_acks {lim : Nat → Nat → Int} {x : Gm} (h : Wi lim x) (c : Nat) : Wi lim (acksG x c) := by
  have e : (acksG x c).L 0 = x.L 0 := upN_ne x.L 1 (toldN c (x.s.acks c).length (x.L 1)) 0 (by omega)
  exact ⟨h.limE, fun a ha => by rw [e]; exact h.book a ha, by rw [e]; exact h.hist, by rw [e]; exact h.mono⟩

theorem wi_fill {lim : Nat → Nat → Int} {x : Gm} (h : Wi lim x) (hi : GInv x) (i k n : Nat) (g : Snt) (h2 : i < 2) (hg : (x.L i)[k]? = some g) (ht : x.s.t i ≤ k) : Wi lim (fillG x i k n g) := by
  by_cases e : i = 0
  · subst e
    have hp := hi.pl 0 k g h2 hg
    have fl := saidK_flags g n
    have htk : g.taken = false := by rw [hp.taken]; exact decide_eq_false (by omega)
    have hL : (fillG x 0 k n g).L 0 = (x.L 0).set k (saidK g n).1 := upN_same x.L 0 ((x.L 0).set k (saidK g n).1)
    refine h.like (by rw [hL]; exact likeL_set hg ⟨fl.2.2.2.1, fun q => by rw [htk] at q; cases q⟩) rfl rfl (fun j y z e1 e2 => ?_)
    rw [hL] at e2
    rcases set_get hg e2 with ⟨rfl, rfl⟩ | ⟨_, e2⟩
    · rw [hg] at e1; simp only [Option.some.injEq] at e1; rw [fl.2.2.2.2.2.2.2.2, e1]
    · rw [e1] at e2; simp only [Option.some.injEq] at e2; rw [e2]
  · have eL : (fillG x i k n g).L 0 = x.L 0 := upN_ne x.L i ((x.L i).set k (saidK g n).1) 0 (fun q => e q.symm)
    exact ⟨h.limE, fun a ha => by rw [eL]; exact h.book a ha, by rw [eL]; exact h.hist, by rw [eL]; exact h.mono⟩

theorem wi_claim {lim : Nat → Nat → Int} {x : Gm} (h : Wi lim x) (c i : Nat) : Wi lim (claimG x c i) := by
  by_cases e : i = 0
  · subst e
    have hL : (claimG x c 0).L 0 = x.L 0 ++ [Snt.new c (0 : Nat)] := upN_same x.L 0 (x.L 0 ++ [Snt.new c (0 : Nat)])
    have old : ∀ (k : Nat) (g : Snt), ((claimG x c 0).L 0)[k]? = some g → g.taken = true → (x.L 0)[k]? = some g := fun k g hg ht => by
      rcases claim_L0 k g hg with hg | ⟨_, _, rfl⟩
      · exact hg
      · cases ht
    refine ⟨h.limE, fun a ha => ?_, fun k g hg ht => ?_, fun j k g y hjk e1 e2 ht => ?_⟩
    · rw [hL]
      show x.s.book a = (x.L 0 ++ [Snt.new c (0 : Nat)]).foldl (stepB a) []
      rw [List.foldl_append, book_untaken _ [_] _ (fun g hg => by simp at hg; subst hg; rfl)]
      exact h.book a ha
    · have hg0 := old k g hg ht
      have hk := (List.getElem?_eq_some_iff.1 hg0).1
      rw [hL, List.take_append_of_le_length (by omega)]
      exact h.hist k g hg0 ht
    · have e2' := old k y e2 ht
      have hk := (List.getElem?_eq_some_iff.1 e2').1
      rw [hL, List.getElem?_append_left (by omega)] at e1
      exact h.mono j k g y hjk e1 e2' ht
  · have eL : (claimG x c i).L 0 = x.L 0 := upN_ne x.L i (x.L i ++ [Snt.new c i]) 0 (fun q => e q.symm)
    exact ⟨h.limE, fun a ha => by rw [eL]; exact h.book a ha, by rw [eL]; exact h.hist, by rw [eL]; exact h.mono⟩

end Go.Proofs.Ytjhifhoniimfgaa

/-
  What the gate let through stays known, whatever is done: no code.
-/
namespace Go.Proofs.Ytjhifhoniimfgaa
open Go.RowKit

/-- What a frame of the common lane does to the book. -/
theorem do_book {s : St} {g : Snt} (hn : NumOk 0 g) (a : Nat) (time : Int) (ht : time = s.time) : (doS s (saidG g)).2.book a = stepB a (s.book a) (tookG g time (doS s (saidG g)).1) := by
  have hac := hn.acct
  have eqa : (g.account = (a : Int)) ↔ a = g.account.toNat := by omega
  unfold stepB
  show _ = if true = true ∧ g.account = (a : Int) then (if g.kind = 1 ∧ (doS s (saidG g)).1 = 0 then s.book a ++ [⟨g.number, g.side, g.price, g.qty, time, time + g.life, false⟩] else if g.kind = 2 ∧ (doS s (saidG g)).1 = 0 then goneL time g.number (s.book a) else s.book a) else s.book a
  subst ht
  unfold saidG
  rcases hn.kind with ⟨_, e | e | e⟩ | ⟨q, _⟩
  · rw [e]
    simp [doS]
  · rw [e, if_pos rfl, doS_new]
    by_cases hz : newsV s g.account.toNat g.side g.number g.price.toNat g.qty.toNat = 0
    · rw [if_pos hz]
      show upN s.book g.account.toNat _ a = _
      by_cases ha : a = g.account.toNat
      · rw [if_pos ⟨rfl, eqa.2 ha⟩, if_pos ⟨rfl, hz⟩, ha, upN_same]
      · rw [if_neg (fun h => ha (eqa.1 h.2)), upN_ne _ _ _ _ ha]
    · rw [if_neg hz]
      show s.book a = _
      split
      · rw [if_neg (fun h => hz h.2), if_neg (by omega)]
      · rfl
  · rw [e, if_neg (by omega), if_pos rfl, doS_cancel]
    by_cases hz : (s.opens g.account.toNat).any (fun x => x.order == g.number) = true
    · rw [if_pos hz]
      show upN s.book g.account.toNat _ a = _
      by_cases ha : a = g.account.toNat
      · rw [if_pos ⟨rfl, eqa.2 ha⟩, if_neg (by omega), if_pos ⟨rfl, rfl⟩, ha, upN_same]
      · rw [if_neg (fun h => ha (eqa.1 h.2)), upN_ne _ _ _ _ ha]
    · rw [if_neg hz]
      show s.book a = _
      split
      · rw [if_neg (by omega), if_neg (by simp)]
      · rfl
  · omega

theorem do_book1 {s : St} {g : Snt} (hn : NumOk 1 g) (hf : g.filled = true) : (doS s (saidG g)).2.book = s.book := by
  unfold saidG
  rcases hn.kind with ⟨q, _⟩ | ⟨_, e | e | e⟩
  · omega
  · exact absurd e (hn.kind1 rfl hf)
  · rw [e]; rfl
  · rw [e]; rfl

/-- The place that is taken: what is known of it. -/
theorem hs_take {lim : Nat → Nat → Int} {x : Gm} {N : Nat} (h : Wi lim x) (hi : GInv x) (ho : Ok x.s N) (g : Snt) (hp : PlOk x.s 0 (x.s.t 0) g) :
    Hs lim ((x.L 0).take (x.s.t 0)) (tookG g x.s.time (doS x.s (saidG g)).1) ∧ ∀ a : Nat, a < 2 → x.s.book a = bookF a ((x.L 0).take (x.s.t 0)) := by
  have hb : ∀ a : Nat, a < 2 → x.s.book a = bookF a ((x.L 0).take (x.s.t 0)) := fun a ha => by
    rw [h.book a ha]
    unfold bookF
    conv => lhs; rw [← List.take_append_drop (x.s.t 0) (x.L 0)]
    rw [List.foldl_append]
    refine book_untaken _ _ _ (fun y hy => ?_)
    obtain ⟨m, hm⟩ := List.mem_iff_getElem?.1 hy
    rw [List.getElem?_drop] at hm
    rw [(hi.pl 0 _ y (by omega) hm).taken]
    exact decide_eq_false (by omega)
  refine ⟨?_, hb⟩
  have hac := hp.nums.acct
  obtain ⟨a, ha⟩ : ∃ a : Nat, g.account = (a : Int) := Int.eq_ofNat_of_zero_le hac.1
  have ha2 : a < 2 := by omega
  have hto : g.account.toNat = a := by rw [ha]; exact Int.toNat_natCast a
  have hbk : bookF g.account ((x.L 0).take (x.s.t 0)) = x.s.book a := by rw [ha, hb a ha2]
  have hop : (x.s.book a).filter (isOpen (x.s.time : Int)) = x.s.opens a := rfl
  refine ⟨fun hk hz => ?_, fun hk => ?_, ?_⟩
  · have hk : g.kind = 1 := hk
    have hz : (doS x.s (saidG g)).1 = 0 := hz
    show jCode (lim g.account.toNat) false (((bookF g.account ((x.L 0).take (x.s.t 0))).filter (isOpen (x.s.time : Int))).any (fun y => y.order == g.number)) g.side g.price.toNat g.qty.toNat (wSum ((bookF g.account ((x.L 0).take (x.s.t 0))).filter (isOpen (x.s.time : Int)))) (qSum g.side ((bookF g.account ((x.L 0).take (x.s.t 0))).filter (isOpen (x.s.time : Int)))) (cntGt ((x.s.time : Int) - lim g.account.toNat 5) (bookF g.account ((x.L 0).take (x.s.t 0)))) = 0
    rw [hto, hbk, hop]
    unfold saidG at hz
    rw [if_pos hk, doS_new] at hz
    have hz : newsV x.s g.account.toNat g.side g.number g.price.toNat g.qty.toNat = 0 := hz
    have hj := (newsV_zero hz).2
    rw [hto, h.limE] at hj
    have hst : x.s.stop a = false := by
      cases e : x.s.stop a with
      | false => rfl
      | true => rw [e] at hj; unfold jCode at hj; simp at hj
    rw [hst] at hj
    exact hj
  · have hk : g.kind = 2 := hk
    show ((doS x.s (saidG g)).1 = 0 ∧ ((bookF g.account ((x.L 0).take (x.s.t 0))).filter (isOpen (x.s.time : Int))).any (fun y => y.order == g.number) = true) ∨ ((doS x.s (saidG g)).1 = 18 ∧ ((bookF g.account ((x.L 0).take (x.s.t 0))).filter (isOpen (x.s.time : Int))).any (fun y => y.order == g.number) = false)
    rw [hbk, hop]
    unfold saidG
    rw [if_neg (by omega), if_pos hk, doS_cancel, hto]
    cases e : (x.s.opens a).any (fun x => x.order == g.number) with
    | true => left; exact ⟨rfl, rfl⟩
    | false => right; exact ⟨rfl, rfl⟩
  · show (((bookF g.account _).filter (isOpen (x.s.time : Int))).map _).Nodup
    rw [hbk, hop]
    exact (ho.opens a).num

theorem wi_take {lim : Nat → Nat → Int} {x x' : Gm} {N : Nat} (h : Wi lim x) (hi : GInv x) (ho : Ok x.s N) (g : Snt) (hg : (x.L 0)[x.s.t 0]? = some g) (hp : PlOk x.s 0 (x.s.t 0) g) (h1 : x'.s.lim = x.s.lim) (h2 : x'.s.book = (doS x.s (saidG g)).2.book)
    (hL : x'.L 0 = (x.L 0).set (x.s.t 0) (tookG g x.s.time (doS x.s (saidG g)).1)) : Wi lim x' := by
  obtain ⟨hs, hb⟩ := hs_take h hi ho g hp
  obtain ⟨e1, e2⟩ := set_split hg (tookG g x.s.time (doS x.s (saidG g)).1)
  have hlt := (List.getElem?_eq_some_iff.1 hg).1
  have after : ∀ y, y ∈ (x.L 0).drop (x.s.t 0 + 1) → y.taken = false := fun y hy => by
    obtain ⟨m, hm⟩ := List.mem_iff_getElem?.1 hy
    rw [List.getElem?_drop] at hm
    rw [(hi.pl 0 _ y (by omega) hm).taken]
    exact decide_eq_false (by omega)
  have tk : ∀ k, k ≤ x.s.t 0 → (x'.L 0).take k = (x.L 0).take k := fun k hk => by
    rw [hL, List.take_set, List.set_eq_of_length_le (by rw [List.length_take]; omega)]
  have cases_ : ∀ (k : Nat) (y : Snt), (x'.L 0)[k]? = some y → y.taken = true → (k = x.s.t 0 ∧ y = tookG g x.s.time (doS x.s (saidG g)).1) ∨ (k < x.s.t 0 ∧ (x.L 0)[k]? = some y) := fun k y hy ht => by
    rw [hL] at hy
    rcases set_get hg hy with q | ⟨e, hy⟩
    · exact .inl q
    · rw [(hi.pl 0 k y (by omega) hy).taken] at ht
      exact .inr ⟨of_decide_eq_true ht, hy⟩
  refine ⟨by rw [h1]; exact h.limE, fun a ha => ?_, fun k y hy ht => ?_, fun i k y z hik ey ez ht => ?_⟩
  · rw [h2, do_book hp.nums a x.s.time rfl, hb a ha, hL, e2]
    unfold bookF
    rw [List.foldl_append, List.foldl_cons, book_untaken _ _ _ after]
  · rcases cases_ k y hy ht with ⟨rfl, rfl⟩ | ⟨hk, hy0⟩
    · rw [tk _ (Nat.le_refl _)]; exact hs
    · rw [tk _ (by omega)]; exact h.hist k y hy0 ht
  · rcases cases_ k z ez ht with ⟨rfl, rfl⟩ | ⟨hk, ez0⟩
    · show y.frm ≤ (x.s.time : Int)
      rw [hL] at ey
      rcases set_get hg ey with ⟨_, rfl⟩ | ⟨_, ey⟩
      · exact Int.le_refl _
      · exact (hi.pl 0 i y (by omega) ey).frm.2
    · rw [hL] at ey
      rcases set_get hg ey with ⟨e, _⟩ | ⟨_, ey⟩
      · omega
      · exact h.mono i k y z hik ey ez0 ht

theorem Wi.same {lim : Nat → Nat → Int} {x x' : Gm} (h : Wi lim x) (h1 : x'.s.lim = x.s.lim) (h2 : x'.s.book = x.s.book) (hL : x'.L 0 = x.L 0) : Wi lim x' :=
  ⟨by rw [h1]; exact h.limE, fun a ha => by rw [h2, hL]; exact h.book a ha, by rw [hL]; exact h.hist, by rw [hL]; exact h.mono⟩

theorem wi_core {lim : Nat → Nat → Int} {x : Gm} {N : Nat} (h : Wi lim x) (hi : GInv x) (ho : Ok x.s N) : Wi lim (coreG x) := by
  have cs : (coreG x).s = (coreS x.s).2 := rfl
  cases core_case hi ho with
  | rush g hn hg hp hf hr hL => exact h.same (by rw [cs, hr]) (by rw [cs, hr]; exact do_book1 hp.nums hf) (by rw [hL]; exact upN_ne _ _ _ _ (by omega))
  | free c a hn hh hl hr hL => exact h.same (by rw [cs, hr]) (by rw [cs, hr]) (by rw [hL])
  | wait c a hn hh hl hr hL => exact h.same (by rw [cs, hr]) (by rw [cs, hr]) (by rw [hL])
  | serve g hn1 hh hn hg hp hf hl hr hL => exact wi_take h hi ho g hg hp (by rw [cs, hr]) (by rw [cs, hr]) (by rw [hL, upN_same])
  | hold g hn1 hh hn hg hp hf hl hr hL => exact wi_take h hi ho g hg hp (by rw [cs, hr]) (by rw [cs, hr]) (by rw [hL, upN_same])
  | idle hn1 hh hn hr hL => exact h.same (by rw [cs, hr]) (by rw [cs, hr]) (by rw [hL])

theorem wi_keeps (lim : Nat → Nat → Int) : KeepsAll (Wi lim) (fun _ => True) where
  fill := fun x i k n g hi h h2 hg hf ht => wi_fill h hi i k n g h2 hg ht
  core := fun x N hi ho h => wi_core h hi ho
  poll := fun x c hc hi h => wi_poll h c
  acks := fun x c hc hi h => wi_acks h c
  claim := fun x N c i hi ho hc h2 _ hm h => wi_claim h c i
  tick := fun x hi h => h.same rfl rfl rfl
  watch := fun x hi h => by
    obtain ⟨a, b, c, d, e⟩ := watch_frame x.s
    exact h.same (by show (watchS x.s).2.lim = _; rw [e]) (by show (watchS x.s).2.book = _; rw [e]) rfl

theorem wi_beg (n : Nat) : Wi (kLim n) (begG n) := by
  have h0 : Wi (kLim n) (gm0 n) := ⟨rfl, fun a ha => rfl, fun k g hg => by simp [gm0] at hg, fun i k g y _ hg => by simp [gm0] at hg⟩
  have h1 : Wi (kLim n) (bg1 n) := wi_claim h0 2 0
  have h2 : Wi (kLim n) (bg2 n) := wi_fill h1 (bg1_inv n) 0 0 299015 _ (by omega) rfl (Nat.le_refl _)
  have h3 : Wi (kLim n) (bg3 n) := wi_core h2 (bg2_inv n) (bg2_ok n)
  exact wi_poll h3 2

end Go.Proofs.Ytjhifhoniimfgaa

/-
  Cancels are told off, place by place: no code.
-/
namespace Go.Proofs.Ytjhifhoniimfgaa
open Go.RowKit

/-- Is the place an order of the account that was let through, and open at a time? -/
def openG (g : Snt) (a t : Int) : Bool := decide (g.kind = 1) && decide (g.account = a) && decide (g.code = 0) && !g.gone && decide (g.frm ≤ t) && decide (t < g.frm + g.life)

def hitG (p q : Snt) : Bool := openG q p.account p.frm && decide (q.number = p.number)

def markG (p q : Snt) : Snt := if hitG p q = true then { q with gone := true } else q

def cancL (l : List Snt) (k : Nat) : List Snt :=
  match l[k]? with
  | some p => if p.kind = 2 ∧ p.code = 0 then (l.take k).map (markG p) ++ l.drop k else l
  | none => l

def rep (l : List Snt) : Nat → List Snt
  | 0 => l
  | k + 1 => cancL (rep l k) k

def entG (g : Snt) : Ent := ⟨g.number, g.side, g.price, g.qty, g.frm, g.frm + g.life, g.gone⟩

def isE (a : Int) (g : Snt) : Bool := decide (g.kind = 1) && decide (g.account = a) && decide (g.code = 0)

def entsG (a : Int) : List Snt → List Ent
  | [] => []
  | g :: r => if isE a g = true then entG g :: entsG a r else entsG a r

theorem cancL_len (l : List Snt) (k : Nat) : (cancL l k).length = l.length := by
  unfold cancL
  split
  · split
    · rw [List.length_append, List.length_map, List.length_take, List.length_drop]; omega
    · rfl
  · rfl

theorem rep_len (l : List Snt) : ∀ k, (rep l k).length = l.length
  | 0 => rfl
  | k + 1 => by rw [rep, cancL_len, rep_len l k]

/-- The flag alone turns. -/
def Fl (g h : Snt) : Prop := h = g ∨ h = { g with gone := true }

theorem cancL_get {l : List Snt} {k j : Nat} {g : Snt} (h : (cancL l k)[j]? = some g) : ∃ g0, l[j]? = some g0 ∧ Fl g0 g ∧ (k ≤ j → g = g0) := by
  unfold cancL at h
  split at h
  · rename_i p hp
    split at h
    · have hk := (List.getElem?_eq_some_iff.1 hp).1
      have hl : ((l.take k).map (markG p)).length = k := by rw [List.length_map, List.length_take]; omega
      by_cases hj : j < k
      · rw [List.getElem?_append_left (by omega), List.getElem?_map, List.getElem?_take_of_lt hj] at h
        cases e : l[j]? with
        | none => rw [e] at h; cases h
        | some g0 =>
          rw [e] at h
          simp only [Option.map_some, Option.some.injEq] at h
          refine ⟨g0, rfl, ?_, fun q => by omega⟩
          unfold markG at h
          split at h
          · exact .inr h.symm
          · exact .inl h.symm
      · rw [List.getElem?_append_right (by omega), hl, List.getElem?_drop, show k + (j - k) = j by omega] at h
        exact ⟨g, h, .inl rfl, fun _ => rfl⟩
    · exact ⟨g, h, .inl rfl, fun _ => rfl⟩
  · exact ⟨g, h, .inl rfl, fun _ => rfl⟩

theorem Fl.trans {a b c : Snt} (h : Fl a b) (k : Fl b c) : Fl a c := by
  rcases h with rfl | rfl
  · exact k
  · rcases k with rfl | rfl
    · exact .inr rfl
    · exact .inr rfl

theorem rep_get (l : List Snt) : ∀ (k j : Nat) (g : Snt), (rep l k)[j]? = some g → ∃ g0, l[j]? = some g0 ∧ Fl g0 g ∧ (k ≤ j → g = g0)
  | 0, j, g, h => ⟨g, h, .inl rfl, fun _ => rfl⟩
  | k + 1, j, g, h => by
    obtain ⟨g1, h1, h2, h3⟩ := cancL_get h
    obtain ⟨g0, e1, e2, e3⟩ := rep_get l k j g1 h1
    exact ⟨g0, e1, e2.trans h2, fun q => by rw [h3 (by omega), e3 (by omega)]⟩

theorem entsG_append (a : Int) : ∀ l r, entsG a (l ++ r) = entsG a l ++ entsG a r
  | [], r => rfl
  | g :: l, r => by
    rw [List.cons_append, entsG, entsG, entsG_append a l r]
    split <;> rfl

/-- Open orders of places are open orders of the book. -/
theorem open_ent {g : Snt} {a t : Int} (hf : g.frm ≤ t) : openG g a t = (isE a g && isOpen t (entG g)) := by
  unfold openG isE isOpen entG
  simp only [hf, decide_true, Bool.and_true]
  cases decide (g.kind = 1) <;> cases decide (g.account = a) <;> cases decide (g.code = 0) <;> cases g.gone <;> rfl

theorem mark_none (p : Snt) (a : Int) : ∀ l : List Snt, (∀ q, q ∈ l → isE a q = true → hitG p q = false) → entsG a (l.map (markG p)) = entsG a l
  | [], _ => rfl
  | q :: r, h => by
    rw [List.map_cons, entsG, entsG, mark_none p a r (fun y hy => h y (.tail _ hy))]
    have hm : isE a (markG p q) = isE a q := by unfold markG; split <;> rfl
    rw [hm]
    by_cases he : isE a q = true
    · rw [if_pos he, if_pos he]
      congr 1
      unfold markG
      rw [h q (.head _) he]
      rfl
    · rw [if_neg he, if_neg he]

theorem ent_mem (a : Int) : ∀ (r : List Snt) (y : Snt), y ∈ r → isE a y = true → entG y ∈ entsG a r
  | [], y, h, _ => by cases h
  | z :: r, y, h, he => by
    rw [entsG]
    rcases List.mem_cons.1 h with rfl | h
    · rw [if_pos he]; exact .head _
    · have := ent_mem a r y h he
      split
      · exact .tail _ this
      · exact this

/-- The mark of a Cancel is the book's. -/
theorem mark_one (p : Snt) : ∀ l : List Snt, (∀ q, q ∈ l → q.frm ≤ p.frm) → (((entsG p.account l).filter (isOpen p.frm)).map (·.order)).Nodup → entsG p.account (l.map (markG p)) = goneL p.frm p.number (entsG p.account l)
  | [], _, _ => rfl
  | q :: r, hf, hn => by
    have hq := hf q (.head _)
    have hr := fun y hy => hf y (.tail _ hy)
    have hm : isE p.account (markG p q) = isE p.account q := by unfold markG; split <;> rfl
    have hhit : hitG p q = (isE p.account q && isOpen p.frm (entG q) && decide (q.number = p.number)) := by unfold hitG; rw [open_ent hq]
    rw [List.map_cons, entsG, entsG, hm]
    by_cases he : isE p.account q = true
    · rw [if_pos he, if_pos he]
      rw [entsG, if_pos he] at hn
      rw [goneL]
      by_cases ho : isOpen p.frm (entG q) = true
      · rw [List.filter_cons_of_pos ho, List.map_cons, List.nodup_cons] at hn
        by_cases hnum : q.number = p.number
        · have hh : hitG p q = true := by rw [hhit, he, ho]; simp [hnum]
          have c1 : ((entG q).order == p.number && isOpen p.frm (entG q)) = true := by rw [ho]; simp [entG, hnum]
          rw [if_pos c1]
          congr 1
          · unfold markG; rw [if_pos hh]; rfl
          · refine mark_none p p.account r (fun y hy hey => ?_)
            cases hhy : hitG p y with
            | false => rfl
            | true =>
              exfalso
              apply hn.1
              unfold hitG at hhy
              rw [Bool.and_eq_true, open_ent (hr y hy), Bool.and_eq_true] at hhy
              refine List.mem_map.2 ⟨entG y, List.mem_filter.2 ⟨?_, hhy.1.2⟩, ?_⟩
              · exact ent_mem p.account r y hy hey
              · show y.number = q.number
                rw [hnum]
                exact of_decide_eq_true hhy.2
        · have hh : hitG p q = false := by rw [hhit]; simp [hnum]
          have c1 : ((entG q).order == p.number && isOpen p.frm (entG q)) = false := by simp [entG, hnum]
          rw [c1]
          simp only [Bool.false_eq_true, if_false]
          rw [mark_one p r hr hn.2]
          congr 1
          unfold markG; rw [hh]; rfl
      · have ho' : isOpen p.frm (entG q) = false := by simpa using ho
        rw [List.filter_cons_of_neg ho] at hn
        have hh : hitG p q = false := by rw [hhit, ho']; simp
        have c1 : ((entG q).order == p.number && isOpen p.frm (entG q)) = false := by rw [ho']; simp
        rw [c1]
        simp only [Bool.false_eq_true, if_false]
        rw [mark_one p r hr hn]
        congr 1
        unfold markG; rw [hh]; rfl
    · rw [if_neg he, if_neg he]
      rw [entsG, if_neg he] at hn
      exact mark_one p r hr hn

/-- What is known of the places when all are told. -/
structure Rp (lim : Nat → Nat → Int) (l : List Snt) : Prop where
  all : ∀ (k : Nat) (g : Snt), l[k]? = some g → g.taken = true ∧ g.code = g.given ∧ g.gone = false ∧ NumOk 0 g ∧ Hs lim (l.take k) g
  mono : ∀ (i k : Nat) (g h : Snt), i ≤ k → l[i]? = some g → l[k]? = some h → g.frm ≤ h.frm

theorem rep_ents {lim : Nat → Nat → Int} {l : List Snt} (h : Rp lim l) (a : Int) : ∀ k, k ≤ l.length → entsG a ((rep l k).take k) = bookF a (l.take k)
  | 0, _ => by simp [entsG, bookF]
  | k + 1, hk => by
    have hkl : k < l.length := by omega
    have hg := List.getElem?_eq_getElem hkl
    generalize hgv : l[k] = g at hg
    obtain ⟨q1, q2, q3, q4, q5⟩ := h.all k g hg
    have hmk : (rep l k)[k]? = some g := by
      have hlt : k < (rep l k).length := by rw [rep_len]; exact hkl
      obtain ⟨g0, e1, _, e3⟩ := rep_get l k k _ (List.getElem?_eq_getElem hlt)
      rw [hg] at e1
      simp only [Option.some.injEq] at e1
      rw [List.getElem?_eq_getElem hlt, e3 (Nat.le_refl _), e1]
    have ih := fun a => rep_ents h a k (by omega)
    have hbk : bookF a (l.take (k + 1)) = stepB a (bookF a (l.take k)) g := by
      unfold bookF
      rw [List.take_add_one, hg, List.foldl_append]
      rfl
    have htk : (rep l (k + 1)).take (k + 1) = (if g.kind = 2 ∧ g.code = 0 then ((rep l k).take k).map (markG g) else (rep l k).take k) ++ [g] := by
      rw [rep, cancL, hmk]
      show (if g.kind = 2 ∧ g.code = 0 then ((rep l k).take k).map (markG g) ++ (rep l k).drop k else rep l k).take (k + 1) = _
      have hl : (((rep l k).take k).map (markG g)).length = k := by rw [List.length_map, List.length_take, rep_len]; omega
      split
      · rw [List.take_append, hl, List.take_of_length_le (by omega), show k + 1 - k = 1 by omega, List.drop_eq_getElem_cons (by rw [rep_len]; exact hkl)]
        congr 1
        rw [List.getElem?_eq_getElem (by rw [rep_len]; exact hkl)] at hmk
        simp only [Option.some.injEq] at hmk
        rw [hmk]
        rfl
      · rw [List.take_add_one, hmk]; rfl
    rw [htk, hbk, entsG_append]
    generalize hU : (if g.kind = 2 ∧ g.code = 0 then ((rep l k).take k).map (markG g) else (rep l k).take k) = U
    have hent : entG g = entOf g := by unfold entG entOf; rw [q3]
    have hfr : ∀ q, q ∈ (rep l k).take k → q.frm ≤ g.frm := fun q hq => by
      obtain ⟨m, hm⟩ := List.mem_iff_getElem?.1 hq
      have hmk2 : m < k := by
        have := (List.getElem?_eq_some_iff.1 hm).1
        rw [List.length_take] at this
        omega
      rw [List.getElem?_take_of_lt hmk2] at hm
      obtain ⟨g0, e1, e2, _⟩ := rep_get l k m q hm
      have := h.mono m k g0 g (by omega) e1 hg
      rcases e2 with rfl | rfl
      · exact this
      · exact this
    unfold stepB
    by_cases ha : g.account = a
    · rw [if_pos ⟨q1, ha⟩]
      by_cases h1 : g.kind = 1 ∧ g.given = 0
      · rw [if_pos h1]
        rw [if_neg (by omega)] at hU
        rw [← hU, ih a, ← hent]
        congr 1
        unfold entsG
        rw [if_pos (by unfold isE; simp [h1.1, ha, q2, h1.2])]
        rfl
      · rw [if_neg h1]
        have hno : entsG a [g] = [] := by
          unfold entsG
          rw [if_neg (by
            unfold isE
            simp only [Bool.and_eq_true, decide_eq_true_eq]
            rintro ⟨⟨z1, _⟩, z2⟩
            exact h1 ⟨z1, by rw [← q2]; exact z2⟩)]
          rfl
        rw [hno, List.append_nil]
        by_cases h2 : g.kind = 2 ∧ g.given = 0
        · rw [if_pos h2]
          rw [if_pos ⟨h2.1, by rw [q2]; exact h2.2⟩] at hU
          rw [← hU]
          have hnd := q5.nodup
          rw [← ih g.account] at hnd
          have := mark_one g _ hfr hnd
          rw [ha] at this
          rw [this, ih a]
        · rw [if_neg h2]
          rw [if_neg (by rw [q2]; exact h2)] at hU
          rw [← hU]
          exact ih a
    · rw [if_neg (fun q => ha q.2)]
      have hno : entsG a [g] = [] := by
        unfold entsG
        rw [if_neg (by unfold isE; simp [ha])]
        rfl
      rw [hno, List.append_nil, ← hU]
      split
      · rw [mark_none g a _ (fun q _ he => ?_)]
        · exact ih a
        · unfold isE at he
          simp only [Bool.and_eq_true, decide_eq_true_eq] at he
          unfold hitG openG
          have : ¬ q.account = g.account := fun e => ha (by rw [← e]; exact he.1.2)
          simp [this]
      · exact ih a

end Go.Proofs.Ytjhifhoniimfgaa

