import Derived.Test.YtjhifhoniimfgaaG27
import Derived.Test.YtjhifhoniimfgaaG25
import Derived.Test.YtjhifhoniimfgaaG14
/-
  What the frames of a game say: no code.
-/
namespace Go.Proofs.Ytjhifhoniimfgaa
open Go.RowKit

theorem mod_small (x : Nat) (h : x < 256) : (x : Int) % 256 = x := by omega
theorem div_small (x : Nat) (h : x < 256) : (x : Int) / 256 = 0 := by omega

theorem finB_one (x : Nat) (h : x < 256) : finB x (List.replicate 1 0) 1 = [(x : Int)] := by
  simp [finB, List.replicate, mod_small x h]
theorem finB_four (x : Nat) (h : x < 256) : finB x (List.replicate 4 0) 4 = [0, 0, 0, (x : Int)] := by
  simp [finB, List.replicate, mod_small x h, div_small x h]
theorem finB_eight (x : Nat) (h : x < 256) : finB x (List.replicate 8 0) 8 = [0, 0, 0, 0, 0, 0, 0, (x : Int)] := by
  simp [finB, List.replicate, mod_small x h, div_small x h]

theorem data_app (a b : ByteArray) : (a ++ b).data.toList = a.data.toList ++ b.data.toList := by simp

theorem order_data (a sd num p q l : Nat) (h1 : a < 256) (h2 : sd < 256) (h3 : num < 256) (h4 : p < 256) (h5 : q < 256) (h6 : l < 256) :
    (orderB a sd num p q l).data.toList = [1, .ofNat a, .ofNat sd, 0, 0, 0, 0, .ofNat num, 0, 0, 0, 0, 0, 0, 0, .ofNat p, 0, 0, 0, 0, 0, 0, 0, .ofNat q, 0, 0, 0, 0, 0, 0, 0, .ofNat l] := by
  unfold orderB
  rw [finB_one a h1, finB_one sd h2, finB_four num h3, finB_eight p h4, finB_eight q h5, finB_eight l h6]
  simp only [data_app, strOfNums_data]
  simp

theorem other_data (k a num : Nat) (h1 : k < 256) (h2 : a < 256) (h3 : num < 256) :
    (otherB k a num).data.toList = [.ofNat k, .ofNat a, 0, 0, 0, 0, 0, .ofNat num, 0, 0, 0, 0, 0, 0, 0, 0, 0, 0, 0, 0, 0, 0, 0, 0, 0, 0, 0, 0, 0, 0, 0, 0] := by
  unfold otherB
  rw [finB_one k h1, finB_one a h2, finB_four num h3, show finB 0 (List.replicate 24 0) 24 = List.replicate 24 0 by decide]
  simp only [data_app, strOfNums_data]
  simp [List.replicate]

theorem size_data (s : ByteArray) : s.size = s.data.toList.length := by rw [Array.length_toList]; rfl

theorem ext_data (s : ByteArray) (a b : Nat) : (s.extract a b).data.toList = (s.data.toList.take b).drop a := by
  rw [ByteArray.data_extract, Array.toList_extract]
  simp [List.extract_eq_take_drop, List.drop_take]

theorem ofNat_small (x : Nat) (h : x < 256) : (UInt8.ofNat x).toNat = x := by simp; omega

theorem val_small4 (x : Nat) (h : x < 256) : val [0, 0, 0, .ofNat x] = x := by
  unfold val
  simp only [List.foldl_cons, List.foldl_nil, ofNat_small x h, show (0 : UInt8).toNat = 0 from rfl]
  omega
theorem val_small8 (x : Nat) (h : x < 256) : val [0, 0, 0, 0, 0, 0, 0, .ofNat x] = x := by
  unfold val
  simp only [List.foldl_cons, List.foldl_nil, ofNat_small x h, show (0 : UInt8).toNat = 0 from rfl]
  omega

theorem num_small {s : ByteArray} {x : Nat} (h : x < 256) (hv : val s.data.toList = x) : numOk s = true ∧ numV s = x := by
  have : numOk s = true := by unfold numOk; rw [hv]; exact decide_eq_true (by omega)
  exact ⟨this, by unfold numV; rw [if_pos this, hv]⟩

theorem said_order (a sd num p q l : Nat) (h1 : a < 2) (h2 : sd < 2) (h3 : num < 256) (h4 : 1 ≤ p ∧ p < 256) (h5 : 1 ≤ q ∧ q < 256) (h6 : 1 ≤ l ∧ l < 256) :
    saidOf 2 0 (orderB a sd num p q l) = .new a sd num p q l := by
  have D := order_data a sd num p q l (by omega) (by omega) h3 h4.2 h5.2 h6.2
  generalize orderB a sd num p q l = s at *
  have z : s.size = 32 := by rw [size_data, D]; rfl
  have b0 : byteAt s 0 = 1 := by unfold byteAt; rw [D]; rfl
  have b1 : byteAt s 1 = a := by unfold byteAt; rw [D]; exact ofNat_small a (by omega)
  have b2 : byteAt s 2 = sd := by unfold byteAt; rw [D]; exact ofNat_small sd (by omega)
  have b3 : byteAt s 3 = 0 := by unfold byteAt; rw [D]; rfl
  obtain ⟨_, n1⟩ := num_small (s := s.extract 4 8) h3 (by rw [ext_data, D]; exact val_small4 num h3)
  obtain ⟨k2, n2⟩ := num_small (s := s.extract 8 16) h4.2 (by rw [ext_data, D]; exact val_small8 p h4.2)
  obtain ⟨k3, n3⟩ := num_small (s := s.extract 16 24) h5.2 (by rw [ext_data, D]; exact val_small8 q h5.2)
  obtain ⟨k4, n4⟩ := num_small (s := s.extract 24 32) h6.2 (by rw [ext_data, D]; exact val_small8 l h6.2)
  have hv : wrongV 2 0 s = 0 := by
    unfold wrongV newV
    rw [if_neg (by omega), b0, b1, b2, b3, if_neg (by simp), if_neg (by omega), if_neg (by omega), if_neg (by omega), if_neg (by omega), if_neg (by omega), if_neg (by omega), k2, k3, k4, n2, n3, n4, if_neg (by simp; omega), if_neg (by simp; omega), if_neg (by simp; omega)]
  unfold saidOf
  rw [if_neg (by omega), if_pos b0, b1, b2, n1, n2, n3, n4]

theorem other_common (k a num : Nat) (h1 : k < 256) (h2 : a < 2) (h3 : num < 256) :
    ∀ s, s = otherB k a num → s.size = 32 ∧ byteAt s 0 = k ∧ byteAt s 1 = a ∧ byteAt s 2 = 0 ∧ byteAt s 3 = 0 ∧ numV (s.extract 4 8) = num ∧ zeroB (s.extract 8 32) = true ∧ (num = 0 → zeroB (s.extract 4 8) = true) := by
  intro s hs
  have D := other_data k a num h1 (by omega) h3
  rw [← hs] at D
  refine ⟨by rw [size_data, D]; rfl, by unfold byteAt; rw [D]; exact ofNat_small k h1, by unfold byteAt; rw [D]; exact ofNat_small a (by omega), by unfold byteAt; rw [D]; rfl, by unfold byteAt; rw [D]; rfl, ?_, ?_, fun h => ?_⟩
  · exact (num_small (s := s.extract 4 8) h3 (by rw [ext_data, D]; exact val_small4 num h3)).2
  · unfold zeroB; rw [ext_data, D]; rfl
  · unfold zeroB; rw [ext_data, D, h]; rfl

theorem said_cancel (a num : Nat) (h2 : a < 2) (h3 : num < 256) : saidOf 2 0 (otherB 2 a num) = .cancel a num := by
  obtain ⟨z, b0, b1, b2, b3, n1, z8, _⟩ := other_common 2 a num (by omega) h2 h3 _ rfl
  have e : otherB ((2 : Nat) : Int) a num = otherB 2 a num := rfl
  rw [e] at *
  generalize otherB 2 (a : Int) (num : Int) = s at *
  have hv : wrongV 2 0 s = 0 := by
    unfold wrongV
    rw [if_neg (by omega), b0, b1, b2, b3, z8, if_neg (by simp), if_neg (by omega), if_neg (by omega), if_neg (by omega), if_neg (by simp), if_neg (by omega), if_pos rfl]
  unfold saidOf
  rw [if_neg (by omega), if_neg (by omega), if_pos b0, b1, n1]

theorem said_kill (a : Nat) (h2 : a < 2) : saidOf 2 1 (otherB 3 a 0) = .kill a := by
  obtain ⟨z, b0, b1, b2, b3, n1, z8, z4⟩ := other_common 3 a 0 (by omega) h2 (by omega) _ rfl
  have e : otherB ((3 : Nat) : Int) a ((0 : Nat) : Int) = otherB 3 a 0 := rfl
  rw [e] at *
  generalize otherB 3 (a : Int) 0 = s at *
  have hv : wrongV 2 1 s = 0 := by
    unfold wrongV
    rw [if_neg (by omega), b0, b1, b2, b3, z8, z4 rfl, if_neg (by simp), if_neg (by omega), if_neg (by omega), if_neg (by omega), if_neg (by simp), if_pos (by omega), if_pos rfl]
  unfold saidOf
  rw [if_neg (by omega), if_neg (by omega), if_neg (by omega), if_pos b0, b1]

theorem said_unkill (a : Nat) (h2 : a < 2) : saidOf 2 1 (otherB 4 a 0) = .unkill a := by
  obtain ⟨z, b0, b1, b2, b3, n1, z8, z4⟩ := other_common 4 a 0 (by omega) h2 (by omega) _ rfl
  have e : otherB ((4 : Nat) : Int) a ((0 : Nat) : Int) = otherB 4 a 0 := rfl
  rw [e] at *
  generalize otherB 4 (a : Int) 0 = s at *
  have hv : wrongV 2 1 s = 0 := by
    unfold wrongV
    rw [if_neg (by omega), b0, b1, b2, b3, z8, z4 rfl, if_neg (by simp), if_neg (by omega), if_neg (by omega), if_neg (by omega), if_neg (by simp), if_pos (by omega), if_pos rfl]
  unfold saidOf
  rw [if_neg (by omega), if_neg (by omega), if_neg (by omega), if_neg (by omega), b1]

theorem said_size (i : Int) : saidOf 2 i ⟨#[110, 111, 32, 102, 114, 97, 109, 101]⟩ = .wrong 1 := by
  unfold saidOf wrongV
  rw [if_pos (show ByteArray.size ⟨#[110, 111, 32, 102, 114, 97, 109, 101]⟩ ≠ 32 by decide), if_pos (by omega)]

end Go.Proofs.Ytjhifhoniimfgaa

/-
  A game, as it is known, and its steps: no code.
-/
namespace Go.Proofs.Ytjhifhoniimfgaa
open Go.RowKit

/-- A game: its gate's state; the places of both lanes. -/
structure Gm where
  s : St
  L : Nat → List Snt

/-- What is laid into a place, out of a raw number (n: the raw number, picked): the place, and the frame. -/
def saidQ (p : Snt) (n : Nat) : Snt := { p with filled := true, account := (n : Int) % 2, number := (n : Int) / 2 % 6, side := (n : Int) / 16 % 2, price := 1 + (n : Int) / 32 % 9, qty := 1 + (n : Int) / 512 % 11, life := 1 + (n : Int) / 8192 % 12 }

def saidK (p : Snt) (n : Nat) : Snt × ByteArray :=
  if p.lane = 1 then ({ saidQ p n with kind := 3 + (n : Int) / 16 % 2 }, otherB (3 + (n : Int) / 16 % 2) ((n : Int) % 2) 0)
  else if n / 131072 % 4 = 0 then ({ saidQ p n with kind := 2 }, otherB 2 ((n : Int) % 2) ((n : Int) / 2 % 6))
  else if n / 131072 % 16 = 1 then (saidQ p n, ⟨#[110, 111, 32, 102, 114, 97, 109, 101]⟩)
  else ({ saidQ p n with kind := 1 }, orderB ((n : Int) % 2) ((n : Int) / 16 % 2) ((n : Int) / 2 % 6) (1 + (n : Int) / 32 % 9) (1 + (n : Int) / 512 % 11) (1 + (n : Int) / 8192 % 12))

/-- What a place's frame says. -/
def saidG (g : Snt) : Said :=
  if g.kind = 1 then .new g.account g.side g.number g.price g.qty g.life
  else if g.kind = 2 then .cancel g.account g.number
  else if g.kind = 3 then .kill g.account
  else if g.kind = 4 then .unkill g.account
  else .wrong 1

/-- Numbers of a place, as they may be. -/
structure NumOk (i : Nat) (g : Snt) : Prop where
  acct : 0 ≤ g.account ∧ g.account < 2
  num : 0 ≤ g.number ∧ g.number < 6
  side : g.side = 0 ∨ g.side = 1
  price : 0 ≤ g.price ∧ g.price ≤ 9
  qty : 0 ≤ g.qty ∧ g.qty ≤ 11
  life : 0 ≤ g.life ∧ g.life ≤ 12
  pos : g.kind = 1 → 1 ≤ g.price ∧ 1 ≤ g.qty ∧ 1 ≤ g.life
  kind : (i = 0 ∧ (g.kind = 0 ∨ g.kind = 1 ∨ g.kind = 2)) ∨ (i = 1 ∧ (g.kind = 0 ∨ g.kind = 3 ∨ g.kind = 4))
  kind1 : i = 1 → g.filled = true → g.kind ≠ 0
  empty : g.filled = false → g.kind = 0

/-- A place, as it may be. -/
structure PlOk (s : St) (i k : Nat) (g : Snt) : Prop where
  lane : g.lane = i
  cl : 0 ≤ g.client ∧ g.client < 3
  who : (s.f i k).1 = g.client
  fil : (s.f i k).2.1 = g.filled
  says : g.filled = true → saidOf 2 i (s.f i k).2.2 = saidG g
  nums : NumOk i g
  taken : g.taken = decide (k < s.t i)
  told : g.told = true → g.taken = true ∧ g.code = g.given
  code : g.told = false → g.code = 0
  gone : g.gone = false
  frm : 0 ≤ g.frm ∧ g.frm ≤ s.time
  size : g.taken = true → (g.kind = 0 ↔ g.given = 1)
  zero : g.taken = true → i = 1 → g.given = 0

/-- The answers, or acks, of a client that are not told: of the places from k on. -/
def unt (c : Int) : Nat → List Snt → List Ans
  | _, [] => []
  | k, g :: r => if g.taken = true ∧ g.told = false ∧ g.client = c then ((k : Int), g.given) :: unt c (k + 1) r else unt c (k + 1) r

def heldOf (s : St) (c : Nat) : List Ans :=
  match s.held with
  | some (d, a) => if d = c then [a] else []
  | none => []

structure GInv (x : Gm) : Prop where
  cl : x.s.cl = 3
  na : x.s.na = 2
  len : ∀ i, i < 2 → (x.L i).length = x.s.m i
  pl : ∀ i k g, i < 2 → (x.L i)[k]? = some g → PlOk x.s i k g
  ring : ∀ c : Nat, c < 3 → x.s.ring c ++ heldOf x.s c = unt c 0 (x.L 0)
  acks : ∀ c : Nat, c < 3 → x.s.acks c = unt c 0 (x.L 1)
  bk : ∀ a, (x.s.book a).length ≤ x.s.t 0

theorem unt_append (c : Int) : ∀ (l r : List Snt) (k : Nat), unt c k (l ++ r) = unt c k l ++ unt c (k + l.length) r
  | [], r, k => by simp [unt]
  | g :: l, r, k => by
    rw [List.cons_append, unt, unt, unt_append c l r (k + 1)]
    rw [show k + 1 + l.length = k + (g :: l).length by simp; omega]
    split <;> rfl

theorem unt_not (c : Int) : ∀ (l : List Snt) (k : Nat), (∀ g, g ∈ l → g.taken = false) → unt c k l = []
  | [], _, _ => rfl
  | g :: l, k, h => by
    rw [unt, if_neg (by rw [h g (.head _)]; simp), unt_not c l (k + 1) (fun y hy => h y (.tail _ hy))]

theorem set_split {l : List Snt} {k : Nat} {g : Snt} (h : l[k]? = some g) (g' : Snt) : l = l.take k ++ g :: l.drop (k + 1) ∧ l.set k g' = l.take k ++ g' :: l.drop (k + 1) := by
  obtain ⟨hlt, rfl⟩ := List.getElem?_eq_some_iff.1 h
  refine ⟨?_, List.set_eq_take_append_cons_drop .. |>.trans (if_pos hlt)⟩
  rw [← List.drop_eq_getElem_cons hlt, List.take_append_drop]

/-- A place that is not taken, and stays so, turns: nothing else is to be told. -/
theorem unt_set (c : Int) {l : List Snt} {k : Nat} {g g' : Snt} (h : l[k]? = some g) (h1 : g.taken = false) (h2 : g'.taken = false) : unt c 0 (l.set k g') = unt c 0 l := by
  obtain ⟨e1, e2⟩ := set_split h g'
  rw [e2]
  conv => rhs; rw [e1]
  rw [unt_append, unt_append, unt, unt, if_neg (by rw [h2]; simp), if_neg (by rw [h1]; simp)]

/-- The first place that is not taken is taken. -/
theorem unt_take (c : Int) {l : List Snt} {k : Nat} {g g' : Snt} (h : l[k]? = some g) (h1 : g.taken = false) (h2 : g'.taken = true) (h3 : g'.told = false) (hpost : ∀ j y, k < j → l[j]? = some y → y.taken = false) :
    unt c 0 (l.set k g') = unt c 0 l ++ (if g'.client = c then [((k : Int), g'.given)] else []) := by
  obtain ⟨e1, e2⟩ := set_split h g'
  have hlt := (List.getElem?_eq_some_iff.1 h).1
  have hl : (l.take k).length = k := by rw [List.length_take]; omega
  have hz : ∀ j, unt c j (l.drop (k + 1)) = [] := fun j => unt_not c _ _ (fun y hy => by
    obtain ⟨m, hm⟩ := List.mem_iff_getElem?.1 hy
    rw [List.getElem?_drop] at hm
    exact hpost _ y (by omega) hm)
  rw [e2]
  conv => rhs; rw [e1]
  have u1 : unt c k (g :: l.drop (k + 1)) = [] := by rw [unt, if_neg (by rw [h1]; simp), hz]
  rw [unt_append, unt_append, hl, Nat.zero_add, u1, unt, hz]
  by_cases e : g'.client = c
  · rw [if_pos ⟨h2, h3, e⟩, if_pos e]; simp
  · rw [if_neg (fun h => e h.2.2), if_neg e]; simp

/-- The first of a client's that is to be told is told. -/
def told1 (c : Int) : List Snt → List Snt
  | [] => []
  | g :: r => if g.taken = true ∧ g.told = false ∧ g.client = c then { g with told := true, code := g.given } :: r else g :: told1 c r

theorem told1_len (c : Int) : ∀ l, (told1 c l).length = l.length
  | [] => rfl
  | g :: r => by
    unfold told1
    split
    · rfl
    · simp [told1_len c r]

theorem told1_unt (c d : Int) : ∀ (l : List Snt) (k : Nat), unt d k (told1 c l) = if d = c then (unt d k l).tail else unt d k l
  | [], k => by simp [told1, unt]
  | g :: r, k => by
    unfold told1
    by_cases h : g.taken = true ∧ g.told = false ∧ g.client = c
    · rw [if_pos h, unt, if_neg (by simp)]
      by_cases e : d = c
      · subst e; rw [if_pos rfl, unt, if_pos h]; rfl
      · rw [if_neg e, unt, if_neg (fun h2 => e (h2.2.2.symm.trans h.2.2))]
    · rw [if_neg h, unt, told1_unt c d r (k + 1), unt]
      by_cases e : d = c
      · subst e; simp only [if_pos, if_neg h]
      · simp only [if_neg e]

/-- Where it lies, and what was there. -/
theorem told1_at (c : Int) : ∀ (l : List Snt) (k : Nat) (a : Ans) (r : List Ans), unt c k l = a :: r → ∃ j g, l[j]? = some g ∧ a = (((k + j : Nat) : Int), g.given) ∧ g.taken = true ∧ g.told = false ∧ g.client = c ∧
    told1 c l = l.set j { g with told := true, code := g.given } ∧ ∀ m y, m < j → l[m]? = some y → ¬ (y.taken = true ∧ y.told = false ∧ y.client = c)
  | [], k, a, r, h => by simp [unt] at h
  | g :: l, k, a, r, h => by
    unfold told1
    rw [unt] at h
    by_cases hg : g.taken = true ∧ g.told = false ∧ g.client = c
    · rw [if_pos hg] at h
      simp only [List.cons.injEq] at h
      exact ⟨0, g, rfl, h.1.symm, hg.1, hg.2.1, hg.2.2, by rw [if_pos hg]; rfl, fun m y hm => by omega⟩
    · rw [if_neg hg] at h
      obtain ⟨j, y, h1, h2, h3, h4, h5, h6, h7⟩ := told1_at c l (k + 1) a r h
      refine ⟨j + 1, y, by simpa using h1, by rw [h2, show k + 1 + j = k + (j + 1) by omega], h3, h4, h5, by rw [if_neg hg, h6]; rfl, fun m z hm hz => ?_⟩
      match m, hz with
      | 0, hz => simp at hz; subst hz; exact hg
      | m + 1, hz => exact h7 m z (by omega) (by simpa using hz)

/-- A place stays as it may be if it is told. -/
theorem PlOk.tell {s : St} {i k : Nat} {g : Snt} (h : PlOk s i k g) (ht : g.taken = true) : PlOk s i k { g with told := true, code := g.given } :=
  { lane := h.lane, cl := h.cl, who := h.who, fil := h.fil, says := h.says, nums := { h.nums with }, taken := h.taken, told := fun _ => ⟨ht, rfl⟩, code := fun e => (by cases e), gone := h.gone, frm := h.frm, size := h.size, zero := h.zero }

theorem told1_get (c : Int) : ∀ (l : List Snt) (k : Nat) (g : Snt), (told1 c l)[k]? = some g → ∃ g0, l[k]? = some g0 ∧ (g = g0 ∨ (g0.taken = true ∧ g0.told = false ∧ g0.client = c ∧ g = { g0 with told := true, code := g0.given }))
  | [], k, g, h => by simp [told1] at h
  | y :: r, k, g, h => by
    unfold told1 at h
    by_cases hy : y.taken = true ∧ y.told = false ∧ y.client = c
    · rw [if_pos hy] at h
      match k, h with
      | 0, h => simp at h; exact ⟨y, rfl, .inr ⟨hy.1, hy.2.1, hy.2.2, h.symm⟩⟩
      | k + 1, h => exact ⟨g, by simpa using h, .inl rfl⟩
    · rw [if_neg hy] at h
      match k, h with
      | 0, h => simp at h; exact ⟨y, rfl, .inl h.symm⟩
      | k + 1, h =>
        obtain ⟨g0, h1, h2⟩ := told1_get c r k g (by simpa using h)
        exact ⟨g0, by simpa using h1, h2⟩

/-- The steps. -/
def mayClaim (x : Gm) (i : Nat) : Bool := !x.s.shut && decide (x.s.m i < x.s.t i + x.s.n i)

def claimG (x : Gm) (c i : Nat) : Gm := ⟨{ x.s with m := upN x.s.m i (x.s.m i + 1), f := upN x.s.f i (upd (x.s.f i) (x.s.m i) (c, false, ByteArray.empty)) }, upN x.L i (x.L i ++ [Snt.new c i])⟩

def fillG (x : Gm) (i k n : Nat) (g : Snt) : Gm := ⟨{ x.s with f := upN x.s.f i (upd (x.s.f i) k ((x.s.f i k).1, true, (saidK g n).2)) }, upN x.L i ((x.L i).set k (saidK g n).1)⟩

def codeS (s : St) (i : Nat) : Int := (doesS (s.step.took i) i (s.f i (s.t i)).2.2).1

def tookG (g : Snt) (time code : Int) : Snt := { g with taken := true, frm := time, given := code }

def takeG (x : Gm) (i : Nat) : Nat → List Snt :=
  match (x.L i)[x.s.t i]? with
  | some g => upN x.L i ((x.L i).set (x.s.t i) (tookG g x.s.time (codeS x.s i)))
  | none => x.L

def coreG (x : Gm) : Gm :=
  ⟨(coreS x.s).2, if x.s.hasNext 1 then takeG x 1 else if x.s.held.isSome then x.L else if x.s.hasNext 0 then takeG x 0 else x.L⟩

def pollG (x : Gm) (c : Nat) : Gm :=
  match x.s.ring c with
  | [] => x
  | _ :: r => ⟨{ x.s with ring := upN x.s.ring c r }, upN x.L 0 (told1 c (x.L 0))⟩

def toldN (c : Int) : Nat → List Snt → List Snt
  | 0, l => l
  | j + 1, l => toldN c j (told1 c l)

def acksG (x : Gm) (c : Nat) : Gm := ⟨{ x.s with acks := upN x.s.acks c [] }, upN x.L 1 (toldN c (x.s.acks c).length (x.L 1))⟩

def tickG (x : Gm) : Gm := ⟨tickS x.s, x.L⟩
def watchG (x : Gm) : Gm := ⟨(watchS x.s).2, x.L⟩

theorem refuse_ok (c i : Nat) (hc : c < 3) (hi : i < 2) : refuse (3 : Nat) c i = 0 := by
  unfold refuse
  rw [if_neg (by omega), if_pos (by omega)]

theorem claimS_eq (x : Gm) (h : x.s.cl = 3) (c i : Nat) (hc : c < 3) (hi : i < 2) :
    (mayClaim x i = true → claimS x.s c i = ((x.s.m i : Int), 0, (claimG x c i).s)) ∧ (x.s.shut = true → claimS x.s c i = (0, 5, x.s)) ∧ (x.s.shut = false → mayClaim x i = false → claimS x.s c i = (0, 6, x.s) ∧ x.s.t i + x.s.n i ≤ x.s.m i) := by
  unfold claimS mayClaim
  rw [if_neg (by rw [h, refuse_ok c i hc hi]; simp), Int.toNat_natCast]
  refine ⟨fun h2 => ?_, fun h2 => by rw [if_pos h2], fun h2 h3 => ?_⟩
  · simp only [Bool.and_eq_true, Bool.not_eq_true', decide_eq_true_eq] at h2
    rw [if_neg (by rw [h2.1]; simp), if_neg (by omega)]
    rfl
  · rw [h2] at h3
    simp only [Bool.not_false, Bool.true_and, decide_eq_false_iff_not] at h3
    rw [if_neg (by rw [h2]; simp), if_pos (by omega)]
    exact ⟨rfl, by omega⟩

theorem pubS_eq (x : Gm) (h : x.s.cl = 3) (i k n : Nat) (g : Snt) (hp : PlOk x.s i k g) (hf : g.filled = false) (hi : i < 2) (hm : k < x.s.m i) :
    pubS x.s g.client i k (saidK g n).2 = (0, (fillG x i k n g).s) := by
  obtain ⟨h0, h3⟩ := hp.cl
  obtain ⟨c, hc⟩ := Int.eq_ofNat_of_zero_le h0
  unfold pubS
  rw [if_neg (by rw [h, hc, refuse_ok c i (by omega) hi]; simp), Int.toNat_natCast, Int.toNat_natCast]
  have hb : fillB (x.s.m i) (x.s.f i) g.client (k : Int) = true := by
    unfold fillB
    rw [Int.toNat_natCast, hp.who, hp.fil, hf]
    simp
    omega
  rw [if_pos hb]
  rfl

end Go.Proofs.Ytjhifhoniimfgaa

