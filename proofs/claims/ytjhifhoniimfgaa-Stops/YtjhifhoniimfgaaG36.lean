import Derived.Test.YtjhifhoniimfgaaG30
import Derived.Test.YtjhifhoniimfgaaG27
import Derived.Test.YtjhifhoniimfgaaG33
import Derived.Test.YtjhifhoniimfgaaG35
import Derived.Test.YtjhifhoniimfgaaG31
/-
  A game: places that are not filled.
-/
namespace Go.Proofs.Ytjhifhoniimfgaa
open Go.RowKit

/-- The places that are not filled, from k on. -/
def holesF : Nat → List Snt → List Nat
  | _, [] => []
  | k, g :: r => if g.filled = false then k :: holesF (k + 1) r else holesF (k + 1) r

def holesG (x : Gm) (i : Nat) : List Nat := holesF (x.s.t i) ((x.L i).drop (x.s.t i))

/-- The a-th of them. -/
def holeG (x : Gm) (i : Nat) (a : Int) : Option Nat := (holesG x i)[pickN a (holesG x i).length]?

theorem holesF_mem : ∀ (l : List Snt) (k m : Nat), m ∈ holesF k l → ∃ g, l[m - k]? = some g ∧ g.filled = false ∧ k ≤ m
  | [], k, m, h => by simp [holesF] at h
  | g :: r, k, m, h => by
    unfold holesF at h
    by_cases hf : g.filled = false
    · rw [if_pos hf] at h
      rcases List.mem_cons.1 h with rfl | h
      · exact ⟨g, by simp, hf, Nat.le_refl _⟩
      · obtain ⟨y, h1, h2, h3⟩ := holesF_mem r (k + 1) m h
        refine ⟨y, ?_, h2, by omega⟩
        rw [show m - k = (m - (k + 1)) + 1 by omega]
        simpa using h1
    · rw [if_neg hf] at h
      obtain ⟨y, h1, h2, h3⟩ := holesF_mem r (k + 1) m h
      refine ⟨y, ?_, h2, by omega⟩
      rw [show m - k = (m - (k + 1)) + 1 by omega]
      simpa using h1

theorem holeG_some {x : Gm} {i : Nat} {a : Int} {k : Nat} (h : holeG x i a = some k) : ∃ g, (x.L i)[k]? = some g ∧ g.filled = false ∧ x.s.t i ≤ k := by
  have hm := List.mem_iff_getElem?.2 ⟨_, h⟩
  obtain ⟨g, h1, h2, h3⟩ := holesF_mem _ _ _ hm
  rw [List.getElem?_drop, show x.s.t i + (k - x.s.t i) = k by omega] at h1
  exact ⟨g, h1, h2, h3⟩

theorem holesF_none : ∀ (l : List Snt) (k : Nat), holesF k l = [] → ∀ g, g ∈ l → g.filled = true
  | [], _, _, g, h => by cases h
  | y :: r, k, e, g, h => by
    unfold holesF at e
    by_cases hf : y.filled = false
    · rw [if_pos hf] at e; cases e
    · rw [if_neg hf] at e
      rcases List.mem_cons.1 h with rfl | h
      · simpa using hf
      · exact holesF_none r (k + 1) e g h

theorem holeG_none {x : Gm} {i : Nat} {a : Int} (h : holeG x i a = none) : ∀ k g, (x.L i)[k]? = some g → x.s.t i ≤ k → g.filled = true := by
  intro k g hg hk
  have he : holesG x i = [] := by
    unfold holeG at h
    rw [List.getElem?_eq_none_iff] at h
    by_cases q : (holesG x i).length = 0
    · exact List.eq_nil_of_length_eq_zero q
    · have := pickN_lt a (holesG x i).length (by omega)
      omega
  refine holesF_none _ _ he g (List.mem_iff_getElem?.2 ⟨k - x.s.t i, ?_⟩)
  rw [List.getElem?_drop, show x.s.t i + (k - x.s.t i) = k by omega]
  exact hg

theorem holesF_snoc : ∀ (l : List Snt) (k : Nat) (g : Snt), holesF k (l ++ [g]) = holesF k l ++ (if g.filled = false then [k + l.length] else [])
  | [], k, g => by simp [holesF]
  | y :: r, k, g => by
    rw [List.cons_append, holesF, holesF, holesF_snoc r (k + 1) g, show k + 1 + r.length = k + (y :: r).length by simp; omega]
    split <;> rfl

theorem holesF_len : ∀ (l : List Snt) (k : Nat), (holesF k l).length ≤ l.length
  | [], _ => Nat.le_refl _
  | g :: r, k => by
    unfold holesF
    have := holesF_len r (k + 1)
    split <;> simp <;> omega

theorem wpList_append_run {P : Program} {ops : Array Oper} {rest : List Oper} {o : Oper} {a : Act} {w : World} {Q : Exit → Act → World → Prop} (hgd : o.guard = none) (s x : Operand) (t : TypeId)
    (ho : o.op = .call { callee := .builtin .append, args := #[s, x], argTypes := #[t, t] }) (v u v' : Value) (w' : World) (hs : a.eval s = v) (hx : a.eval x = u)
    (hrun : ∀ ty, (Builtin.append_ #[t, t] ty #[v, u]).run P w = .ok v' w') (h : wpList P ops Q rest (a.put o.dst v') w') : wpList P ops Q (o :: rest) a w := by
  refine wpList_plain hgd fun K hK => ?_
  have hr := hrun o.type
  unfold Oper.wp execOp
  simp only [ho, resolve, invoke, builtin, Sem.run_bind, Sem.run_pure, Result.andThen_ok, List.map_toArray, List.map_cons, List.map_nil, hs, hx, hr]
  exact hK _ _ h

theorem info_int : ∃ i, Try.prog.info? 3 = some i ∧ i.bytes = 8 ∧ i.size = 1 ∧ i.zero = some (.int .i64 0) := by
  have e : (Try.prog.info? 3).map (fun i => (i.bytes, i.size, i.zero)) = some (8, 1, some (.int .i64 0)) := by kernel_rfl
  obtain ⟨i, hi, he⟩ := Option.map_eq_some_iff.1 e
  simp only [Prod.mk.injEq] at he
  exact ⟨i, hi, he.1, he.2.1, he.2.2⟩

def rowN (l : List Nat) : List Value := l.map (fun k : Nat => .int .i64 (k : Int))

/-- A row of numbers of its own, that grows by one. -/
theorem int_append {w : World} {v : Value} {l : List Nat} {B : Nat} (h : w.ownsRow B 3 1 v l.length (rowN l)) (hB : B ≤ w.heap.size) (hn : l.length < 17592186044416) (x : Nat) :
    ∃ g cap w', (∀ ty, (Builtin.append_ #[57, 57] ty #[v, .slice (some ⟨w.heap.size, 0, none⟩) 1 1]).run Try.prog (w.alloc (.cells #[.int .i64 x] 3)) = .ok (.slice (some ⟨g, 0, none⟩) (l.length + 1) cap) w') ∧ w'.ownsRow B 3 1 (.slice (some ⟨g, 0, none⟩) (l.length + 1) cap) (l.length + 1) (rowN (l ++ [x])) ∧ Below B w w' := by
  obtain ⟨it, t1, t2, t3, t4⟩ := info_int
  have h2 : (w.alloc (.cells #[.int .i64 x] 3)).ownsRow B 3 1 v l.length (rowN l) := World.ownsRow.alloc h _
  have key := fun ty => run_append_own_at (P := Try.prog) (w.alloc (.cells #[.int .i64 x] 3)) B 57 ty 3 it (.int .i64 0) 1 8 Try.underlying57 t1 t4 t3 t2 rfl (by decide) v l.length (rowN l) h2
    ⟨w.heap.size, 0, none⟩ 1 1 [.int .i64 x] rfl (cell_one_at w _ _) (fun u hu => by simp at hu; subst hu; rfl) (by unfold maxLen; omega) (by omega) (by simp; omega)
  obtain ⟨v', w', hrun, hown, hg, _, hbb⟩ := key 0
  have hrun2 : ∀ ty, (Builtin.append_ #[57, 57] ty #[v, .slice (some ⟨w.heap.size, 0, none⟩) 1 1]).run Try.prog (w.alloc (.cells #[.int .i64 x] 3)) = .ok v' w' := fun ty => hrun
  have hv : ∃ g cap, v' = .slice (some ⟨g, 0, none⟩) (l.length + 1) cap := by
    rcases hown.2 with ⟨_, hx⟩ | ⟨g, cap, cur, hx, _⟩
    · omega
    · exact ⟨g, cap, hx⟩
  obtain ⟨g, cap, rfl⟩ := hv
  refine ⟨g, cap, w', hrun2, ?_, ⟨hg.os, hg.tape, hg.output, Nat.le_trans (by simp) hg.size, fun b hb1 => ?_⟩⟩
  · rw [show rowN (l ++ [x]) = rowN l ++ [.int .i64 x] by simp [rowN]]
    exact hown
  · rw [hg.block b (by simp; omega) (fun e => ?_)]
    · exact Below.heap_alloc _ _ _ (by omega)
    · rcases h.2 with ⟨q, _⟩ | ⟨g', cap', cur, q, q0, _⟩
      · rw [q] at e; cases e
      · rw [q] at e; simp [Value.ownBlock] at e; omega

theorem ownsRowN_cell {w : World} {v : Value} {l : List Nat} {B : Nat} (h : w.ownsRow B 3 1 v l.length (rowN l)) (j k : Nat) (hj : l[j]? = some k) : ∃ g cap, v = .slice (some ⟨g, 0, none⟩) l.length cap ∧ w.cell? ⟨g, j, none⟩ = some (.int .i64 k) := by
  have hlt := (List.getElem?_eq_some_iff.1 hj).1
  obtain ⟨hl, h⟩ := h
  rcases h with ⟨_, h0⟩ | ⟨g, cap, cur, rfl, _, h1, _, _, _, h2⟩
  · omega
  · refine ⟨g, cap, rfl, cellAt h1 ?_⟩
    have hx : (rowN l)[j]? = some (.int .i64 k) := by simp [rowN, hj]
    rw [← h2] at hx
    have hlt2 := (List.getElem?_eq_some_iff.1 hx).1
    rw [List.getElem?_take_of_lt (by simp at hlt2; omega)] at hx
    simpa using hx

theorem ownsRowN_slice {w : World} {v : Value} {l : List Nat} {B : Nat} (h : w.ownsRow B 3 1 v l.length (rowN l)) : ∃ a cap, v = .slice a l.length cap := by
  rcases h.2 with ⟨q, e⟩ | ⟨g', cap', cur, q, _⟩
  · exact ⟨none, 0, by rw [q, e]⟩
  · exact ⟨_, _, q⟩

set_option maxRecDepth 100000 in
set_option maxHeartbeats 1000000 in
theorem hole_walkS {own : Nat → Nat} {T : Nat} {w : World} {xb : Nat} {x : Gm} {N : Nat} (h : GAt own T w xb x N) (_hN : N < 1000000000000000) (i : Nat) (hle : (x.L i).length < 17592186044416) (hi : i = 0 ∨ i = 1) (a : Int) (h1 : -9223372036854775808 ≤ a) (h2 : a ≤ 9223372036854775807) :
    Calls Try.prog 15 #[.pointer (some ⟨xb, 0, none⟩), .int .i64 i, .int .i64 a] w fun e w' => e = .returned (.int .i64 (match holeG x i a with | some k => (k : Int) | none => -1)) ∧ Below w.heap.size w w' := by
  obtain ⟨B, X, st0, st1, hM, rfl⟩ := h
  have hi2 : i < 2 := by omega
  have mt := hM.ok.mt i hi2
  have hlen := hM.inv.len i hi2
  have cT := hM.at_.cT i hi2
  have cL := hM.at_.cL i hi2
  obtain ⟨la, lc, hlv⟩ := hM.at_.laneV i hi2
  rw [hlv] at cL
  have lx := block_lt hM.at_.game
  obtain ⟨tt, htt⟩ : ∃ tt, tt = x.s.t i := ⟨_, rfl⟩
  obtain ⟨ln, hln⟩ : ∃ ln, ln = (x.L i).length := ⟨_, rfl⟩
  have hlb : ln < 17592186044416 := by omega
  rw [← hln] at cL hlen
  simp only [vOf] at cT
  rw [← htt] at cT mt
  rw [← hlen] at mt
  have HR : Hid (∀ k, k < ln → ∃ r g, la = some ⟨r, 0, none⟩ ∧ r < w.heap.size ∧ w.cell? ⟨r, k, none⟩ = some (.pointer (some ⟨X.pb i k, 0, none⟩)) ∧ (x.L i)[k]? = some g ∧ X.pb i k < w.heap.size ∧ w.cell? ⟨X.pb i k, 10, none⟩ = some (.bool g.filled)) := fun k hk => by
    obtain ⟨r, cap, e1, e2, e3, e4⟩ := hM.at_.rowcell i hi2 (by omega)
    rw [hlv] at e1
    simp only [Value.slice.injEq] at e1
    obtain ⟨g, g1, g2⟩ := hM.at_.get i k hi2 (by omega)
    exact ⟨r, g, e1.1, e3, e2 k (by omega), g1, block_lt g2, sc10 g2⟩
  obtain ⟨R, hR⟩ : ∃ R : Option Nat → Int, R = fun o => match o with | some k => (k : Int) | none => -1 := ⟨_, rfl⟩
  have HRes : Hid (R (holeG x i a) = match holeG x i a with | some k => (k : Int) | none => -1) := by rw [hR]; rfl
  have HRR := hideE hR
  have HHG : Hid (holeG x i a = (holesF tt ((x.L i).drop tt))[pickN a (holesF tt ((x.L i).drop tt)).length]?) := by rw [htt]; rfl
  have HLN := hideE hln
  rw [← HRes.out]
  clear hM hlv htt hln hR hlen
  rcases hi with rfl | rfl
  · simp only [Nat.add_zero] at cL cT
    go_enter Try.func15, Try.ntmps15
    go_wp2
    go_loopw [7, 8] (fun lv iv wr => ∃ k : Nat, iv = .int .i64 k ∧ tt ≤ k ∧ k ≤ ln ∧ wr.ownsRow w.heap.size 3 1 lv (holesF tt (((x.L 0).take k).drop tt)).length (rowN (holesF tt (((x.L 0).take k).drop tt))) ∧ Below w.heap.size w wr) (fun _ iv _ => ln - (intOf iv).toNat)
    case atStart =>
      refine ⟨tt, rfl, Nat.le_refl _, by omega, ?_, Below.refl _ _⟩
      have e : ((x.L 0).take tt).drop tt = [] := List.drop_eq_nil_of_le (by rw [List.length_take]; omega)
      rw [e]
      exact World.ownsRow_nil _ _ _ _
    case round =>
      obtain ⟨k, rfl, hk1, hk2, hown, hbel⟩ := hrel
      have hcT : wr.cell? ⟨X.xb, 7, none⟩ = some (.slice la ln lc) := by rw [hbel.cell lx]; exact cL
      obtain ⟨va, vc, hv⟩ := ownsRowN_slice hown
      by_cases hkl : k < ln
      · obtain ⟨r, g, rfl, e0, e1, e2, e3, e4⟩ := HR.out k hkl
        have f1 : wr.cell? ⟨r, k, none⟩ = some (.pointer (some ⟨X.pb 0 k, 0, none⟩)) := by rw [hbel.cell e0]; exact e1
        have f2 : wr.cell? ⟨X.pb 0 k, 10, none⟩ = some (.bool g.filled) := by rw [hbel.cell e3]; exact e4
        have l1 : (k : Int) < (ln : Int) := by omega
        have l2 : (k : Int) ≤ 1000000000000000 := by omega
        have hsn : holesF tt (((x.L 0).take (k + 1)).drop tt) = holesF tt (((x.L 0).take k).drop tt) ++ (if g.filled = false then [k] else []) := by
          have e5 : (x.L 0).take (k + 1) = (x.L 0).take k ++ [g] := by rw [List.take_add_one, e2]; rfl
          rw [e5, List.drop_append_of_le_length (by rw [List.length_take, ← HLN.out]; omega), holesF_snoc]
          rw [List.length_drop, List.length_take, ← HLN.out, show tt + (min k ln - tt) = k by omega]
        have hlk : (holesF tt (((x.L 0).take k).drop tt)).length ≤ k := Nat.le_trans (holesF_len _ _) (by rw [List.length_drop, List.length_take]; omega)
        have HOWN := hideE hown
        have HBEL := hideE hbel
        have HSN := hideE hsn
        generalize holesF tt (((x.L 0).take k).drop tt) = hs at *
        cases hf : g.filled with
        | true =>
          rw [hf] at f2
          have HF := hideE hf
          clear hsn hf e2 e4 hown hbel
          subst hv
          go_wp2
          go_roundw
          case rel => exact ⟨k + 1, rfl, by omega, hkl, by rw [HSN.out, HF.out, if_neg (by simp), List.append_nil]; exact HOWN.out, HBEL.out⟩
          case measure => simp [intOf]; omega
        | false =>
          rw [hf] at f2
          have HF := hideE hf
          have hsz : w.heap.size ≤ wr.heap.size := hbel.size
          obtain ⟨g5, c5, w5, hrun, hown5, hbel5⟩ := int_append hown hsz (by omega) k
          have H5 := hideE hown5
          have B5 := hideE (show Below w.heap.size w w5 from below_trans hbel hbel5 (Nat.le_refl _))
          rw [hv] at hrun
          clear hsn hf e2 e4 hown hbel hown5 hbel5 HOWN
          subst hv
          go_wp2_with (at_builtin; go_must (refine wpList_append_run rfl _ _ 57 rfl (.slice va hs.length vc) (.slice (some ⟨wr.heap.size, 0, none⟩) 1 1) _ _ rfl rfl hrun ?_))
          refine ⟨⟨_, _, _, _, _, _, _, _, _, _, _, _, _, _, _, _, _, _, _, _, _, _, _, _, _, _, _, _, _, _, ?rel, rfl⟩, ?measure⟩
          case rel => exact ⟨k + 1, rfl, by omega, hkl, by rw [HSN.out, HF.out, if_pos rfl, List.length_append]; exact H5.out, B5.out⟩
          case measure => simp [intOf]; omega
      · have ek : k = ln := by omega
        subst ek
        have htk : (x.L 0).take k = x.L 0 := List.take_of_length_le (by rw [← HLN.out]; omega)
        rw [htk] at hown
        have hlk : (holesF tt ((x.L 0).drop tt)).length ≤ k := Nat.le_trans (holesF_len _ _) (by rw [List.length_drop, ← HLN.out]; omega)
        have hhg := HHG.out
        obtain ⟨hs, hhs⟩ : ∃ hs, hs = holesF tt ((x.L 0).drop tt) := ⟨_, rfl⟩
        rw [← hhs] at hown hlk hhg
        rw [htk] at hv
        rw [← hhs] at hv
        have HBEL := hideE hbel
        have HRR2 := HRR.out
        by_cases h0 : hs.length = 0
        · have hnil : hs = [] := List.eq_nil_of_length_eq_zero h0
          have hres : R (holeG x 0 a) = -1 := by rw [hhg, hnil, HRR2]; rfl
          have HRV := hideE hres
          rw [h0] at hv
          subst hv
          clear hown hbel htk hhg hhs h0 hnil hres HRR2
          go_wp2
          go_ret
          exact ⟨by rw [HRV.out]; rfl, HBEL.out⟩
        · have hpl := pickN_lt a hs.length (by omega)
          obtain ⟨m, hm⟩ : ∃ m, hs[pickN a hs.length]? = some m := ⟨_, List.getElem?_eq_getElem hpl⟩
          have hres : R (holeG x 0 a) = m := by rw [hhg, hm, HRR2]
          obtain ⟨g6, c6, q1, q2⟩ := ownsRowN_cell hown _ _ hm
          have HRV := hideE hres
          have pk := fun W => pick_any a hs.length W (by omega) (by omega) h1 h2
          have hnz : ((hs.length : Int) == 0) = false := beq_eq_false_iff_ne.2 (by omega)
          rw [q1] at hv
          simp only [Value.slice.injEq, true_and] at hv
          obtain ⟨rfl, rfl⟩ := hv
          subst q1
          have l3 : (pickN a hs.length : Int) < (hs.length : Int) := by omega
          clear hown hbel htk hhg hhs h0 hres HRR2 hm
          go_wp2_with fail
          refine (pk _).mono ?_
          rintro e w9 ⟨rfl, rfl⟩
          clear pk
          go_wp2
          go_ret
          exact ⟨by rw [HRV.out]; rfl, HBEL.out⟩
  · simp only [Nat.reduceAdd] at cL cT
    go_enter Try.func15, Try.ntmps15
    go_wp2
    go_loopw [7, 8] (fun lv iv wr => ∃ k : Nat, iv = .int .i64 k ∧ tt ≤ k ∧ k ≤ ln ∧ wr.ownsRow w.heap.size 3 1 lv (holesF tt (((x.L 1).take k).drop tt)).length (rowN (holesF tt (((x.L 1).take k).drop tt))) ∧ Below w.heap.size w wr) (fun _ iv _ => ln - (intOf iv).toNat)
    case atStart =>
      refine ⟨tt, rfl, Nat.le_refl _, by omega, ?_, Below.refl _ _⟩
      have e : ((x.L 1).take tt).drop tt = [] := List.drop_eq_nil_of_le (by rw [List.length_take]; omega)
      rw [e]
      exact World.ownsRow_nil _ _ _ _
    case round =>
      obtain ⟨k, rfl, hk1, hk2, hown, hbel⟩ := hrel
      have hcT : wr.cell? ⟨X.xb, 8, none⟩ = some (.slice la ln lc) := by rw [hbel.cell lx]; exact cL
      obtain ⟨va, vc, hv⟩ := ownsRowN_slice hown
      by_cases hkl : k < ln
      · obtain ⟨r, g, rfl, e0, e1, e2, e3, e4⟩ := HR.out k hkl
        have f1 : wr.cell? ⟨r, k, none⟩ = some (.pointer (some ⟨X.pb 1 k, 0, none⟩)) := by rw [hbel.cell e0]; exact e1
        have f2 : wr.cell? ⟨X.pb 1 k, 10, none⟩ = some (.bool g.filled) := by rw [hbel.cell e3]; exact e4
        have l1 : (k : Int) < (ln : Int) := by omega
        have l2 : (k : Int) ≤ 1000000000000000 := by omega
        have hsn : holesF tt (((x.L 1).take (k + 1)).drop tt) = holesF tt (((x.L 1).take k).drop tt) ++ (if g.filled = false then [k] else []) := by
          have e5 : (x.L 1).take (k + 1) = (x.L 1).take k ++ [g] := by rw [List.take_add_one, e2]; rfl
          rw [e5, List.drop_append_of_le_length (by rw [List.length_take, ← HLN.out]; omega), holesF_snoc]
          rw [List.length_drop, List.length_take, ← HLN.out, show tt + (min k ln - tt) = k by omega]
        have hlk : (holesF tt (((x.L 1).take k).drop tt)).length ≤ k := Nat.le_trans (holesF_len _ _) (by rw [List.length_drop, List.length_take]; omega)
        have HOWN := hideE hown
        have HBEL := hideE hbel
        have HSN := hideE hsn
        generalize holesF tt (((x.L 1).take k).drop tt) = hs at *
        cases hf : g.filled with
        | true =>
          rw [hf] at f2
          have HF := hideE hf
          clear hsn hf e2 e4 hown hbel
          subst hv
          go_wp2
          go_roundw
          case rel => exact ⟨k + 1, rfl, by omega, hkl, by rw [HSN.out, HF.out, if_neg (by simp), List.append_nil]; exact HOWN.out, HBEL.out⟩
          case measure => simp [intOf]; omega
        | false =>
          rw [hf] at f2
          have HF := hideE hf
          have hsz : w.heap.size ≤ wr.heap.size := hbel.size
          obtain ⟨g5, c5, w5, hrun, hown5, hbel5⟩ := int_append hown hsz (by omega) k
          have H5 := hideE hown5
          have B5 := hideE (show Below w.heap.size w w5 from below_trans hbel hbel5 (Nat.le_refl _))
          rw [hv] at hrun
          clear hsn hf e2 e4 hown hbel hown5 hbel5 HOWN
          subst hv
          go_wp2_with (at_builtin; go_must (refine wpList_append_run rfl _ _ 57 rfl (.slice va hs.length vc) (.slice (some ⟨wr.heap.size, 0, none⟩) 1 1) _ _ rfl rfl hrun ?_))
          refine ⟨⟨_, _, _, _, _, _, _, _, _, _, _, _, _, _, _, _, _, _, _, _, _, _, _, _, _, _, _, _, _, _, ?rel, rfl⟩, ?measure⟩
          case rel => exact ⟨k + 1, rfl, by omega, hkl, by rw [HSN.out, HF.out, if_pos rfl, List.length_append]; exact H5.out, B5.out⟩
          case measure => simp [intOf]; omega
      · have ek : k = ln := by omega
        subst ek
        have htk : (x.L 1).take k = x.L 1 := List.take_of_length_le (by rw [← HLN.out]; omega)
        rw [htk] at hown
        have hlk : (holesF tt ((x.L 1).drop tt)).length ≤ k := Nat.le_trans (holesF_len _ _) (by rw [List.length_drop, ← HLN.out]; omega)
        have hhg := HHG.out
        obtain ⟨hs, hhs⟩ : ∃ hs, hs = holesF tt ((x.L 1).drop tt) := ⟨_, rfl⟩
        rw [← hhs] at hown hlk hhg
        rw [htk] at hv
        rw [← hhs] at hv
        have HBEL := hideE hbel
        have HRR2 := HRR.out
        by_cases h0 : hs.length = 0
        · have hnil : hs = [] := List.eq_nil_of_length_eq_zero h0
          have hres : R (holeG x 1 a) = -1 := by rw [hhg, hnil, HRR2]; rfl
          have HRV := hideE hres
          rw [h0] at hv
          subst hv
          clear hown hbel htk hhg hhs h0 hnil hres HRR2
          go_wp2
          go_ret
          exact ⟨by rw [HRV.out]; rfl, HBEL.out⟩
        · have hpl := pickN_lt a hs.length (by omega)
          obtain ⟨m, hm⟩ : ∃ m, hs[pickN a hs.length]? = some m := ⟨_, List.getElem?_eq_getElem hpl⟩
          have hres : R (holeG x 1 a) = m := by rw [hhg, hm, HRR2]
          obtain ⟨g6, c6, q1, q2⟩ := ownsRowN_cell hown _ _ hm
          have HRV := hideE hres
          have pk := fun W => pick_any a hs.length W (by omega) (by omega) h1 h2
          have hnz : ((hs.length : Int) == 0) = false := beq_eq_false_iff_ne.2 (by omega)
          rw [q1] at hv
          simp only [Value.slice.injEq, true_and] at hv
          obtain ⟨rfl, rfl⟩ := hv
          subst q1
          have l3 : (pickN a hs.length : Int) < (hs.length : Int) := by omega
          clear hown hbel htk hhg hhs h0 hres HRR2 hm
          go_wp2_with fail
          refine (pk _).mono ?_
          rintro e w9 ⟨rfl, rfl⟩
          clear pk
          go_wp2
          go_ret
          exact ⟨by rw [HRV.out]; rfl, HBEL.out⟩

theorem hole_walk {own : Nat → Nat} {T : Nat} {w : World} {xb : Nat} {x : Gm} {N : Nat} (h : GAt own T w xb x N) (hN : N < 281000000000000) (i : Nat) (hi : i = 0 ∨ i = 1) (a : Int) (h1 : -9223372036854775808 ≤ a) (h2 : a ≤ 9223372036854775807) :
    Calls Try.prog 15 #[.pointer (some ⟨xb, 0, none⟩), .int .i64 i, .int .i64 a] w fun e w' => e = .returned (.int .i64 (match holeG x i a with | some k => (k : Int) | none => -1)) ∧ Below w.heap.size w w' :=
  hole_walkS h (by omega) i (by
    have h1 := h.wt i (by omega)
    have h2 := h.inv.len i (by omega)
    omega) hi a h1 h2

end Go.Proofs.Ytjhifhoniimfgaa

/-
  A game: a step of a script.
-/
namespace Go.Proofs.Ytjhifhoniimfgaa
open Go.RowKit

def fillAt (x : Gm) (i : Nat) (o : Option Nat) (n : Nat) : Gm :=
  match o with
  | some j => (match (x.L i)[j]? with | some g => fillG x i j n g | none => x)
  | none => x

def movesG (x : Gm) (K A B : Int) : Gm :=
  if pickN K 16 < 3 then (if mayClaim x (pickN B 8 / 7) then fillG (claimG x (pickN A 3) (pickN B 8 / 7)) (pickN B 8 / 7) (x.L (pickN B 8 / 7)).length (pickN (B.tdiv 8) 1099511627776) (Snt.new (pickN A 3) (pickN B 8 / 7 : Nat)) else x)
  else if pickN K 16 = 3 then (if mayClaim x (pickN B 8 / 7) then claimG x (pickN A 3) (pickN B 8 / 7) else x)
  else if pickN K 16 < 6 then fillAt x (pickN B 8 / 7) (holeG x (pickN B 8 / 7) A) (pickN (B.tdiv 8) 1099511627776)
  else if pickN K 16 < 10 then coreG x
  else if pickN K 16 < 12 then pollG x (pickN A 3)
  else if pickN K 16 = 12 then acksG x (pickN A 3)
  else if pickN K 16 = 13 then tickG x
  else if pickN K 16 = 14 then watchG x
  else watchG (coreG (tickG x))

/-- A game, and a box beside it. -/
theorem GAt.box {own : Nat → Nat} {T : Nat} {w : World} {xb : Nat} {x : Gm} {N : Nat} (h : GAt own T w xb x N) (hT : 0 < T) (O : Obj) : GAt (ext own w.heap.size 0) T (w.alloc O) xb x N ∧ OutG (ext own w.heap.size 0) T w.heap.size ∧ (∀ b, b < w.heap.size → OutG own T b → OutG (ext own w.heap.size 0) T b) ∧ Keep (OutG own T) w (w.alloc O) := by
  refine ⟨h.keep (S := fun _ => True) ((Keep.refl _ w).alloc _) (fun _ _ _ _ => trivial) (Same.ext own w 0), ?_, (Same.ext own w 0).outG T, (Keep.refl _ w).alloc _⟩
  unfold OutG
  rw [ext_ge (Nat.le_refl _)]
  omega

theorem GGo.mem {own : Nat → Nat} {T : Nat} {w w' : World} {xb : Nat} {x : Gm} {N : Nat} (h : GGo own T w xb x N w') {b : Nat} {o : Obj} (hb : w.heap[b]? = some o) (hO : OutG own T b) : w'.heap[b]? = some o := by
  obtain ⟨own', _, _, hk⟩ := h
  exact hk.get hb hO

theorem tdiv8 {B : Int} (h1 : -9223372036854775808 ≤ B) (h2 : B ≤ 9223372036854775807) : -9223372036854775808 ≤ B.tdiv 8 ∧ B.tdiv 8 ≤ 9223372036854775807 := by
  by_cases h : 0 ≤ B
  · rw [Int.tdiv_eq_ediv_of_nonneg h]; omega
  · have e : B.tdiv 8 = -((-B).tdiv 8) := by rw [Int.neg_tdiv, Int.neg_neg]
    rw [e, Int.tdiv_eq_ediv_of_nonneg (by omega)]
    omega

end Go.Proofs.Ytjhifhoniimfgaa

