import Derived.Test.YtjhifhoniimfgaaGreatG10
import Derived.Test.YtjhifhoniimfgaaGreatG14
import Derived.Maps.AppendAt
import Derived.Test.YtjhifhoniimfgaaGreatG01
import Derived.Conc.LoneCalls
import Derived.Conc.LoneSelect
import Derived.Conc.EventLaws
import Derived.KernelRfl
import Derived.Laws.Rows
/-
  The document's open orders of an account: those of its book that are not gone and end later.
-/
namespace Go.Proofs.YtjhifhoniimfgaaGreat
open Go.RowKit

def Ent.cells (x : Ent) : List Value := [.int .i64 x.order, .int .i64 x.side, .int .i64 x.price, .int .i64 x.qty, .int .i64 x.frm, .int .i64 x.till, .bool x.gone]

def entFlat : List Ent → List Value
  | [] => []
  | x :: r => x.cells ++ entFlat r

theorem entFlat_len : ∀ l : List Ent, (entFlat l).length = l.length * 7
  | [] => rfl
  | x :: r => by simp [entFlat, Ent.cells, entFlat_len r]; omega

theorem entFlat_append : ∀ (l : List Ent) (x : Ent), entFlat (l ++ [x]) = entFlat l ++ x.cells
  | [], x => by simp [entFlat]
  | y :: r, x => by simp [entFlat, entFlat_append r x]

/-- The list at a holds these m entries. -/
def EntsAt (w : World) (a : Option Addr) (m : Nat) (e : Nat → Ent) : Prop :=
  m = 0 ∨ ∃ b off, a = some ⟨b, off, none⟩ ∧ b < w.heap.size ∧ ∀ i, i < m → ∀ (j : Nat) (v : Value), (e i).cells[j]? = some v → w.cell? ⟨b, off + i * 7 + j, none⟩ = some v

/-- The open ones of the first j. -/
def openOf (e : Nat → Ent) (time : Int) (j : Nat) : List Ent := ((List.range j).map e).filter (isOpen time)

theorem openOf_succ (e : Nat → Ent) (time : Int) (j : Nat) : openOf e time (j + 1) = openOf e time j ++ (if isOpen time (e j) then [e j] else []) := by
  unfold openOf
  rw [List.range_succ, List.map_append, List.filter_append]
  congr 1
  by_cases h : isOpen time (e j) <;> simp [List.filter, h]

theorem openOf_len (e : Nat → Ent) (time : Int) (j : Nat) : (openOf e time j).length ≤ j := by
  unfold openOf
  have := List.length_filter_le (isOpen time) ((List.range j).map e)
  simpa using this

theorem info_entry : ∃ i, Tryz.prog.info? 160 = some i ∧ i.bytes = 56 ∧ i.size = 7 ∧ i.zero = some (.agg #[.int .i64 0, .int .i64 0, .int .i64 0, .int .i64 0, .int .i64 0, .int .i64 0, .bool false]) := by
  have e : (Tryz.prog.info? 160).map (fun i => (i.bytes, i.size, i.zero)) = some (56, 7, some (.agg #[.int .i64 0, .int .i64 0, .int .i64 0, .int .i64 0, .int .i64 0, .int .i64 0, .bool false])) := by kernel_rfl
  obtain ⟨i, hi, he⟩ := Option.map_eq_some_iff.1 e
  simp only [Prod.mk.injEq] at he
  exact ⟨i, hi, he.1, he.2.1, he.2.2⟩

theorem cell_ent_at (w : World) (x : Ent) (t : TypeId) (n : Nat) (hn : n = w.heap.size) :
    ∀ j u, x.cells[j]? = some u → (w.alloc (.cells #[.int .i64 x.order, .int .i64 x.side, .int .i64 x.price, .int .i64 x.qty, .int .i64 x.frm, .int .i64 x.till, .bool x.gone] t)).cell? ((⟨n, 0, none⟩ : Addr).add j) = some u := by
  subst hn
  intro j u hj
  have hb := heap_alloc_new w (.cells #[.int .i64 x.order, .int .i64 x.side, .int .i64 x.price, .int .i64 x.qty, .int .i64 x.frm, .int .i64 x.till, .bool x.gone] t)
  rw [Addr.add_lit, Nat.zero_add]
  exact cellAt hb (by simpa [Ent.cells] using hj)

theorem ent_at {w : World} {b o : Nat} {x : Ent} (h : ∀ (j : Nat) (v : Value), x.cells[j]? = some v → w.cell? ⟨b, o + j, none⟩ = some v) :
    w.cell? ⟨b, o, none⟩ = some (.int .i64 x.order) ∧ w.cell? ⟨b, o + 1, none⟩ = some (.int .i64 x.side) ∧ w.cell? ⟨b, o + 2, none⟩ = some (.int .i64 x.price) ∧ w.cell? ⟨b, o + 3, none⟩ = some (.int .i64 x.qty) ∧
    w.cell? ⟨b, o + 4, none⟩ = some (.int .i64 x.frm) ∧ w.cell? ⟨b, o + 5, none⟩ = some (.int .i64 x.till) ∧ w.cell? ⟨b, o + 6, none⟩ = some (.bool x.gone) :=
  ⟨h 0 _ rfl, h 1 _ rfl, h 2 _ rfl, h 3 _ rfl, h 4 _ rfl, h 5 _ rfl, h 6 _ rfl⟩

set_option maxRecDepth 100000 in
set_option maxHeartbeats 1000000 in
theorem open_any (rb k m cap : Nat) (hk : k < 4) (a : Option Addr) (time : Int) (e : Nat → Ent) (w : World) (hm : m ≤ 1099511627776)
    (hc : w.cell? ⟨rb, 18 + k, none⟩ = some (.slice a m cap)) (ht : w.cell? ⟨rb, 6, none⟩ = some (.int .i64 time)) (he : EntsAt w a m e) :
    Calls Tryz.prog 76 #[.pointer (some ⟨rb, 0, none⟩), .int .i64 k] w
      fun r w' => ∃ v, r = .returned v ∧ w'.ownsRow w.heap.size 160 7 v (openOf e time m).length (entFlat (openOf e time m)) ∧ Below w.heap.size w w' := by
  have hrb := World.block_lt_of_cell? w _ hc
  have HE : Hid (EntsAt w a m e) := he
  have hk4 : (k : Int) < 4 := by omega
  clear he
  obtain ⟨it, ht1, ht2, ht3, ht4⟩ := info_entry
  have HT : Hid (Tryz.prog.info? 160 = some it ∧ it.bytes = 56 ∧ it.size = 7 ∧ it.zero = some (.agg #[.int .i64 0, .int .i64 0, .int .i64 0, .int .i64 0, .int .i64 0, .int .i64 0, .bool false])) := ⟨ht1, ht2, ht3, ht4⟩
  clear ht1 ht2 ht3 ht4
  go_enter Tryz.func76, Tryz.ntmps76
  go_wp2
  go_loopw [5, 6] (fun l i wr => ∃ j : Nat, j ≤ m ∧ i = .int .i64 j ∧ wr.ownsRow w.heap.size 160 7 l (openOf e time j).length (entFlat (openOf e time j)) ∧ Below w.heap.size w wr) (fun _ i _ => m - (intOf i).toNat)
  case atStart => exact ⟨0, Nat.zero_le _, rfl, World.ownsRow_nil _ _ _ _, Below.refl _ _⟩
  case round =>
    obtain ⟨j, hj, rfl, hown, hb⟩ := hrel
    have c1 : wr.cell? ⟨rb, 18 + k, none⟩ = some (.slice a m cap) := by rw [hb.cell hrb]; exact hc
    have c2 : wr.cell? ⟨rb, 6, none⟩ = some (.int .i64 time) := by rw [hb.cell hrb]; exact ht
    have HB : Hid (Below w.heap.size w wr) := hb
    have HO : Hid (wr.ownsRow w.heap.size 160 7 u5 (openOf e time j).length (entFlat (openOf e time j))) := hown
    clear hown
    by_cases hlt : j < m
    · have hlt' : (j : Int) < (m : Int) := by omega
      rcases HE.out with h0 | ⟨b, off, rfl, hbw, hents⟩
      · omega
      have hcs := hents j hlt
      obtain ⟨x, hx⟩ : ∃ x, x = e j := ⟨_, rfl⟩
      rw [← hx] at hcs
      obtain ⟨d0, d1, d2, d3, d4, d5, d6⟩ := ent_at hcs
      rw [← hb.cell (p := ⟨b, _, none⟩) hbw] at d0 d1 d2 d3 d4 d5 d6
      have hsz := hb.size
      have hln := openOf_len e time j
      have hsucc := openOf_succ e time j
      rw [← hx] at hsucc
      have HSU : Hid (openOf e time (j + 1) = openOf e time j ++ (if isOpen time x then [x] else [])) := hsucc
      clear hcs hents hx hsucc hc ht hb
      have hrb2 : rb < wr.heap.size := by omega
      generalize hos : openOf e time j = os at *
      have HOS : Hid (openOf e time j = os) := hos
      clear hos
      cases hg : x.gone
      · by_cases htt : time < x.till
        · have HN : Hid (openOf e time (j + 1) = os ++ [x]) := by
            show openOf e time (j + 1) = os ++ [x]
            rw [HSU.out, if_pos (by simp [isOpen, hg, htt])]
          have hcell := fun W n hn => cell_ent_at W x 160 n hn
          rw [hg] at hcell
          go_wp2
          go_quiet (fail)
          go_wp2_with (at_builtin; go_must (refine wpList_append_own_at _ rfl _ _ 111 rfl w.heap.size 160 it (.agg #[.int .i64 0, .int .i64 0, .int .i64 0, .int .i64 0, .int .i64 0, .int .i64 0, .bool false]) 7 56 Tryz.underlying111 HT.out.1 HT.out.2.2.2 HT.out.2.2.1 HT.out.2.1 rfl (by decide) u5 os.length (entFlat os) rfl ((HO.out.alloc _).alloc _) ⟨wr.heap.size + 1, 0, none⟩ 1 1 x.cells rfl rfl (hcell _ _ (by simp)) (fun y hy => by simp [Ent.cells] at hy; rcases hy with rfl | rfl | rfl | rfl | rfl | rfl | rfl <;> rfl) (by unfold maxLen; omega) (by omega) (by simp; omega) ?_))
          intro v3 w3 hown3 hg3 _ hb3
          have HO3 : Hid (w3.ownsRow w.heap.size 160 7 v3 (openOf e time (j + 1)).length (entFlat (openOf e time (j + 1)))) := by
            show w3.ownsRow _ _ _ _ _ _
            rw [HN.out, entFlat_append, List.length_append]
            exact hown3
          have HB4 : Hid (Below w.heap.size w w3) := by
            have q1 : Below w.heap.size w (((wr.alloc (.cells #[.int .i64 x.order, .int .i64 x.side, .int .i64 x.price, .int .i64 x.qty, .int .i64 x.frm, .int .i64 x.till, .bool false] 160)).drewN nq).alloc (.cells #[.int .i64 x.order, .int .i64 x.side, .int .i64 x.price, .int .i64 x.qty, .int .i64 x.frm, .int .i64 x.till, .bool false] 160)) :=
              (below_drewN (HB.out.alloc hsz _) nq).alloc (by simp; omega) _
            exact q1.grown hg3 (by simp; omega) (fun q hq => (HO.out.lt q hq).1)
          clear hown3 hg3 hb3 hcell
          go_wp2
          go_roundw
          case rel => exact ⟨j + 1, by omega, by go_num, HO3.out, HB4.out⟩
          case measure => simp [intOf]; omega
        · have HN : Hid (openOf e time (j + 1) = os) := by
            show openOf e time (j + 1) = os
            rw [HSU.out, if_neg (by simp [isOpen, htt]), List.append_nil]
          have htt2 : decide (time < x.till) = false := decide_eq_false htt
          go_wp2
          go_quiet (fail)
          go_wp2
          go_roundw
          case rel => exact ⟨j + 1, by omega, by go_num, by rw [HN.out]; exact HO.out.alloc _, below_drewN (HB.out.alloc hsz _) nq⟩
          case measure => simp [intOf]; omega
      · have HN : Hid (openOf e time (j + 1) = os) := by
          show openOf e time (j + 1) = os
          rw [HSU.out, if_neg (by simp [isOpen, hg]), List.append_nil]
        go_wp2
        go_quiet (fail)
        go_wp2
        go_roundw
        case rel => exact ⟨j + 1, by omega, by go_num, by rw [HN.out]; exact HO.out.alloc _, below_drewN (HB.out.alloc hsz _) nq⟩
        case measure => simp [intOf]; omega
    · have hge : ¬ (j : Int) < (m : Int) := by omega
      obtain rfl : j = m := by omega
      clear hc ht hb
      go_wp2
      go_ret
      exact ⟨_, rfl, HO.out, HB.out⟩

end Go.Proofs.YtjhifhoniimfgaaGreat

/-
  The document's numbers: bytes read as a number, bytes that are all 0, sums as long as they may be.
-/
namespace Go.Proofs.YtjhifhoniimfgaaGreat
open Go.RowKit

set_option maxHeartbeats 400000 in
theorem number_any (s : ByteArray) (w : World) (hs : s.size ≤ maxLen) :
    Calls Tryz.prog 68 #[.string s] w fun e w' => e = .returned (.tuple #[.int .i64 (numV s), .bool (numOk s)]) ∧ w = w' := by
  unfold maxLen at hs
  go_enter Tryz.func68, Tryz.ntmps68
  go_wp2
  go_loop [4, 5] (fun n i => ∃ k : Nat, k ≤ s.size ∧ i = .int .i64 k ∧ n = .int .i64 (val (s.data.toList.take k) : Nat) ∧ val (s.data.toList.take k) ≤ 9223372036854775807) (fun _ i => s.size - (intOf i).toNat)
  case atStart => exact ⟨0, Nat.zero_le _, rfl, rfl, by simp [val]⟩
  case round =>
    obtain ⟨k, hk, rfl, rfl, hv⟩ := hrel
    by_cases hlt : k < s.size
    · have hsn : val (s.data.toList.take (k + 1)) = 256 * val (s.data.toList.take k) + s[k].toNat := by rw [take_snoc s k hlt]; exact val_snoc _ _
      have HS : Hid (val (s.data.toList.take (k + 1)) = 256 * val (s.data.toList.take k) + s[k].toNat) := hsn
      have ht := val_too s k hlt
      have HT : Hid (256 * val (s.data.toList.take k) ≤ val s.data.toList) := ht
      clear hsn ht
      generalize val (s.data.toList.take k) = x at *
      have hlt' : (k : Int) < (s.size : Int) := by omega
      have hc : s[k].toNat < 256 := UInt8.toNat_lt s[k]
      by_cases hbig : 36028797018963967 < x
      · have hbig' : (36028797018963967 : Int) < (x : Int) := by omega
        have hno : numOk s = false := by
          unfold numOk
          have := HT.out
          simp only [decide_eq_false_iff_not]
          omega
        have HN : Hid (numOk s = false) := hno
        clear hno
        go_wp2
        go_ret2
        exact ⟨by simp [numV, HN.out], rfl⟩
      · have hbig' : (x : Int) ≤ 36028797018963967 := by omega
        go_wp2
        go_round
        case rel => exact ⟨k + 1, by omega, by go_num, by rw [HS.out]; go_num, by rw [HS.out]; omega⟩
        case measure => simp [intOf]; omega
    · have hk2 : k = s.size := by omega
      have hall : s.data.toList.take k = s.data.toList := List.take_of_length_le (by simp; omega)
      rw [hall] at hv ⊢
      have hyes : numOk s = true := by unfold numOk; simpa using hv
      have HN : Hid (numOk s = true) := hyes
      have hge : ¬ (k : Int) < (s.size : Int) := by omega
      clear hyes hall hv hk2
      go_wp2
      go_ret2
      exact ⟨by simp [numV, HN.out], rfl⟩

set_option maxHeartbeats 400000 in
theorem zero_any (s : ByteArray) (w : World) (hs : s.size ≤ maxLen) :
    Calls Tryz.prog 75 #[.string s] w fun e w' => e = .returned (.bool (zeroB s)) ∧ w = w' := by
  unfold maxLen at hs
  go_enter Tryz.func75, Tryz.ntmps75
  go_wp2
  go_loop [3] (fun i => ∃ k : Nat, k ≤ s.size ∧ i = .int .i64 k ∧ (s.data.toList.take k).all (· == 0) = true) (fun i => s.size - (intOf i).toNat)
  case atStart => exact ⟨0, Nat.zero_le _, rfl, rfl⟩
  case round =>
    obtain ⟨k, hk, rfl, hv⟩ := hrel
    have HV : Hid ((s.data.toList.take k).all (· == 0) = true) := hv
    clear hv
    by_cases hlt : k < s.size
    · have hlt' : (k : Int) < (s.size : Int) := by omega
      by_cases hz : s[k] = 0
      · have hn : ((s[k].toNat : Int) != 0) = false := by simp [hz]
        have HS : Hid ((s.data.toList.take (k + 1)).all (· == 0) = true) := by
          show _ = _
          rw [take_snoc s k hlt, List.all_append, HV.out]; simp [hz]
        have HZ : Hid (s[k] = 0) := hz
        clear hz
        go_wp2
        go_round
        case rel => exact ⟨k + 1, by omega, by go_num, HS.out⟩
        case measure => simp [intOf]; omega
      · have hn : ((s[k].toNat : Int) != 0) = true := by
          simp only [bne_iff_ne, ne_eq]
          intro e
          exact hz (UInt8.toNat_inj.1 (by simpa using e))
        have HN : Hid (zeroB s = false) := by
          show _ = _
          unfold zeroB
          have hl : k < s.data.toList.length := by simpa using hlt
          rw [List.all_eq_false]
          exact ⟨s.data.toList[k], List.getElem_mem hl, by simp; exact hz⟩
        have HZ : Hid (¬ s[k] = 0) := hz
        clear hz
        go_wp2
        go_ret
        exact ⟨by rw [HN.out]; rfl, rfl⟩
    · have HN : Hid (zeroB s = true) := by
        have := HV.out
        rw [List.take_of_length_le (by simp; omega)] at this
        exact this
      have hge : ¬ (k : Int) < (s.size : Int) := by omega
      go_wp2
      go_ret
      exact ⟨by rw [HN.out]; rfl, rfl⟩

set_option maxHeartbeats 400000 in
theorem too_any (a b : Int) (w : World) (ha : 0 ≤ a) (ha2 : a ≤ 9223372036854775807) (hb : 0 ≤ b) (hb2 : b ≤ 9223372036854775807) :
    Calls Tryz.prog 77 #[.int .i64 a, .int .i64 b] w fun e w' => e = .returned (.tuple #[.int .i64 (tooV a b), .bool (tooB a b)]) ∧ w = w' := by
  by_cases h : 9223372036854775807 - a < b
  · have HV : Hid (tooV a b = 0) := if_pos h
    have HB : Hid (tooB a b = true) := decide_eq_true h
    go_enter Tryz.func77, Tryz.ntmps77
    go_wp2
    go_ret2
    exact ⟨by rw [HV.out, HB.out]; rfl, rfl⟩
  · have HV : Hid (tooV a b = a + b) := if_neg h
    have HB : Hid (tooB a b = false) := decide_eq_false h
    have h2 : a + b ≤ 9223372036854775807 := by omega
    go_enter Tryz.func77, Tryz.ntmps77
    go_wp2
    go_ret2
    exact ⟨by rw [HV.out, HB.out]; rfl, rfl⟩

end Go.Proofs.YtjhifhoniimfgaaGreat

/-
  The watch of the program: ticks, steps, checks; the channel that is closed when the gate is shut.
-/
namespace Go.Proofs.YtjhifhoniimfgaaGreat
open Go.RowKit Go.Conc

/-- The watch at block wb: how many misses shut the gate; how many there are; was there a tick, a step since the last check? is the channel closed? -/
structure WatchAt (w : World) (wb cb : Nat) (ch mi : Int) (ti st sh : Bool) : Prop where
  watch : w.heap[wb]? = some (.cells #[.int .i64 ch, .int .i64 mi, .bool ti, .bool st, .chan (some cb)] 128 (0, 0))
  chan : w.heap[cb]? = some (.chan 0 #[] sh 0 0 false)

theorem WatchAt.keep {S : Nat → Prop} {w w' : World} {wb cb : Nat} {ch mi : Int} {ti st sh : Bool} (h : WatchAt w wb cb ch mi ti st sh) (hk : Keep S w w') (h1 : S wb) (h2 : S cb) : WatchAt w' wb cb ch mi ti st sh :=
  ⟨hk.get h.watch h1, hk.get h.chan h2⟩

theorem WatchAt.ne {w : World} {wb cb : Nat} {ch mi : Int} {ti st sh : Bool} (h : WatchAt w wb cb ch mi ti st sh) : wb ≠ cb := by
  intro e
  have h1 := h.watch
  rw [e, h.chan] at h1
  cases h1

set_option maxRecDepth 100000 in
theorem isShut_no {w : World} {wb cb : Nat} {ch mi : Int} {ti st : Bool} (h : WatchAt w wb cb ch mi ti st false) :
    Calls Tryz.prog 39 #[.pointer (some ⟨wb, 0, none⟩)] w fun e w' => e = .returned (.bool false) ∧ w = w' := by
  have c3 : w.cell? ⟨wb, 4, none⟩ = some (.chan (some cb)) := cellAt (i := 4) h.watch rfl
  have hc := h.chan
  refine calls_of_loneTo fun cs => ?_
  have e : Frame.enter Tryz.prog 39 #[.pointer (some ⟨wb, 0, none⟩)] .normal = (base 39).at ⟨#[.pointer (some ⟨wb, 0, none⟩), undef, undef, undef, undef, undef, undef, undef, undef, undef], []⟩ [.code (Tryz.f39.body.getD .skip)] := by
    simp [Frame.enter, Frame.at, Tryz.func39, base, Tryz.f39]
  rw [e]
  refine LoneTo.goes (n := 40) ?_
  simp only [Tryz.f39, Option.getD_some]
  s_c stepG_seq
  s_reg
  s_op
  s_c stepG_region_end
  s_c stepG_seq
  s_reg
  s_op
  s_op
  s_op
  s_op
  s_c stepG_region_end
  s_c stepG_seq
  s_reg
  s_stop
  refine LoneTo.step (step_lone_select_default (c := cb) (z := .agg #[]) (cap := 0) (s := 0) (r := 0) (tm := false) (stepG_comm (cases := #[rcase cb (.agg #[])]) (blocking := false) (shape := .select) (w' := w) rfl rfl (by decide) (by simp [go_sem, execOp, rcase, Act.eval])) hc) ?_
  rw [Frame.finish_at]
  walk_nrm
  refine LoneTo.goes (n := 20) ?_
  s_op
  s_op
  s_c stepG_region_end
  s_c stepG_block
  s_cond false
  s_c stepG_seq
  s_reg
  s_op
  s_c stepG_region_end
  s_c stepG_ret'
  s_stop
  exact LoneTo.done ⟨.returned (.bool false), _, rfl, ⟨rfl, rfl⟩, rfl, rfl, rfl, rfl, _, Tryz.func39, by simp [results, Tryz.f39, Frame.at]⟩

set_option maxRecDepth 100000 in
theorem isShut_yes {w : World} {wb cb : Nat} {ch mi : Int} {ti st : Bool} (h : WatchAt w wb cb ch mi ti st true) :
    Calls Tryz.prog 39 #[.pointer (some ⟨wb, 0, none⟩)] w fun e w' => e = .returned (.bool true) ∧ w = w' := by
  have c3 : w.cell? ⟨wb, 4, none⟩ = some (.chan (some cb)) := cellAt (i := 4) h.watch rfl
  have hc := h.chan
  refine calls_of_loneTo fun cs => ?_
  have e : Frame.enter Tryz.prog 39 #[.pointer (some ⟨wb, 0, none⟩)] .normal = (base 39).at ⟨#[.pointer (some ⟨wb, 0, none⟩), undef, undef, undef, undef, undef, undef, undef, undef, undef], []⟩ [.code (Tryz.f39.body.getD .skip)] := by
    simp [Frame.enter, Frame.at, Tryz.func39, base, Tryz.f39]
  rw [e]
  refine LoneTo.goes (n := 40) ?_
  simp only [Tryz.f39, Option.getD_some]
  s_c stepG_seq
  s_reg
  s_op
  s_c stepG_region_end
  s_c stepG_seq
  s_reg
  s_op
  s_op
  s_op
  s_op
  s_c stepG_region_end
  s_c stepG_seq
  s_reg
  s_stop
  refine LoneTo.step (step_lone_select_recv_shut (c := cb) (z := .agg #[]) (cap := 0) (s := 0) (r := 0) (tm := false) (stepG_comm (cases := #[rcase cb (.agg #[])]) (blocking := false) (shape := .select) (w' := w) rfl rfl (by decide) (by simp [go_sem, execOp, rcase, Act.eval])) hc) ?_
  rw [Frame.finish_at]
  walk_nrm
  refine LoneTo.goes (n := 20) ?_
  s_op
  s_op
  s_c stepG_region_end
  s_c stepG_block
  s_cond true
  s_c stepG_seq
  s_reg
  s_op
  s_c stepG_region_end
  s_c stepG_ret'
  s_stop
  exact LoneTo.done ⟨.returned (.bool true), _, rfl, ⟨rfl, rfl⟩, rfl, rfl, rfl, rfl, _, Tryz.func39, by simp [results, Tryz.f39, Frame.at]⟩

theorem isShut_any {w : World} {wb cb : Nat} {ch mi : Int} {ti st sh : Bool} (h : WatchAt w wb cb ch mi ti st sh) :
    Calls Tryz.prog 39 #[.pointer (some ⟨wb, 0, none⟩)] w fun e w' => e = .returned (.bool sh) ∧ w = w' := by
  cases sh
  · exact isShut_no h
  · exact isShut_yes h

set_option maxHeartbeats 400000 in
theorem ticked_any {w : World} {wb cb : Nat} {ch mi : Int} {ti st sh : Bool} (h : WatchAt w wb cb ch mi ti st sh) :
    Calls Tryz.prog 58 #[.pointer (some ⟨wb, 0, none⟩)] w fun e w' => e = .returned (.tuple #[]) ∧ WatchAt w' wb cb ch mi true st sh ∧ Keep (fun b => b ≠ wb) w w' := by
  have c := cellAt (i := 2) h.watch rfl
  have z := frozenAt (i := 2) h.watch
  have HF : Hid (WatchAt (w.setCell ⟨wb, 2, none⟩ (.bool true)) wb cb ch mi true st sh) :=
    ⟨by rw [heap_setCell_at _ h.watch]; simp, by rw [Below.heap_setCell _ _ _ _ (Ne.symm h.ne)]; exact h.chan⟩
  clear h
  go_enter Tryz.func58, Tryz.ntmps58
  go_wp2
  go_end0
  exact ⟨rfl, HF.out, (Keep.refl _ w).setCell _ (fun _ h => h rfl) _⟩

set_option maxHeartbeats 400000 in
theorem stepped_any {w : World} {wb cb : Nat} {ch mi : Int} {ti st sh : Bool} (h : WatchAt w wb cb ch mi ti st sh) :
    Calls Tryz.prog 43 #[.pointer (some ⟨wb, 0, none⟩)] w fun e w' => e = .returned (.tuple #[]) ∧ WatchAt w' wb cb ch mi ti true sh ∧ Keep (fun b => b ≠ wb) w w' := by
  have c := cellAt (i := 3) h.watch rfl
  have z := frozenAt (i := 3) h.watch
  have HF : Hid (WatchAt (w.setCell ⟨wb, 3, none⟩ (.bool true)) wb cb ch mi ti true sh) :=
    ⟨by rw [heap_setCell_at _ h.watch]; simp, by rw [Below.heap_setCell _ _ _ _ (Ne.symm h.ne)]; exact h.chan⟩
  clear h
  go_enter Tryz.func43, Tryz.ntmps43
  go_wp2
  go_end0
  exact ⟨rfl, HF.out, (Keep.refl _ w).setCell _ (fun _ h => h rfl) _⟩

set_option maxHeartbeats 400000 in
theorem count_any {w : World} {wb cb : Nat} {ch mi : Int} {ti st sh : Bool} (h : WatchAt w wb cb ch mi ti st sh) (h0 : 0 ≤ mi) (h1 : mi < 9223372036854775807) :
    Calls Tryz.prog 71 #[.pointer (some ⟨wb, 0, none⟩)] w fun e w' => e = .returned (.tuple #[]) ∧ WatchAt w' wb cb ch (if st then 0 else mi + 1) ti st sh ∧ Keep (fun b => b ≠ wb) w w' := by
  have c := cellAt (i := 3) h.watch rfl
  have c1 := cellAt (i := 1) h.watch rfl
  have z := frozenAt (i := 1) h.watch
  have HF : Hid (∀ x, WatchAt (w.setCell ⟨wb, 1, none⟩ (.int .i64 x)) wb cb ch x ti st sh) := fun x =>
    ⟨by rw [heap_setCell_at _ h.watch]; simp, by rw [Below.heap_setCell _ _ _ _ (Ne.symm h.ne)]; exact h.chan⟩
  clear h
  cases st
  · go_enter Tryz.func71, Tryz.ntmps71
    go_wp2
    go_end0
    exact ⟨rfl, HF.out _, (Keep.refl _ w).setCell _ (fun _ h => h rfl) _⟩
  · go_enter Tryz.func71, Tryz.ntmps71
    go_wp2
    go_end0
    exact ⟨rfl, HF.out _, (Keep.refl _ w).setCell _ (fun _ h => h rfl) _⟩

set_option maxHeartbeats 400000 in
theorem look_not {w : World} {wb cb : Nat} {ch mi : Int} {ti st sh : Bool} (h : WatchAt w wb cb ch mi ti st sh) (hn : ti = false ∨ sh = true) :
    Calls Tryz.prog 59 #[.pointer (some ⟨wb, 0, none⟩)] w fun e w' => e = .returned (.tuple #[]) ∧ w = w' := by
  have c := cellAt (i := 2) h.watch rfl
  have hs := isShut_any h
  clear h
  cases ti
  · go_enter Tryz.func59, Tryz.ntmps59
    go_wp2_with fail
    refine bodyPost_ret (results_none rfl _ _ _) rfl ?_
    exact ⟨rfl, rfl⟩
  · obtain rfl : sh = true := by simpa using hn
    go_enter Tryz.func59, Tryz.ntmps59
    go_wp2_with fail
    refine hs.mono ?_
    rintro e w' ⟨rfl, rfl⟩
    go_wp2_with fail
    refine bodyPost_ret (results_none rfl _ _ _) rfl ?_
    exact ⟨rfl, rfl⟩

theorem look_end {w : World} {wb cb : Nat} {ch mi : Int} {ti st sh : Bool} (h : WatchAt w wb cb ch mi ti st sh) :
    WatchAt ((w.setCell ⟨wb, 2, none⟩ (.bool false)).setCell ⟨wb, 3, none⟩ (.bool false)) wb cb ch mi false false sh ∧ Keep (fun b => b ≠ wb) w ((w.setCell ⟨wb, 2, none⟩ (.bool false)).setCell ⟨wb, 3, none⟩ (.bool false)) :=
  ⟨⟨by rw [heap_setCell_at _ (heap_setCell_at _ h.watch)]; simp, by rw [Below.heap_setCell _ _ _ _ (Ne.symm h.ne), Below.heap_setCell _ _ _ _ (Ne.symm h.ne)]; exact h.chan⟩,
    ((Keep.refl _ w).setCell _ (fun _ h => h rfl) _).setCell _ (fun _ h => h rfl) _⟩

theorem shut_end {w : World} {wb cb : Nat} {ch mi : Int} {ti st : Bool} (h : WatchAt w wb cb ch mi ti st false) :
    WatchAt { w with heap := w.heap.setIfInBounds cb (.chan 0 #[] true 0 0 false) } wb cb ch mi ti st true ∧ Keep (fun b => b ≠ wb ∧ b ≠ cb) w { w with heap := w.heap.setIfInBounds cb (.chan 0 #[] true 0 0 false) } := by
  have hl := block_lt h.chan
  refine ⟨⟨?_, ?_⟩, ⟨rfl, rfl, rfl, by simp, fun k hk hs => ?_⟩⟩
  · show (w.heap.setIfInBounds cb _)[wb]? = _
    rw [Array.getElem?_setIfInBounds, if_neg (Ne.symm h.ne)]
    exact h.watch
  · show (w.heap.setIfInBounds cb _)[cb]? = _
    rw [Array.getElem?_setIfInBounds, if_pos rfl, if_pos hl]
  · show (w.heap.setIfInBounds cb _)[k]? = _
    rw [Array.getElem?_setIfInBounds, if_neg (Ne.symm hs.2)]

set_option maxHeartbeats 1000000 in
theorem look_check {w : World} {wb cb : Nat} {ch mi : Int} {st : Bool} (h : WatchAt w wb cb ch mi true st false) (h0 : 0 ≤ mi) (h1 : mi < 9223372036854775807) :
    Calls Tryz.prog 59 #[.pointer (some ⟨wb, 0, none⟩)] w fun e w' => e = .returned (.tuple #[]) ∧
      WatchAt w' wb cb ch (if st then 0 else mi + 1) false false (decide ((if st then 0 else mi + 1) = ch)) ∧ Keep (fun b => b ≠ wb ∧ b ≠ cb) w w' := by
  have c := cellAt (i := 2) h.watch rfl
  have hs := isShut_any h
  have hc := count_any h h0 h1
  clear h
  generalize (if st then 0 else mi + 1) = M at *
  go_enter Tryz.func59, Tryz.ntmps59
  go_wp2_with fail
  refine hs.mono ?_
  rintro e w' ⟨rfl, rfl⟩
  go_wp2_with fail
  refine hc.mono ?_
  rintro e w1 ⟨rfl, hw1, hk1⟩
  have d0 := cellAt (i := 0) hw1.watch rfl
  have d1 := cellAt (i := 1) hw1.watch rfl
  have d2 := cellAt (i := 2) hw1.watch rfl
  have d3 := cellAt (i := 3) hw1.watch rfl
  have d4 := cellAt (i := 4) hw1.watch rfl
  have z2 := frozenAt (i := 2) hw1.watch
  have z3 := frozenAt (i := 3) hw1.watch
  obtain ⟨q1, q2⟩ := look_end hw1
  have q3 : ∀ n, WatchAt (((w1.setCell ⟨wb, 2, none⟩ (.bool false)).setCell ⟨wb, 3, none⟩ (.bool false)).drewN n) wb cb ch M false false false := fun n => ⟨q1.watch, q1.chan⟩
  have HQ : Hid (∀ n, WatchAt (((w1.setCell ⟨wb, 2, none⟩ (.bool false)).setCell ⟨wb, 3, none⟩ (.bool false)).drewN n) wb cb ch M false false false) := q3
  have HK : Hid (∀ n, Keep (fun b => b ≠ wb) w (((w1.setCell ⟨wb, 2, none⟩ (.bool false)).setCell ⟨wb, 3, none⟩ (.bool false)).drewN n)) := fun n => (hk1.trans q2).drewN n
  have hrun := fun n ats ty => run_close_open (P := Tryz.prog) ats ty (q3 n).chan
  clear q1 q2 hw1 hk1 q3
  by_cases hM : M = ch
  · have hB : (M == ch) = true := by simpa using hM
    have HD : Hid (decide (M = ch) = true) := decide_eq_true hM
    clear hM
    go_wp2
    go_quiet (fail)
    go_wp2
    go_end0
    obtain ⟨r1, r2⟩ := shut_end (HQ.out nq)
    rw [HD.out]
    exact ⟨rfl, r1, ((HK.out nq).mono (fun b _ hb => hb.1)).trans r2⟩
  · have hB : (M == ch) = false := by simpa using hM
    have HD : Hid (decide (M = ch) = false) := decide_eq_false hM
    clear hM
    go_wp2
    go_quiet (fail)
    go_wp2
    go_end0
    rw [HD.out]
    exact ⟨rfl, HQ.out nq, (HK.out nq).mono (fun b _ hb => hb.1)⟩

theorem make_chan (w : World) : (Instr.makeChan 126 (.int .i64 0)).run Tryz.prog w = .ok (.chan (some w.heap.size)) (w.alloc (.chan 0 #[] false 0 0 false)) := by
  have h : (Tryz.prog.info? 144).map (·.bytes) = some 0 := by kernel_rfl
  obtain ⟨i, hi, hb⟩ := Option.map_eq_some_iff.1 h
  simpa using run_makeChan (P := Tryz.prog) (w := w) Tryz.underlying126 hi .i64 0 (by omega) (by rw [hb]; omega)

set_option maxHeartbeats 400000 in
theorem watchNew_any (ch : Int) (w : World) :
    Calls Tryz.prog 34 #[.int .i64 ch] w fun e w' => ∃ wb cb, e = .returned (.pointer (some ⟨wb, 0, none⟩)) ∧ WatchAt w' wb cb ch 0 false false false ∧ Below w.heap.size w w' ∧ w.heap.size ≤ wb ∧ w.heap.size ≤ cb ∧ wb < w'.heap.size ∧ cb < w'.heap.size := by
  have hmk := make_chan
  have HF : Hid (WatchAt ((w.alloc (.chan 0 #[] false 0 0 false)).alloc (.cells #[.int .i64 ch, .int .i64 0, .bool false, .bool false, .chan (some w.heap.size)] 128)) (w.heap.size + 1) w.heap.size ch 0 false false false) := by
    refine ⟨?_, ?_⟩
    · simpa using heap_alloc_new (w.alloc (.chan 0 #[] false 0 0 false)) (.cells #[.int .i64 ch, .int .i64 0, .bool false, .bool false, .chan (some w.heap.size)] 128)
    · rw [Below.heap_alloc _ _ _ (by simp)]; exact heap_alloc_new w _
  go_enter Tryz.func34, Tryz.ntmps34
  go_wp2
  go_ret
  refine ⟨_, _, rfl, HF.out, ((Below.refl _ _).alloc (Nat.le_refl _) _).alloc (by simp) _, by omega, by omega, by simp, by simp; omega⟩

end Go.Proofs.YtjhifhoniimfgaaGreat

