import Derived.Test.YtjhifhoniimfgaaG03
import Derived.Maps.AppendAt
/-
  The heap of open orders: down.
-/
namespace Go.Proofs.Ytjhifhoniimfgaa
open Go.RowKit

theorem child {k i : Nat} (h0 : 0 < k) (h : (k - 1) / 2 = i) : k = 2 * i + 1 ∨ k = 2 * i + 2 := by omega

set_option maxRecDepth 20000 in
set_option maxHeartbeats 2000000 in
theorem down_any (w : World) (eb eo n : Nat) (v : Value) (l : List Nat) (dat : Nat → Odr) (h : HeapAt w v l dat) (hv : w.cell? ⟨eb, eo, none⟩ = some v) (he : v.ownBlock ≠ some eb ∧ eb ∉ l) (hn : n ≤ l.length) (hlen : l.length ≤ 8796093022208)
    (i0 : Nat) (hi0 : i0 < n) (hrem : RemOk (endAt (tillOf dat) l) n i0) :
    Calls Try.prog 88 #[.iface 169 (.pointer (some ⟨eb, eo, none⟩)), .int .i64 i0, .int .i64 n] w fun e w' => ∃ m, e = .returned (.bool m) ∧
      ∃ l', HeapAt w' v l' dat ∧ Shuf l' l n ∧ (m = true → HeapOk (endAt (tillOf dat) l') n) ∧ (m = false → UpOk (endAt (tillOf dat) l') n i0) ∧ Keep (fun b => v.ownBlock ≠ some b ∧ b ∉ l) w w' := by
  have heb := World.block_lt_of_cell? w _ hv
  have hin : (i0 : Int) < (n : Int) := by omega
  go_enter Try.func88, Try.ntmps88
  go_wp2
  go_loopw [7] (fun k wr => ∃ i : Nat, k = .int .i64 i ∧ i0 ≤ i ∧ i < n ∧ ∃ l', HeapAt wr v l' dat ∧ Shuf l' l n ∧ RemOk (endAt (tillOf dat) l') n i ∧ (i ≠ i0 → endAt (tillOf dat) l' ((i - 1) / 2) ≤ endAt (tillOf dat) l' i) ∧ Keep (fun b => v.ownBlock ≠ some b ∧ b ∉ l) w wr) (fun k _ => n - (intOf k).toNat)
  case atStart => exact ⟨i0, rfl, Nat.le_refl _, hi0, l, h, Shuf.refl _ _, hrem, fun h => absurd rfl h, Keep.refl _ _⟩
  case round =>
    obtain ⟨i, rfl, hii, hi, l', h, hsh, hrm, hmv, hk⟩ := hrel
    have hl' : l'.length = l.length := hsh.perm.length_eq
    have hvr : wr.cell? ⟨eb, eo, none⟩ = some v := by rw [World.cell?_of_block (w := w) (hk.block eb heb he)]; exact hv
    have HH : Hid (HeapAt wr v l' dat) := h
    have HS : Hid (Shuf l' l n) := hsh
    have HK : Hid (Keep (fun b => v.ownBlock ≠ some b ∧ b ∉ l) w wr) := hk
    -- what follows where nothing below is less
    have HX : Hid ((∀ k, 0 < k → k < n → (k - 1) / 2 = i → endAt (tillOf dat) l' i ≤ endAt (tillOf dat) l' k) → ∀ q : Nat, ∃ m, Ending.returned (.bool (decide (i0 < i))) = .returned (.bool m) ∧
        ∃ l', HeapAt (wr.drewN q) v l' dat ∧ Shuf l' l n ∧ (m = true → HeapOk (endAt (tillOf dat) l') n) ∧ (m = false → UpOk (endAt (tillOf dat) l') n i0) ∧ Keep (fun b => v.ownBlock ≠ some b ∧ b ∉ l) w (wr.drewN q)) := fun hb q => by
      refine ⟨decide (i0 < i), rfl, l', h.keep ((Keep.refl (fun _ => True) wr).drewN q) (fun _ _ => trivial) (fun _ _ => trivial), hsh, fun hm => ?_, fun hm => ?_, hk.drewN q⟩
      · have hne : i ≠ i0 := by have := of_decide_eq_true hm; omega
        exact down_heap hrm hb (hmv hne)
      · obtain rfl : i = i0 := by have := of_decide_eq_false hm; omega
        exact down_up hrm hb
    -- what follows where j, the least below, is less
    have HY : Hid (∀ j bj bi q w2, j < n → 0 < j → (j - 1) / 2 = i → l'[j]? = some bj → l'[i]? = some bi → (∀ k, 0 < k → k < n → (k - 1) / 2 = i → endAt (tillOf dat) l' j ≤ endAt (tillOf dat) l' k) → (dat bj).till < (dat bi).till →
        HeapAt w2 v (swapL l' i j) dat → Keep (fun b => v.ownBlock ≠ some b ∧ b ∉ l') (wr.drewN q) w2 →
        ∃ i : Nat, Value.int .i64 j = .int .i64 i ∧ i0 ≤ i ∧ i < n ∧ ∃ l', HeapAt w2 v l' dat ∧ Shuf l' l n ∧ RemOk (endAt (tillOf dat) l') n i ∧ (i ≠ i0 → endAt (tillOf dat) l' ((i - 1) / 2) ≤ endAt (tillOf dat) l' i) ∧ Keep (fun b => v.ownBlock ≠ some b ∧ b ∉ l) w w2) := by
      intro j bj bi q w2 hj hj0 hp gj gi hmin hlt hh hkk
      have := down_step hrm hj hj0 hp hmin (by rw [endAt_get gj, endAt_get gi]; exact hlt)
      refine ⟨j, rfl, by omega, hj, swapL l' i j, hh, hsh.swap (by omega) (by omega) (by omega), ?_, fun _ => ?_, ?_⟩
      · rw [endAt_swap _ _ _ _ (by omega) (by omega)]; exact this.1
      · rw [endAt_swap _ _ _ _ (by omega) (by omega)]; exact this.2
      · exact (hk.drewN q).trans (hkk.mono (fun b _ hb => ⟨hb.1, fun hm => hb.2 (hsh.perm.mem_iff.1 hm)⟩))
    clear h hsh hrm hmv hk
    have hm1 := fun W => meth_less eb eo v W
    have hm2 := fun W => meth_swap eb eo v W
    obtain ⟨bi, hbi⟩ : ∃ b, l'[i]? = some b := ⟨_, List.getElem?_eq_getElem (by omega)⟩
    have hiN : (i : Int) < 8796093022208 := by omega
    by_cases hA : n ≤ 2 * i + 1
    · have a1 : (n : Int) ≤ 2 * (i : Int) + 1 := by omega
      go_wp2
      go_ret
      exact HX.out (fun k k0 kn kp => by have := child k0 kp; omega) 0
    have a1 : ¬ ((n : Int) ≤ 2 * (i : Int) + 1) := by omega
    have a2 : ¬ (2 * (i : Int) + 1 < 0) := by omega
    obtain ⟨b1, hb1⟩ : ∃ b, l'[2 * i + 1]? = some b := ⟨_, List.getElem?_eq_getElem (by omega)⟩
    have e1 : ((2 * i + 1 : Nat) : Int) = 2 * (i : Int) + 1 := by omega
    have e2 : ((2 * i + 2 : Nat) : Int) = 2 * (i : Int) + 1 + 1 := by omega
    have hW : ∀ q, HeapAt (wr.drewN q) v l' dat := fun q => HH.out.keep ((Keep.refl (fun _ => True) wr).drewN q) (fun _ _ => trivial) (fun _ _ => trivial)
    have HBI : Hid (l'[i]? = some bi) := hbi
    by_cases hB : 2 * i + 2 < n
    · obtain ⟨b2, hb2⟩ : ∃ b, l'[2 * i + 2]? = some b := ⟨_, List.getElem?_eq_getElem (by omega)⟩
      have c1 : 2 * (i : Int) + 1 + 1 < (n : Int) := by omega
      have k1 := less_any wr v l' dat HH.out (2 * i + 2) (2 * i + 1) b2 b1 hb2 hb1
      rw [e1, e2] at k1
      by_cases hC : (dat b2).till < (dat b1).till
      · have k2 := fun q => less_any (wr.drewN q) v l' dat (hW q) (2 * i + 2) i b2 bi hb2 hbi
        rw [e2] at k2
        have HBJ : Hid (l'[2 * i + 2]? = some b2) := hb2
        have HMIN : Hid (∀ k, 0 < k → k < n → (k - 1) / 2 = i → endAt (tillOf dat) l' (2 * i + 2) ≤ endAt (tillOf dat) l' k) := fun k k0 _ kp => by
          rcases child k0 kp with rfl | rfl
          · rw [endAt_get hb2, endAt_get hb1]; omega
          · exact Int.le_refl _
        clear hb1 hb2 hbi
        by_cases hD : (dat b2).till < (dat bi).till
        · have k3 := fun q => swap_any (wr.drewN q) v l' dat (hW q) i (2 * i + 2) bi b2 HBI.out HBJ.out (by omega)
          rw [e2] at k3
          clear hW
          go_wp2_with fail
          refine k1.mono ?_
          rintro e w1 ⟨rfl, q, rfl⟩
          go_wp2_with fail
          refine (k2 q).mono ?_
          rintro e w2 ⟨rfl, q2, rfl⟩
          go_wp2_with fail
          refine (k3 (q + q2)).mono ?_
          rintro e w9 ⟨rfl, hs1, hs2⟩
          go_wp2_with fail
          go_roundw
          case rel =>
            have hz := HY.out (2 * i + 2) b2 bi (q + q2) w9 (by omega) (by omega) (by omega) HBJ.out HBI.out HMIN.out hD hs1 hs2
            rw [e2] at hz
            exact hz
          case measure => simp [intOf]; omega
        · have hD2 : decide ((dat b2).till < (dat bi).till) = false := decide_eq_false hD
          clear hW
          go_wp2_with fail
          refine k1.mono ?_
          rintro e w1 ⟨rfl, q, rfl⟩
          go_wp2_with fail
          refine (k2 q).mono ?_
          rintro e w2 ⟨rfl, q2, rfl⟩
          go_wp2
          go_ret
          refine HX.out (fun k k0 kn kp => ?_) (q + q2)
          have hz := HMIN.out k k0 kn kp
          rw [endAt_get HBJ.out] at hz
          rw [endAt_get HBI.out]
          omega
      · have hC2 : decide ((dat b2).till < (dat b1).till) = false := decide_eq_false hC
        have k2 := fun q => less_any (wr.drewN q) v l' dat (hW q) (2 * i + 1) i b1 bi hb1 hbi
        rw [e1] at k2
        have HBJ : Hid (l'[2 * i + 1]? = some b1) := hb1
        have HMIN : Hid (∀ k, 0 < k → k < n → (k - 1) / 2 = i → endAt (tillOf dat) l' (2 * i + 1) ≤ endAt (tillOf dat) l' k) := fun k k0 _ kp => by
          rcases child k0 kp with rfl | rfl
          · exact Int.le_refl _
          · rw [endAt_get hb2, endAt_get hb1]; omega
        clear hb1 hb2 hbi
        by_cases hD : (dat b1).till < (dat bi).till
        · have k3 := fun q => swap_any (wr.drewN q) v l' dat (hW q) i (2 * i + 1) bi b1 HBI.out HBJ.out (by omega)
          rw [e1] at k3
          clear hW
          go_wp2_with fail
          refine k1.mono ?_
          rintro e w1 ⟨rfl, q, rfl⟩
          go_wp2_with fail
          refine (k2 q).mono ?_
          rintro e w2 ⟨rfl, q2, rfl⟩
          go_wp2_with fail
          refine (k3 (q + q2)).mono ?_
          rintro e w9 ⟨rfl, hs1, hs2⟩
          go_wp2_with fail
          go_roundw
          case rel =>
            have hz := HY.out (2 * i + 1) b1 bi (q + q2) w9 (by omega) (by omega) (by omega) HBJ.out HBI.out HMIN.out hD hs1 hs2
            rw [e1] at hz
            exact hz
          case measure => simp [intOf]; omega
        · have hD2 : decide ((dat b1).till < (dat bi).till) = false := decide_eq_false hD
          clear hW
          go_wp2_with fail
          refine k1.mono ?_
          rintro e w1 ⟨rfl, q, rfl⟩
          go_wp2_with fail
          refine (k2 q).mono ?_
          rintro e w2 ⟨rfl, q2, rfl⟩
          go_wp2
          go_ret
          refine HX.out (fun k k0 kn kp => ?_) (q + q2)
          have hz := HMIN.out k k0 kn kp
          rw [endAt_get HBJ.out] at hz
          rw [endAt_get HBI.out]
          omega
    · have c1 : ¬ (2 * (i : Int) + 1 + 1 < (n : Int)) := by omega
      have c2 : decide (2 * (i : Int) + 1 + 1 < (n : Int)) = false := decide_eq_false c1
      have k2 := less_any wr v l' dat HH.out (2 * i + 1) i b1 bi hb1 hbi
      rw [e1] at k2
      have HBJ : Hid (l'[2 * i + 1]? = some b1) := hb1
      have HMIN : Hid (∀ k, 0 < k → k < n → (k - 1) / 2 = i → endAt (tillOf dat) l' (2 * i + 1) ≤ endAt (tillOf dat) l' k) := fun k k0 kn kp => by
        rcases child k0 kp with rfl | rfl
        · exact Int.le_refl _
        · omega
      clear hb1 hbi
      by_cases hD : (dat b1).till < (dat bi).till
      · have k3 := fun q => swap_any (wr.drewN q) v l' dat (hW q) i (2 * i + 1) bi b1 HBI.out HBJ.out (by omega)
        rw [e1] at k3
        clear hW
        go_wp2_with fail
        refine k2.mono ?_
        rintro e w2 ⟨rfl, q, rfl⟩
        go_wp2_with fail
        refine (k3 (q)).mono ?_
        rintro e w9 ⟨rfl, hs1, hs2⟩
        go_wp2_with fail
        go_roundw
        case rel =>
          have hz := HY.out (2 * i + 1) b1 bi (q) w9 (by omega) (by omega) (by omega) HBJ.out HBI.out HMIN.out hD hs1 hs2
          rw [e1] at hz
          exact hz
        case measure => simp [intOf]; omega
      · have hD2 : decide ((dat b1).till < (dat bi).till) = false := decide_eq_false hD
        clear hW
        go_wp2_with fail
        refine k2.mono ?_
        rintro e w2 ⟨rfl, q, rfl⟩
        go_wp2
        go_ret
        refine HX.out (fun k k0 kn kp => ?_) (q)
        have hz := HMIN.out k k0 kn kp
        rw [endAt_get HBJ.out] at hz
        rw [endAt_get HBI.out]
        omega

end Go.Proofs.Ytjhifhoniimfgaa

/-
  The heap of open orders: its own Push and Pop.
-/
namespace Go.Proofs.Ytjhifhoniimfgaa
open Go.RowKit

def ptrs (l : List Nat) : List Value := l.map (fun b => Value.pointer (some ⟨b, 0, none⟩))

theorem ptrs_get {l : List Nat} {i b : Nat} (h : l[i]? = some b) : (ptrs l)[i]? = some (Value.pointer (some ⟨b, 0, none⟩)) := by simp [ptrs, h]

theorem HeapAt.owns {w : World} {v : Value} {l : List Nat} {dat : Nat → Odr} (h : HeapAt w v l dat) : w.ownsRow 0 150 1 v l.length (ptrs l) := by
  rcases h.row with ⟨rfl, rfl⟩ | ⟨hb, cap, cur, rfl, h1, h2, h3, h4, h5⟩
  · exact World.ownsRow_nil _ _ _ _
  · refine ⟨by simp [ptrs], .inr ⟨hb, cap, cur, rfl, Nat.zero_le _, h1, h2, h3, by omega, ?_⟩⟩
    apply List.ext_getElem?
    intro i
    by_cases hi : i < l.length
    · rw [List.getElem?_take_of_lt (by omega), ptrs_get (List.getElem?_eq_getElem hi)]
      simpa using h5 i _ (List.getElem?_eq_getElem hi)
    · rw [List.getElem?_eq_none (by rw [List.length_take]; omega), List.getElem?_eq_none (by simp [ptrs]; omega)]

theorem row_ofOwns {w : World} {v : Value} {l : List Nat} (h : w.ownsRow 0 150 1 v l.length (ptrs l)) :
    (v = .slice none 0 0 ∧ l = []) ∨ ∃ hb cap cur, v = .slice (some ⟨hb, 0, none⟩) l.length cap ∧ w.heap[hb]? = some (.cells cur 150 (0, 0)) ∧ l.length ≤ cap ∧ cap ≤ maxLen ∧ cur.size = cap ∧
    ∀ (i b : Nat), l[i]? = some b → cur[i]? = some (Value.pointer (some ⟨b, 0, none⟩)) := by
  rcases h.2 with ⟨h1, h2⟩ | ⟨g, cap, cur, rfl, _, h1, h2, h3, h4, h5⟩
  · left
    refine ⟨h1, ?_⟩
    exact List.eq_nil_of_length_eq_zero h2
  · refine .inr ⟨g, cap, cur, rfl, h1, h2, h3, by omega, fun i b hb => ?_⟩
    have hi := (List.getElem?_eq_some_iff.1 hb).1
    have := ptrs_get hb
    rw [← h5, List.getElem?_take_of_lt (by omega)] at this
    simpa using this

theorem info_ptr : ∃ i, Try.prog.info? 150 = some i ∧ i.bytes = 8 ∧ i.size = 1 ∧ i.zero = some (.pointer none) := by
  have e : (Try.prog.info? 150).map (fun i => (i.bytes, i.size, i.zero)) = some (8, 1, some (.pointer none)) := by kernel_rfl
  obtain ⟨i, hi, he⟩ := Option.map_eq_some_iff.1 e
  simp only [Prod.mk.injEq] at he
  exact ⟨i, hi, he.1, he.2.1, he.2.2⟩

/-- What a step of the heap's header leaves: the block eb is as it was but for the cell eo. -/
def HeadSet (w w' : World) (eb eo : Nat) (v' : Value) : Prop := ∀ cs T f, w.heap[eb]? = some (.cells cs T f) → w'.heap[eb]? = some (.cells (cs.setIfInBounds eo v') T f)

theorem heap_pushed {w w3 : World} {eb eo ob k0 : Nat} {v v3 : Value} {l : List Nat} {dat : Nat → Odr} {O : Obj} (h : HeapAt w v l dat) (hvc : w.cell? ⟨eb, eo, none⟩ = some v) (ho : OrdAt w ob (dat ob) k0)
    (hol : ob ∉ l) (hoe : ob ≠ eb) (hov : v.ownBlock ≠ some ob) (hev : v.ownBlock ≠ some eb) (hel : eb ∉ l)
    (hown : w3.ownsRow 0 150 1 v3 (l.length + 1) (ptrs l ++ [.pointer (some ⟨ob, 0, none⟩)])) (hg : ((w.setCell ⟨ob, 5, none⟩ (.int .i64 l.length)).alloc O).grownBy w3 v.ownBlock) (hb : v3.ownBlock = v.ownBlock ∨ v3.ownBlock = some (w.heap.size + 1)) :
    w3.heap[eb]? = w.heap[eb]? ∧ (w3.setCell ⟨eb, eo, none⟩ v3).cell? ⟨eb, eo, none⟩ = some v3 ∧ HeapAt (w3.setCell ⟨eb, eo, none⟩ v3) v3 (l ++ [ob]) dat ∧ (v3.ownBlock = v.ownBlock ∨ ∃ b, v3.ownBlock = some b ∧ w.heap.size ≤ b) ∧ HeadSet w (w3.setCell ⟨eb, eo, none⟩ v3) eb eo v3 ∧ Keep (fun b => b ≠ eb ∧ b ≠ ob ∧ v.ownBlock ≠ some b) w (w3.setCell ⟨eb, eo, none⟩ v3) := by
  have l2 := block_lt ho
  have heb : eb < w.heap.size := World.block_lt_of_cell? w _ hvc
  have k1 : Keep (fun b => b ≠ ob ∧ v.ownBlock ≠ some b) w w3 :=
    ((((Keep.refl _ w).setCell ⟨ob, 5, none⟩ (fun _ q => q.1 rfl) _).alloc O).grown hg (fun k e _ q => q.2 e))
  have hEb : w3.heap[eb]? = w.heap[eb]? := k1.block eb heb ⟨Ne.symm hoe, hev⟩
  have hO : OrdAt w3 ob (dat ob) l.length := by
    unfold OrdAt
    rw [hg.block ob (by rw [World.size_alloc, size_setCell]; omega) (Ne.symm hov), Below.heap_alloc _ _ _ (by rw [size_setCell]; exact l2)]
    rw [heap_setCell_at (cs := #[.int .i64 (dat ob).num, .int .i64 (dat ob).side, .int .i64 (dat ob).qty, .int .i64 (dat ob).worth, .int .i64 (dat ob).till, .int .i64 k0]) (T := 149) (f := (0, 0)) _ ho]
    simp
  have hlt : ∀ b, b ∈ l → b < w.heap.size := fun b hbl => by
    obtain ⟨i, hi⟩ := List.getElem?_of_mem hbl
    exact block_lt (h.ords i b hi)
  have h3 : HeapAt w3 v3 (l ++ [ob]) dat := by
    refine ⟨row_ofOwns (by simpa [ptrs] using hown), fun i b hi => ?_, ?_, fun b hbl => ?_⟩
    · rcases Nat.lt_trichotomy i l.length with e | e | e
      · rw [List.getElem?_append_left e] at hi
        have hm := List.mem_of_getElem? hi
        exact k1.get (h.ords i b hi) ⟨fun q => hol (q ▸ hm), h.away b hm⟩
      · subst e
        simp at hi
        subst hi
        exact hO
      · rw [List.getElem?_eq_none (by simp; omega)] at hi; cases hi
    · rw [List.nodup_append]
      exact ⟨h.nodup, by simp, fun a ha b hb e => by simp at hb; subst hb; exact hol (e ▸ ha)⟩
    · have hbd : b < w.heap.size ∧ v.ownBlock ≠ some b := by
        rcases List.mem_append.1 hbl with q | q
        · exact ⟨hlt b q, h.away b q⟩
        · simp at q; subst q; exact ⟨l2, hov⟩
      rcases hb with q | q
      · rw [q]; exact hbd.2
      · rw [q]; intro e; cases e; omega
  have hve : v3.ownBlock ≠ some eb := by
    rcases hb with q | q
    · rw [q]; exact hev
    · rw [q]; intro e; cases e; omega
  have kk : Keep (fun b => b ≠ eb) w3 (w3.setCell ⟨eb, eo, none⟩ v3) := (Keep.refl _ w3).setCell _ (fun _ q => q rfl) _
  have c3 : w3.cell? ⟨eb, eo, none⟩ = some v := by rw [World.cell?_of_block (w := w) hEb]; exact hvc
  refine ⟨hEb, World.cell?_setCell_same' _ _ _ (by rw [c3]; rfl), h3.keep kk (fun b q e => hve (e ▸ q)) (fun b q e => ?_), ?_, fun cs T f hc => ?_, ?_⟩
  · subst e
    rcases List.mem_append.1 q with q | q
    · exact hel q
    · simp at q; exact hoe q.symm
  · rcases hb with q | q
    · exact .inl q
    · exact .inr ⟨_, q, by omega⟩
  · exact heap_setCell_at _ (hEb.trans hc)
  · exact (k1.mono (T := fun b => b ≠ eb ∧ b ≠ ob ∧ v.ownBlock ≠ some b) (fun b _ q => q.2)).setCell _ (fun _ q => q.1 rfl) _

set_option maxRecDepth 20000 in
set_option maxHeartbeats 1000000 in
theorem epush_any (w : World) (eb eo ob : Nat) (v : Value) (l : List Nat) (dat : Nat → Odr) (k0 : Nat) (h : HeapAt w v l dat) (hv : w.cell? ⟨eb, eo, none⟩ = some v) (hz : w.frozen? ⟨eb, eo, none⟩ = false) (ho : OrdAt w ob (dat ob) k0)
    (hol : ob ∉ l) (hoe : ob ≠ eb) (hov : v.ownBlock ≠ some ob) (hev : v.ownBlock ≠ some eb) (hel : eb ∉ l) (hlen : l.length < 8796093022208) :
    Calls Try.prog 123 #[.pointer (some ⟨eb, eo, none⟩), .iface 150 (.pointer (some ⟨ob, 0, none⟩))] w fun e w' => e = .returned (.tuple #[]) ∧
      ∃ v', w'.cell? ⟨eb, eo, none⟩ = some v' ∧ HeapAt w' v' (l ++ [ob]) dat ∧ (v'.ownBlock = v.ownBlock ∨ ∃ b, v'.ownBlock = some b ∧ w.heap.size ≤ b) ∧ HeadSet w w' eb eo v' ∧ Keep (fun b => b ≠ eb ∧ b ≠ ob ∧ v.ownBlock ≠ some b) w w' := by
  have l1 := World.block_lt_of_cell? w _ hv
  have d5 := cellAt (i := 5) ho rfl
  have z5 := frozenAt (i := 5) ho
  have l2 := block_lt ho
  obtain ⟨a, cap, hvv⟩ : ∃ a cap, v = .slice a l.length cap := by
    rcases h.row with ⟨rfl, rfl⟩ | ⟨hb, cap, cur, rfl, _⟩
    · exact ⟨none, 0, rfl⟩
    · exact ⟨_, _, rfl⟩
  have hoe2 := Ne.symm hoe
  have HH : Hid (HeapAt w v l dat) := h
  have HO : Hid (OrdAt w ob (dat ob) k0) := ho
  obtain ⟨it, ht1, ht2, ht3, ht4⟩ := info_ptr
  have HT : Hid (Try.prog.info? 150 = some it ∧ it.bytes = 8 ∧ it.size = 1 ∧ it.zero = some (.pointer none)) := ⟨ht1, ht2, ht3, ht4⟩
  have HW1 : Hid (∀ O, ((w.setCell ⟨ob, 5, none⟩ (.int .i64 l.length)).alloc O).ownsRow 0 150 1 (.slice a l.length cap) l.length (ptrs l)) := by
    intro O
    have hk : Keep (fun b => b ≠ ob) w (w.setCell ⟨ob, 5, none⟩ (.int .i64 l.length)) := (Keep.refl _ w).setCell _ (fun _ q => q rfl) _
    have h2 : HeapAt (w.setCell ⟨ob, 5, none⟩ (.int .i64 l.length)) v l dat := h.keep hk (fun b hb e => hov (e ▸ hb)) (fun b hb e => hol (e ▸ hb))
    rw [← hvv]
    exact h2.owns.alloc O
  have HV : Hid (v = .slice a l.length cap) := hvv
  have HVC : Hid (w.cell? ⟨eb, eo, none⟩ = some v) := hv
  have hta : ∀ W, (Instr.typeAssert (.iface 150 (.pointer (some ⟨ob, 0, none⟩))) 20 150 false).run Try.prog W = .ok (.pointer (some ⟨ob, 0, none⟩)) W := fun W => by kernel_rfl
  rw [hvv] at hv
  clear h ho ht1 ht2 ht3 ht4 hvv
  go_enter Try.func123, Try.ntmps123
  go_wp2_with (at_builtin; go_must (refine wpList_append_own_at _ rfl _ _ 129 rfl 0 150 it (.pointer none) 1 8 Try.underlying129 HT.out.1 HT.out.2.2.2 HT.out.2.2.1 HT.out.2.1 rfl (by decide) (.slice a l.length cap) l.length (ptrs l) rfl (HW1.out _) ⟨w.heap.size, 0, none⟩ 1 1 [.pointer (some ⟨ob, 0, none⟩)] rfl rfl (by have := cell_one_new (w.setCell ⟨ob, 5, none⟩ (.int .i64 l.length)) (.pointer (some ⟨ob, 0, none⟩)) 150; rw [size_setCell] at this; exact this) (fun x hx => by simp at hx; rcases hx with rfl; rfl) (by unfold maxLen; omega) (by omega) (by omega) ?_))
  intro v3 w3 hown3 hg3 _ hb3
  obtain ⟨g', cap', hv3⟩ : ∃ g cap, v3 = .slice (some ⟨g, 0, none⟩) (l.length + 1) cap := by
    rcases hown3.2 with ⟨_, h2⟩ | ⟨g, cap, cur, h2, _⟩
    · omega
    · exact ⟨g, cap, h2⟩
  rw [← HV.out] at hg3 hb3
  have HF : Hid _ := heap_pushed (eo := eo) HH.out HVC.out HO.out hol hoe hov hev hel hown3 hg3 hb3
  have k1 : w3.cell? ⟨eb, eo, none⟩ = some (.slice a l.length cap) := by rw [World.cell?_of_block (w := w) HF.out.1]; exact hv
  have k2 : w3.frozen? ⟨eb, eo, none⟩ = false := by rw [World.frozen?_of_block (w := w) HF.out.1]; exact hz
  clear hown3 hg3 hb3
  subst hv3
  go_wp2
  go_end0
  exact ⟨rfl, _, HF.out.2⟩

theorem heap_popped {w : World} {eb eo ob hb cap : Nat} {l : List Nat} {dat : Nat → Odr} {cur : Array Value} (h : HeapAt w (.slice (some ⟨hb, 0, none⟩) (l ++ [ob]).length cap) (l ++ [ob]) dat) (hvc : w.cell? ⟨eb, eo, none⟩ = some (.slice (some ⟨hb, 0, none⟩) (l ++ [ob]).length cap))
    (hr : w.heap[hb]? = some (.cells cur 150 (0, 0))) (hsz : cur.size = cap) (hc1 : (l ++ [ob]).length ≤ cap) (hc2 : cap ≤ maxLen) (hcur : ∀ (i b : Nat), (l ++ [ob])[i]? = some b → cur[i]? = some (Value.pointer (some ⟨b, 0, none⟩)))
    (hev : hb ≠ eb) (hel : eb ∉ l) :
    ((w.setCell ⟨hb, l.length, none⟩ (.pointer none)).setCell ⟨eb, eo, none⟩ (.slice (some ⟨hb, 0, none⟩) l.length cap)).cell? ⟨eb, eo, none⟩ = some (.slice (some ⟨hb, 0, none⟩) l.length cap) ∧
    HeapAt ((w.setCell ⟨hb, l.length, none⟩ (.pointer none)).setCell ⟨eb, eo, none⟩ (.slice (some ⟨hb, 0, none⟩) l.length cap)) (.slice (some ⟨hb, 0, none⟩) l.length cap) l dat ∧
    HeadSet w ((w.setCell ⟨hb, l.length, none⟩ (.pointer none)).setCell ⟨eb, eo, none⟩ (.slice (some ⟨hb, 0, none⟩) l.length cap)) eb eo (.slice (some ⟨hb, 0, none⟩) l.length cap) ∧
    Keep (fun b => b ≠ eb ∧ b ≠ hb) w ((w.setCell ⟨hb, l.length, none⟩ (.pointer none)).setCell ⟨eb, eo, none⟩ (.slice (some ⟨hb, 0, none⟩) l.length cap)) := by
  have kk : Keep (fun b => b ≠ eb ∧ b ≠ hb) w ((w.setCell ⟨hb, l.length, none⟩ (.pointer none)).setCell ⟨eb, eo, none⟩ (.slice (some ⟨hb, 0, none⟩) l.length cap)) :=
    ((Keep.refl _ w).setCell _ (fun _ q => q.2 rfl) _).setCell _ (fun _ q => q.1 rfl) _
  have hEb : (w.setCell ⟨hb, l.length, none⟩ (.pointer none)).heap[eb]? = w.heap[eb]? := Below.heap_setCell _ _ _ _ (Ne.symm hev)
  refine ⟨World.cell?_setCell_same' _ _ _ (by rw [World.cell?_of_block (w := w) hEb, hvc]; rfl), ⟨.inr ⟨hb, cap, cur.setIfInBounds l.length (.pointer none), rfl, ?_, by simp at hc1; omega, hc2, by simpa using hsz, fun i b hi => ?_⟩, fun i b hi => ?_, ?_, fun b hbl e => ?_⟩, fun cs T f hc => ?_, kk⟩
  · rw [Below.heap_setCell _ _ _ _ hev]; exact heap_setCell_at _ hr
  · have hl := (List.getElem?_eq_some_iff.1 hi).1
    rw [Array.getElem?_setIfInBounds, if_neg (by omega)]
    exact hcur i b (by rw [List.getElem?_append_left hl]; exact hi)
  · have hl := (List.getElem?_eq_some_iff.1 hi).1
    have hm := List.mem_of_getElem? hi
    exact kk.get (h.ords i b (by rw [List.getElem?_append_left hl]; exact hi)) ⟨fun e => hel (e ▸ hm), fun e => h.away b (List.mem_append_left _ hm) (by rw [e]; rfl)⟩
  · exact (List.nodup_append.1 h.nodup).1
  · exact h.away b (List.mem_append_left _ hbl) (by cases e; rfl)
  · exact heap_setCell_at _ (hEb.trans hc)

set_option maxRecDepth 20000 in
set_option maxHeartbeats 1000000 in
theorem epop_any (w : World) (eb eo ob : Nat) (v : Value) (l : List Nat) (dat : Nat → Odr) (h : HeapAt w v (l ++ [ob]) dat) (hv : w.cell? ⟨eb, eo, none⟩ = some v) (hz : w.frozen? ⟨eb, eo, none⟩ = false)
    (hev : v.ownBlock ≠ some eb) (hel : eb ∉ l) (hlen : l.length < 8796093022208) :
    Calls Try.prog 122 #[.pointer (some ⟨eb, eo, none⟩)] w fun e w' => e = .returned (.iface 150 (.pointer (some ⟨ob, 0, none⟩))) ∧
      ∃ v', w'.cell? ⟨eb, eo, none⟩ = some v' ∧ HeapAt w' v' l dat ∧ v'.ownBlock = v.ownBlock ∧ HeadSet w w' eb eo v' ∧ Keep (fun b => b ≠ eb ∧ v.ownBlock ≠ some b) w w' := by
  rcases h.row with ⟨_, h0⟩ | ⟨hb, cap, cur, rfl, hr, hc1, hc2, hc3, hcur⟩
  · simp at h0
  have hbe : hb ≠ eb := fun e => hev (by rw [e]; rfl)
  have hbe2 := Ne.symm hbe
  have hlast : (l ++ [ob])[l.length]? = some ob := by simp
  have c1 := cellAt hr (hcur _ _ hlast)
  have z1 := frozenAt (i := l.length) hr
  have hlen2 : (l ++ [ob]).length = l.length + 1 := by simp
  have HF : Hid _ := heap_popped h hv hr hc3 hc1 hc2 hcur hbe hel
  have HK : Hid (∀ w', Keep (fun b => b ≠ eb ∧ b ≠ hb) w w' → Keep (fun b => b ≠ eb ∧ (Value.slice (some ⟨hb, 0, none⟩) (l ++ [ob]).length cap).ownBlock ≠ some b) w w') := fun w' k => k.mono (fun b _ q => ⟨q.1, fun e => q.2 (by rw [e]; rfl)⟩)
  rw [hlen2] at hv hc1 HK
  have hcap : (l.length : Int) + 1 ≤ (cap : Int) := by omega
  have hcapN : l.length ≤ cap := by omega
  rw [hlen2]
  clear h hr hcur hlast hc3
  go_enter Try.func122, Try.ntmps122
  go_wp2
  go_ret
  exact ⟨rfl, _, HF.out.1, HF.out.2.1, rfl, HF.out.2.2.1, HK.out _ HF.out.2.2.2⟩

end Go.Proofs.Ytjhifhoniimfgaa

/-
  container/heap's Push and Remove on the open orders.
-/
namespace Go.Proofs.Ytjhifhoniimfgaa
open Go.RowKit

theorem HeadSet.keep {S : Nat → Prop} {w w1 w2 : World} {eb eo : Nat} {v : Value} (h : HeadSet w w1 eb eo v) (hk : Keep S w1 w2) (he : S eb) : HeadSet w w2 eb eo v :=
  fun cs T f hc => hk.get (h cs T f hc) he

theorem HeapAt.len {w : World} {v : Value} {l : List Nat} {dat : Nat → Odr} (h : HeapAt w v l dat) : ∃ a cap, v = .slice a l.length cap := by
  rcases h.row with ⟨rfl, rfl⟩ | ⟨hb, cap, cur, rfl, _⟩
  · exact ⟨none, 0, rfl⟩
  · exact ⟨_, _, rfl⟩

theorem endAt_append (E : Nat → Int) (l : List Nat) (x : List Nat) (k : Nat) (hk : k < l.length) : endAt E (l ++ x) k = endAt E l k := by
  simp only [endAt, List.getD, List.getElem?_append_left hk]

theorem heapOk_congr {e e' : Nat → Int} {n : Nat} (h : HeapOk e n) (he : ∀ k, k < n → e' k = e k) : HeapOk e' n := fun k h0 hk => by
  rw [he k hk, he _ (by omega)]; exact h k h0 hk

theorem upOk_congr {e e' : Nat → Int} {n j : Nat} (h : UpOk e n j) (he : ∀ k, k < n → e' k = e k) (hj : j < n) : UpOk e' n j :=
  ⟨fun k h0 hk hn => by rw [he k hk, he _ (by omega)]; exact h.1 k h0 hk hn, fun k h0 hk hp hj0 => by rw [he k hk, he _ (by omega)]; exact h.2 k h0 hk hp hj0⟩

set_option maxRecDepth 20000 in
set_option maxHeartbeats 1000000 in
theorem hpush_any (w : World) (eb eo ob : Nat) (v : Value) (l : List Nat) (dat : Nat → Odr) (k0 : Nat) (h : HeapAt w v l dat) (hok : HeapOk (endAt (tillOf dat) l) l.length) (hv : w.cell? ⟨eb, eo, none⟩ = some v) (hz : w.frozen? ⟨eb, eo, none⟩ = false) (ho : OrdAt w ob (dat ob) k0)
    (hol : ob ∉ l) (hoe : ob ≠ eb) (hov : v.ownBlock ≠ some ob) (hev : v.ownBlock ≠ some eb) (hel : eb ∉ l) (hlen : l.length < 8796093022208) :
    Calls Try.prog 93 #[.iface 169 (.pointer (some ⟨eb, eo, none⟩)), .iface 150 (.pointer (some ⟨ob, 0, none⟩))] w fun e w' => e = .returned (.tuple #[]) ∧
      ∃ v' l', w'.cell? ⟨eb, eo, none⟩ = some v' ∧ HeapAt w' v' l' dat ∧ l'.Perm (l ++ [ob]) ∧ HeapOk (endAt (tillOf dat) l') l'.length ∧ (v'.ownBlock = v.ownBlock ∨ ∃ b, v'.ownBlock = some b ∧ w.heap.size ≤ b) ∧ HeadSet w w' eb eo v' ∧
        Keep (fun b => b ≠ eb ∧ b ≠ ob ∧ v.ownBlock ≠ some b ∧ b ∉ l) w w' := by
  have l1 := World.block_lt_of_cell? w _ hv
  have hpush := epush_any w eb eo ob v l dat k0 h hv hz ho hol hoe hov hev hel hlen
  have hm1 := meth_push ⟨eb, eo, none⟩
  have HM : Hid (∀ W v, W.cell? ⟨eb, eo, none⟩ = some v → (method 306 169 (.pointer (some ⟨eb, eo, none⟩)) "Len").run Try.prog W = .ok (114, v) W) := fun W v hW => meth_len eb eo v W hW
  have HOK : Hid (HeapOk (endAt (tillOf dat) l) l.length) := hok
  clear h hok ho hv
  go_enter Try.func93, Try.ntmps93
  go_wp2_with fail
  refine hpush.mono ?_
  rintro e w1 ⟨rfl, v1, c1, h1, hvb, hs1, k1⟩
  obtain ⟨a, cap, hv1⟩ := h1.len
  have hve : v1.ownBlock ≠ some eb := by
    rcases hvb with q | ⟨b, q, hq⟩
    · rw [q]; exact hev
    · rw [q]; intro e; cases e; omega
  have hel2 : eb ∉ l ++ [ob] := fun q => by
    rcases List.mem_append.1 q with q | q
    · exact hel q
    · simp at q; exact hoe q.symm
  have hup := up_any w1 eb eo (l.length + 1) v1 (l ++ [ob]) dat h1 c1 ⟨hve, hel2⟩ (by simp) (by simp; omega) l.length (by omega) (push_up (heapOk_congr HOK.out (fun k hk => endAt_append _ _ _ _ hk)))
  have hm2 := HM.out w1 v1 c1
  have H1 : Hid (v1.ownBlock = v.ownBlock ∨ ∃ b, v1.ownBlock = some b ∧ w.heap.size ≤ b) := hvb
  have H2 : Hid (HeadSet w w1 eb eo v1) := hs1
  have H3 : Hid (Keep (fun b => b ≠ eb ∧ b ≠ ob ∧ v.ownBlock ≠ some b) w w1) := k1
  have H4 : Hid (v1.ownBlock ≠ some eb ∧ eb ∉ l ++ [ob]) := ⟨hve, hel2⟩
  have H5 : Hid (w1.cell? ⟨eb, eo, none⟩ = some v1) := c1
  clear hvb hs1 k1 hve hel2 h1 c1
  go_wp2_with fail
  refine (len_any _ _ _ _).mono ?_
  rintro e w2 ⟨rfl, rfl⟩
  go_wp2_with fail
  refine hup.mono ?_
  rintro e w3 ⟨rfl, l', h3, hsh, hok3, k3⟩
  go_wp2_with fail
  go_end0
  have hll : l'.length = l.length + 1 := by have := hsh.perm.length_eq; simpa using this
  have ce : w3.cell? ⟨eb, eo, none⟩ = some v1 := by rw [World.cell?_of_block (w := w1) (k3.block eb (World.block_lt_of_cell? w1 _ H5.out) H4.out)]; exact H5.out
  refine ⟨rfl, v1, l', ce, h3, hsh.perm, by rw [hll]; exact hok3, H1.out, H2.out.keep k3 H4.out, ?_⟩
  refine (H3.out.mono (T := fun b => b ≠ eb ∧ b ≠ ob ∧ v.ownBlock ≠ some b ∧ b ∉ l) (fun b _ q => ⟨q.1, q.2.1, q.2.2.1⟩)).trans' k3 (fun b hb q => ⟨fun e => ?_, fun e => ?_⟩)
  · rcases H1.out with r | ⟨c, r, hc⟩
    · rw [r] at e; exact q.2.2.1 e
    · rw [r] at e; cases e; omega
  · rcases List.mem_append.1 e with r | r
    · exact q.2.2.2 r
    · simp at r; exact q.2.1 r

theorem split_last {l : List Nat} {n b : Nat} (hl : l.length = n + 1) (h : l[n]? = some b) : l = l.take n ++ [b] := by
  apply List.ext_getElem?
  intro i
  rcases Nat.lt_trichotomy i n with e | e | e
  · rw [List.getElem?_append_left (by rw [List.length_take]; omega), List.getElem?_take_of_lt e]
  · subst e
    rw [List.getElem?_append_right (by rw [List.length_take]; omega), List.length_take, h]
    simp [show min i l.length = i by omega]
  · rw [List.getElem?_eq_none (by omega), List.getElem?_eq_none (by simp; omega)]

/-- What a removal of ob leaves. -/
def Removed (w w' : World) (eb eo ob : Nat) (v : Value) (l : List Nat) (dat : Nat → Odr) : Prop :=
  ∃ v' l', w'.cell? ⟨eb, eo, none⟩ = some v' ∧ HeapAt w' v' l' dat ∧ l.Perm (l' ++ [ob]) ∧ HeapOk (endAt (tillOf dat) l') l'.length ∧ v'.ownBlock = v.ownBlock ∧ HeadSet w w' eb eo v' ∧ (∃ k, OrdAt w' ob (dat ob) k) ∧
    Keep (fun b => b ≠ eb ∧ v.ownBlock ≠ some b ∧ b ∉ l) w w'

/-- The last step: ob lies behind, it is popped. -/
theorem pop_last {w w1 : World} {eb eo ob n : Nat} {v : Value} {l l1 : List Nat} {dat : Nat → Odr} (h1 : HeapAt w1 v l1 dat) (hp : l1.Perm l) (hl : l1.length = n + 1) (hob : l1[n]? = some ob) (hok : HeapOk (endAt (tillOf dat) l1) n) (hv : w1.cell? ⟨eb, eo, none⟩ = some v) (hz : w1.frozen? ⟨eb, eo, none⟩ = false)
    (hev : v.ownBlock ≠ some eb) (hel : eb ∉ l) (hlen : n < 8796093022208) (hh : w1.heap[eb]? = w.heap[eb]?) (hk : Keep (fun b => v.ownBlock ≠ some b ∧ b ∉ l) w w1) :
    Calls Try.prog 122 #[.pointer (some ⟨eb, eo, none⟩)] w1 fun e w' => e = .returned (.iface 150 (.pointer (some ⟨ob, 0, none⟩))) ∧ Removed w w' eb eo ob v l dat := by
  have hs := split_last hl hob
  have htl : (l1.take n).length = n := by rw [List.length_take]; omega
  have hob2 := h1.ords n ob hob
  have hm : ob ∈ l1 := List.mem_of_getElem? hob
  have hobe : ob ≠ eb := fun e => hel (e ▸ hp.mem_iff.1 hm)
  have hoa := h1.away ob hm
  have he1 : eb ∉ l1.take n := fun q => hel (hp.mem_iff.1 (List.mem_of_mem_take q))
  have hpop := epop_any w1 eb eo ob v (l1.take n) dat (by rw [← hs]; exact h1) hv hz hev he1 (by omega)
  refine hpop.mono ?_
  rintro e w' ⟨rfl, v', c', h', hb', hs', k'⟩
  refine ⟨rfl, v', l1.take n, c', h', ?_, ?_, hb', fun cs T f hc => hs' cs T f (hh.trans hc), ⟨n, k'.get hob2 ⟨hobe, hoa⟩⟩, ?_⟩
  · rw [← hs]; exact hp.symm
  · rw [htl]
    refine heapOk_congr hok (fun k hk => ?_)
    have := endAt_append (tillOf dat) (l1.take n) [ob] k (by omega)
    rw [← hs] at this
    exact this.symm
  · exact (hk.mono (T := fun b => b ≠ eb ∧ v.ownBlock ≠ some b ∧ b ∉ l) (fun b _ q => q.2)).trans' k' (fun b _ q => ⟨q.1, q.2.1⟩)

end Go.Proofs.Ytjhifhoniimfgaa

