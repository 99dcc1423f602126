import Derived.Test.YtjhifhoniimfgaaG06
import Derived.Test.YtjhifhoniimfgaaG04
/-
  How many News were taken at which time: after, add.
-/
namespace Go.Proofs.Ytjhifhoniimfgaa
open Go.RowKit

def sumM : List Cnt → Int
  | [] => 0
  | x :: r => x.2 + sumM r

theorem sumM_append : ∀ l r, sumM (l ++ r) = sumM l + sumM r
  | [], r => by simp [sumM]
  | x :: l, r => by simp [sumM, sumM_append l r, Int.add_assoc]

theorem sumM_take (c : List Cnt) (j : Nat) (x : Cnt) (hx : c[j]? = some x) : sumM (c.take (j + 1)) = sumM (c.take j) + x.2 := by
  obtain ⟨h1, h2⟩ := List.getElem?_eq_some_iff.1 hx
  rw [List.take_succ_eq_append_getElem h1, sumM_append, h2]
  simp [sumM]

theorem sumM_le : ∀ (c : List Cnt) (j : Nat), (∀ x, x ∈ c → 0 ≤ x.2) → 0 ≤ sumM (c.take j) ∧ sumM (c.take j) ≤ sumM c
  | [], j, _ => by simp [sumM]
  | x :: c, 0, h => by
    have h1 := sumM_le c c.length (fun y hy => h y (.tail _ hy))
    rw [List.take_length] at h1
    have h2 := h x (.head _)
    simp [sumM]; omega
  | x :: c, j + 1, h => by
    have h1 := sumM_le c j (fun y hy => h y (.tail _ hy))
    have h2 := h x (.head _)
    simp only [List.take_succ_cons, sumM]; omega

set_option maxRecDepth 20000 in
set_option maxHeartbeats 2000000 in
theorem after_any (w : World) (ab : Nat) (v : Value) (c : List Cnt) (lim : Int) (h : CntAt w v c) (hv : w.cell? ⟨ab, 12, none⟩ = some v) (hz : w.frozen? ⟨ab, 12, none⟩ = false) (hva : v.ownBlock ≠ some ab) (hlen : c.length ≤ 8796093022208)
    (hpos : ∀ x, x ∈ c → 0 ≤ x.2) (hsum : sumM (c.filter (keepP lim)) ≤ 8796093022208) :
    Calls Try.prog 92 #[.pointer (some ⟨ab, 12, none⟩), .int .i64 lim] w fun e w' => e = .returned (.int .i64 (sumM (c.filter (keepP lim)))) ∧
      ∃ v', w'.cell? ⟨ab, 12, none⟩ = some v' ∧ CntAt w' v' (c.filter (keepP lim)) ∧ v'.ownBlock = v.ownBlock ∧ HeadSet w w' ab 12 v' ∧ Keep (fun b => b ≠ ab ∧ v.ownBlock ≠ some b) w w' := by
  have hab := World.block_lt_of_cell? w _ hv
  have hvlt : ∀ b, v.ownBlock = some b → b < w.heap.size := fun b hb => by
    rcases h with ⟨rfl, _⟩ | ⟨cb, cap, cur, rfl, q, _⟩
    · cases hb
    · cases hb; exact block_lt q
  have hdel := deleteOld (w.alloc (.cells #[.int .i64 lim] 3)) v c lim w.heap.size (h.keep ((Keep.refl (fun _ => True) w).alloc _) (fun _ _ => trivial)) (cellAt (i := 0) (heap_alloc_new w _) rfl) (fun e => Nat.lt_irrefl _ (hvlt _ e)) hlen
  obtain ⟨f, hf⟩ : ∃ f, f = c.filter (keepP lim) := ⟨_, rfl⟩
  have hfp : ∀ x, x ∈ f → 0 ≤ x.2 := fun x hx => by rw [hf] at hx; exact hpos x (List.mem_filter.1 hx).1
  have hfl : f.length ≤ 8796093022208 := by rw [hf]; have := List.length_filter_le (keepP lim) c; omega
  rw [← hf] at hdel hsum
  rw [← hf]
  have HV : Hid (w.cell? ⟨ab, 12, none⟩ = some v) := hv
  clear h hpos hlen hf
  go_enter Try.func92, Try.ntmps92
  go_wp2_with fail
  refine hdel.mono ?_
  rintro e w1 ⟨v1, rfl, h1, hv1, k1⟩
  have k1' : Keep (fun b => v.ownBlock ≠ some b) w w1 := ((Keep.refl _ w).alloc _).trans k1
  have hb1 := k1'.block ab hab hva
  have c12 : w1.cell? ⟨ab, 12, none⟩ = some v := by rw [World.cell?_of_block (w := w) hb1]; exact HV.out
  have z12 : w1.frozen? ⟨ab, 12, none⟩ = false := by rw [World.frozen?_of_block (w := w) hb1]; exact hz
  have hab1 : ab < w1.heap.size := World.block_lt_of_cell? w1 _ c12
  obtain ⟨a, cap, hvv⟩ := h1.len
  -- the world with the new list in its place
  obtain ⟨W, hW⟩ : ∃ W, W = w1.setCell ⟨ab, 12, none⟩ v1 := ⟨_, rfl⟩
  have kW : Keep (fun b => b ≠ ab) w1 W := by rw [hW]; exact (Keep.refl _ w1).setCell _ (fun _ q => q rfl) _
  have hv1a : v1.ownBlock ≠ some ab := by rw [hv1]; exact hva
  have CW : CntAt W v1 f := h1.keep kW (fun b hb e => hv1a (e ▸ hb))
  have HFIN : Hid (W.cell? ⟨ab, 12, none⟩ = some v1 ∧ v1.ownBlock = v.ownBlock ∧ HeadSet w W ab 12 v1 ∧ Keep (fun b => b ≠ ab ∧ v.ownBlock ≠ some b) w W) := by
    refine ⟨by rw [hW]; exact World.cell?_setCell_same' _ _ _ (by rw [c12]; rfl), hv1, fun cs T g hc => ?_, ?_⟩
    · rw [hW]; exact heap_setCell_at _ (hb1.trans hc)
    · exact (k1'.mono (T := fun b => b ≠ ab ∧ v.ownBlock ≠ some b) (fun _ _ q => q.2)).trans' kW (fun _ _ q => q.1)
  have HCW : Hid (CntAt W v1 f) := CW
  have cW : W.cell? ⟨ab, 12, none⟩ = some v1 := HFIN.out.1
  have HW : Hid (W = w1.setCell ⟨ab, 12, none⟩ v1) := hW
  rw [hvv] at cW
  have habW : ab < W.heap.size := World.block_lt_of_cell? W _ cW
  have HVV : Hid (v1 = .slice a f.length cap) := hvv
  clear hW kW CW hb1 k1 k1' h1 hv1a
  subst hvv
  go_wp2_with fail
  rw [← HW.out]
  clear HW c12 z12
  go_loopw [5, 19] (fun s k wr => ∃ j : Nat, k = .int .i64 j ∧ j ≤ f.length ∧ s = .int .i64 (sumM (f.take j)) ∧ Below W.heap.size W wr) (fun _ k _ => f.length - (intOf k).toNat)
  case atStart => exact ⟨0, rfl, Nat.zero_le _, rfl, Below.refl _ _⟩
  case round =>
    obtain ⟨j, rfl, hj, rfl, hb⟩ := hrel
    have HB : Hid (Below W.heap.size W wr) := hb
    have hsz := hb.size
    by_cases hlt : j < f.length
    · obtain ⟨x, hx⟩ : ∃ x, f[j]? = some x := ⟨_, List.getElem?_eq_getElem hlt⟩
      obtain ⟨cb, rfl, d1, d2⟩ := HCW.out.at hx
      have hcb := World.block_lt_of_cell? W _ d1
      rw [← hb.cell (p := ⟨cb, j * 2, none⟩) hcb] at d1
      rw [← hb.cell (p := ⟨cb, j * 2 + 1, none⟩) hcb] at d2
      have hs1 := sumM_take f j x hx
      have hs2 := sumM_le f (j + 1) hfp
      have hs3 := sumM_le f j hfp
      have HS : Hid (sumM (f.take (j + 1)) = sumM (f.take j) + x.2) := hs1
      have hlt2 : (j : Int) < (f.length : Int) := by omega
      rw [hs1] at hs2
      have hs4 : 0 ≤ sumM (f.take j) + x.2 := hs2.1
      have hs5 : sumM (f.take j) + x.2 ≤ 8796093022208 := by omega
      clear hb hx hs1 hs2 hs3
      generalize sumM (f.take j) = S at *
      go_wp2_with fail
      go_roundw
      case rel => exact ⟨j + 1, by go_num, by omega, by rw [HS.out], HB.out.alloc hsz _⟩
      case measure => simp [intOf]; omega
    · obtain rfl : j = f.length := by omega
      have hlt4 : ¬ ((f.length : Int) < (f.length : Int)) := by omega
      clear hb
      go_wp2_with fail
      go_ret
      have hk : Keep (fun b => b < W.heap.size) W wr := ⟨HB.out.os, HB.out.tape, HB.out.output, HB.out.size, fun k _ hk => HB.out.block k hk⟩
      obtain ⟨p1, p2, p3, p4⟩ := HFIN.out
      refine ⟨rfl, _, by rw [HB.out.cell habW]; exact p1, HCW.out.keep (S := fun b => b < W.heap.size) hk (fun b hb => ?_), p2, HeadSet.keep (S := fun b => b < W.heap.size) p3 hk habW, ?_⟩
      · rcases HCW.out with ⟨e, _⟩ | ⟨cb, cap', cur, e, q, _⟩
        · rw [e] at hb; cases hb
        · rw [e] at hb; cases hb; exact block_lt q
      · exact ⟨hk.os.trans p4.os, hk.tape.trans p4.tape, hk.output.trans p4.output, Nat.le_trans p4.size hk.size, fun b hb hs => (hk.block b (Nat.lt_of_lt_of_le hb p4.size) (Nat.lt_of_lt_of_le hb p4.size)).trans (p4.block b hb hs)⟩

/-- One more at this time. -/
def addC (c : List Cnt) (now : Int) : List Cnt :=
  match c.getLast? with
  | some x => if x.1 = now then c.dropLast ++ [(now, x.2 + 1)] else c ++ [(now, 1)]
  | none => [(now, 1)]

theorem addC_same (d : List Cnt) (now m : Int) : addC (d ++ [(now, m)]) now = d ++ [(now, m + 1)] := by
  simp [addC]

theorem addC_new (c : List Cnt) (now : Int) (h : ∀ x, c.getLast? = some x → x.1 ≠ now) : addC c now = c ++ [(now, 1)] := by
  unfold addC
  cases hc : c.getLast? with
  | none => rw [List.getLast?_eq_none_iff] at hc; subst hc; rfl
  | some x => simp [h x hc]

theorem CntAt.owns {w : World} {v : Value} {c : List Cnt} (h : CntAt w v c) : ∃ xs, w.ownsRow 0 183 2 v c.length xs ∧ ∀ (k : Nat) x, c[k]? = some x → xs[k * 2]? = some (Value.int .i64 x.1) ∧ xs[k * 2 + 1]? = some (Value.int .i64 x.2) := by
  rcases h with ⟨rfl, rfl⟩ | ⟨cb, cap, cur, rfl, h1, h2, h3, h4, h5⟩
  · exact ⟨[], World.ownsRow_nil _ _ _ _, fun k x hx => by simp at hx⟩
  · have h6 : c.length * 2 ≤ cur.toList.length := by have : cur.toList.length = cap * 2 := by simpa using h4
                                                     omega
    refine ⟨cur.toList.take (c.length * 2), ⟨by rw [List.length_take]; omega, .inr ⟨cb, cap, cur, rfl, Nat.zero_le _, h1, h2, h3, h4, rfl⟩⟩, fun k x hx => ?_⟩
    have hk := (List.getElem?_eq_some_iff.1 hx).1
    obtain ⟨a, b⟩ := h5 k x hx
    rw [List.getElem?_take_of_lt (by omega), List.getElem?_take_of_lt (by omega)]
    exact ⟨by simpa using a, by simpa using b⟩

theorem CntAt.ofOwns {w : World} {v : Value} {c : List Cnt} {xs : List Value} (h : w.ownsRow 0 183 2 v c.length xs) (hx : ∀ (k : Nat) x, c[k]? = some x → xs[k * 2]? = some (Value.int .i64 x.1) ∧ xs[k * 2 + 1]? = some (Value.int .i64 x.2)) : CntAt w v c := by
  obtain ⟨h0, h⟩ := h
  rcases h with ⟨e, h1⟩ | ⟨g, cap, cur, rfl, _, h1, h2, h3, h4, rfl⟩
  · exact .inl ⟨e, List.eq_nil_of_length_eq_zero h1⟩
  · refine .inr ⟨g, cap, cur, rfl, h1, h2, h3, h4, fun k x hk => ?_⟩
    have hl := (List.getElem?_eq_some_iff.1 hk).1
    obtain ⟨a, b⟩ := hx k x hk
    rw [List.getElem?_take_of_lt (by omega)] at a b
    exact ⟨by simpa using a, by simpa using b⟩

theorem info_count : ∃ i, Try.prog.info? 183 = some i ∧ i.bytes = 16 ∧ i.size = 2 ∧ i.zero = some (.agg #[.int .i64 0, .int .i64 0]) := by
  have e : (Try.prog.info? 183).map (fun i => (i.bytes, i.size, i.zero)) = some (16, 2, some (.agg #[.int .i64 0, .int .i64 0])) := by kernel_rfl
  obtain ⟨i, hi, he⟩ := Option.map_eq_some_iff.1 e
  simp only [Prod.mk.injEq] at he
  exact ⟨i, hi, he.1, he.2.1, he.2.2⟩

set_option maxRecDepth 20000 in
set_option maxHeartbeats 1000000 in
theorem cadd_same (w : World) (ab : Nat) (v : Value) (d : List Cnt) (now m : Int) (h : CntAt w v (d ++ [(now, m)])) (hv : w.cell? ⟨ab, 12, none⟩ = some v) (hva : v.ownBlock ≠ some ab) (hlen : d.length < 8796093022208) (hm : 0 ≤ m ∧ m < 8796093022208) :
    Calls Try.prog 86 #[.pointer (some ⟨ab, 12, none⟩), .int .i64 now] w fun e w' => e = .returned (.tuple #[]) ∧
      w'.cell? ⟨ab, 12, none⟩ = some v ∧ CntAt w' v (d ++ [(now, m + 1)]) ∧ Keep (fun b => v.ownBlock ≠ some b) w w' := by
  rcases h with ⟨_, h0⟩ | ⟨cb, cap, cur, rfl, h1, h2, h3, h4, h5⟩
  · simp at h0
  have hl : (d ++ [(now, m)]).length = d.length + 1 := by simp
  have hne : cb ≠ ab := fun e => hva (by rw [e]; rfl)
  have hne2 := Ne.symm hne
  obtain ⟨e1, e2⟩ := h5 d.length (now, m) (by simp)
  have c1 := cellAt h1 e1
  have c2 := cellAt h1 e2
  have z2 := frozenAt (i := d.length * 2 + 1) h1
  have HF : Hid ((w.setCell ⟨cb, d.length * 2 + 1, none⟩ (.int .i64 (m + 1))).cell? ⟨ab, 12, none⟩ = some (.slice (some ⟨cb, 0, none⟩) (d ++ [(now, m)]).length cap) ∧
      CntAt (w.setCell ⟨cb, d.length * 2 + 1, none⟩ (.int .i64 (m + 1))) (.slice (some ⟨cb, 0, none⟩) (d ++ [(now, m)]).length cap) (d ++ [(now, m + 1)]) ∧ Keep (fun b => (Value.slice (some ⟨cb, 0, none⟩) (d ++ [(now, m)]).length cap).ownBlock ≠ some b) w (w.setCell ⟨cb, d.length * 2 + 1, none⟩ (.int .i64 (m + 1)))) := by
    refine ⟨by rw [World.cell?_of_block (w := w) (Below.heap_setCell _ _ _ _ hne2)]; exact hv, .inr ⟨cb, cap, _, by simp, heap_setCell_at _ h1, by simp at h2 ⊢; exact h2, h3, by simpa using h4, fun i x hx => ?_⟩, (Keep.refl _ w).setCell _ (fun _ q => q rfl) _⟩
    rw [Array.getElem?_setIfInBounds, Array.getElem?_setIfInBounds]
    rcases Nat.lt_trichotomy i d.length with e | e | e
    · rw [List.getElem?_append_left e] at hx
      rw [if_neg (by omega), if_neg (by omega)]
      exact h5 i x (by rw [List.getElem?_append_left e]; exact hx)
    · subst e
      simp at hx
      subst hx
      rw [if_neg (by omega), if_pos rfl, if_pos (by rw [hl] at h2; omega)]
      exact ⟨e1, rfl⟩
    · rw [List.getElem?_eq_none (by simp; omega)] at hx; cases hx
  rw [hl] at hv
  have HL : Hid ((d ++ [(now, m)]).length = d.length + 1) := hl
  clear h1 h4 h5 e1 e2
  go_enter Try.func86, Try.ntmps86
  go_wp2_with fail
  refine bodyPost_ret (results_none rfl _ _ _) rfl ?_
  have q := HF.out
  rw [HL.out] at q
  exact ⟨rfl, q⟩

theorem cnt_pushed {w w3 : World} {ab : Nat} {v v3 : Value} {c : List Cnt} {now : Int} {O : Obj} {xs : List Value} (hvc : w.cell? ⟨ab, 12, none⟩ = some v) (hva : v.ownBlock ≠ some ab)
    (hx : ∀ (k : Nat) x, c[k]? = some x → xs[k * 2]? = some (Value.int .i64 x.1) ∧ xs[k * 2 + 1]? = some (Value.int .i64 x.2)) (hxl : xs.length = c.length * 2)
    (hown : w3.ownsRow 0 183 2 v3 (c.length + 1) (xs ++ [.int .i64 now, .int .i64 1])) (hg : (w.alloc O).grownBy w3 v.ownBlock) (hb : v3.ownBlock = v.ownBlock ∨ v3.ownBlock = some (w.heap.size + 1)) :
    w3.heap[ab]? = w.heap[ab]? ∧ (w3.setCell ⟨ab, 12, none⟩ v3).cell? ⟨ab, 12, none⟩ = some v3 ∧ CntAt (w3.setCell ⟨ab, 12, none⟩ v3) v3 (c ++ [(now, 1)]) ∧ (v3.ownBlock = v.ownBlock ∨ ∃ b, v3.ownBlock = some b ∧ w.heap.size ≤ b) ∧ HeadSet w (w3.setCell ⟨ab, 12, none⟩ v3) ab 12 v3 ∧
      Keep (fun b => b ≠ ab ∧ v.ownBlock ≠ some b) w (w3.setCell ⟨ab, 12, none⟩ v3) := by
  have hab : ab < w.heap.size := World.block_lt_of_cell? w _ hvc
  have k1 : Keep (fun b => v.ownBlock ≠ some b) w w3 := ((Keep.refl _ w).alloc O).grown hg (fun k e _ q => q e)
  have hEb : w3.heap[ab]? = w.heap[ab]? := k1.block ab hab hva
  have h3 : CntAt w3 v3 (c ++ [(now, 1)]) := by
    refine CntAt.ofOwns (by simpa using hown) (fun k x hk => ?_)
    rcases Nat.lt_trichotomy k c.length with e | e | e
    · rw [List.getElem?_append_left e] at hk
      rw [List.getElem?_append_left (by omega), List.getElem?_append_left (by omega)]
      exact hx k x hk
    · subst e
      simp at hk
      subst hk
      rw [List.getElem?_append_right (by omega), List.getElem?_append_right (by omega), hxl]
      simp
    · rw [List.getElem?_eq_none (by simp; omega)] at hk; cases hk
  have hve : v3.ownBlock ≠ some ab := by
    rcases hb with q | q
    · rw [q]; exact hva
    · rw [q]; intro e; cases e; omega
  have kk : Keep (fun b => b ≠ ab) w3 (w3.setCell ⟨ab, 12, none⟩ v3) := (Keep.refl _ w3).setCell _ (fun _ q => q rfl) _
  have c3 : w3.cell? ⟨ab, 12, none⟩ = some v := by rw [World.cell?_of_block (w := w) hEb]; exact hvc
  refine ⟨hEb, World.cell?_setCell_same' _ _ _ (by rw [c3]; rfl), h3.keep kk (fun b q e => hve (e ▸ q)), ?_, fun cs T f hc => heap_setCell_at _ (hEb.trans hc), (k1.mono (T := fun b => b ≠ ab ∧ v.ownBlock ≠ some b) (fun b _ q => q.2)).setCell _ (fun _ q => q.1 rfl) _⟩
  rcases hb with q | q
  · exact .inl q
  · exact .inr ⟨_, q, by omega⟩

theorem cell_pair_new (w : World) (x y : Value) (t : TypeId) : ∀ j u, [x, y][j]? = some u → (w.alloc (.cells #[x, y] t)).cell? ((⟨w.heap.size, 0, none⟩ : Addr).add j) = some u := cell_two_new w x y t

set_option maxRecDepth 20000 in
set_option maxHeartbeats 1000000 in
theorem cadd_new (w : World) (ab : Nat) (v : Value) (c : List Cnt) (now : Int) (h : CntAt w v c) (hl : ∀ x, c.getLast? = some x → x.1 ≠ now) (hv : w.cell? ⟨ab, 12, none⟩ = some v) (hz : w.frozen? ⟨ab, 12, none⟩ = false) (hva : v.ownBlock ≠ some ab) (hlen : c.length < 8796093022208) :
    Calls Try.prog 86 #[.pointer (some ⟨ab, 12, none⟩), .int .i64 now] w fun e w' => e = .returned (.tuple #[]) ∧
      ∃ v', w'.cell? ⟨ab, 12, none⟩ = some v' ∧ CntAt w' v' (c ++ [(now, 1)]) ∧ (v'.ownBlock = v.ownBlock ∨ ∃ b, v'.ownBlock = some b ∧ w.heap.size ≤ b) ∧ HeadSet w w' ab 12 v' ∧ Keep (fun b => b ≠ ab ∧ v.ownBlock ≠ some b) w w' := by
  have l1 := World.block_lt_of_cell? w _ hv
  obtain ⟨a, cap, hvv⟩ := h.len
  obtain ⟨xs, hown, hx⟩ := h.owns
  have hxl : xs.length = c.length * 2 := hown.1
  obtain ⟨it, ht1, ht2, ht3, ht4⟩ := info_count
  have HT : Hid (Try.prog.info? 183 = some it ∧ it.bytes = 16 ∧ it.size = 2 ∧ it.zero = some (.agg #[.int .i64 0, .int .i64 0])) := ⟨ht1, ht2, ht3, ht4⟩
  have HH : Hid (CntAt w v c) := h
  have HV : Hid (v = .slice a c.length cap) := hvv
  have HVC : Hid (w.cell? ⟨ab, 12, none⟩ = some v) := hv
  have HX : Hid ((∀ (k : Nat) x, c[k]? = some x → xs[k * 2]? = some (Value.int .i64 x.1) ∧ xs[k * 2 + 1]? = some (Value.int .i64 x.2)) ∧ xs.length = c.length * 2) := ⟨hx, hxl⟩
  have HO : Hid (w.ownsRow 0 183 2 (.slice a c.length cap) c.length xs) := by rw [← hvv]; exact hown
  rw [hvv] at hv
  have HC : Hid (c.length = 0 ∨ ∃ (n cb : Nat) (x : Cnt), c.length = n + 1 ∧ a = some ⟨cb, 0, none⟩ ∧ x.1 ≠ now ∧ w.cell? ⟨cb, n * 2, none⟩ = some (.int .i64 x.1)) := by
    cases hg : c.getLast? with
    | none => rw [List.getLast?_eq_none_iff] at hg; subst hg; exact .inl rfl
    | some x =>
      right
      have h2 : c[c.length - 1]? = some x := by rw [← List.getLast?_eq_getElem?]; exact hg
      have h3 := (List.getElem?_eq_some_iff.1 h2).1
      obtain ⟨cb, e1, e2, _⟩ := (show CntAt w (.slice a c.length cap) c by rw [← hvv]; exact h).at h2
      exact ⟨c.length - 1, cb, x, by omega, e1, hl x hg, e2⟩
  clear h hown hx hxl ht1 ht2 ht3 ht4 hvv hl
  rcases HC.out with h0 | ⟨n, cb, x, hn, rfl, hne, hc1⟩
  · have hneg : ¬ ((0 : Int) ≤ (c.length : Int) - 1) := by omega
    have hneg2 : decide ((0 : Int) ≤ (c.length : Int) - 1) = false := decide_eq_false hneg
    clear h0 HC
    go_enter Try.func86, Try.ntmps86
    go_wp2_with (at_builtin; go_must (refine wpList_append_own_at _ rfl _ _ 133 rfl 0 183 it (.agg #[.int .i64 0, .int .i64 0]) 2 16 Try.underlying133 HT.out.1 HT.out.2.2.2 HT.out.2.2.1 HT.out.2.1 rfl (by decide) (.slice a c.length cap) c.length xs rfl (HO.out.alloc _) ⟨w.heap.size, 0, none⟩ 1 1 [.int .i64 now, .int .i64 1] rfl rfl (cell_pair_new _ _ _ _) (fun x hx => by simp at hx; rcases hx with rfl | rfl <;> rfl) (by unfold maxLen; omega) (by omega) (by omega) ?_))
    intro v3 w3 hown3 hg3 _ hb3
    obtain ⟨g', cap', hv3⟩ : ∃ g cap, v3 = .slice (some ⟨g, 0, none⟩) (c.length + 1) cap := by
      rcases hown3.2 with ⟨_, h2⟩ | ⟨g, cap, cur, h2, _⟩
      · omega
      · exact ⟨g, cap, h2⟩
    have HF : Hid _ := cnt_pushed (c := c) HVC.out hva HX.out.1 HX.out.2 (by  exact hown3) (by rw [HV.out]; exact hg3) (by rw [HV.out]; exact hb3)
    have k1 : w3.cell? ⟨ab, 12, none⟩ = some (.slice a c.length cap) := by rw [World.cell?_of_block (w := w) HF.out.1]; exact hv
    have k2 : w3.frozen? ⟨ab, 12, none⟩ = false := by rw [World.frozen?_of_block (w := w) HF.out.1]; exact hz
    clear hown3 hg3 hb3
    subst hv3
    go_wp2_with fail
    go_end0
    exact ⟨rfl, _, HF.out.2⟩
  · have hne2 : (x.1 == now) = false := by simp; exact hne
    have HN : Hid (c.length = n + 1) := hn
    rw [hn] at hv HO hlen
    clear HC
    clear hn
    go_enter Try.func86, Try.ntmps86
    go_wp2_with (at_builtin; go_must (refine wpList_append_own_at _ rfl _ _ 133 rfl 0 183 it (.agg #[.int .i64 0, .int .i64 0]) 2 16 Try.underlying133 HT.out.1 HT.out.2.2.2 HT.out.2.2.1 HT.out.2.1 rfl (by decide) (.slice (some ⟨cb, 0, none⟩) (n + 1) cap) (n + 1) xs rfl (HO.out.alloc _) ⟨w.heap.size, 0, none⟩ 1 1 [.int .i64 now, .int .i64 1] rfl rfl (cell_pair_new _ _ _ _) (fun x hx => by simp at hx; rcases hx with rfl | rfl <;> rfl) (by unfold maxLen; omega) (by omega) (by omega) ?_))
    intro v3 w3 hown3 hg3 _ hb3
    obtain ⟨g', cap', hv3⟩ : ∃ g cap, v3 = .slice (some ⟨g, 0, none⟩) (n + 1 + 1) cap := by
      rcases hown3.2 with ⟨_, h2⟩ | ⟨g, cap, cur, h2, _⟩
      · omega
      · exact ⟨g, cap, h2⟩
    have HF : Hid _ := cnt_pushed (c := c) HVC.out hva HX.out.1 HX.out.2 (by rw [HN.out]; exact hown3) (by rw [HV.out, HN.out]; exact hg3) (by rw [HV.out, HN.out]; exact hb3)
    have k1 : w3.cell? ⟨ab, 12, none⟩ = some (.slice (some ⟨cb, 0, none⟩) (n + 1) cap) := by rw [World.cell?_of_block (w := w) HF.out.1]; exact hv
    have k2 : w3.frozen? ⟨ab, 12, none⟩ = false := by rw [World.frozen?_of_block (w := w) HF.out.1]; exact hz
    clear hown3 hg3 hb3
    subst hv3
    go_wp2_with fail
    go_end0
    exact ⟨rfl, _, HF.out.2⟩

end Go.Proofs.Ytjhifhoniimfgaa

