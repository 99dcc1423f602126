import Derived.Test.YtjhifhoniimfgaaG05
import Derived.Deep.RegionWith
import Derived.Test.YtjhifhoniimfgaaProg
import Derived.Test.YtjhifhoniimfgaaG01
import Derived.Laws.IdiomCopy
/-
  The open orders of an account: remove.
-/
namespace Go.Proofs.Ytjhifhoniimfgaa
open Go.RowKit

theorem hremove_any (w : World) (eb eo ob i : Nat) (v : Value) (l : List Nat) (dat : Nat → Odr) (h : HeapAt w v l dat) (hok : HeapOk (endAt (tillOf dat) l) l.length) (hv : w.cell? ⟨eb, eo, none⟩ = some v) (hz : w.frozen? ⟨eb, eo, none⟩ = false)
    (hev : v.ownBlock ≠ some eb) (hel : eb ∉ l) (hlen : l.length ≤ 8796093022208) (hob : l[i]? = some ob) :
    Calls Try.prog 79 #[.iface 169 (.pointer (some ⟨eb, eo, none⟩)), .int .i64 i] w fun e w' => e = .returned (.iface 150 (.pointer (some ⟨ob, 0, none⟩))) ∧ Removed w w' eb eo ob v l dat := by
  have hi := (List.getElem?_eq_some_iff.1 hob).1
  obtain ⟨n, hn⟩ : ∃ n, l.length = n + 1 := ⟨l.length - 1, by omega⟩
  by_cases e : i = n
  · subst e
    exact hremove_last w eb eo ob i v l dat h hok hv hz hev hel (by omega) hn hob
  · exact hremove_mid w eb eo ob n i v l dat h hok hv hz hev hel (by omega) hn (by omega) hob

theorem erase_perm : ∀ (xs : List Nat) (j x : Nat), xs[j]? = some x → xs.Perm (x :: xs.eraseIdx j)
  | [], j, x, h => by simp at h
  | a :: xs, 0, x, h => by simp at h; subst h; exact List.Perm.refl _
  | a :: xs, j + 1, x, h => by
    rw [List.eraseIdx_cons_succ]
    exact ((erase_perm xs j x (by simpa using h)).cons a).trans (List.Perm.swap x a _)

/-- The sums are stored: all holds of the shorter list. -/
theorem ords_removed {w1 V : World} {ab ob mb s j : Nat} {v1 : Value} {l l1 : List Nat} {dat : Nat → Odr} {cs : Array Value} {ks : List (Int × Nat)} (q1 q2 : Nat) (hv : V.heap[ab]? = some (.cells (cs.setIfInBounds 7 v1) 135 (0, 0))) (hsz : cs.size = 13)
    (h8 : cs[8]? = some (.map (some mb))) (h9 : cs[9]? = some (.int .i64 (tot (qtyF dat 0) l))) (h10 : cs[10]? = some (.int .i64 (tot (qtyF dat 1) l))) (hs : s < 2) (hside : (dat ob).side = s)
    (kV : Keep (fun b => b ≠ mb) w1 V) (hp : l.Perm (l1 ++ [ob])) (hh : HeapAt w1 v1 l1 dat) (hok : HeapOk (endAt (tillOf dat) l1) l1.length)
    (hj : ks[j]? = some ((dat ob).num, ob)) (mV : MapAt V mb (ks.eraseIdx j)) (hn : (ks.map (·.1)).Nodup) (hkp : (ks.map (·.2)).Perm l) (hkd : ∀ p, p ∈ ks → (dat p.2).num = p.1)
    (hva : v1.ownBlock ≠ some ab) (hvm : v1.ownBlock ≠ some mb) (hal : ab ∉ l1) (hml : mb ∉ l1) (ham : ab ≠ mb) :
    OrdsAt (((V.drewN q1).setCell ⟨ab, 9 + s, none⟩ (.int .i64 (tot (qtyF dat s) l - (dat ob).qty))).setCell ⟨ab, 11, none⟩ (.int .i64 (tot (worthF dat) l - (dat ob).worth)) |>.drewN q2) ab v1 mb l1 dat ∧
    (∃ cs', (((V.drewN q1).setCell ⟨ab, 9 + s, none⟩ (.int .i64 (tot (qtyF dat s) l - (dat ob).qty))).setCell ⟨ab, 11, none⟩ (.int .i64 (tot (worthF dat) l - (dat ob).worth)) |>.drewN q2).heap[ab]? = some (.cells cs' 135 (0, 0)) ∧ (∀ i, i < 7 ∨ 11 < i → cs'[i]? = cs[i]?)) ∧
    Keep (fun b => b ≠ mb ∧ b ≠ ab) w1 (((V.drewN q1).setCell ⟨ab, 9 + s, none⟩ (.int .i64 (tot (qtyF dat s) l - (dat ob).qty))).setCell ⟨ab, 11, none⟩ (.int .i64 (tot (worthF dat) l - (dat ob).worth)) |>.drewN q2) := by
  have hcell : (((V.drewN q1).setCell ⟨ab, 9 + s, none⟩ (.int .i64 (tot (qtyF dat s) l - (dat ob).qty))).setCell ⟨ab, 11, none⟩ (.int .i64 (tot (worthF dat) l - (dat ob).worth)) |>.drewN q2).heap[ab]? = some (.cells (((cs.setIfInBounds 7 v1).setIfInBounds (9 + s) (.int .i64 (tot (qtyF dat s) l - (dat ob).qty))).setIfInBounds 11 (.int .i64 (tot (worthF dat) l - (dat ob).worth))) 135 (0, 0)) :=
    heap_setCell_at _ (heap_setCell_at _ hv)
  have kF : Keep (fun b => b ≠ ab) V (((V.drewN q1).setCell ⟨ab, 9 + s, none⟩ (.int .i64 (tot (qtyF dat s) l - (dat ob).qty))).setCell ⟨ab, 11, none⟩ (.int .i64 (tot (worthF dat) l - (dat ob).worth)) |>.drewN q2) :=
    ((((Keep.refl _ V).drewN q1).setCell _ (fun _ q => q rfl) _).setCell _ (fun _ q => q rfl) _).drewN q2
  have kA : Keep (fun b => b ≠ mb ∧ b ≠ ab) w1 (((V.drewN q1).setCell ⟨ab, 9 + s, none⟩ (.int .i64 (tot (qtyF dat s) l - (dat ob).qty))).setCell ⟨ab, 11, none⟩ (.int .i64 (tot (worthF dat) l - (dat ob).worth)) |>.drewN q2) :=
    (kV.mono (T := fun b => b ≠ mb ∧ b ≠ ab) (fun _ _ q => q.1)).trans' kF (fun _ _ q => q.2)
  have hsum : ∀ x : Int, tot (qtyF dat x) l = tot (qtyF dat x) l1 + (if (dat ob).side = x then (dat ob).qty else 0) := fun x => tot_snoc _ hp
  have hsw : tot (worthF dat) l = tot (worthF dat) l1 + (dat ob).worth := tot_snoc _ hp
  have hjl := (List.getElem?_eq_some_iff.1 hj).1
  refine ⟨⟨⟨_, hcell, by simpa using hsz, ?_, ?_, ?_, ?_, ?_⟩, ?_, hok, ⟨ks.eraseIdx j, mV.keep kF (Ne.symm ham), ?_, ?_, ?_⟩, hva, hvm, hal, hml, ham⟩, ⟨_, hcell, fun i hi => ?_⟩, kA⟩
  · rw [Array.getElem?_setIfInBounds, if_neg (by omega), Array.getElem?_setIfInBounds, if_neg (by omega), Array.getElem?_setIfInBounds, if_pos rfl, if_pos (by omega)]
  · rw [Array.getElem?_setIfInBounds, if_neg (by omega), Array.getElem?_setIfInBounds, if_neg (by omega), Array.getElem?_setIfInBounds, if_neg (by omega)]; exact h8
  · have h0 := hsum 0
    rw [hside] at h0
    rw [Array.getElem?_setIfInBounds, if_neg (by omega), Array.getElem?_setIfInBounds]
    by_cases e : s = 0
    · subst e
      rw [if_pos rfl, if_pos (by simp; omega)]
      rw [if_pos (show ((0 : Nat) : Int) = 0 from rfl)] at h0
      have : tot (qtyF dat ((0 : Nat) : Int)) l - (dat ob).qty = tot (qtyF dat 0) l1 := by
        show tot (qtyF dat 0) l - (dat ob).qty = _
        omega
      rw [this]
    · rw [if_neg (by omega), Array.getElem?_setIfInBounds, if_neg (by omega), h9]
      rw [if_neg (by omega)] at h0
      rw [h0, Int.add_zero]
  · have h0 := hsum 1
    rw [hside] at h0
    rw [Array.getElem?_setIfInBounds, if_neg (by omega), Array.getElem?_setIfInBounds]
    by_cases e : s = 1
    · subst e
      rw [if_pos rfl, if_pos (by simp; omega)]
      rw [if_pos (show ((1 : Nat) : Int) = 1 from rfl)] at h0
      have : tot (qtyF dat ((1 : Nat) : Int)) l - (dat ob).qty = tot (qtyF dat 1) l1 := by
        show tot (qtyF dat 1) l - (dat ob).qty = _
        omega
      rw [this]
    · rw [if_neg (by omega), Array.getElem?_setIfInBounds, if_neg (by omega), h10]
      rw [if_neg (by omega)] at h0
      rw [h0, Int.add_zero]
  · rw [Array.getElem?_setIfInBounds, if_pos rfl, if_pos (by simp; omega)]
    have : tot (worthF dat) l - (dat ob).worth = tot (worthF dat) l1 := by omega
    rw [this]
  · refine hh.keep kA (fun b e => ⟨fun q => hvm (q ▸ e), fun q => hva (q ▸ e)⟩) (fun b e => ⟨fun q => hml (q ▸ e), fun q => hal (q ▸ e)⟩)
  · rw [map_erase]
    exact (List.eraseIdx_sublist _ _).nodup hn
  · rw [map_erase]
    have e1 : (ks.map (·.2)).Perm ((ks.map (·.2)).eraseIdx j ++ [ob]) := by
      have hj2 : (ks.map (·.2))[j]? = some ob := by simp [hj]
      generalize ks.map (·.2) = xs at hj2
      exact (erase_perm xs j ob hj2).trans (List.perm_append_singleton _ _).symm
    exact (List.perm_append_right_iff [ob]).1 ((e1.symm.trans hkp).trans hp)
  · intro p hpm
    exact hkd p ((List.eraseIdx_sublist _ _).subset hpm)
  · rw [Array.getElem?_setIfInBounds, if_neg (by omega), Array.getElem?_setIfInBounds, if_neg (by omega), Array.getElem?_setIfInBounds, if_neg (by omega)]

set_option maxRecDepth 20000 in
set_option maxHeartbeats 2000000 in
theorem remove_any (w : World) (ab ob : Nat) (v : Value) (mb : Nat) (l : List Nat) (dat : Nat → Odr) (h : OrdsAt w ab v mb l dat) (hb : ob ∈ l) (hs : (dat ob).side = 0 ∨ (dat ob).side = 1) (hlen : l.length ≤ 8796093022208)
    (hq : 0 ≤ tot (qtyF dat (dat ob).side) l - (dat ob).qty ∧ tot (qtyF dat (dat ob).side) l - (dat ob).qty ≤ 9223372036854775807) (hw : 0 ≤ tot (worthF dat) l - (dat ob).worth ∧ tot (worthF dat) l - (dat ob).worth ≤ 9223372036854775807) :
    Calls Try.prog 71 #[.pointer (some ⟨ab, 7, none⟩), .int .i64 (dat ob).num] w fun e w' => e = .returned (.tuple #[]) ∧
      ∃ v' l', OrdsAt w' ab v' mb l' dat ∧ l.Perm (l' ++ [ob]) ∧ v'.ownBlock = v.ownBlock ∧
        (∀ cs, w.heap[ab]? = some (.cells cs 135 (0, 0)) → ∃ cs', w'.heap[ab]? = some (.cells cs' 135 (0, 0)) ∧ (∀ i, i < 7 ∨ 11 < i → cs'[i]? = cs[i]?)) ∧
        Keep (fun b => b ≠ ab ∧ b ≠ mb ∧ v.ownBlock ≠ some b ∧ b ∉ l) w w' := by
  obtain ⟨cs, h1, h2, h3, h4, h5, h6, h7⟩ := h.cells
  obtain ⟨ks, m1, m2, m3, m4⟩ := h.map
  obtain ⟨j, hj⟩ := key_of m3 m4 hb
  obtain ⟨i, hi⟩ := List.getElem?_of_mem hb
  have hlk := lookup_has m1 m2 hj
  have ho := h.heap.ords i ob hi
  have hob5 : w.cell? ⟨ob, 5, none⟩ = some (.int .i64 i) := cellAt (i := 5) ho rfl
  have hoa : ob ≠ ab := fun e => h.abl (e ▸ hb)
  have hom : ob ≠ mb := fun e => h.mbl (e ▸ hb)
  have hrm := fun q => hremove_any (w.drewN q) ab 7 ob i v l dat (h.heap.keep ((Keep.refl (fun _ => True) w).drewN q) (fun _ _ => trivial) (fun _ _ => trivial)) h.ok (cellAt h1 h3) (frozenAt (i := 7) h1) h.vab h.abl hlen hi
  have c8 := cellAt h1 h4
  have hlt := block_lt h1
  have hltm : mb < w.heap.size := by obtain ⟨es, clock, q, _⟩ := m1; exact block_lt q
  have abm := h.abm
  have HH : Hid (OrdsAt w ab v mb l dat) := h
  clear h ho
  go_enter Try.func71, Try.ntmps71
  go_wp2_with fail
  go_region_with (go_at_call 79; refine (hrm _).mono ?_; rintro e w1 ⟨rfl, hR⟩)
  obtain ⟨v1, l1, c7, hh1, hp1, hok1, hvb, hset, ⟨k, ho1⟩, k1⟩ := hR
  have k1 : Keep (fun b => b ≠ ab ∧ v.ownBlock ≠ some b ∧ b ∉ l) w w1 := ((Keep.refl _ w).drewN 1).trans k1
  have hcs := hset cs _ _ h1
  have mm1 : MapAt w1 mb ks := m1.keep k1 ⟨Ne.symm abm, HH.out.vmb, HH.out.mbl⟩
  obtain ⟨o2, r2, mm2⟩ := delete_has mm1 m2 hj
  have a8 : w1.cell? ⟨ab, 8, none⟩ = some (.map (some mb)) := cellAt hcs (by rw [Array.getElem?_setIfInBounds, if_neg (by omega)]; exact h4)
  have r2' : ∀ ty, (Builtin.delete_ #[127, 3] ty #[.map (some mb), .int .i64 (dat ob).num]).run Try.prog w1 = .ok (.tuple #[]) (putAt w1 mb o2) := r2 0
  have HCS : Hid (w1.heap[ab]? = some (.cells (cs.setIfInBounds 7 v1) 135 (0, 0))) := hcs
  have HO1 : Hid (OrdAt w1 ob (dat ob) k) := ho1
  have HM2 : Hid (MapAt (putAt w1 mb o2) mb (ks.eraseIdx j)) := mm2 0
  have HK1 : Hid (Keep (fun b => b ≠ ab ∧ v.ownBlock ≠ some b ∧ b ∉ l) w w1) := k1
  have HH1 : Hid (HeapAt w1 v1 l1 dat) := hh1
  have HP1 : Hid (l.Perm (l1 ++ [ob])) := hp1
  have HOK1 : Hid (HeapOk (endAt (tillOf dat) l1) l1.length) := hok1
  have HVB : Hid (v1.ownBlock = v.ownBlock) := hvb
  clear hset hcs ho1 mm2 k1 hh1 hp1 hok1 hvb mm1 c7 r2 hrm hlk c8 hob5
  obtain ⟨V, hV⟩ : ∃ V, V = putAt w1 mb o2 := ⟨_, rfl⟩
  have kV : Keep (fun b => b ≠ mb) w1 V := by rw [hV]; exact putAt_keep _ _ _
  have MV : Hid (MapAt V mb (ks.eraseIdx j)) := by show MapAt _ _ _; rw [hV]; exact HM2.out
  rw [← hV] at r2'
  clear hV HM2
  go_wp2_with fail
  have CV : Hid (V.heap[ab]? = some (.cells (cs.setIfInBounds 7 v1) 135 (0, 0))) := kV.get HCS.out abm
  have OV : Hid (OrdAt V ob (dat ob) k) := kV.get HO1.out hom
  have g9 : V.cell? ⟨ab, 9, none⟩ = some (.int .i64 (tot (qtyF dat 0) l)) := cellAt CV.out (by rw [Array.getElem?_setIfInBounds, if_neg (by omega)]; exact h5)
  have g10 : V.cell? ⟨ab, 10, none⟩ = some (.int .i64 (tot (qtyF dat 1) l)) := cellAt CV.out (by rw [Array.getElem?_setIfInBounds, if_neg (by omega)]; exact h6)
  have g11 : V.cell? ⟨ab, 11, none⟩ = some (.int .i64 (tot (worthF dat) l)) := cellAt CV.out (by rw [Array.getElem?_setIfInBounds, if_neg (by omega)]; exact h7)
  have f9 : V.frozen? ⟨ab, 9, none⟩ = false := frozenAt CV.out
  have f10 : V.frozen? ⟨ab, 10, none⟩ = false := frozenAt CV.out
  have f11 : V.frozen? ⟨ab, 11, none⟩ = false := frozenAt CV.out
  have o1 : V.cell? ⟨ob, 1, none⟩ = some (.int .i64 (dat ob).side) := cellAt (i := 1) OV.out rfl
  have o2' : V.cell? ⟨ob, 2, none⟩ = some (.int .i64 (dat ob).qty) := cellAt (i := 2) OV.out rfl
  have o3 : V.cell? ⟨ob, 3, none⟩ = some (.int .i64 (dat ob).worth) := cellAt (i := 3) OV.out rfl
  have hoa2 := Ne.symm hoa
  have KV : Hid (Keep (fun b => b ≠ mb) w1 V) := kV
  have HAL : Hid (ab ∉ l1 ∧ mb ∉ l1) :=
    ⟨fun q => HH.out.abl (HP1.out.mem_iff.2 (List.mem_append_left _ q)), fun q => HH.out.mbl (HP1.out.mem_iff.2 (List.mem_append_left _ q))⟩
  have HFIN : Hid (∀ s : Nat, s < 2 → (dat ob).side = s → ∀ q1 q2, ∃ v' l', OrdsAt (((V.drewN q1).setCell ⟨ab, 9 + s, none⟩ (.int .i64 (tot (qtyF dat s) l - (dat ob).qty))).setCell ⟨ab, 11, none⟩ (.int .i64 (tot (worthF dat) l - (dat ob).worth)) |>.drewN q2) ab v' mb l' dat ∧ l.Perm (l' ++ [ob]) ∧ v'.ownBlock = v.ownBlock ∧
        (∀ cs, w.heap[ab]? = some (.cells cs 135 (0, 0)) → ∃ cs', (((V.drewN q1).setCell ⟨ab, 9 + s, none⟩ (.int .i64 (tot (qtyF dat s) l - (dat ob).qty))).setCell ⟨ab, 11, none⟩ (.int .i64 (tot (worthF dat) l - (dat ob).worth)) |>.drewN q2).heap[ab]? = some (.cells cs' 135 (0, 0)) ∧ (∀ i, i < 7 ∨ 11 < i → cs'[i]? = cs[i]?)) ∧
        Keep (fun b => b ≠ ab ∧ b ≠ mb ∧ v.ownBlock ≠ some b ∧ b ∉ l) w (((V.drewN q1).setCell ⟨ab, 9 + s, none⟩ (.int .i64 (tot (qtyF dat s) l - (dat ob).qty))).setCell ⟨ab, 11, none⟩ (.int .i64 (tot (worthF dat) l - (dat ob).worth)) |>.drewN q2)) := by
    intro s hs2 hside q1 q2
    obtain ⟨p1, p2, p3⟩ := ords_removed q1 q2 CV.out h2 h4 h5 h6 hs2 hside kV HP1.out HH1.out HOK1.out hj MV.out m2 m3 m4 (by rw [HVB.out]; exact HH.out.vab) (by rw [HVB.out]; exact HH.out.vmb) HAL.out.1 HAL.out.2 abm
    refine ⟨v1, l1, p1, HP1.out, HVB.out, fun cs2 hc2 => ?_, ?_⟩
    · rw [h1] at hc2; cases hc2; exact p2
    · exact (HK1.out.mono (T := fun b => b ≠ ab ∧ b ≠ mb ∧ v.ownBlock ≠ some b ∧ b ∉ l) (fun b _ q => ⟨q.1, q.2.2.1, q.2.2.2⟩)).trans' p3 (fun b _ q => ⟨q.2.1, q.1⟩)
  clear kV r2' h1 h2 h3 h4 h5 h6 h7 m1 m2 m3 m4 hj hi a8
  rcases hs with hs | hs
  · have HF : Hid _ := HFIN.out 0 (by omega) hs
    rw [hs] at o1 hq
    clear HFIN
    go_region
    go_wp2_with fail
    go_region
    go_wp2_with fail
    go_end0
    exact ⟨rfl, HF.out 0 2⟩
  · have HF : Hid _ := HFIN.out 1 (by omega) hs
    rw [hs] at o1 hq
    clear HFIN
    go_region
    go_wp2_with fail
    go_region
    go_wp2_with fail
    go_end0
    exact ⟨rfl, HF.out 0 2⟩

end Go.Proofs.Ytjhifhoniimfgaa

/-
  How many News were taken at which time: IndexFunc.
-/
namespace Go.Proofs.Ytjhifhoniimfgaa
open Go.RowKit

/-- How many were taken at a time: the time, how many. -/
abbrev Cnt := Int × Int

def CellsOf (cur : Array Value) (c : List Cnt) : Prop := ∀ (i : Nat) (x : Cnt), c[i]? = some x → cur[i * 2]? = some (.int .i64 x.1) ∧ cur[i * 2 + 1]? = some (.int .i64 x.2)

def CntAt (w : World) (v : Value) (c : List Cnt) : Prop :=
  (v = .slice none 0 0 ∧ c = []) ∨ ∃ cb cap cur, v = .slice (some ⟨cb, 0, none⟩) c.length cap ∧ w.heap[cb]? = some (.cells cur 183 (0, 0)) ∧ c.length ≤ cap ∧ cap ≤ maxLen ∧ cur.size = cap * 2 ∧ CellsOf cur c

theorem CntAt.keep {S : Nat → Prop} {w w' : World} {v : Value} {c : List Cnt} (h : CntAt w v c) (hk : Keep S w w') (h1 : ∀ b, v.ownBlock = some b → S b) : CntAt w' v c := by
  rcases h with h | ⟨cb, cap, cur, rfl, a, b⟩
  · exact .inl h
  · exact .inr ⟨cb, cap, cur, rfl, hk.get a (h1 cb rfl), b⟩

set_option maxHeartbeats 400000 in
theorem old_any (t m lim : Int) (B : Nat) (w : World) (hc : w.cell? ⟨B, 0, none⟩ = some (.int .i64 lim)) :
    Calls Try.prog 96 #[.agg #[.int .i64 t, .int .i64 m], .pointer (some ⟨B, 0, none⟩)] w fun e w' => e = .returned (.bool (decide (t ≤ lim))) ∧ w.alloc (.cells #[.int .i64 t, .int .i64 m] 183) = w' := by
  have hB := World.block_lt_of_cell? w _ hc
  have hne : B ≠ w.heap.size := by
    have : B < w.heap.size := hB
    omega
  go_enter Try.func96, Try.ntmps96
  go_wp2
  go_ret
  exact ⟨rfl, rfl⟩

theorem CntAt.len {w : World} {v : Value} {c : List Cnt} (h : CntAt w v c) : ∃ a cap, v = .slice a c.length cap := by
  rcases h with ⟨rfl, rfl⟩ | ⟨cb, cap, cur, rfl, _⟩
  · exact ⟨none, 0, rfl⟩
  · exact ⟨_, _, rfl⟩

theorem CntAt.at {w : World} {a : Option Addr} {n cap : Nat} {c : List Cnt} (h : CntAt w (.slice a n cap) c) {k : Nat} {x : Cnt} (hx : c[k]? = some x) : ∃ cb, a = some ⟨cb, 0, none⟩ ∧ w.cell? ⟨cb, k * 2, none⟩ = some (.int .i64 x.1) ∧ w.cell? ⟨cb, k * 2 + 1, none⟩ = some (.int .i64 x.2) := by
  rcases h with ⟨_, rfl⟩ | ⟨cb, cap, cur, hv, h1, _, _, _, h5⟩
  · simp at hx
  · simp only [Value.slice.injEq] at hv
    obtain ⟨e1, e2⟩ := h5 k x hx
    exact ⟨cb, hv.1, cellAt h1 e1, cellAt h1 e2⟩

set_option maxRecDepth 20000 in
set_option maxHeartbeats 1000000 in
theorem indexOld (w : World) (v : Value) (c : List Cnt) (lim : Int) (B : Nat) (h : CntAt w v c) (hc : w.cell? ⟨B, 0, none⟩ = some (.int .i64 lim)) (hlen : c.length ≤ 8796093022208) :
    Calls Try.prog 97 #[v, .func (.func 96) #[] #[.pointer (some ⟨B, 0, none⟩)]] w fun e w' => Below w.heap.size w w' ∧
      ((e = .returned (.int .i64 (-1)) ∧ ∀ (i : Nat) x, c[i]? = some x → lim < x.1) ∨ ∃ k : Nat, e = .returned (.int .i64 k) ∧ k < c.length ∧ (∀ (i : Nat) x, i < k → c[i]? = some x → lim < x.1) ∧ ∃ x, c[k]? = some x ∧ x.1 ≤ lim) := by
  have hB := World.block_lt_of_cell? w _ hc
  obtain ⟨a, cap, rfl⟩ := h.len
  go_enter Try.func97, Try.ntmps97
  go_wp2_with fail
  go_loopw [8] (fun k wr => ∃ j : Nat, k = .int .i64 j ∧ j ≤ c.length ∧ (∀ (i : Nat) x, i < j → c[i]? = some x → lim < x.1) ∧ Below w.heap.size w wr) (fun k _ => c.length - (intOf k).toNat)
  case atStart => exact ⟨0, rfl, Nat.zero_le _, fun i x hi => by omega, Below.refl _ _⟩
  case round =>
    obtain ⟨j, rfl, hj, hno, hb⟩ := hrel
    have HB : Hid (Below w.heap.size w wr) := hb
    have HN : Hid (∀ (i : Nat) x, i < j → c[i]? = some x → lim < x.1) := hno
    have hsz := hb.size
    by_cases hlt : j < c.length
    · obtain ⟨x, hx⟩ : ∃ x, c[j]? = some x := ⟨_, List.getElem?_eq_getElem hlt⟩
      obtain ⟨cb, rfl, d1, d2⟩ := h.at hx
      have hcb := World.block_lt_of_cell? w _ d1
      rw [← hb.cell (p := ⟨cb, j * 2, none⟩) hcb] at d1
      rw [← hb.cell (p := ⟨cb, j * 2 + 1, none⟩) hcb] at d2
      have hcw : wr.cell? ⟨B, 0, none⟩ = some (.int .i64 lim) := by rw [hb.cell hB]; exact hc
      have hold := old_any x.1 x.2 lim B wr hcw
      have hlt2 : (j : Int) < (c.length : Int) := by omega
      have HX : Hid (c[j]? = some x) := hx
      clear hb hno hx hc
      by_cases ho : x.1 ≤ lim
      · go_wp2_with fail
        refine hold.mono ?_
        rintro e w1 ⟨rfl, rfl⟩
        go_wp2_with fail
        go_ret
        exact ⟨HB.out.alloc hsz _, .inr ⟨j, rfl, hlt, HN.out, x, HX.out, ho⟩⟩
      · have ho2 : decide (x.1 ≤ lim) = false := decide_eq_false ho
        go_wp2_with fail
        refine hold.mono ?_
        rintro e w1 ⟨rfl, rfl⟩
        go_wp2_with fail
        go_roundw
        case rel =>
          refine ⟨j + 1, by go_num, by omega, fun i y hi hy => ?_, HB.out.alloc hsz _⟩
          by_cases e : i = j
          · subst e
            rw [HX.out] at hy
            cases hy
            omega
          · exact HN.out i y (by omega) hy
        case measure => simp [intOf]; omega
    · obtain rfl : j = c.length := by omega
      go_wp2_with fail
      go_ret
      exact ⟨HB.out, .inl ⟨rfl, fun i x hx => HN.out i x (List.getElem?_eq_some_iff.1 hx).1 hx⟩⟩

end Go.Proofs.Ytjhifhoniimfgaa

/-
  How many News were taken at which time: DeleteFunc.
-/
namespace Go.Proofs.Ytjhifhoniimfgaa
open Go.RowKit

theorem setCells_block {b : Nat} {T : TypeId} {f : Nat × Nat} : ∀ (vs : List Value) (o : Nat) (w : World) (cur : Array Value), w.heap[b]? = some (.cells cur T f) →
    ∃ cur', (w.setCells b o vs).heap[b]? = some (.cells cur' T f) ∧ cur'.size = cur.size ∧ (∀ k, k < o → cur'[k]? = cur[k]?) ∧ Keep (fun k => k ≠ b) w (w.setCells b o vs)
  | [], o, w, cur, h => ⟨cur, h, rfl, fun _ _ => rfl, Keep.refl _ _⟩
  | v :: r, o, w, cur, h => by
    obtain ⟨cur', h1, h2, h3, h4⟩ := setCells_block r (o + 1) (w.setCell ⟨b, o, none⟩ v) _ (heap_setCell_at v h)
    refine ⟨cur', h1, by simpa using h2, fun k hk => ?_, ((Keep.refl _ w).setCell _ (fun _ q => q rfl) v).trans h4⟩
    rw [h3 k (by omega), Array.getElem?_setIfInBounds, if_neg (by omega)]

theorem run_clear_cnt (w : World) (b o n c : Nat) (hn : 0 < n) (hc : ∀ j, j < n * 2 → (w.cell? ⟨b, o + j, none⟩).isSome = true) (hf : ∀ j, j < n * 2 → w.frozen? ⟨b, o + j, none⟩ = false) :
    ∃ vs, ∀ ty, (Builtin.clear_ #[133] ty #[.slice (some ⟨b, o, none⟩) n c]).run Try.prog w = .ok (.tuple #[]) (w.setCells b o vs) := by
  have hv : ∀ w, (zeroValue 183).run Try.prog w = .ok (.agg #[.int .i64 0, .int .i64 0]) w := fun w => by simp [go_sem]
  obtain ⟨vs, hvs⟩ : ∃ vs, vs = (Builtin.zeroCells #[.int .i64 0, .int .i64 0] n).toList := ⟨_, rfl⟩
  have hl : vs.length = n * 2 := by rw [hvs]; simp [Builtin.zeroCells]
  have h1 : ∀ v ∈ vs, v.oneCell' = true := by
    intro v hv
    rw [hvs] at hv
    simp [Builtin.zeroCells] at hv
    obtain ⟨a, _, ha⟩ := hv
    have : a % 2 = 0 ∨ a % 2 = 1 := by omega
    rcases this with h | h
    · rw [h] at ha; rw [← ha]; rfl
    · rw [h] at ha; rw [← ha]; rfl
  have hst := run_storeCells_cells (P := Try.prog) b o vs 0 w (by rw [hl]; simpa using hc) (by rw [hl]; simpa using hf) h1
  simp only [Nat.add_zero] at hst
  obtain ⟨m, rfl⟩ : ∃ m, n = m + 1 := ⟨n - 1, by omega⟩
  refine ⟨vs, fun ty => ?_⟩
  simp [Builtin.clear_, run_underlying Try.underlying133, hv, Value.cells, ← hvs, hst]

def keepP (lim : Int) (x : Cnt) : Bool := decide (lim < x.1)

theorem take_succ_filter (c : List Cnt) (lim : Int) (j : Nat) (x : Cnt) (hx : c[j]? = some x) : (c.take (j + 1)).filter (keepP lim) = (c.take j).filter (keepP lim) ++ (if keepP lim x then [x] else []) := by
  obtain ⟨h1, h2⟩ := List.getElem?_eq_some_iff.1 hx
  rw [List.take_succ_eq_append_getElem h1, List.filter_append, h2]
  congr 1
  by_cases h : keepP lim x <;> simp [h]

theorem filter_all (c : List Cnt) (lim : Int) (h : ∀ (i : Nat) x, c[i]? = some x → lim < x.1) : c.filter (keepP lim) = c := by
  rw [List.filter_eq_self]
  intro x hx
  obtain ⟨i, hi⟩ := List.getElem?_of_mem hx
  exact decide_eq_true (h i x hi)

theorem filter_take_all (c : List Cnt) (lim : Int) (k : Nat) (h : ∀ (i : Nat) x, i < k → c[i]? = some x → lim < x.1) : (c.take k).filter (keepP lim) = c.take k := by
  refine filter_all _ lim (fun i x hx => ?_)
  have hi : i < k := by have := (List.getElem?_eq_some_iff.1 hx).1; rw [List.length_take] at this; omega
  rw [List.getElem?_take_of_lt hi] at hx
  exact h i x hi hx

theorem CellsOf.snoc {cur : Array Value} {c : List Cnt} {x : Cnt} (h : CellsOf cur c) (hs : c.length * 2 + 1 < cur.size) :
    CellsOf ((cur.setIfInBounds (c.length * 2) (.int .i64 x.1)).setIfInBounds (c.length * 2 + 1) (.int .i64 x.2)) (c ++ [x]) := by
  intro i y hy
  simp only [Array.getElem?_setIfInBounds, Array.size_setIfInBounds]
  rcases Nat.lt_trichotomy i c.length with e | e | e
  · rw [List.getElem?_append_left e] at hy
    obtain ⟨e1, e2⟩ := h i y hy
    rw [if_neg (by omega), if_neg (by omega), if_neg (by omega), if_neg (by omega)]
    exact ⟨e1, e2⟩
  · subst e
    simp at hy
    subst hy
    rw [if_neg (by omega), if_pos rfl, if_pos (by omega), if_pos rfl, if_pos (by omega)]
    exact ⟨rfl, rfl⟩
  · rw [List.getElem?_eq_none (by simp; omega)] at hy; cases hy

/-- The loop's relation: of the first j those that stay lie ahead; the others lie where they lay. -/
def DelRel (w1 : World) (cb cap : Nat) (c : List Cnt) (lim : Int) (i j : Nat) (wr : World) : Prop :=
  j ≤ c.length ∧ i = ((c.take j).filter (keepP lim)).length ∧ (∃ cur, wr.heap[cb]? = some (.cells cur 183 (0, 0)) ∧ cur.size = cap * 2 ∧ CellsOf cur ((c.take j).filter (keepP lim)) ∧
    ∀ (a : Nat) x, j ≤ a → c[a]? = some x → cur[a * 2]? = some (.int .i64 x.1) ∧ cur[a * 2 + 1]? = some (.int .i64 x.2)) ∧ Keep (fun b => b ≠ cb) w1 wr

theorem DelRel.le {w1 wr : World} {cb cap : Nat} {c : List Cnt} {lim : Int} {i j : Nat} (h : DelRel w1 cb cap c lim i j wr) : i ≤ j := by
  rw [h.2.1]
  have := List.length_filter_le (keepP lim) (c.take j)
  rw [List.length_take] at this
  omega

theorem DelRel.drop {w1 wr : World} {cb cap : Nat} {c : List Cnt} {lim : Int} {i j : Nat} (h : DelRel w1 cb cap c lim i j wr) {x : Cnt} (hx : c[j]? = some x) (ho : x.1 ≤ lim) (o1 o2 : Obj) :
    DelRel w1 cb cap c lim i (j + 1) ((wr.alloc o1).alloc o2) := by
  obtain ⟨h1, h2, ⟨cur, h3, h4, h5, h6⟩, h7⟩ := h
  have hf : (c.take (j + 1)).filter (keepP lim) = (c.take j).filter (keepP lim) := by
    rw [take_succ_filter c lim j x hx, if_neg (by simp [keepP]; omega), List.append_nil]
  have hj := (List.getElem?_eq_some_iff.1 hx).1
  have hk := (h7.alloc o1).alloc o2
  have hlt := block_lt h3
  refine ⟨hj, by rw [hf]; exact h2, ⟨cur, ?_, h4, by rw [hf]; exact h5, fun a y ha hy => h6 a y (by omega) hy⟩, hk⟩
  rw [Below.heap_alloc _ _ _ (by rw [World.size_alloc]; omega), Below.heap_alloc _ _ _ hlt]; exact h3

theorem DelRel.stay {w1 wr : World} {cb cap : Nat} {c : List Cnt} {lim : Int} {i j : Nat} (h : DelRel w1 cb cap c lim i j wr) {x : Cnt} (hx : c[j]? = some x) (ho : lim < x.1) (o1 o2 : Obj) (hcap : c.length ≤ cap) :
    DelRel w1 cb cap c lim (i + 1) (j + 1) ((((wr.setCell ⟨cb, i * 2, none⟩ (.int .i64 x.1)).setCell ⟨cb, i * 2 + 1, none⟩ (.int .i64 x.2)).alloc o1).alloc o2) := by
  have hle := h.le
  obtain ⟨h1, h2, ⟨cur, h3, h4, h5, h6⟩, h7⟩ := h
  have hf : (c.take (j + 1)).filter (keepP lim) = (c.take j).filter (keepP lim) ++ [x] := by
    rw [take_succ_filter c lim j x hx, if_pos (by simp [keepP]; exact ho)]
  have hj := (List.getElem?_eq_some_iff.1 hx).1
  have hlt := block_lt h3
  have hb : ((((wr.setCell ⟨cb, i * 2, none⟩ (.int .i64 x.1)).setCell ⟨cb, i * 2 + 1, none⟩ (.int .i64 x.2)).alloc o1).alloc o2).heap[cb]? = some (.cells ((cur.setIfInBounds (i * 2) (.int .i64 x.1)).setIfInBounds (i * 2 + 1) (.int .i64 x.2)) 183 (0, 0)) := by
    rw [Below.heap_alloc _ _ _ (by rw [World.size_alloc, size_setCell, size_setCell]; omega), Below.heap_alloc _ _ _ (by rw [size_setCell, size_setCell]; exact hlt)]; exact heap_setCell_at _ (heap_setCell_at _ h3)
  refine ⟨hj, by rw [hf, List.length_append, ← h2]; rfl, ⟨_, hb, by simpa using h4, ?_, fun a y ha hy => ?_⟩, (((h7.setCell _ (fun _ q => q rfl) _).setCell _ (fun _ q => q rfl) _).alloc o1).alloc o2⟩
  · rw [hf, h2]
    exact h5.snoc (by rw [← h2]; omega)
  · obtain ⟨e1, e2⟩ := h6 a y (by omega) hy
    simp only [Array.getElem?_setIfInBounds]
    rw [if_neg (by omega), if_neg (by omega), if_neg (by omega), if_neg (by omega)]
    exact ⟨e1, e2⟩

set_option maxRecDepth 20000 in
set_option maxHeartbeats 2000000 in
theorem deleteOld (w : World) (v : Value) (c : List Cnt) (lim : Int) (B : Nat) (h : CntAt w v c) (hc : w.cell? ⟨B, 0, none⟩ = some (.int .i64 lim)) (hBv : v.ownBlock ≠ some B) (hlen : c.length ≤ 8796093022208) :
    Calls Try.prog 95 #[v, .func (.func 96) #[] #[.pointer (some ⟨B, 0, none⟩)]] w fun e w' =>
      ∃ v', e = .returned v' ∧ CntAt w' v' (c.filter (keepP lim)) ∧ v'.ownBlock = v.ownBlock ∧ Keep (fun b => v.ownBlock ≠ some b) w w' := by
  have hix := indexOld w v c lim B h hc hlen
  have HH : Hid (CntAt w v c) := h
  go_enter Try.func95, Try.ntmps95
  go_wp2_with fail
  refine hix.mono ?_
  rintro e w1 ⟨hb1, hcase⟩
  rcases hcase with ⟨rfl, hall⟩ | ⟨k, rfl, hk, hno, x0, hx0, ho0⟩
  · have HB1 : Hid (Below w.heap.size w w1) := hb1
    have HA : Hid (∀ (i : Nat) x, c[i]? = some x → lim < x.1) := hall
    clear hb1 hall h hc
    go_wp2_with fail
    go_ret
    refine ⟨v, rfl, ?_, rfl, Keep.ofBelow HB1.out⟩
    rw [filter_all c lim HA.out]
    exact HH.out.keep (Keep.ofBelow HB1.out) (S := fun _ => True) (fun _ _ => trivial)
  · rcases h with ⟨_, rfl⟩ | ⟨cb, cap, cur, rfl, q1, q2, q3, q4, q5⟩
    · simp at hk
    have hcb := block_lt q1
    have hBb := World.block_lt_of_cell? w _ hc
    have hBc : B ≠ cb := fun e => hBv (by rw [e]; rfl)
    have hc1 : w1.cell? ⟨B, 0, none⟩ = some (.int .i64 lim) := by rw [hb1.cell hBb]; exact hc
    have q1' : w1.heap[cb]? = some (.cells cur 183 (0, 0)) := (hb1.block cb hcb).trans q1
    have hcb1 := block_lt q1'
    have hB1 : B < w1.heap.size := Nat.lt_of_lt_of_le hBb hb1.size
    have HST : Hid (DelRel w1 cb cap c lim k (k + 1) w1) := by
      have hf : (c.take (k + 1)).filter (keepP lim) = c.take k := by
        rw [take_succ_filter c lim k x0 hx0, if_neg (by simp [keepP]; omega), List.append_nil, filter_take_all c lim k hno]
      refine ⟨by omega, by rw [hf, List.length_take]; omega, ⟨cur, q1', q4, ?_, fun a x _ hx => q5 a x hx⟩, Keep.refl _ _⟩
      rw [hf]
      intro i x hx
      have hi : i < k := by have := (List.getElem?_eq_some_iff.1 hx).1; rw [List.length_take] at this; omega
      rw [List.getElem?_take_of_lt hi] at hx
      exact q5 i x hx
    have HB1 : Hid (Below w.heap.size w w1) := hb1
    have HC1 : Hid (w1.cell? ⟨B, 0, none⟩ = some (.int .i64 lim)) := hc1
    have hkl : (k : Int) < (c.length : Int) := by omega
    have hk1 : ((k : Int) == -1) = false := by simp
    clear hb1 hno hx0 ho0 hc hc1 q1 q1' q4 q5 HH
    go_wp2_with fail
    go_loopw [5, 6] (fun vi vj wr => ∃ i j : Nat, vi = .int .i64 i ∧ vj = .int .i64 j ∧ i < j ∧ DelRel w1 cb cap c lim i j wr) (fun _ vj _ => c.length - (intOf vj).toNat)
    case atStart => exact ⟨k, k + 1, rfl, by go_num, by omega, HST.out⟩
    case round =>
      obtain ⟨i, j, rfl, rfl, hij, hrel⟩ := hrel
      have hjn := hrel.1
      have HR : Hid (DelRel w1 cb cap c lim i j wr) := hrel
      have hkk := hrel.2.2.2
      have hcw : wr.cell? ⟨B, 0, none⟩ = some (.int .i64 lim) := by rw [World.cell?_of_block (w := w1) (hkk.block B hB1 hBc)]; exact HC1.out
      obtain ⟨cur, r1, r2, r3, r4⟩ := hrel.2.2.1
      have hcbr := block_lt r1
      have hBr := World.block_lt_of_cell? wr _ hcw
      by_cases hlt : j < c.length
      · obtain ⟨x, hx⟩ : ∃ x, c[j]? = some x := ⟨_, List.getElem?_eq_getElem hlt⟩
        obtain ⟨e1, e2⟩ := r4 j x (Nat.le_refl _) hx
        have d1 := cellAt r1 e1
        have d2 := cellAt r1 e2
        have z1 := frozenAt (i := i * 2) r1
        have z2 := frozenAt (i := i * 2 + 1) r1
        obtain ⟨u1, hu1⟩ : ∃ u, cur[i * 2]? = some u := ⟨_, Array.getElem?_eq_getElem (by omega)⟩
        obtain ⟨u2, hu2⟩ : ∃ u, cur[i * 2 + 1]? = some u := ⟨_, Array.getElem?_eq_getElem (by omega)⟩
        have g1 := cellAt r1 hu1
        have g2 := cellAt r1 hu2
        have hold := fun W hW => old_any x.1 x.2 lim B W hW
        have hcw2 : ∀ o, (wr.alloc o).cell? ⟨B, 0, none⟩ = some (.int .i64 lim) := fun o => by rw [World.cell?_of_block (w := wr) (Below.heap_alloc _ _ _ hBr)]; exact hcw
        have hlt2 : (j : Int) < (c.length : Int) := by omega
        have hlt3 : (i : Int) < (c.length : Int) := by omega
        have HX : Hid (c[j]? = some x) := hx
        clear hrel hkk r1 r3 r4 e1 e2 hu1 hu2 hx
        by_cases ho : x.1 ≤ lim
        · go_wp2_with fail
          refine (hold _ (hcw2 _)).mono ?_
          rintro e w2 ⟨rfl, rfl⟩
          go_wp2_with fail
          go_roundw
          case rel => exact ⟨i, j + 1, rfl, by go_num, by omega, HR.out.drop HX.out ho _ _⟩
          case measure => simp [intOf]; omega
        · have ho2 : decide (x.1 ≤ lim) = false := decide_eq_false ho
          go_wp2_with fail
          refine (hold _ (hcw2 _)).mono ?_
          rintro e w2 ⟨rfl, rfl⟩
          go_wp2_with fail
          go_roundw
          case rel => exact ⟨i + 1, j + 1, by go_num, by go_num, by omega, HR.out.stay HX.out (by omega) _ _ q2⟩
          case measure => simp [intOf]; omega
      · obtain rfl : j = c.length := by omega
        obtain ⟨vs, hclr⟩ := run_clear_cnt wr cb (i * 2) (c.length - i) (cap - i) (by omega) (fun a ha => by
          rw [cellAt r1 (Array.getElem?_eq_getElem (show i * 2 + a < cur.size by omega))]; rfl) (fun a _ => frozenAt r1)
        obtain ⟨cur', s1, s2, s3, s4⟩ := setCells_block vs (i * 2) wr cur r1
        have hfl : i = (c.filter (keepP lim)).length := by
          have := hrel.2.1
          rwa [List.take_length] at this
        have HF : Hid (∃ v', Ending.returned (.slice (some ⟨cb, 0, none⟩) i cap) = .returned v' ∧ CntAt (wr.setCells cb (i * 2) vs) v' (c.filter (keepP lim)) ∧ v'.ownBlock = (Value.slice (some ⟨cb, 0, none⟩) c.length cap).ownBlock ∧ Keep (fun b => (Value.slice (some ⟨cb, 0, none⟩) c.length cap).ownBlock ≠ some b) w (wr.setCells cb (i * 2) vs)) := by
          refine ⟨_, rfl, .inr ⟨cb, cap, cur', by rw [← hfl], s1, by omega, q3, by omega, fun a x hx => ?_⟩, rfl, ?_⟩
          · have ha := (List.getElem?_eq_some_iff.1 hx).1
            have hx2 : ((c.take c.length).filter (keepP lim))[a]? = some x := by rw [List.take_length]; exact hx
            obtain ⟨t1, t2⟩ := r3 a x hx2
            exact ⟨by rw [s3 _ (by omega)]; exact t1, by rw [s3 _ (by omega)]; exact t2⟩
          · have k0 : Keep (fun b => b ≠ cb) w w1 := Keep.ofBelow HB1.out
            exact ((k0.trans hkk).trans s4).mono (fun b _ q e => q (by rw [e]; rfl))
        obtain ⟨W2, hW2⟩ : ∃ W2, W2 = wr.setCells cb (i * 2) vs := ⟨_, rfl⟩
        rw [← hW2] at hclr HF
        have hci : (i : Int) ≤ (cap : Int) := by omega
        have hin : (i : Int) ≤ (c.length : Int) := by omega
        have hicap : i < cap := by omega
        have hlt4 : ¬ ((c.length : Int) < (c.length : Int)) := by omega
        clear hW2 s1 s2 s3 s4 r1 r2 r3 r4 hrel hkk hfl HR
        go_wp2_with fail
        go_ret
        exact HF.out

end Go.Proofs.Ytjhifhoniimfgaa

