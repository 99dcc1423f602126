import Derived.Test.YtjhifhoniimfgaaG04
import Derived.Test.YtjhifhoniimfgaaProg
import Derived.Test.YtjhifhoniimfgaaG01
import Derived.MapKept
/-
  container/heap's Remove on the open orders.
-/
namespace Go.Proofs.Ytjhifhoniimfgaa
open Go.RowKit

set_option maxRecDepth 20000 in
set_option maxHeartbeats 1000000 in
theorem hremove_last (w : World) (eb eo ob n : Nat) (v : Value) (l : List Nat) (dat : Nat → Odr) (h : HeapAt w v l dat) (hok : HeapOk (endAt (tillOf dat) l) l.length) (hv : w.cell? ⟨eb, eo, none⟩ = some v) (hz : w.frozen? ⟨eb, eo, none⟩ = false)
    (hev : v.ownBlock ≠ some eb) (hel : eb ∉ l) (hlen : n < 8796093022208) (hl : l.length = n + 1) (hob : l[n]? = some ob) :
    Calls Try.prog 79 #[.iface 169 (.pointer (some ⟨eb, eo, none⟩)), .int .i64 n] w fun e w' => e = .returned (.iface 150 (.pointer (some ⟨ob, 0, none⟩))) ∧ Removed w w' eb eo ob v l dat := by
  have hpop := pop_last (w := w) h (List.Perm.refl l) hl hob (fun k k0 kn => hok k k0 (by omega)) hv hz hev hel hlen rfl (Keep.refl _ w)
  obtain ⟨a, cap, hvv⟩ := h.len
  have hm1 := meth_len eb eo v w hv
  have hm2 := meth_pop ⟨eb, eo, none⟩
  rw [hl] at hvv
  rw [hvv] at hm1
  clear h hok hv hob
  go_enter Try.func79, Try.ntmps79
  go_wp2_with fail
  refine (len_any _ _ _ _).mono ?_
  rintro e w2 ⟨rfl, rfl⟩
  go_wp2_with fail
  refine hpop.mono ?_
  rintro e w3 ⟨rfl, hrm⟩
  go_wp2_with fail
  go_ret
  exact ⟨rfl, hrm⟩

set_option maxRecDepth 20000 in
set_option maxHeartbeats 1000000 in
theorem hremove_mid (w : World) (eb eo ob n i : Nat) (v : Value) (l : List Nat) (dat : Nat → Odr) (h : HeapAt w v l dat) (hok : HeapOk (endAt (tillOf dat) l) l.length) (hv : w.cell? ⟨eb, eo, none⟩ = some v) (hz : w.frozen? ⟨eb, eo, none⟩ = false)
    (hev : v.ownBlock ≠ some eb) (hel : eb ∉ l) (hlen : n < 8796093022208) (hl : l.length = n + 1) (hi : i < n) (hob : l[i]? = some ob) :
    Calls Try.prog 79 #[.iface 169 (.pointer (some ⟨eb, eo, none⟩)), .int .i64 i] w fun e w' => e = .returned (.iface 150 (.pointer (some ⟨ob, 0, none⟩))) ∧ Removed w w' eb eo ob v l dat := by
  obtain ⟨bn, hbn⟩ : ∃ b, l[n]? = some b := ⟨_, List.getElem?_eq_getElem (by omega)⟩
  have l1 := World.block_lt_of_cell? w _ hv
  obtain ⟨a, cap, hvv⟩ := h.len
  have hm1 := meth_len eb eo v w hv
  have hm2 := meth_pop ⟨eb, eo, none⟩
  have hm3 := meth_swap eb eo v w hv
  rw [hl] at hvv
  rw [hvv] at hm1
  have hswap := swap_any w v l dat h i n ob bn hob hbn (by omega)
  have hne : ((n : Int) != (i : Int)) = true := by simp; omega
  have HE : Hid (RemOk (endAt (tillOf dat) (swapL l i n)) n i) := by
    show RemOk _ _ _
    rw [endAt_swap _ _ _ _ (by omega) (by omega)]
    exact rem_start (by rw [hl] at hok; exact hok) hi
  have HP : Hid ((swapL l i n).Perm l) := swapL_perm l i n (by omega) (by omega)
  have HL : Hid ((swapL l i n)[n]? = some ob) := by
    show _ = _
    rw [swapL_get l i n n (by omega) (by omega), if_pos rfl]; exact hob
  have HV : Hid (w.cell? ⟨eb, eo, none⟩ = some v) := hv
  have HC : Hid (∀ w1, Keep (fun b => v.ownBlock ≠ some b ∧ b ∉ l) w w1 → w1.cell? ⟨eb, eo, none⟩ = some v ∧ w1.frozen? ⟨eb, eo, none⟩ = false ∧ w1.heap[eb]? = w.heap[eb]?) := fun w1 k => by
    have hb := k.block eb l1 ⟨hev, hel⟩
    exact ⟨by rw [World.cell?_of_block (w := w) hb]; exact hv, by rw [World.frozen?_of_block (w := w) hb]; exact hz, hb⟩
  clear h hok hv hob hbn
  go_enter Try.func79, Try.ntmps79
  go_wp2_with fail
  refine (len_any _ _ _ _).mono ?_
  rintro e w2 ⟨rfl, rfl⟩
  go_wp2_with fail
  rw [← hvv]
  refine hswap.mono ?_
  rintro e w1 ⟨rfl, h1, k1⟩
  go_wp2_with fail
  obtain ⟨c1, z1, b1⟩ := HC.out w1 k1
  have hmem : ∀ b, b ∈ swapL l i n ↔ b ∈ l := fun b => HP.out.mem_iff
  refine (down_any w1 eb eo n v (swapL l i n) dat h1 c1 ⟨hev, fun q => hel ((hmem eb).1 q)⟩ (by rw [swapL_len]; omega) (by rw [swapL_len]; omega) i hi HE.out).mono ?_
  rintro e w3 ⟨m, rfl, l3, h3, hs3, ht3, hf3, k3⟩
  have k3' : Keep (fun b => v.ownBlock ≠ some b ∧ b ∉ l) w w3 := k1.trans (k3.mono (fun b _ q => ⟨q.1, fun r => q.2 ((hmem b).1 r)⟩))
  obtain ⟨c3, z3, b3⟩ := HC.out w3 k3'
  have hp3 : l3.Perm l := hs3.perm.trans HP.out
  have hl3 : l3.length = n + 1 := by rw [hp3.length_eq]; exact hl
  have hob3 : l3[n]? = some ob := (hs3.rest n (Nat.le_refl _)).trans HL.out
  cases m
  · have hup := up_any w3 eb eo n v l3 dat h3 c3 ⟨hev, fun q => hel (hp3.mem_iff.1 q)⟩ (by omega) (by omega) i hi (hf3 rfl)
    have HK3 : Hid (Keep (fun b => v.ownBlock ≠ some b ∧ b ∉ l) w w3) := k3'
    have HP3 : Hid (l3.Perm l) := hp3
    have HL3 : Hid (l3.length = n + 1) := hl3
    have HO3 : Hid (l3[n]? = some ob) := hob3
    clear h1 k1 c1 z1 b1 h3 hs3 ht3 hf3 k3 k3' c3 z3 b3 hp3 hl3 hob3 hmem
    go_wp2_with fail
    refine hup.mono ?_
    rintro e w4 ⟨rfl, l4, h4, hs4, hok4, k4⟩
    have k4' : Keep (fun b => v.ownBlock ≠ some b ∧ b ∉ l) w w4 := HK3.out.trans (k4.mono (fun b _ q => ⟨q.1, fun r => q.2 (HP3.out.mem_iff.1 r)⟩))
    obtain ⟨c4, z4, b4⟩ := HC.out w4 k4'
    have hpop := pop_last (w := w) h4 (hs4.perm.trans HP3.out) (by rw [hs4.perm.length_eq]; exact HL3.out) ((hs4.rest n (Nat.le_refl _)).trans HO3.out) hok4 c4 z4 hev hel hlen b4 k4'
    clear h4 hs4 hok4 k4 k4' c4 z4 b4
    go_wp2_with fail
    refine hpop.mono ?_
    rintro e w5 ⟨rfl, hrm⟩
    go_wp2_with fail
    go_ret
    exact ⟨rfl, hrm⟩
  · have hpop := pop_last (w := w) h3 hp3 hl3 hob3 (ht3 rfl) c3 z3 hev hel hlen b3 k3'
    clear h1 k1 c1 z1 b1 h3 hs3 ht3 hf3 k3 k3' c3 z3 b3 hp3 hl3 hob3 hmem
    go_wp2_with fail
    refine hpop.mono ?_
    rintro e w5 ⟨rfl, hrm⟩
    go_wp2_with fail
    go_ret
    exact ⟨rfl, hrm⟩

end Go.Proofs.Ytjhifhoniimfgaa

/-
  The map from numbers to open orders: looked up, stored, deleted.
-/
namespace Go.Proofs.Ytjhifhoniimfgaa
open Go.RowKit

theorem map_erase {α β : Type} (f : α → β) : ∀ (l : List α) (j : Nat), (l.eraseIdx j).map f = (l.map f).eraseIdx j
  | [], _ => rfl
  | _ :: _, 0 => rfl
  | a :: l, j + 1 => by rw [List.eraseIdx_cons_succ, List.map_cons, map_erase f l j, List.map_cons, List.eraseIdx_cons_succ]

/-- The entries are these: number, block. -/
def Ents (es : Array MapEntry) (ks : List (Int × Nat)) : Prop := es.toList.map (fun e => (e.key, e.val)) = ks.map (fun p => (Value.int .i64 p.1, Value.pointer (some ⟨p.2, 0, none⟩)))

def MapAt (w : World) (mb : Nat) (ks : List (Int × Nat)) : Prop := ∃ es clock, w.heap[mb]? = some (.map es clock) ∧ Ents es ks

theorem MapAt.keep {S : Nat → Prop} {w w' : World} {mb : Nat} {ks : List (Int × Nat)} (h : MapAt w mb ks) (hk : Keep S w w') (h1 : S mb) : MapAt w' mb ks := by
  obtain ⟨es, clock, a, b⟩ := h
  exact ⟨es, clock, hk.get a h1, b⟩

theorem Ents.get {es : Array MapEntry} {ks : List (Int × Nat)} (h : Ents es ks) (j : Nat) : (es.toList[j]?).map (fun e => (e.key, e.val)) = (ks[j]?).map (fun p => (Value.int .i64 p.1, Value.pointer (some ⟨p.2, 0, none⟩))) := by
  have := congrArg (fun l => l[j]?) h
  simpa using this

theorem Ents.isKey {es : Array MapEntry} {ks : List (Int × Nat)} (h : Ents es ks) : ∀ x ∈ es.toList, MapKept.IsKey (.int .i64) x.key := fun x hx => by
  have : (x.key, x.val) ∈ es.toList.map (fun e => (e.key, e.val)) := List.mem_map.2 ⟨x, hx, rfl⟩
  rw [h] at this
  obtain ⟨p, _, hp⟩ := List.mem_map.1 this
  simp only [Prod.mk.injEq] at hp
  rw [← hp.1]
  simp [MapKept.IsKey]

theorem find_not {es : Array MapEntry} {ks : List (Int × Nat)} (h : Ents es ks) (k : Int) (hk : ∀ p ∈ ks, p.1 ≠ k) : Instr.findNow (.int .i64) (.int .i64 k) es.toList 0 = some none := by
  rcases MapKept.findNow_spec (d := .int .i64) (k := .int .i64 k) (by simp [MapKept.IsKey]) es.toList 0 h.isKey with ⟨h1, _⟩ | ⟨j, e, _, h2, h3⟩
  · exact h1
  · have := h.get j
    rw [h2] at this
    cases hj : ks[j]? with
    | none => rw [hj] at this; cases this
    | some p =>
      rw [hj] at this
      simp only [Option.map_some, Option.some.injEq, Prod.mk.injEq] at this
      rw [h3] at this
      have hp := this.1
      simp only [Value.int.injEq, true_and] at hp
      exact absurd hp.symm (hk p (List.mem_of_getElem? hj))

theorem find_has {es : Array MapEntry} {ks : List (Int × Nat)} (h : Ents es ks) (hn : (ks.map (·.1)).Nodup) {j b : Nat} {k : Int} (hj : ks[j]? = some (k, b)) : Instr.findNow (.int .i64) (.int .i64 k) es.toList 0 = some (some (j, .pointer (some ⟨b, 0, none⟩))) := by
  rcases MapKept.findNow_spec (d := .int .i64) (k := .int .i64 k) (by simp [MapKept.IsKey]) es.toList 0 h.isKey with ⟨_, h1⟩ | ⟨i, e, h1, h2, h3⟩
  · have := h.get j
    rw [hj] at this
    cases he : es.toList[j]? with
    | none => rw [he] at this; cases this
    | some e =>
      rw [he] at this
      simp only [Option.map_some, Option.some.injEq, Prod.mk.injEq] at this
      exact absurd this.1 (h1 e (List.mem_of_getElem? he))
  · have := h.get i
    rw [h2] at this
    cases hi : ks[i]? with
    | none => rw [hi] at this; cases this
    | some p =>
      rw [hi] at this
      simp only [Option.map_some, Option.some.injEq, Prod.mk.injEq] at this
      rw [h3] at this
      have hp := this.1
      simp only [Value.int.injEq, true_and] at hp
      have hij : i = j := by
        have q1 : (ks.map (·.1))[i]? = some k := by simp [hi, hp]
        have q2 : (ks.map (·.1))[j]? = some k := by simp [hj]
        obtain ⟨a1, a2⟩ := List.getElem?_eq_some_iff.1 q1
        obtain ⟨b1, b2⟩ := List.getElem?_eq_some_iff.1 q2
        exact (List.getElem_inj hn).1 (a2.trans b2.symm)
      subst hij
      rw [hi] at hj
      cases hj
      rw [h1, this.2, Nat.zero_add]

theorem check_int (e : Bool) (k : Int) (w : World) : (Instr.checkKey e 10000 3 (.int .i64 k)).run Try.prog w = .ok () w :=
  MapKept.run_checkKey (n := 9999) Try.underlying3 (by simp [MapKept.IsKey]) e

theorem lookup_has {w : World} {mb : Nat} {ks : List (Int × Nat)} (h : MapAt w mb ks) (hn : (ks.map (·.1)).Nodup) {j b : Nat} {k : Int} (hj : ks[j]? = some (k, b)) :
    (Instr.lookup 127 (.map (some mb)) (.int .i64 k) false).run Try.prog w = .ok (.pointer (some ⟨b, 0, none⟩)) w := by
  obtain ⟨es, clock, h1, h2⟩ := h
  have hf := find_has h2 hn hj
  simp [Instr.lookup, run_underlying Try.underlying127, MapKept.run_getObj_map h1, check_int, MapKept.run_findKey Try.underlying3 hf, Result.andThen]

theorem lookup_not {w : World} {mb : Nat} {ks : List (Int × Nat)} (h : MapAt w mb ks) (k : Int) (hk : ∀ p ∈ ks, p.1 ≠ k) :
    (Instr.lookup 127 (.map (some mb)) (.int .i64 k) false).run Try.prog w = .ok (.pointer none) w := by
  obtain ⟨es, clock, h1, h2⟩ := h
  have hf := find_not h2 k hk
  have hz : (zeroValue 150).run Try.prog w = .ok (.pointer none) w := by simp [go_sem]
  simp [Instr.lookup, run_underlying Try.underlying127, MapKept.run_getObj_map h1, check_int, MapKept.run_findKey Try.underlying3 hf, Result.andThen, hz]

/-- The world with another object in a block. -/
def putAt (w : World) (r : Nat) (o : Obj) : World := { w with heap := w.heap.setIfInBounds r o }

theorem putAt_keep (w : World) (r : Nat) (o : Obj) : Keep (fun b => b ≠ r) w (putAt w r o) :=
  ⟨rfl, rfl, rfl, by simp [putAt], fun k _ hk => by simp [putAt, Ne.symm hk]⟩

theorem putAt_get {w : World} {r : Nat} {o o' : Obj} (h : w.heap[r]? = some o) : (putAt w r o').heap[r]? = some o' := by
  have := block_lt h
  simp [putAt, this]

theorem update_new {w : World} {mb : Nat} {ks : List (Int × Nat)} (h : MapAt w mb ks) (k : Int) (b : Nat) (hk : ∀ p ∈ ks, p.1 ≠ k) :
    ∃ o, (∀ q, (Instr.mapUpdate 127 (.map (some mb)) (.int .i64 k) (.pointer (some ⟨b, 0, none⟩))).run Try.prog (w.drewN q) = .ok () (putAt (w.drewN q) mb o)) ∧ ∀ q, MapAt (putAt (w.drewN q) mb o) mb (ks ++ [(k, b)]) := by
  obtain ⟨es, clock, h1, h2⟩ := h
  have hf := find_not h2 k hk
  refine ⟨.map (es.push { key := .int .i64 k, val := .pointer (some ⟨b, 0, none⟩), born := clock }) (clock + 1), fun q => ?_, fun q => ⟨_, _, putAt_get (w := w.drewN q) h1, ?_⟩⟩
  · have h1q : (w.drewN q).heap[mb]? = some (.map es clock) := h1
    simp [Instr.mapUpdate, run_underlying Try.underlying127, MapKept.run_getObj_map h1q, check_int, MapKept.run_findKey Try.underlying3 hf, MapKept.run_setObj_map _ h1q, Result.andThen, putAt]
  · unfold Ents at h2 ⊢
    simp [h2]

theorem delete_has {w : World} {mb : Nat} {ks : List (Int × Nat)} (h : MapAt w mb ks) (hn : (ks.map (·.1)).Nodup) {j b : Nat} {k : Int} (hj : ks[j]? = some (k, b)) :
    ∃ o, (∀ q ty, (Builtin.delete_ #[127, 3] ty #[.map (some mb), .int .i64 k]).run Try.prog (w.drewN q) = .ok (.tuple #[]) (putAt (w.drewN q) mb o)) ∧ ∀ q, MapAt (putAt (w.drewN q) mb o) mb (ks.eraseIdx j) := by
  obtain ⟨es, clock, h1, h2⟩ := h
  have hf := find_has h2 hn hj
  refine ⟨.map (es.eraseIdxIfInBounds j) clock, fun q ty => ?_, fun q => ⟨_, _, putAt_get (w := w.drewN q) h1, ?_⟩⟩
  · have h1q : (w.drewN q).heap[mb]? = some (.map es clock) := h1
    simp [Builtin.delete_, run_underlying Try.underlying127, MapKept.run_getObj_map h1q, check_int, MapKept.run_findKey Try.underlying3 hf, MapKept.run_setObj_map _ h1q, Result.andThen, putAt]
  · unfold Ents at h2 ⊢
    have hl : j < es.size := by
      have := congrArg List.length h2
      simp at this
      have := (List.getElem?_eq_some_iff.1 hj).1
      omega
    rw [Array.eraseIdxIfInBounds, dif_pos hl, Array.toList_eraseIdx, map_erase, h2, map_erase]

end Go.Proofs.Ytjhifhoniimfgaa

/-
  The open orders of an account: heap, map and sums together. has, add, remove.
-/
namespace Go.Proofs.Ytjhifhoniimfgaa
open Go.RowKit

def tot (f : Nat → Int) : List Nat → Int
  | [] => 0
  | b :: r => f b + tot f r

theorem tot_append (f : Nat → Int) : ∀ l r, tot f (l ++ r) = tot f l + tot f r
  | [], r => by simp [tot]
  | b :: l, r => by simp [tot, tot_append f l r, Int.add_assoc]

theorem tot_perm (f : Nat → Int) {l r : List Nat} (h : l.Perm r) : tot f l = tot f r := by
  induction h with
  | nil => rfl
  | cons x _ ih => simp [tot, ih]
  | swap x y l => simp only [tot]; omega
  | trans _ _ ih1 ih2 => rw [ih1, ih2]

theorem tot_congr (f g : Nat → Int) : ∀ l, (∀ b, b ∈ l → f b = g b) → tot f l = tot g l
  | [], _ => rfl
  | b :: l, h => by simp only [tot]; rw [h b (.head _), tot_congr f g l (fun c hc => h c (.tail _ hc))]

theorem tot_nonneg (f : Nat → Int) : ∀ l, (∀ b, b ∈ l → 0 ≤ f b) → 0 ≤ tot f l
  | [], _ => by simp [tot]
  | b :: l, h => by
    have h1 := h b (.head _)
    have h2 := tot_nonneg f l (fun c hc => h c (.tail _ hc))
    simp only [tot]; omega

def qtyF (dat : Nat → Odr) (s : Int) : Nat → Int := fun b => if (dat b).side = s then (dat b).qty else 0
def worthF (dat : Nat → Odr) : Nat → Int := fun b => (dat b).worth

/-- The open orders at ⟨ab, 7⟩: the heap's row v, the map at mb, the sums. -/
structure OrdsAt (w : World) (ab : Nat) (v : Value) (mb : Nat) (l : List Nat) (dat : Nat → Odr) : Prop where
  cells : ∃ cs, w.heap[ab]? = some (.cells cs 135 (0, 0)) ∧ cs.size = 13 ∧ cs[7]? = some v ∧ cs[8]? = some (.map (some mb)) ∧ cs[9]? = some (.int .i64 (tot (qtyF dat 0) l)) ∧ cs[10]? = some (.int .i64 (tot (qtyF dat 1) l)) ∧ cs[11]? = some (.int .i64 (tot (worthF dat) l))
  heap : HeapAt w v l dat
  ok : HeapOk (endAt (tillOf dat) l) l.length
  map : ∃ ks, MapAt w mb ks ∧ (ks.map (·.1)).Nodup ∧ (ks.map (·.2)).Perm l ∧ ∀ p, p ∈ ks → (dat p.2).num = p.1
  vab : v.ownBlock ≠ some ab
  vmb : v.ownBlock ≠ some mb
  abl : ab ∉ l
  mbl : mb ∉ l
  abm : ab ≠ mb

theorem OrdsAt.keep {S : Nat → Prop} {w w' : World} {ab : Nat} {v : Value} {mb : Nat} {l : List Nat} {dat : Nat → Odr} (h : OrdsAt w ab v mb l dat) (hk : Keep S w w') (h1 : S ab) (h2 : S mb) (h3 : ∀ b, v.ownBlock = some b → S b) (h4 : ∀ b, b ∈ l → S b) : OrdsAt w' ab v mb l dat := by
  obtain ⟨cs, a, b⟩ := h.cells
  obtain ⟨ks, c, d⟩ := h.map
  exact { h with cells := ⟨cs, hk.get a h1, b⟩, heap := h.heap.keep hk h3 h4, map := ⟨ks, c.keep hk h2, d⟩ }

/-- Has it an open order with this number? -/
def hasN (dat : Nat → Odr) (l : List Nat) (k : Int) : Bool := l.any (fun b => (dat b).num == k)

theorem hasN_true {dat : Nat → Odr} {l : List Nat} {k : Int} (h : hasN dat l k = true) : ∃ b, b ∈ l ∧ (dat b).num = k := by
  simp [hasN] at h
  exact h

theorem hasN_false {dat : Nat → Odr} {l : List Nat} {k : Int} (h : hasN dat l k = false) : ∀ b, b ∈ l → (dat b).num ≠ k := by
  simp [hasN] at h
  exact h

theorem key_of {ks : List (Int × Nat)} {l : List Nat} {dat : Nat → Odr} (hp : (ks.map (·.2)).Perm l) (hd : ∀ p, p ∈ ks → (dat p.2).num = p.1) {b : Nat} (hb : b ∈ l) : ∃ j : Nat, ks[j]? = some ((dat b).num, b) := by
  have h1 : b ∈ ks.map (·.2) := hp.mem_iff.2 hb
  obtain ⟨p, hp1, hp2⟩ := List.mem_map.1 h1
  have h2 := hd p hp1
  obtain ⟨j, hj⟩ := List.getElem?_of_mem hp1
  refine ⟨j, ?_⟩
  rw [hj]
  obtain ⟨x, y⟩ := p
  simp at hp2 h2
  rw [← hp2, h2]

theorem nokey_of {ks : List (Int × Nat)} {l : List Nat} {dat : Nat → Odr} (hp : (ks.map (·.2)).Perm l) (hd : ∀ p, p ∈ ks → (dat p.2).num = p.1) {k : Int} (hn : hasN dat l k = false) : ∀ p, p ∈ ks → p.1 ≠ k := fun p hpk e => by
  have h1 : p.2 ∈ l := hp.mem_iff.1 (List.mem_map.2 ⟨p, hpk, rfl⟩)
  exact hasN_false hn p.2 h1 ((hd p hpk).trans e)

set_option maxHeartbeats 1000000 in
theorem has_any (w : World) (ab : Nat) (v : Value) (mb : Nat) (l : List Nat) (dat : Nat → Odr) (h : OrdsAt w ab v mb l dat) (k : Int) :
    Calls Try.prog 87 #[.pointer (some ⟨ab, 7, none⟩), .int .i64 k] w fun e w' => e = .returned (.bool (hasN dat l k)) ∧ w = w' := by
  obtain ⟨cs, h1, h2, h3, h4, h5⟩ := h.cells
  obtain ⟨ks, m1, m2, m3, m4⟩ := h.map
  have c8 := cellAt h1 h4
  cases hn : hasN dat l k
  · have hl := lookup_not m1 k (nokey_of m3 m4 hn)
    clear h h1 h2 h3 h4 h5 m1 m2 m3 m4 hn
    go_enter Try.func87, Try.ntmps87
    go_wp2
    go_ret
    exact ⟨rfl, rfl⟩
  · obtain ⟨b, hb, rfl⟩ := hasN_true hn
    obtain ⟨j, hj⟩ := key_of m3 m4 hb
    have hl := lookup_has m1 m2 hj
    clear h h1 h2 h3 h4 h5 m1 m2 m3 m4 hn hj
    generalize (dat b).num = k at *
    go_enter Try.func87, Try.ntmps87
    go_wp2
    go_ret
    exact ⟨rfl, rfl⟩

end Go.Proofs.Ytjhifhoniimfgaa

/-
  The open orders of an account: add.
-/
namespace Go.Proofs.Ytjhifhoniimfgaa
open Go.RowKit

theorem nodup_snoc_key {ks : List (Int × Nat)} {k : Int} {b : Nat} (h : (ks.map (·.1)).Nodup) (hk : ∀ p, p ∈ ks → p.1 ≠ k) : ((ks ++ [(k, b)]).map (·.1)).Nodup := by
  rw [List.map_append, List.nodup_append]
  refine ⟨h, by simp, fun a ha c hc e => ?_⟩
  simp at hc
  obtain ⟨p, hp1, hp2⟩ := List.mem_map.1 ha
  exact hk p hp1 (by rw [hp2, e, hc])

theorem tot_snoc (f : Nat → Int) {l l1 : List Nat} {ob : Nat} (h : l1.Perm (l ++ [ob])) : tot f l1 = tot f l + f ob := by
  rw [tot_perm f h, tot_append]; simp [tot]

/-- The sums are stored: all holds of the new list. -/
theorem ords_added {w1 V : World} {ab ob mb s : Nat} {v1 : Value} {l l1 : List Nat} {dat : Nat → Odr} {cs : Array Value} {ks : List (Int × Nat)} (q1 q2 : Nat) (hv : V.heap[ab]? = some (.cells (cs.setIfInBounds 7 v1) 135 (0, 0))) (hsz : cs.size = 13)
    (h8 : cs[8]? = some (.map (some mb))) (h9 : cs[9]? = some (.int .i64 (tot (qtyF dat 0) l))) (h10 : cs[10]? = some (.int .i64 (tot (qtyF dat 1) l))) (hs : s < 2) (hside : (dat ob).side = s)
    (kV : Keep (fun b => b ≠ mb) w1 V) (hp : l1.Perm (l ++ [ob])) (hh : HeapAt w1 v1 l1 dat) (hok : HeapOk (endAt (tillOf dat) l1) l1.length)
    (mV : MapAt V mb (ks ++ [((dat ob).num, ob)])) (hn : (ks.map (·.1)).Nodup) (hkp : (ks.map (·.2)).Perm l) (hkd : ∀ p, p ∈ ks → (dat p.2).num = p.1) (hkn : ∀ p, p ∈ ks → p.1 ≠ (dat ob).num)
    (hva : v1.ownBlock ≠ some ab) (hvm : v1.ownBlock ≠ some mb) (hal : ab ∉ l1) (hml : mb ∉ l1) (ham : ab ≠ mb) :
    OrdsAt (((V.drewN q1).setCell ⟨ab, 9 + s, none⟩ (.int .i64 (tot (qtyF dat s) l + (dat ob).qty))).setCell ⟨ab, 11, none⟩ (.int .i64 (tot (worthF dat) l + (dat ob).worth)) |>.drewN q2) ab v1 mb l1 dat ∧
    (∃ cs', (((V.drewN q1).setCell ⟨ab, 9 + s, none⟩ (.int .i64 (tot (qtyF dat s) l + (dat ob).qty))).setCell ⟨ab, 11, none⟩ (.int .i64 (tot (worthF dat) l + (dat ob).worth)) |>.drewN q2).heap[ab]? = some (.cells cs' 135 (0, 0)) ∧ (∀ i, i < 7 ∨ 11 < i → cs'[i]? = cs[i]?)) ∧
    Keep (fun b => b ≠ mb ∧ b ≠ ab) w1 (((V.drewN q1).setCell ⟨ab, 9 + s, none⟩ (.int .i64 (tot (qtyF dat s) l + (dat ob).qty))).setCell ⟨ab, 11, none⟩ (.int .i64 (tot (worthF dat) l + (dat ob).worth)) |>.drewN q2) := by
  have hcell : (((V.drewN q1).setCell ⟨ab, 9 + s, none⟩ (.int .i64 (tot (qtyF dat s) l + (dat ob).qty))).setCell ⟨ab, 11, none⟩ (.int .i64 (tot (worthF dat) l + (dat ob).worth)) |>.drewN q2).heap[ab]? = some (.cells (((cs.setIfInBounds 7 v1).setIfInBounds (9 + s) (.int .i64 (tot (qtyF dat s) l + (dat ob).qty))).setIfInBounds 11 (.int .i64 (tot (worthF dat) l + (dat ob).worth))) 135 (0, 0)) :=
    heap_setCell_at _ (heap_setCell_at _ hv)
  have kF : Keep (fun b => b ≠ ab) V (((V.drewN q1).setCell ⟨ab, 9 + s, none⟩ (.int .i64 (tot (qtyF dat s) l + (dat ob).qty))).setCell ⟨ab, 11, none⟩ (.int .i64 (tot (worthF dat) l + (dat ob).worth)) |>.drewN q2) :=
    ((((Keep.refl _ V).drewN q1).setCell _ (fun _ q => q rfl) _).setCell _ (fun _ q => q rfl) _).drewN q2
  have kA : Keep (fun b => b ≠ mb ∧ b ≠ ab) w1 (((V.drewN q1).setCell ⟨ab, 9 + s, none⟩ (.int .i64 (tot (qtyF dat s) l + (dat ob).qty))).setCell ⟨ab, 11, none⟩ (.int .i64 (tot (worthF dat) l + (dat ob).worth)) |>.drewN q2) :=
    (kV.mono (T := fun b => b ≠ mb ∧ b ≠ ab) (fun _ _ q => q.1)).trans' kF (fun _ _ q => q.2)
  have hsum : ∀ x : Int, tot (qtyF dat x) l1 = tot (qtyF dat x) l + (if (dat ob).side = x then (dat ob).qty else 0) := fun x => tot_snoc _ hp
  refine ⟨⟨⟨_, hcell, by simpa using hsz, ?_, ?_, ?_, ?_, ?_⟩, ?_, hok, ⟨ks ++ [((dat ob).num, ob)], mV.keep kF (Ne.symm ham), nodup_snoc_key hn hkn, ?_, ?_⟩, hva, hvm, hal, hml, ham⟩, ⟨_, hcell, fun i hi => ?_⟩, kA⟩
  · rw [Array.getElem?_setIfInBounds, if_neg (by omega), Array.getElem?_setIfInBounds, if_neg (by omega), Array.getElem?_setIfInBounds, if_pos rfl, if_pos (by omega)]
  · rw [Array.getElem?_setIfInBounds, if_neg (by omega), Array.getElem?_setIfInBounds, if_neg (by omega), Array.getElem?_setIfInBounds, if_neg (by omega)]; exact h8
  · rw [hsum, hside, Array.getElem?_setIfInBounds, if_neg (by omega), Array.getElem?_setIfInBounds]
    by_cases e : s = 0
    · subst e
      rw [if_pos rfl, if_pos (by simp; omega)]
      simp
    · rw [if_neg (by omega), Array.getElem?_setIfInBounds, if_neg (by omega), h9, if_neg (by omega), Int.add_zero]
  · rw [hsum, hside, Array.getElem?_setIfInBounds, if_neg (by omega), Array.getElem?_setIfInBounds]
    by_cases e : s = 1
    · subst e
      rw [if_pos rfl, if_pos (by simp; omega)]
      simp
    · rw [if_neg (by omega), Array.getElem?_setIfInBounds, if_neg (by omega), h10, if_neg (by omega), Int.add_zero]
  · rw [tot_snoc _ hp, Array.getElem?_setIfInBounds, if_pos rfl, if_pos (by simp; omega)]
    rfl
  · refine hh.keep kA (fun b e => ⟨fun q => hvm (q ▸ e), fun q => hva (q ▸ e)⟩) (fun b e => ⟨fun q => hml (q ▸ e), fun q => hal (q ▸ e)⟩)
  · rw [List.map_append]
    exact (hkp.append_right _).trans hp.symm
  · intro p hpm
    rcases List.mem_append.1 hpm with q | q
    · exact hkd p q
    · simp at q; subst q; rfl
  · rw [Array.getElem?_setIfInBounds, if_neg (by omega), Array.getElem?_setIfInBounds, if_neg (by omega), Array.getElem?_setIfInBounds, if_neg (by omega)]

set_option maxRecDepth 20000 in
set_option maxHeartbeats 2000000 in
theorem add_any (w : World) (ab ob : Nat) (v : Value) (mb : Nat) (l : List Nat) (dat : Nat → Odr) (k0 : Nat) (h : OrdsAt w ab v mb l dat) (ho : OrdAt w ob (dat ob) k0) (hs : (dat ob).side = 0 ∨ (dat ob).side = 1)
    (hol : ob ∉ l) (hoa : ob ≠ ab) (hom : ob ≠ mb) (hov : v.ownBlock ≠ some ob) (hn : hasN dat l (dat ob).num = false) (hlen : l.length < 8796093022208)
    (hq : 0 ≤ tot (qtyF dat (dat ob).side) l + (dat ob).qty ∧ tot (qtyF dat (dat ob).side) l + (dat ob).qty ≤ 9223372036854775807) (hw : 0 ≤ tot (worthF dat) l + (dat ob).worth ∧ tot (worthF dat) l + (dat ob).worth ≤ 9223372036854775807) :
    Calls Try.prog 85 #[.pointer (some ⟨ab, 7, none⟩), .pointer (some ⟨ob, 0, none⟩)] w fun e w' => e = .returned (.tuple #[]) ∧
      ∃ v' l', OrdsAt w' ab v' mb l' dat ∧ l'.Perm (l ++ [ob]) ∧ (v'.ownBlock = v.ownBlock ∨ ∃ b, v'.ownBlock = some b ∧ w.heap.size ≤ b) ∧
        (∀ cs, w.heap[ab]? = some (.cells cs 135 (0, 0)) → ∃ cs', w'.heap[ab]? = some (.cells cs' 135 (0, 0)) ∧ (∀ i, i < 7 ∨ 11 < i → cs'[i]? = cs[i]?)) ∧
        Keep (fun b => b ≠ ab ∧ b ≠ mb ∧ b ≠ ob ∧ v.ownBlock ≠ some b ∧ b ∉ l) w w' := by
  obtain ⟨cs, h1, h2, h3, h4, h5, h6, h7⟩ := h.cells
  obtain ⟨ks, m1, m2, m3, m4⟩ := h.map
  have hpush := hpush_any w ab 7 ob v l dat k0 h.heap h.ok (cellAt h1 h3) (frozenAt h1) ho hol hoa hov h.vab h.abl hlen
  have hlt := block_lt h1
  have hltm : mb < w.heap.size := by obtain ⟨es, clock, q, _⟩ := m1; exact block_lt q
  have hlto := block_lt ho
  have abm := h.abm
  have HH : Hid (OrdsAt w ab v mb l dat) := h
  clear h ho
  go_enter Try.func85, Try.ntmps85
  go_wp2_with fail
  refine hpush.mono ?_
  rintro e w1 ⟨rfl, v1, l1, c7, hh1, hp1, hok1, hvb, hset, k1⟩
  have hcs := hset cs _ _ h1
  have hmem : ob ∈ l1 := hp1.mem_iff.2 (by simp)
  obtain ⟨k, hk⟩ := List.getElem?_of_mem hmem
  have ho1 := hh1.ords k ob hk
  have mm1 : MapAt w1 mb ks := m1.keep k1 ⟨Ne.symm abm, Ne.symm hom, HH.out.vmb, HH.out.mbl⟩
  obtain ⟨o2, r2, mm2⟩ := update_new mm1 (dat ob).num ob (nokey_of m3 m4 hn)
  have a8 : w1.cell? ⟨ab, 8, none⟩ = some (.map (some mb)) := cellAt hcs (by rw [Array.getElem?_setIfInBounds, if_neg (by omega)]; exact h4)
  have b0 := cellAt (i := 0) ho1 rfl
  have r2' : (Instr.mapUpdate 127 (.map (some mb)) (.int .i64 (dat ob).num) (.pointer (some ⟨ob, 0, none⟩))).run Try.prog w1.drew = .ok () (putAt w1.drew mb o2) := r2 1
  have HCS : Hid (w1.heap[ab]? = some (.cells (cs.setIfInBounds 7 v1) 135 (0, 0))) := hcs
  have HO1 : Hid (OrdAt w1 ob (dat ob) k) := ho1
  have HM2 : Hid (∀ q, MapAt (putAt (w1.drewN q) mb o2) mb (ks ++ [((dat ob).num, ob)])) := mm2
  have HK1 : Hid (Keep (fun b => b ≠ ab ∧ b ≠ ob ∧ v.ownBlock ≠ some b ∧ b ∉ l) w w1) := k1
  have HH1 : Hid (HeapAt w1 v1 l1 dat) := hh1
  have HP1 : Hid (l1.Perm (l ++ [ob])) := hp1
  have HOK1 : Hid (HeapOk (endAt (tillOf dat) l1) l1.length) := hok1
  have HVB : Hid (v1.ownBlock = v.ownBlock ∨ ∃ b, v1.ownBlock = some b ∧ w.heap.size ≤ b) := hvb
  clear hset hcs ho1 mm2 k1 hh1 hp1 hok1 hvb mm1 hk hmem c7
  go_wp2_with fail
  go_region
  obtain ⟨V, hV⟩ : ∃ V, V = putAt w1.drew mb o2 := ⟨_, rfl⟩
  have kV : Keep (fun b => b ≠ mb) w1 V := by rw [hV]; exact ((Keep.refl (fun b => b ≠ mb) w1).drew).trans (putAt_keep _ _ _)
  have MV : Hid (MapAt V mb (ks ++ [((dat ob).num, ob)])) := by show MapAt _ _ _; rw [hV]; exact HM2.out 1
  rw [← hV]
  have CV : Hid (V.heap[ab]? = some (.cells (cs.setIfInBounds 7 v1) 135 (0, 0))) := kV.get HCS.out abm
  have OV : Hid (OrdAt V ob (dat ob) k) := kV.get HO1.out hom
  have g9 : V.cell? ⟨ab, 9, none⟩ = some (.int .i64 (tot (qtyF dat 0) l)) := cellAt CV.out (by rw [Array.getElem?_setIfInBounds, if_neg (by omega)]; exact h5)
  have g10 : V.cell? ⟨ab, 10, none⟩ = some (.int .i64 (tot (qtyF dat 1) l)) := cellAt CV.out (by rw [Array.getElem?_setIfInBounds, if_neg (by omega)]; exact h6)
  have g11 : V.cell? ⟨ab, 11, none⟩ = some (.int .i64 (tot (worthF dat) l)) := cellAt CV.out (by rw [Array.getElem?_setIfInBounds, if_neg (by omega)]; exact h7)
  have f9 : V.frozen? ⟨ab, 9, none⟩ = false := frozenAt CV.out
  have f10 : V.frozen? ⟨ab, 10, none⟩ = false := frozenAt CV.out
  have f11 : V.frozen? ⟨ab, 11, none⟩ = false := frozenAt CV.out
  have o1 : V.cell? ⟨ob, 1, none⟩ = some (.int .i64 (dat ob).side) := cellAt (i := 1) OV.out rfl
  have o2' : V.cell? ⟨ob, 2, none⟩ = some (.int .i64 (dat ob).qty) := cellAt (i := 2) OV.out rfl
  have o3 : V.cell? ⟨ob, 3, none⟩ = some (.int .i64 (dat ob).worth) := cellAt (i := 3) OV.out rfl
  have hoa2 := Ne.symm hoa
  have KV : Hid (Keep (fun b => b ≠ mb) w1 V) := kV
  have HVA : Hid (v1.ownBlock ≠ some ab ∧ v1.ownBlock ≠ some mb) := by
    rcases HVB.out with r | ⟨c, r, hc⟩
    · rw [r]; exact ⟨HH.out.vab, HH.out.vmb⟩
    · rw [r]; exact ⟨fun e => by cases e; omega, fun e => by cases e; omega⟩
  have HAL : Hid (ab ∉ l1 ∧ mb ∉ l1) := by
    refine ⟨fun q => ?_, fun q => ?_⟩
    · rcases List.mem_append.1 (HP1.out.mem_iff.1 q) with r | r
      · exact HH.out.abl r
      · simp at r; exact hoa r.symm
    · rcases List.mem_append.1 (HP1.out.mem_iff.1 q) with r | r
      · exact HH.out.mbl r
      · simp at r; exact hom r.symm
  have HFIN : Hid (∀ s : Nat, s < 2 → (dat ob).side = s → ∀ q1 q2, ∃ v' l', OrdsAt (((V.drewN q1).setCell ⟨ab, 9 + s, none⟩ (.int .i64 (tot (qtyF dat s) l + (dat ob).qty))).setCell ⟨ab, 11, none⟩ (.int .i64 (tot (worthF dat) l + (dat ob).worth)) |>.drewN q2) ab v' mb l' dat ∧ l'.Perm (l ++ [ob]) ∧ (v'.ownBlock = v.ownBlock ∨ ∃ b, v'.ownBlock = some b ∧ w.heap.size ≤ b) ∧
        (∀ cs, w.heap[ab]? = some (.cells cs 135 (0, 0)) → ∃ cs', (((V.drewN q1).setCell ⟨ab, 9 + s, none⟩ (.int .i64 (tot (qtyF dat s) l + (dat ob).qty))).setCell ⟨ab, 11, none⟩ (.int .i64 (tot (worthF dat) l + (dat ob).worth)) |>.drewN q2).heap[ab]? = some (.cells cs' 135 (0, 0)) ∧ (∀ i, i < 7 ∨ 11 < i → cs'[i]? = cs[i]?)) ∧
        Keep (fun b => b ≠ ab ∧ b ≠ mb ∧ b ≠ ob ∧ v.ownBlock ≠ some b ∧ b ∉ l) w (((V.drewN q1).setCell ⟨ab, 9 + s, none⟩ (.int .i64 (tot (qtyF dat s) l + (dat ob).qty))).setCell ⟨ab, 11, none⟩ (.int .i64 (tot (worthF dat) l + (dat ob).worth)) |>.drewN q2)) := by
    intro s hs2 hside q1 q2
    obtain ⟨p1, p2, p3⟩ := ords_added q1 q2 CV.out h2 h4 h5 h6 hs2 hside kV HP1.out HH1.out HOK1.out MV.out m2 m3 m4 (nokey_of m3 m4 hn) HVA.out.1 HVA.out.2 HAL.out.1 HAL.out.2 abm
    refine ⟨v1, l1, p1, HP1.out, HVB.out, fun cs2 hc2 => ?_, ?_⟩
    · rw [h1] at hc2; cases hc2; exact p2
    · exact (HK1.out.mono (T := fun b => b ≠ ab ∧ b ≠ mb ∧ b ≠ ob ∧ v.ownBlock ≠ some b ∧ b ∉ l) (fun b _ q => ⟨q.1, q.2.2.1, q.2.2.2⟩)).trans' p3 (fun b _ q => ⟨q.2.1, q.1⟩)
  clear hV kV HM2 r2 r2' h1 h2 h3 h4 h5 h6 h7 m1 m2 m3 m4 hn a8 b0
  rcases hs with hs | hs
  · have HF : Hid _ := HFIN.out 0 (by omega) hs
    rw [hs] at o1 hq
    clear HFIN
    go_wp2_with fail
    go_region
    go_wp2_with fail
    go_region
    go_wp2_with fail
    go_end0
    exact ⟨rfl, HF.out 0 2⟩
  · have HF : Hid _ := HFIN.out 1 (by omega) hs
    rw [hs] at o1 hq
    clear HFIN
    go_wp2_with fail
    go_region
    go_wp2_with fail
    go_region
    go_wp2_with fail
    go_end0
    exact ⟨rfl, HF.out 0 2⟩

end Go.Proofs.Ytjhifhoniimfgaa

